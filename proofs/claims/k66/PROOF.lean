import PyProof.Rows.All
import Wide.All
import OpenK.AllK
import Wide.FinOn
import Lean
import PyProof.EqAt
import PyProof.EqKinds
import PyProof.TupleCall
import KE.KRevIter
import PyProof.ListRange
import PyProof.TupleOfGen
import PyProof.Draws
import PyProof.EnumMake
import PyProof.EnumFor
import PyProof.NeKinds
import KE.KDictList
import PyProof.Rows.TupDisplay
import PyProof.ZipIter
import PyProof.Rows.ZipGen
import KE.KItemsList
import PyProof.Rows.SumAny
import PyProof.StrWalks
import PyProof.StrCalls
import PyProof.StrCalls3
import PyProof.StrLawsFirst
import PyProof.StrLawsIn
import PyProof.SliceStr2
import PyProof.StrBlockI
import PyProof.Rows.StrWeight2
import PyProof.ListNew
import PyProof.DictRoadsH
import PyProof.WalkInts
import PyProof.Rows.MinMaxN
import KE.KDictLaws
import PyProof.StrCalls2
import PyProof.StrLawsChain
import KE.KIntText
import KE.KxText
import KE.KMinKey
import KE.KPairComp
import PyProof.MaxThree
import PySem.Challenge.RW_guessroom_k66_less_times_back
set_option Elab.async false
set_option linter.all false
set_option maxRecDepth 100000
namespace L2
open PySem PySem.Spec PyProof.Rows
abbrev Key := Sum Int Str
def keyIs : Key -> Value -> Bool
  | .inl k, v => Value.isInt k v
  | .inr x, v => Value.isStrOf x v
def keyH (w : World) : Key -> Int
  | .inl k => hashInt k
  | .inr x => hashStr w x
theorem keyIs_shape : ∀ {k : Key} {v : Value}, keyIs k v = true -> (∃ i t, k = Sum.inl i /\ v = Value.int i t) \/ (∃ x t, k = Sum.inr x /\ v = Value.str x t)
  | .inl i, v, h => by
    obtain ⟨t, e⟩ := Value.isInt_shape (k := i) (v := v) h
    exact .inl ⟨i, t, rfl, e⟩
  | .inr x, v, h => by
    obtain ⟨t, e⟩ := Value.isStrOf_shape (x := x) (v := v) h
    exact .inr ⟨x, t, rfl, e⟩
theorem key_ll (a b : Int) : decide ((Sum.inl a : Key) = Sum.inl b) = (a == b) := by
  by_cases e : a = b
  . subst e; simp
  . have h : ¬ (Sum.inl a : Key) = Sum.inl b := fun q => e (Sum.inl.inj q)
    rw [decide_eq_false h]
    exact (beq_eq_false_iff_ne.mpr e).symm
theorem key_rr (a b : Str) : decide ((Sum.inr a : Key) = Sum.inr b) = decide (a = b) := by
  by_cases e : a = b
  . subst e; simp
  . have h : ¬ (Sum.inr a : Key) = Sum.inr b := fun q => e (Sum.inr.inj q)
    rw [decide_eq_false h, decide_eq_false e]
theorem key_lr (a : Int) (b : Str) : decide ((Sum.inl a : Key) = Sum.inr b) = false := decide_eq_false (fun q => nomatch q)
theorem key_rl (a : Str) (b : Int) : decide ((Sum.inr a : Key) = Sum.inl b) = false := decide_eq_false (fun q => nomatch q)
def mixKind (prog : Program) (w : World) : PySem.KeyKind prog w Key where
  is := keyIs
  hash := keyH w
  inj := fun v a b ha hb => by
    rcases keyIs_shape ha with ⟨i, t, rfl, rfl⟩ | ⟨x, t, rfl, rfl⟩
    . rcases keyIs_shape hb with ⟨j, u, rfl, e⟩ | ⟨y, u, rfl, e⟩
      . injection e with e1 _; rw [e1]
      . exact nomatch e
    . rcases keyIs_shape hb with ⟨j, u, rfl, e⟩ | ⟨y, u, rfl, e⟩
      . exact nomatch e
      . injection e with e1 _; rw [e1]
  byValue := fun k v h => by
    rcases keyIs_shape h with ⟨i, t, rfl, rfl⟩ | ⟨x, t, rfl, rfl⟩ <;> rfl
  pyHash := fun hv h => by
    rcases keyIs_shape hv with ⟨i, t, rfl, rfl⟩ | ⟨x, t, rfl, rfl⟩
    . exact wpAny_pyHash_int h
    . exact wpAny_pyHash_str h
  eqBool := fun hu hv h => by
    rcases keyIs_shape hu with ⟨i, t, rfl, rfl⟩ | ⟨x, t, rfl, rfl⟩
    . rcases keyIs_shape hv with ⟨j, u, rfl, rfl⟩ | ⟨y, u, rfl, rfl⟩
      . rw [key_ll] at h; exact wpAny_eqBool_int h
      . rw [key_lr] at h; exact SeqAt.EqAt.int_str i t y u _ _ _ _ h
    . rcases keyIs_shape hv with ⟨j, u, rfl, rfl⟩ | ⟨y, u, rfl, rfl⟩
      . rw [key_rl] at h; exact SeqAt.EqAt.str_int x t j u _ _ _ _ h
      . rw [key_rr] at h; exact wpAny_eqBool_str h
  «strs» := fun k x t v h => by
    rcases keyIs_shape h with ⟨i, u, rfl, e⟩ | ⟨y, u, rfl, e⟩
    . exact nomatch e
    . injection e with e1 _
      subst e1
      cases v <;> rfl
end L2
namespace L2
open PySem PySem.Spec PyProof.Rows
inductive V where
  | non | bl (b : Bool) | int (i : Int) | str (x : Str) | byt (b : Array UInt8) | flt (b : UInt64) | ref (a : Addr) | ty (n : String)
  deriving DecidableEq
def RelV : V -> Value -> Prop
  | .non, u => u = Value.none
  | .bl b, u => u = Value.bool b
  | .int i, u => ∃ t, u = Value.int i t
  | .str x, u => ∃ t, u = Value.str x t
  | .byt b, u => ∃ t, u = Value.bytes b t
  | .flt b, u => ∃ t, u = Value.float b t
  | .ref a, u => u = Value.ref a
  | .ty n, u => u = Value.type n
abbrev Vals : List V -> List Value -> Prop := Paired RelV
theorem Vals.length {xs : List V} {us : List Value} (r : Vals xs us) : xs.length = us.length := Paired.length r
theorem Vals.get : ∀ {xs : List V} {us : List Value} {i : Nat} {x : V}, Vals xs us -> xs[i]? = some x -> ∃ u, us[i]? = some u /\ RelV x u
  | _, _, _, _, .nil, e => by simp at e
  | _, _, 0, _, .cons r _, e => by simp at e; subst e; exact ⟨_, rfl, r⟩
  | _, _, i + 1, x, .cons _ t, e => by
    obtain ⟨u, h1, h2⟩ := Vals.get (i := i) (x := x) t (by simpa using e)
    exact ⟨u, by simpa using h1, h2⟩
theorem Vals.append : ∀ {xs ys : List V} {us ws : List Value}, Vals xs us -> Vals ys ws -> Vals (xs ++ ys) (us ++ ws)
  | _, _, _, _, .nil, s => s
  | _, _, _, _, .cons r t, s => .cons r (Vals.append t s)
theorem Vals.take : ∀ {xs : List V} {us : List Value} (n : Nat), Vals xs us -> Vals (xs.take n) (us.take n)
  | _, _, 0, _ => .nil
  | _, _, _ + 1, .nil => .nil
  | _, _, n + 1, .cons r t => .cons r (Vals.take n t)
theorem Vals.drop : ∀ {xs : List V} {us : List Value} (n : Nat), Vals xs us -> Vals (xs.drop n) (us.drop n)
  | _, _, 0, r => r
  | _, _, _ + 1, .nil => .nil
  | _, _, n + 1, .cons _ t => Vals.drop n t
def RelO : Option V -> Option Value -> Prop
  | some v, some u => RelV v u
  | none, none => True
  | _, _ => False
def KV {κ : Type} : List (κ × V) -> List (κ × Value) -> Prop := Paired fun (p : κ × V) (q : κ × Value) => p.1 = q.1 /\ RelV p.2 q.2
def kV : Key -> V
  | .inl i => .int i
  | .inr x => .str x
inductive HO where
  /-- a list -/
  | lst (xs : List V)
  /-- a tuple (never changes) -/
  | tup (xs : List V)
  /-- a dict whose keys are ints and texts; one whose keys are tuples of ints and texts (the empty one is both) -/
  | dK (kvs : List (Key × V)) | dT (kvs : List (List Key × V))
  /-- a set of ints: its members, its size -/
  | set (S : Int -> Bool) (n : Nat)
  /-- an instance of the class at C, its dict at dx, its attributes -/
  | ins (C dx : Addr) (fs : List (Str × V))
  /-- the dict of the instance at x -/
  | own (x : Addr)
  /-- the dict of an exception -/
  | xd (fs : List (Str × V))
  /-- a bound method, f of x -/
  | met (f x : Addr)
  /-- a range object lo, lo + 1, .. below hi -/
  | rng (lo hi : Int)
  /-- a thing that is known to the object (the script; a dict while a loop walks it): read, never written while it is so -/
  | frz (o : Obj) (u : HO)
  /-- a code object's table -/
  | tbl (ps : Array Value)
  /-- any other thing, by what is true of its one object (a def of one's own: SetO a S n := HO.ext fun h => ..) -/
  | ext (φ : Heap -> Prop)
abbrev Hp := Addr -> Option HO
def upd (H : Hp) (a : Addr) (o : HO) : Hp := fun b => if b = a then some o else H b
theorem upd_same {H : Hp} {a : Addr} {o : HO} : upd H a o a = some o := by unfold upd; rw [if_pos rfl]
theorem upd_ne {H : Hp} {a b : Addr} {o : HO} (h : b ≠ a) : upd H a o b = H b := by unfold upd; rw [if_neg h]
theorem ne_of_none {H : Hp} {a b : Addr} {o : HO} (h : H a = some o) (h' : H b = none) : a ≠ b := by
  intro e; subst e; rw [h] at h'; cases h'
section
variable (P : Program) (w : World)
def ObjOk (H : Hp) (h : Heap) (a : Addr) : HO -> Prop
  | .lst xs => xs.length <= sizeLine /\ ∃ (its : List Value) (n : Nat), Vals xs its /\ h.get? a = some { cls := .type "list", data := .seq its.toArray n }
  | .tup xs => xs.length <= sizeLine /\ ∃ its : List Value, Vals xs its /\ IsTup h a its.toArray
  | .dK kvs => kvs.length <= sizeLine /\ (a == sysModules) = false /\ ∃ vs, KV kvs vs /\ h.DictOf (mixKind P w) a vs
  | .dT kvs => kvs.length <= sizeLine /\ (a == sysModules) = false /\ ∃ xs : List (List Key × Addr × Value),
      Paired (fun (p : List Key × V) (q : List Key × Addr × Value) => p.1 = q.1 /\ H q.2.1 = some (.tup (p.1.map kV)) /\ RelV p.2 q.2.2) kvs xs /\
      ∃ o es ep, h.get? a = some o /\ o.ExactDict /\ o.data = .dict es ep /\ es.toList = xs.map (entryOfKey (tupleKind (mixKind P w))) /\ (xs.map (·.1)).Nodup
  | .set S n => h.SetOf (intKind P w) a S n
  | .ins C dx fs => H dx = some (.own a) /\ fs.length <= 1000 /\ dx ≠ a /\ h.get? a = some (PySem.W.instObj C dx) /\
      ∃ mA, h.Ns1 dx mA /\ (∀ f, RelO (fs.lookup f) (mA f)) /\ PySem.Within mA (fs.map (·.1))
  | .own _ => ∃ o, h.get? a = some o
  | .xd fs => ∃ mA, h.Ns1 a mA /\ ∀ f, RelO (fs.lookup f) (mA f)
  | .rng lo hi => ∃ t u v, h.get? a = some { cls := .type "range", data := .fields #[.int lo t, .int hi u, .int 1 v] }
  | .frz o u => h.get? a = some o /\ ObjOk H h a u
  | .tbl ps => h.get? a = some { cls := .none, data := .fields ps }
  | .met f x => h.get? a = some (PySem.W.methodObj (.ref f) (.ref x))
  | .ext φ => φ h /\ (∃ o, h.get? a = some o) /\ ∀ h1 h2 : Heap, φ h1 -> (∀ o, h1.get? a = some o -> h2.get? a = some o) -> φ h2
def HOk (H : Hp) (h : Heap) : Prop := ∀ a o, H a = some o -> ObjOk P w H h a o
end
section
variable {P : Program} {w : World} {H H' : Hp} {h h' : Heap} {a : Addr} {o : HO}
theorem ObjOk.lt (x : ObjOk P w H h a o) : a < h.objs.size := by
  cases o with
  | lst xs => obtain ⟨_, _, _, _, e⟩ := x; exact Heap.lt_size e
  | tup xs => obtain ⟨_, _, _, p⟩ := x; exact p.lt
  | dK kvs => obtain ⟨_, _, _, _, o, _, _, e, _⟩ := x; exact Heap.lt_size e
  | dT kvs => obtain ⟨_, _, _, _, o, _, _, e, _⟩ := x; exact Heap.lt_size e
  | set S n => obtain ⟨o, _, _, _, e, _⟩ := x; exact Heap.lt_size e
  | ins C dx fs => obtain ⟨_, _, _, e, _⟩ := x; exact Heap.lt_size e
  | own y => obtain ⟨_, e⟩ := x; exact Heap.lt_size e
  | xd fs => obtain ⟨_, ⟨_, _, _, e, _⟩, _⟩ := x; exact Heap.lt_size e
  | rng lo hi => obtain ⟨_, _, _, e⟩ := x; exact Heap.lt_size e
  | frz ob u => obtain ⟨e, _⟩ := x; exact Heap.lt_size e
  | tbl ps => exact Heap.lt_size (show h.get? a = some _ from x)
  | met f y => exact Heap.lt_size (show h.get? a = some _ from x)
  | ext φ => obtain ⟨_, ⟨_, e⟩, _⟩ := x; exact Heap.lt_size e
theorem Paired.mapP {α β : Type} {F G : α -> β -> Prop} : ∀ {l₁ : List α} {l₂ : List β}, Paired F l₁ l₂ -> (∀ a b, F a b -> G a b) -> Paired G l₁ l₂
  | _, _, .nil, _ => .nil
  | _, _, .cons r t, f => .cons (f _ _ r) (Paired.mapP t f)
theorem ObjOk.stay (x : ObjOk P w H h a o) (k : ∀ b u, (b = a \/ H b = some (.own a)) -> h.get? b = some u -> h'.get? b = some u)
    (ho : ∀ b, H b = some (.own a) -> H' b = some (.own a)) (ht : ∀ b xs, H b = some (.tup xs) -> H' b = some (.tup xs)) : ObjOk P w H' h' a o := by
  induction o with
  | lst xs => obtain ⟨z, its, n, r, e⟩ := x; exact ⟨z, its, n, r, k _ _ (.inl rfl) e⟩
  | tup xs => obtain ⟨z, its, r, ob, e, c⟩ := x; exact ⟨z, its, r, ob, k _ _ (.inl rfl) e, c⟩
  | dK kvs => obtain ⟨z, y, vs, r, ob, es, ep, e, c⟩ := x; exact ⟨z, y, vs, r, ob, es, ep, k _ _ (.inl rfl) e, c⟩
  | dT kvs =>
    obtain ⟨z, y, xs, r, ob, es, ep, e, c⟩ := x
    exact ⟨z, y, xs, Paired.mapP r fun p q z => ⟨z.1, ht _ _ z.2.1, z.2.2⟩, ob, es, ep, k _ _ (.inl rfl) e, c⟩
  | set S n => obtain ⟨ob, es, ep, t, e, c⟩ := x; exact ⟨ob, es, ep, t, k _ _ (.inl rfl) e, c⟩
  | ins C dx fs =>
    obtain ⟨d, z, ne, e, mA, ⟨od, es, ep, e2, c⟩, r⟩ := x
    exact ⟨ho _ d, z, ne, k _ _ (.inl rfl) e, mA, ⟨od, es, ep, k _ _ (.inr d) e2, c⟩, r⟩
  | own y => obtain ⟨ob, e⟩ := x; exact ⟨ob, k _ _ (.inl rfl) e⟩
  | xd fs => obtain ⟨mA, ⟨od, es, ep, e, c⟩, r⟩ := x; exact ⟨mA, ⟨od, es, ep, k _ _ (.inl rfl) e, c⟩, r⟩
  | rng lo hi => obtain ⟨t, u, v, e⟩ := x; exact ⟨t, u, v, k _ _ (.inl rfl) e⟩
  | frz ob u ih => obtain ⟨e, q⟩ := x; exact ⟨k _ _ (.inl rfl) e, ih q⟩
  | tbl ps =>
    have e : h.get? a = some { cls := .none, data := .fields ps } := x
    show h'.get? a = some { cls := .none, data := .fields ps }
    exact k a _ (.inl rfl) e
  | met f y =>
    have e : h.get? a = some (PySem.W.methodObj (.ref f) (.ref y)) := x
    show h'.get? a = some (PySem.W.methodObj (.ref f) (.ref y))
    exact k a _ (.inl rfl) e
  | ext φ => obtain ⟨p, ⟨o, e⟩, st⟩ := x; exact ⟨st _ _ p fun o q => k _ _ (.inl rfl) q, ⟨o, k _ _ (.inl rfl) e⟩, st⟩
theorem HOk.lt (x : HOk P w H h) (e : H a = some o) : a < h.objs.size := (x a o e).lt
theorem HOk.fresh (x : HOk P w H h) (e : h.objs.size <= a) : H a = none := by
  cases q : H a with
  | none => rfl
  | some u => exact absurd (Nat.lt_of_lt_of_le (x.lt q) e) (Nat.lt_irrefl _)
theorem HOk.kept (x : HOk P w H h) (k : ∀ b u, h.get? b = some u -> h'.get? b = some u) : HOk P w H h' := fun a o e =>
  (x a o e).stay (fun b u _ q => k b u q) (fun _ q => q) fun _ _ q => q
theorem HOk.laid (x : HOk P w H h) (k : ∀ b u, h.get? b = some u -> h'.get? b = some u) (hp : h.objs.size <= a) (new : ObjOk P w (upd H a o) h' a o) : HOk P w (upd H a o) h' := fun b u e => by
  have hn := x.fresh hp
  by_cases hb : b = a
  . subst hb; rw [upd_same] at e; cases e; exact new
  . rw [upd_ne hb] at e
    exact (x b u e).stay (fun c v _ q => k c v q) (fun c q => by rw [upd_ne (ne_of_none q hn)]; exact q) fun c xs q => by rw [upd_ne (ne_of_none q hn)]; exact q
end
def Rd (H : Hp) (a : Addr) (u : HO) : Prop := H a = some u \/ ∃ o, H a = some (.frz o u)
theorem Rd.ok {P : Program} {w : World} {H : Hp} {h : Heap} {a : Addr} {u : HO} (r : Rd H a u) (x : HOk P w H h) : ObjOk P w H h a u := by
  rcases r with r | ⟨o, r⟩
  . exact x a u r
  . obtain ⟨_, q⟩ := x a _ r
    exact q
def Mut : Option HO -> Prop
  | some (.lst _) => True
  | some (.dK _) => True
  | some (.dT _) => True
  | some (.set _ _) => True
  | some (.ins _ _ _) => True
  | some (.ext _) => True
  | _ => False
section
variable {P : Program} {w : World} {H : Hp} {h h' : Heap} {x e : Addr} {o' : HO}
theorem HOk.write (ok : HOk P w H h) (mu : Mut (H x)) (he : e = x \/ H e = some (.own x)) (k : ∀ b u, b ≠ e -> h.get? b = some u -> h'.get? b = some u) (heo : ∃ u, h'.get? e = some u)
    (new : ObjOk P w (upd H x o') h' x o') : HOk P w (upd H x o') h' := fun b u q => by
  have nown : ∀ c y, H c = some (.own y) -> c ≠ x := fun c y r z => by subst z; rw [r] at mu; exact mu
  have ntup : ∀ c xs, H c = some (.tup xs) -> c ≠ x := fun c xs r z => by subst z; rw [r] at mu; exact mu
  by_cases hb : b = x
  . subst hb; rw [upd_same] at q; cases q; exact new
  . rw [upd_ne hb] at q
    by_cases hbe : b = e
    . have q' : H b = some (.own x) := by
        rcases he with z | z
        . exact absurd (hbe.trans z) hb
        . rw [hbe]; exact z
      rw [q] at q'; cases q'
      obtain ⟨v, hv⟩ := heo
      exact ⟨v, by rw [hbe]; exact hv⟩
    . refine (ok b u q).stay (fun c v hc r => k c v ?_ r) (fun c r => by rw [upd_ne (nown c b r)]; exact r) fun c xs r => by rw [upd_ne (ntup c xs r)]; exact r
      rcases hc with rfl | hc
      . exact hbe
      . rintro rfl
        rcases he with z | z
        . exact nown c b hc z
        . rw [hc] at z; cases z; exact hb rfl
end
structure Un (fs ex : List Addr) (H H' : Hp) (h h' : Heap) : Prop where
  keep : ∀ b o, h.get? b = some o -> H b = none -> b ∉ fs -> b ∉ ex -> h'.get? b = some o
  slot : ∀ b o, h.get? b = some o -> H b = none -> b ∈ fs -> b ∉ ex -> ∃ sl, h'.get? b = some { o with slots := sl }
  free : ∀ b o, h.get? b = some o -> H b = none -> b ∉ ex -> H' b = none
  there : ∀ b o, h.get? b = some o -> b ∉ ex -> ∃ o', h'.get? b = some o'
  tups : ∀ b xs, H b = some (.tup xs) -> H' b = some (.tup xs)
  frzs : ∀ b o u, H b = some (.frz o u) -> H' b = some (.frz o u)
  tbls : ∀ b ps, H b = some (.tbl ps) -> ∃ more, H' b = some (.tbl (ps ++ more))
section
variable {fs fs' ex ex' : List Addr} {H H1 H2 : Hp} {h h1 h2 h' : Heap} {a x e : Addr} {o : HO}
theorem Un.any (u : Un fs ex H H1 h h1) {b : Addr} {ob : Obj} (q : h.get? b = some ob) (n : H b = none) (hx : b ∉ ex) : ∃ sl, h1.get? b = some { ob with slots := sl } := by
  by_cases hb : b ∈ fs
  . exact u.slot b ob q n hb hx
  . exact ⟨ob.slots, u.keep b ob q n hb hx⟩
theorem Un.kept (k : ∀ b u, h.get? b = some u -> h'.get? b = some u) : Un fs ex H H h h' :=
  ⟨fun b ob q _ _ _ => k b ob q, fun b ob q _ _ _ => ⟨ob.slots, k b ob q⟩, fun _ _ _ n _ => n, fun b ob q _ => ⟨ob, k b ob q⟩, fun _ _ q => q, fun _ _ _ q => q, fun _ ps q => ⟨#[], by rw [q]; simp⟩⟩
theorem Un.refl : Un fs ex H H h h := Un.kept fun _ _ q => q
theorem Un.laid (k : ∀ b u, h.get? b = some u -> h'.get? b = some u) (hp : h.objs.size <= a) (hn : H a = none) : Un fs ex H (upd H a o) h h' where
  keep := fun b u q _ _ _ => k b u q
  slot := fun b u q _ _ _ => ⟨u.slots, k b u q⟩
  free := fun b u q n _ => by rw [upd_ne (Nat.ne_of_lt (Nat.lt_of_lt_of_le (Heap.lt_size q) hp))]; exact n
  there := fun b u q _ => ⟨u, k b u q⟩
  tups := fun b xs q => by rw [upd_ne (ne_of_none q hn)]; exact q
  frzs := fun b u xs q => by rw [upd_ne (ne_of_none q hn)]; exact q
  tbls := fun b ps q => ⟨#[], by rw [upd_ne (ne_of_none q hn), q]; simp⟩
theorem Un.write (mu : Mut (H x)) (he : e = x \/ H e = some (.own x)) (k : ∀ b u, b ≠ e -> h.get? b = some u -> h'.get? b = some u) (heo : ∃ u, h'.get? e = some u) : Un fs ex H (upd H x o) h h' := by
  have hx : ∀ b, H b = none -> b ≠ x := fun b n z => by subst z; rw [n] at mu; exact mu
  have hb : ∀ b, H b = none -> b ≠ e := fun b n z => by
    subst z
    rcases he with r | r
    . exact hx b n r
    . rw [n] at r; cases r
  have hm : ∀ b u, H b = some u -> ¬ Mut (some u) -> b ≠ x := fun b u q nm z => by subst z; rw [q] at mu; exact nm mu
  refine ⟨fun b u q n _ _ => k b u (hb b n) q, fun b u q n _ _ => ⟨u.slots, k b u (hb b n) q⟩, fun b u q n _ => by rw [upd_ne (hx b n)]; exact n, fun b u q _ => ?_,
    fun b xs q => by rw [upd_ne (hm b _ q fun z => z)]; exact q, fun b u xs q => by rw [upd_ne (hm b _ q fun z => z)]; exact q, fun b ps q => ⟨#[], by rw [upd_ne (hm b _ q fun z => z), q]; simp⟩⟩
  by_cases hbe : b = e
  . subst hbe; exact heo
  . exact ⟨u, k b u hbe q⟩
end
def trk (h : Heap) (H : Hp) : List Addr := (List.range h.objs.size).filter fun a => (H a).isSome
def hidT (h : Heap) (H : Hp) : Heap := PySem.W.hideAll h (trk h H)
theorem hidT_size (h : Heap) (H : Hp) : (hidT h H).objs.size = h.objs.size := PySem.W.hideAll_size _ _
theorem hidT_get {h : Heap} {H : Hp} {b : Addr} {o : Obj} (e : h.get? b = some o) (n : H b = none) : (hidT h H).get? b = some o :=
  PySem.W.hideAll_get _ e fun hm => by
    have q : (H b).isSome = true := (List.mem_filter.mp hm).2
    rw [n] at q; simp at q
theorem of_hidT {h : Heap} {H : Hp} {b : Addr} {o : Obj} (e : (hidT h H).get? b = some o) : h.get? b = some o /\ H b = none := by
  have e' : h.get? b = some o := PySem.W.of_hideAll (trk h H) e
  refine ⟨e', ?_⟩
  cases q : H b with
  | none => rfl
  | some x =>
    have hm : b ∈ trk h H := List.mem_filter.mpr ⟨List.mem_range.mpr (Heap.lt_size e'), by simp [q]⟩
    have z : (hidT h H).get? b = none := PySem.W.hideAll_none (trk h H) hm
    rw [z] at e; cases e
def allNews (g h : Heap) (L : Addr) : List (Addr × Obj) := (List.range h.objs.size).filterMap fun a => if a = L \/ (g.get? a).isSome = true then none else (h.get? a).map fun o => (a, o)
def rest (g h : Heap) (L d : Addr) : List (Addr × Obj) := (allNews g h L).filter fun p => decide (p.1 ≠ d)
end L2
namespace L2
open PySem PySem.Spec PyProof.Rows
structure Mod (K : PySem.W.Frag) (mg : Str -> Option Value) (base : Heap) : Prop where
  kin : K.In base
  glob : base.Ns mainGlobals mg
  blt : ∃ mb, base.Ns builtinsNs mb /\ ∀ x : Str, x ≠ "__name__" -> mb x = bootBuiltins x
  nolimit : base.NoLimit
structure Cx where
  prog : Program
  w : World
  K : PySem.W.Frag
  mg : Str -> Option Value
  base : Heap
  A : Around
  N : List Str
  s₀ : Shared
  H₀ : Hp
  env : Env
  outer : List Env
  stack : List Env
  ex : List Addr
  fn : Str -> Bool
  calm : Bool
  pn : List (Addr × Obj)
  xe : Value -> Shared -> Prop
def frs (l : List Env) : List Addr := l.filterMap (·.frame)
abbrev Cx.fs (X : Cx) : List Addr := frs X.outer
def Vis (sc : Scope) (x : Str) : Prop := sc.names.lookup x = some .local \/ sc.names.lookup x = some .cell \/ sc.names.lookup x = some .free
def Loc (sc : Scope) (x : Str) : Prop := sc.names.lookup x = some .local \/ sc.names.lookup x = some .cell
def Look (env : Env) (h : Heap) (m : Str -> Option Value) (x : Str) (u : Value) : Prop :=
  (env.kindOf x = some .local /\ m x = some u) \/ ((env.kindOf x = some .cell \/ env.kindOf x = some .free) /\ ∃ c, env.cells.lookup x = some c /\ h.IsCell c (some u))
structure Cx.Ok (X : Cx) : Prop where
  mod : Mod X.K X.mg X.base
  kind : X.env.scope.kind = .function
  glob : X.env.globals = mainGlobals
  blt : X.env.builtins = builtinsNs
  above : X.s₀.heap.objs.size <= X.env.locals
  inj : ∀ x y c, X.env.cells.lookup x = some c -> X.env.cells.lookup y = some c -> x = y
  has : ∀ x, (X.env.kindOf x = some .cell \/ X.env.kindOf x = some .free) -> ∃ c, X.env.cells.lookup x = some c
  cab : ∀ x c, X.fn x = true -> X.env.cells.lookup x = some c -> X.s₀.heap.objs.size <= c
  hd : X.calm = true -> X.A.handled = none
  frames : X.A.frames = some X.stack
  stk : X.stack = X.outer \/ (X.stack = X.env :: X.outer /\ X.env.frame = some X.env.locals)
  exf : ∀ b ∈ X.ex, b ≠ X.env.locals /\ ∀ x c, X.env.cells.lookup x = some c -> c ≠ b
  bs : ∀ b o, X.base.get? b = some o -> X.s₀.heap.get? b = some o /\ X.H₀ b = none
  bsz : X.base.objs.size <= X.s₀.heap.objs.size
  noex : ∀ b o, X.base.get? b = some o -> b ∉ X.ex
  exfs : ∀ b ∈ X.ex, b ∉ X.fs
  funs : X.s₀.heap.FunFrames X.base X.outer
  frf : ∀ b ∈ X.fs, X.H₀ b = none
structure Inv (X : Cx) (pins : List (Addr × Obj)) (σ : List (Option V)) (H : Hp) (s : Shared) : Prop where
  ok : X.Ok
  os : s.os = X.s₀.os
  bare : AllBare s.gens
  base : Un X.fs X.ex X.H₀ H X.s₀.heap s.heap
  loc : ∃ m, s.heap.Ns X.env.locals m /\ ∀ (i : Nat) (x : Str) (v : V), X.N[i]? = some x -> σ[i]? = some (some v) -> Vis X.env.scope x -> ∃ u, RelV v u /\ Look X.env s.heap m x u
  cell : ∀ x c, X.env.cells.lookup x = some c -> ∃ v, s.heap.IsCell c v
  free : H X.env.locals = none
  freeC : ∀ x c, X.env.cells.lookup x = some c -> H c = none
  pin : ∀ p ∈ X.pn ++ pins, s.heap.get? p.1 = some p.2 /\ H p.1 = none /\ p.1 ≠ X.env.locals /\ p.1 ∉ X.fs /\ ∀ v, p.2.data ≠ .cell v
  hok : HOk X.prog X.w H s.heap
  len : σ.length = X.N.length
section
variable {X : Cx} {pins : List (Addr × Obj)} {σ : List (Option V)} {H H' : Hp} {s : Shared} {h' : Heap}
theorem Cx.Ok.nofr (ok : X.Ok) {b : Addr} {o : Obj} (e : X.base.get? b = some o) : b ∉ X.fs := fun hb => by
  have := (ok.funs.mem hb).1
  rw [e] at this; cases this
theorem Inv.bs (I : Inv X pins σ H s) : ∀ b o, X.base.get? b = some o -> s.heap.get? b = some o /\ H b = none := fun b o e =>
  ⟨I.base.keep b o (I.ok.bs b o e).1 (I.ok.bs b o e).2 (I.ok.nofr e) (I.ok.noex b o e), I.base.free b o (I.ok.bs b o e).1 (I.ok.bs b o e).2 (I.ok.noex b o e)⟩
theorem Inv.bk (I : Inv X pins σ H s) : ∀ b o, X.base.get? b = some o -> s.heap.get? b = some o := fun b o e => (I.bs b o e).1
theorem Inv.mod (I : Inv X pins σ H s) : Mod X.K X.mg X.base := I.ok.mod
theorem Inv.kIn (I : Inv X pins σ H s) : X.K.In s.heap := I.ok.mod.kin.keeps I.bk
theorem Inv.lt (I : Inv X pins σ H s) : X.env.locals < s.heap.objs.size := let ⟨_, hn, _⟩ := I.loc; hn.lt
theorem Inv.sz (I : Inv X pins σ H s) : X.s₀.heap.objs.size <= s.heap.objs.size := Nat.le_trans I.ok.above (Nat.le_of_lt I.lt)
theorem Inv.nofs (I : Inv X pins σ H s) {a : Addr} (h : s.heap.objs.size <= a) : a ∉ X.fs := fun hb => by
  obtain ⟨_, o, ho, _⟩ := I.ok.funs.mem hb
  exact absurd (Nat.lt_of_lt_of_le (Heap.lt_size ho) (Nat.le_trans I.sz h)) (Nat.lt_irrefl _)
theorem Inv.cne (I : Inv X pins σ H s) : ∀ x c, X.env.cells.lookup x = some c -> c ≠ X.env.locals := fun x c e z => by
  obtain ⟨v, o, ho, hd⟩ := I.cell x c e
  obtain ⟨m, ⟨o', es, ep, ho', hd', _⟩, _⟩ := I.loc
  rw [z, ho'] at ho; cases ho; rw [hd'] at hd; cases hd
theorem Inv.funs (I : Inv X pins σ H s) : s.heap.FunFrames X.base X.outer := by
  have all : ∀ (l : List Env), (∀ b ∈ frs l, b ∈ X.fs) -> X.s₀.heap.FunFrames X.base l -> s.heap.FunFrames X.base l := by
    intro l
    induction l with
    | nil => intro _ _; trivial
    | cons env r ih =>
      intro hs hl
      obtain ⟨hk, ⟨L, o, hf, hn, ho, hd⟩, hr⟩ := hl
      have hL : L ∈ X.fs := hs L (by unfold frs; rw [List.filterMap_cons, hf]; exact List.mem_cons_self)
      obtain ⟨sl, e⟩ := I.base.slot L o ho (I.ok.frf L hL) hL fun z => I.ok.exfs L z hL
      exact ⟨hk, ⟨L, _, hf, hn, e, hd⟩, ih (fun b hb => hs b (by unfold frs; rw [List.filterMap_cons, hf]; exact List.mem_cons_of_mem _ hb)) hr⟩
  exact all X.outer (fun _ hb => hb) I.ok.funs
theorem Inv.stack (I : Inv X pins σ H s) : s.heap.FunFrames X.base X.stack := by
  rcases I.ok.stk with e | ⟨e, hf⟩
  . rw [e]; exact I.funs
  . rw [e]
    obtain ⟨m, hn, _⟩ := I.loc
    refine .cons (by rw [I.ok.kind]; decide) hf hn ?_ I.funs
    exact Heap.get?_none_of_le (Nat.le_trans I.ok.bsz I.ok.above)
theorem Inv.stkSub (I : Inv X pins σ H s) : ∀ b ∈ frs X.stack, b ∈ X.env.locals :: X.fs := fun b hb => by
  rcases I.ok.stk with e | ⟨e, hf⟩
  . rw [e] at hb; exact List.mem_cons_of_mem _ hb
  . rw [e] at hb
    unfold frs at hb
    rw [List.filterMap_cons, hf] at hb
    exact hb
theorem Inv.stkFree (I : Inv X pins σ H s) : ∀ b ∈ frs X.stack, H b = none := fun b hb => by
  rcases List.mem_cons.mp (I.stkSub b hb) with e | hb
  . rw [e]; exact I.free
  . obtain ⟨_, o, ho, _⟩ := I.ok.funs.mem hb
    exact I.base.free b o ho (I.ok.frf b hb) fun z => I.ok.exfs b z hb
theorem Inv.step {g' : Array GenState} {t' : Nat} {d' : Drawn} {ch : List Addr} (I : Inv X pins σ H s)
    (hch : ∀ b ∈ ch, (b ∈ X.ex \/ X.s₀.heap.objs.size <= b) /\ b ≠ X.env.locals /\ (∀ x c, X.env.cells.lookup x = some c -> c ≠ b) /\ ∀ p ∈ X.pn ++ pins, p.1 ≠ b)
    (keep : ∀ b o, b ≠ X.env.locals -> b ∉ X.fs -> b ∉ ch -> s.heap.get? b = some o -> H b = none -> h'.get? b = some o)
    (slot : ∀ b o, b ≠ X.env.locals -> b ∈ X.fs -> b ∉ ch -> s.heap.get? b = some o -> H b = none -> ∃ sl, h'.get? b = some { o with slots := sl }) (free : ∀ b o, b ∉ ch -> s.heap.get? b = some o -> H b = none -> H' b = none)
    (there : ∀ b o, b ∉ ch -> s.heap.get? b = some o -> ∃ o', h'.get? b = some o')
    (tups : ∀ b xs, H b = some (.tup xs) -> H' b = some (.tup xs)) (frzs : ∀ b o u, H b = some (.frz o u) -> H' b = some (.frz o u)) (tbls : ∀ b ps, H b = some (.tbl ps) -> ∃ more, H' b = some (.tbl (ps ++ more)))
    (ns : ∀ m, s.heap.Ns X.env.locals m -> h'.Ns X.env.locals m) (hok : HOk X.prog X.w H' h') (hg : AllBare g') :
    Inv X pins σ H' { s with heap := h', gens := g', drawn := d', toks := t' } := by
  have neL : ∀ b o, X.s₀.heap.get? b = some o -> b ≠ X.env.locals := fun b o e => Nat.ne_of_lt (Nat.lt_of_lt_of_le (Heap.lt_size e) I.ok.above)
  have neC : ∀ b o, X.s₀.heap.get? b = some o -> b ∉ X.ex -> b ∉ ch := fun b o e hx hb => by
    rcases (hch b hb).1 with z | z
    . exact hx z
    . exact absurd (Nat.lt_of_lt_of_le (Heap.lt_size e) z) (Nat.lt_irrefl _)
  have cellK : ∀ x c, X.env.cells.lookup x = some c -> ∀ v, s.heap.IsCell c v -> h'.IsCell c v := fun x c e v ⟨o, ho, hd⟩ => by
    have nch : c ∉ ch := fun z => (hch c z).2.2.1 x c e rfl
    by_cases hc : c ∈ X.fs
    . obtain ⟨sl, q⟩ := slot c o (I.cne x c e) hc nch ho (I.freeC x c e)
      exact ⟨_, q, hd⟩
    . exact ⟨o, keep c o (I.cne x c e) hc nch ho (I.freeC x c e), hd⟩
  refine ⟨I.ok, I.os, hg, ⟨fun b o e n hb hx => ?_, fun b o e n hb hx => ?_, fun b o e n hx => ?_, fun b o e hx => ?_, fun b xs e => tups b xs (I.base.tups b xs e), fun b o xs e => frzs b o xs (I.base.frzs b o xs e), fun b ps e => ?_⟩, ?_, fun x c e => ?_, ?_, fun x c e => ?_, fun p hp => ?_, hok, I.len⟩
  . exact keep b o (neL b o e) hb (neC b o e hx) (I.base.keep b o e n hb hx) (I.base.free b o e n hx)
  . obtain ⟨sl, e1⟩ := I.base.slot b o e n hb hx
    obtain ⟨sl', e2⟩ := slot b _ (neL b o e) hb (neC b o e hx) e1 (I.base.free b o e n hx)
    exact ⟨sl', e2⟩
  . obtain ⟨o', e1⟩ := I.base.there b o e hx
    exact free b o' (neC b o e hx) e1 (I.base.free b o e n hx)
  . obtain ⟨o', e1⟩ := I.base.there b o e hx
    exact there b o' (neC b o e hx) e1
  . obtain ⟨m1, e1⟩ := I.base.tbls b ps e
    obtain ⟨m2, e2⟩ := tbls b _ e1
    exact ⟨m1 ++ m2, by rw [e2, Array.append_assoc]⟩
  . obtain ⟨m, hn, hl⟩ := I.loc
    refine ⟨m, ns m hn, fun i x v e1 e2 e3 => ?_⟩
    obtain ⟨u, r, l⟩ := hl i x v e1 e2 e3
    refine ⟨u, r, ?_⟩
    rcases l with l | ⟨k, c, e, z⟩
    . exact .inl l
    . exact .inr ⟨k, c, e, cellK x c e _ z⟩
  . obtain ⟨v, z⟩ := I.cell x c e
    exact ⟨v, cellK x c e v z⟩
  . obtain ⟨m, ⟨o, _, _, ho, _⟩, _⟩ := I.loc
    exact free _ o (fun z => (hch _ z).2.1 rfl) ho I.free
  . obtain ⟨v, o, ho, hd⟩ := I.cell x c e
    exact free c o (fun z => (hch c z).2.2.1 x c e rfl) ho (I.freeC x c e)
  . obtain ⟨e, n, ne, nf, d⟩ := I.pin p hp
    have nch : p.1 ∉ ch := fun z => (hch p.1 z).2.2.2 p hp rfl
    exact ⟨keep p.1 p.2 ne nf nch e n, free p.1 p.2 nch e n, ne, nf, d⟩
theorem Inv.un {t' : Nat} (I : Inv X pins σ H s) (u : Un X.fs [] H H' s.heap h') (hok : HOk X.prog X.w H' h') : Inv X pins σ H' { s with heap := h', toks := t' } := by
  obtain ⟨m, ⟨o, es, ep, ho, r⟩, _⟩ := id I.loc
  obtain ⟨sl, hL⟩ := u.any ho I.free (by simp)
  exact I.step (g' := s.gens) (d' := s.drawn) (ch := []) (fun _ z => nomatch z) (fun b o _ hb _ e n => u.keep b o e n hb (by simp)) (fun b o _ hb _ e n => u.slot b o e n hb (by simp)) (fun b o _ e n => u.free b o e n (by simp)) (fun b o _ e => u.there b o e (by simp)) u.tups u.frzs u.tbls (fun m' hm => by
    obtain ⟨o', es', ep', ho', r'⟩ := hm
    rw [ho] at ho'; cases ho'
    exact ⟨_, es', ep', hL, r'⟩) hok I.bare
theorem Inv.call {g' : Array GenState} {t' : Nat} {d' : Drawn} {ch : List Addr} (I : Inv X pins σ H s) (u : Un (frs X.stack) ch H H' s.heap h') (hok : HOk X.prog X.w H' h') (hg : AllBare g')
    (hch : ∀ b ∈ ch, (b ∈ X.ex \/ X.s₀.heap.objs.size <= b) /\ b ≠ X.env.locals /\ (∀ x c, X.env.cells.lookup x = some c -> c ≠ b) /\ ∀ p ∈ X.pn ++ pins, p.1 ≠ b) :
    Inv X pins σ H' { s with heap := h', gens := g', drawn := d', toks := t' } := by
  obtain ⟨m, ⟨o, es, ep, ho, r⟩, _⟩ := id I.loc
  obtain ⟨sl, hL⟩ := u.any ho I.free fun z => (hch _ z).2.1 rfl
  exact I.step (ch := ch) hch (fun b o hL hb hc e n => u.keep b o e n (fun z => (List.mem_cons.mp (I.stkSub b z)).elim hL hb) hc) (fun b o _ _ hc e n => u.any e n hc) (fun b o hc e n => u.free b o e n hc) (fun b o hc e => u.there b o e hc) u.tups u.frzs u.tbls (fun m' hm => by
    obtain ⟨o', es', ep', ho', r'⟩ := hm
    rw [ho] at ho'; cases ho'
    exact ⟨_, es', ep', hL, r'⟩) hok hg
theorem Inv.turned {t' : Nat} {it : Addr} (I : Inv X pins σ H s) (k : ∀ b o, b ≠ it -> s.heap.get? b = some o -> h'.get? b = some o) (hn : H it = none) (hL : it ≠ X.env.locals)
    (h1 : it ∈ X.ex \/ X.s₀.heap.objs.size <= it) (h2 : ∀ x c, X.env.cells.lookup x = some c -> c ≠ it) (h3 : ∀ p ∈ X.pn ++ pins, p.1 ≠ it) : Inv X pins σ H { s with heap := h', toks := t' } := by
  have nit : ∀ b u, H b = some u -> b ≠ it := fun b u e z => by rw [z, hn] at e; cases e
  refine I.step (g' := s.gens) (d' := s.drawn) (ch := [it]) (fun b hb => ?_) (fun b o _ _ hc e _ => k b o (fun z => hc (by simp [z])) e) (fun b o _ _ hc e _ => ⟨o.slots, k b o (fun z => hc (by simp [z])) e⟩) (fun _ _ _ _ n => n)
    (fun b o hc e => ⟨o, k b o (fun z => hc (by simp [z])) e⟩) (fun _ _ e => e) (fun _ _ _ e => e) (fun b ps e => ⟨#[], by rw [e]; simp⟩) (fun m hm => ?_) (fun b u e => ?_) I.bare
  . have e : b = it := by simpa using hb
    subst e
    exact ⟨h1, hL, h2, h3⟩
  . obtain ⟨o, es, ep, ho, r⟩ := hm
    exact ⟨o, es, ep, k _ o (Ne.symm hL) ho, r⟩
  . refine (I.hok b u e).stay (fun c v hc q => k c v ?_ q) (fun _ q => q) fun _ _ q => q
    rcases hc with z | z
    . rw [z]; exact nit b u e
    . exact nit c _ z
theorem Inv.tok (I : Inv X pins σ H s) (t : Nat) : Inv X pins σ H { s with toks := t } := I.un (h' := s.heap) (t' := t) Un.refl I.hok
theorem Inv.kept {t' : Nat} (I : Inv X pins σ H s) (k : ∀ b u, s.heap.get? b = some u -> h'.get? b = some u) : Inv X pins σ H { s with heap := h', toks := t' } := I.un (Un.kept k) (I.hok.kept k)
theorem Inv.laid {a : Addr} {o : HO} {t' : Nat} (I : Inv X pins σ H s) (k : ∀ b u, s.heap.get? b = some u -> h'.get? b = some u) (hp : s.heap.objs.size <= a) (new : ObjOk X.prog X.w (upd H a o) h' a o) :
    Inv X pins σ (upd H a o) { s with heap := h', toks := t' } := I.un (Un.laid k hp (I.hok.fresh hp)) (I.hok.laid k hp new)
theorem Inv.write {x e : Addr} {o : HO} {t' : Nat} (I : Inv X pins σ H s) (mu : Mut (H x)) (he : e = x \/ H e = some (.own x)) (k : ∀ b u, b ≠ e -> s.heap.get? b = some u -> h'.get? b = some u) (heo : ∃ u, h'.get? e = some u)
    (new : ObjOk X.prog X.w (upd H x o) h' x o) : Inv X pins σ (upd H x o) { s with heap := h', toks := t' } := I.un (Un.write mu he k heo) (I.hok.write mu he k heo new)
theorem Inv.pins_of {pins' : List (Addr × Obj)} (I : Inv X pins σ H s) (h : ∀ p ∈ pins', s.heap.get? p.1 = some p.2 /\ H p.1 = none /\ p.1 ≠ X.env.locals /\ p.1 ∉ X.fs /\ ∀ v, p.2.data ≠ .cell v) : Inv X pins' σ H s :=
  ⟨I.ok, I.os, I.bare, I.base, I.loc, I.cell, I.free, I.freeC, fun p hp => (List.mem_append.mp hp).elim (fun z => I.pin p (List.mem_append_left _ z)) (h p), I.hok, I.len⟩
theorem nodup_ix {N : List Str} (hN : N.Nodup) {i j : Nat} {x : Str} (a : N[i]? = some x) (b : N[j]? = some x) : i = j := by
  obtain ⟨h1, e1⟩ := List.getElem?_eq_some_iff.mp a
  obtain ⟨h2, e2⟩ := List.getElem?_eq_some_iff.mp b
  exact (List.getElem_inj hN).mp (e1.trans e2.symm)
theorem store_ok2 {M : Model} {A : Around} {E : Value -> Shared -> Prop} {i : Nat} {x : Str} {v : V} {u : Value} {Q : Unit -> Shared -> Prop} (I : Inv X pins σ H s) (hN : X.N.Nodup) (hi : X.N[i]? = some x) (hx : Loc X.env.scope x) (r : RelV v u)
    (h : ∀ s', Inv X pins (σ.set i (some v)) H s' -> (∃ a, Heap.SameBut a s.heap s'.heap /\ (a = X.env.locals \/ X.env.cells.lookup x = some a)) -> Q () s') (hf : X.fn x = true \/ X.env.scope.names.lookup x = some .local := by first | exact .inl rfl | exact .inr rfl | assumption) : wpAny M A (storeName X.env x u) Q E s := by
  obtain ⟨m, hn, hl⟩ := id I.loc
  have hcls : (X.env.scope.kind == .class || (X.env.scope.kind == .module && X.env.locals != X.env.globals)) = false := by rw [I.ok.kind]; rfl
  have hiσ : i < σ.length := by rw [I.len]; exact (List.getElem?_eq_some_iff.mp hi).1
  have cne := I.cne
  have tracked : ∀ {a : Addr} {h' : Heap}, (∃ o, s.heap.get? a = some o /\ H a = none) -> Heap.SameBut a s.heap h' -> HOk X.prog X.w H h' := fun {a h'} ha hs b ob e => by
    obtain ⟨_, _, hfree⟩ := ha
    refine (I.hok b ob e).stay (fun c w' hc q => (hs.2 c ?_).trans q) (fun _ q => q) fun _ _ q => q
    rintro rfl
    rcases hc with rfl | hc
    . rw [hfree] at e; cases e
    . rw [hfree] at hc; cases hc
  rcases hx with hk | hk
  . refine wpAny_storeName_local hk hn (fun h' hn' hs => ?_) hcls
    obtain ⟨oL, _, _, hoL, _⟩ := id hn
    refine h _ ⟨I.ok, I.os, I.bare, ⟨fun b o e n hb hx => ?_, fun b o e n hb hx => ?_, I.base.free, fun b o e hx => ?_, I.base.tups, I.base.frzs, I.base.tbls⟩, ⟨_, hn', fun j y v' e1 e2 e3 => ?_⟩, fun y c e => ?_, I.free, I.freeC, fun p hp => ?_, tracked ⟨oL, hoL, I.free⟩ hs, by simpa using I.len⟩ ⟨_, hs, .inl rfl⟩
    . exact (hs.2 b (Nat.ne_of_lt (Nat.lt_of_lt_of_le (Heap.lt_size e) I.ok.above))).trans (I.base.keep b o e n hb hx)
    . obtain ⟨sl, e1⟩ := I.base.slot b o e n hb hx
      exact ⟨sl, (hs.2 b (Nat.ne_of_lt (Nat.lt_of_lt_of_le (Heap.lt_size e) I.ok.above))).trans e1⟩
    . obtain ⟨o', e1⟩ := I.base.there b o e hx
      exact ⟨o', (hs.2 b (Nat.ne_of_lt (Nat.lt_of_lt_of_le (Heap.lt_size e) I.ok.above))).trans e1⟩
    . by_cases hj : j = i
      . subst hj
        rw [hi] at e1; cases e1
        rw [List.getElem?_set_self hiσ] at e2
        cases e2
        exact ⟨u, r, .inl ⟨hk, by simp⟩⟩
      . rw [List.getElem?_set_ne (Ne.symm hj)] at e2
        obtain ⟨u', r', q⟩ := hl j y v' e1 e2 e3
        refine ⟨u', r', ?_⟩
        rcases q with ⟨k, e⟩ | ⟨k, c, e, z⟩
        . refine .inl ⟨k, ?_⟩
          have : y ≠ x := fun e => hj (nodup_ix hN e1 (e ▸ hi))
          simp [this, e]
        . exact .inr ⟨k, c, e, z.sameBut hs (cne y c e)⟩
    . obtain ⟨w', z⟩ := I.cell y c e
      exact ⟨w', z.sameBut hs (cne y c e)⟩
    . obtain ⟨e, n, ne, nf, d⟩ := I.pin p hp
      exact ⟨(hs.2 p.1 ne).trans e, n, ne, nf, d⟩
  . have hfn : X.fn x = true := by
      rcases hf with z | z
      . exact z
      . rw [z] at hk; cases hk
    obtain ⟨c, hc⟩ := I.ok.has x (.inl hk)
    obtain ⟨w', z⟩ := I.cell x c hc
    refine wpAny_storeName_cell I.ok.kind hk hc z (fun h' hc' hs => ?_)
    obtain ⟨oc, hoc, hocd⟩ := id z
    refine h { s with heap := h' } ⟨I.ok, I.os, I.bare, ⟨fun b o e n hb hx => ?_, fun b o e n hb hx => ?_, I.base.free, fun b o e hx => ?_, I.base.tups, I.base.frzs, I.base.tbls⟩, ⟨m, hn.sameBut hs (Ne.symm (cne x c hc)), fun j y v' e1 e2 e3 => ?_⟩, fun y c' e => ?_, I.free, I.freeC, fun p hp => ?_, tracked ⟨oc, hoc, I.freeC x c hc⟩ hs, by simpa using I.len⟩ ⟨c, hs, .inr hc⟩
    . exact (hs.2 b (Nat.ne_of_lt (Nat.lt_of_lt_of_le (Heap.lt_size e) (I.ok.cab x c hfn hc)))).trans (I.base.keep b o e n hb hx)
    . obtain ⟨sl, e1⟩ := I.base.slot b o e n hb hx
      exact ⟨sl, (hs.2 b (Nat.ne_of_lt (Nat.lt_of_lt_of_le (Heap.lt_size e) (I.ok.cab x c hfn hc)))).trans e1⟩
    . obtain ⟨o', e1⟩ := I.base.there b o e hx
      exact ⟨o', (hs.2 b (Nat.ne_of_lt (Nat.lt_of_lt_of_le (Heap.lt_size e) (I.ok.cab x c hfn hc)))).trans e1⟩
    . by_cases hj : j = i
      . subst hj
        rw [hi] at e1; cases e1
        rw [List.getElem?_set_self hiσ] at e2
        cases e2
        exact ⟨u, r, .inr ⟨.inl hk, c, hc, hc'⟩⟩
      . rw [List.getElem?_set_ne (Ne.symm hj)] at e2
        obtain ⟨u', r', q⟩ := hl j y v' e1 e2 e3
        refine ⟨u', r', ?_⟩
        rcases q with q | ⟨k, c', e, z'⟩
        . exact .inl q
        . refine .inr ⟨k, c', e, z'.sameBut hs ?_⟩
          rintro rfl
          exact hj (nodup_ix hN e1 (I.ok.inj _ _ _ e hc ▸ hi))
    . by_cases hcc : c' = c
      . subst hcc; exact ⟨_, hc'⟩
      . obtain ⟨w2, z2⟩ := I.cell y c' e
        exact ⟨w2, z2.sameBut hs hcc⟩
    . obtain ⟨e, n, ne, nf, d⟩ := I.pin p hp
      refine ⟨(hs.2 p.1 ?_).trans e, n, ne, nf, d⟩
      intro q
      rw [q, hoc] at e
      have q' : oc = p.2 := Option.some.inj e
      exact d w' (by rw [<- q']; exact hocd)
theorem store_ok {M : Model} {A : Around} {E : Value -> Shared -> Prop} {i : Nat} {x : Str} {v : V} {u : Value} {Q : Unit -> Shared -> Prop} (I : Inv X pins σ H s) (hN : X.N.Nodup) (hi : X.N[i]? = some x) (hx : Loc X.env.scope x) (r : RelV v u)
    (h : ∀ s', Inv X pins (σ.set i (some v)) H s' -> Q () s') (hf : X.fn x = true \/ X.env.scope.names.lookup x = some .local := by first | exact .inl rfl | exact .inr rfl | assumption) : wpAny M A (storeName X.env x u) Q E s :=
  store_ok2 I hN hi hx r (fun s' I' _ => h s' I') hf
theorem Inv.call' {s' : Shared} {ch : List Addr} (I : Inv X pins σ H s) (ho : s'.os = s.os) (u : Un (frs X.stack) ch H H' s.heap s'.heap) (hok : HOk X.prog X.w H' s'.heap) (hg : AllBare s'.gens)
    (hch : ∀ b ∈ ch, (b ∈ X.ex \/ X.s₀.heap.objs.size <= b) /\ b ≠ X.env.locals /\ (∀ x c, X.env.cells.lookup x = some c -> c ≠ b) /\ ∀ p ∈ X.pn ++ pins, p.1 ≠ b) : Inv X pins σ H' s' := by
  obtain ⟨h', g', d', t', o'⟩ := s'
  have e : o' = s.os := ho
  subst e
  exact I.call (g' := g') (t' := t') (d' := d') u hok hg hch
end
abbrev XK := Value -> Option Addr -> Hp -> Prop
abbrev St := List (Option V)
abbrev VK := V -> Hp -> Prop
abbrev TE := St -> Hp -> VK -> Prop
abbrev TT := St -> Hp -> (Bool -> Hp -> Prop) -> Prop
abbrev TA := St -> Hp -> (List V -> Hp -> Prop) -> Prop
structure Ends where
  nx : St -> Hp -> Prop
  rt : VK
  bk : St -> Hp -> Prop := fun _ _ => False
  ct : St -> Hp -> Prop := fun _ _ => False
abbrev TS := Ends -> St -> Hp -> Prop
def EP (X : Cx) (pins : List (Addr × Obj)) (σ : St) (Q : VK) (u : Value) (s' : Shared) : Prop := ∃ v H', Inv X pins σ H' s' /\ RelV v u /\ Q v H'
def TP (X : Cx) (pins : List (Addr × Obj)) (σ : St) (Q : Bool -> Hp -> Prop) (b : Bool) (s' : Shared) : Prop := ∃ H', Inv X pins σ H' s' /\ Q b H'
def AP (X : Cx) (pins : List (Addr × Obj)) (σ : St) (Q : List V -> Hp -> Prop) (us : List Value) (s' : Shared) : Prop := ∃ vs H', Inv X pins σ H' s' /\ Vals vs us /\ Q vs H'
def SP (X : Cx) (pins : List (Addr × Obj)) (D : Ends) (f : Flow) (s' : Shared) : Prop :=
  match f with
  | .next => ∃ σ' H', Inv X pins σ' H' s' /\ D.nx σ' H'
  | .brk => ∃ σ' H', Inv X pins σ' H' s' /\ D.bk σ' H'
  | .cont => ∃ σ' H', Inv X pins σ' H' s' /\ D.ct σ' H'
  | .ret u => ∃ v σ' H', Inv X pins σ' H' s' /\ RelV v u /\ D.rt v H'
def PE (X : Cx) (e : Expr) (t : TE) : Prop :=
  ∀ (pins : List (Addr × Obj)) (s : Shared) (σ : St) (H : Hp) (Q : VK), Inv X pins σ H s -> t σ H Q -> wpAny (model X.prog X.w) X.A (eval e X.env) (EP X pins σ Q) X.xe s
def PT (X : Cx) (e : Expr) (t : TT) : Prop :=
  ∀ (pins : List (Addr × Obj)) (s : Shared) (σ : St) (H : Hp) (Q : Bool -> Hp -> Prop), Inv X pins σ H s -> t σ H Q -> wpAny (model X.prog X.w) X.A (isTrue e X.env (eval e X.env)) (TP X pins σ Q) X.xe s
def PW (X : Cx) (e : Expr) (t : TT) : Prop :=
  ∀ (whole : Sem Value) (pins : List (Addr × Obj)) (s : Shared) (σ : St) (H : Hp) (Q : Bool -> Hp -> Prop), Inv X pins σ H s -> t σ H Q -> wpAny (model X.prog X.w) X.A (isTrue e X.env whole) (TP X pins σ Q) X.xe s
theorem PW.pt {X : Cx} {e : Expr} {t : TT} (h : PW X e t) : PT X e t := h _
def PA (X : Cx) (es : List Expr) (t : TA) : Prop :=
  ∀ (pos : Pos) (pins : List (Addr × Obj)) (s : Shared) (σ : St) (H : Hp) (Q : List V -> Hp -> Prop), Inv X pins σ H s -> t σ H Q -> wpAny (model X.prog X.w) X.A (spliced (backTo pos (starEach es X.env))) (AP X pins σ Q) X.xe s
def PS (X : Cx) (st : Stmt) (t : TS) : Prop :=
  ∀ (pins : List (Addr × Obj)) (s : Shared) (σ : St) (H : Hp) (D : Ends), Inv X pins σ H s -> t D σ H -> wpAny (model X.prog X.w) X.A (exec st X.env) (SP X pins D) X.xe s
def PSs (X : Cx) (st : List Stmt) (t : TS) : Prop :=
  ∀ (pins : List (Addr × Obj)) (s : Shared) (σ : St) (H : Hp) (D : Ends), Inv X pins σ H s -> t D σ H -> wpAny (model X.prog X.w) X.A (execs st X.env) (SP X pins D) X.xe s
theorem thn {α : Type} {t : Sem α} {Q Q' : α -> Shared -> Prop} {M : Model} {A : Around} {E : Value -> Shared -> Prop} {s : Shared} (h : wpAny M A t Q E s) (hQ : ∀ a s, Q a s -> Q' a s) : wpAny M A t Q' E s := wpAny_mono h hQ fun _ _ x => x
end L2
namespace L2
open PySem PySem.Spec PyProof.Rows
section
variable {X : Cx}
def tVar (i : Nat) : TE := fun σ H Q => ∃ v, σ[i]? = some (some v) /\ Q v H
def tC (v : V) : TE := fun _ H Q => Q v H
theorem pe_var {i : Nat} {x : Str} {pos : Pos} (hN : X.N[i]? = some x) (hv : Vis X.env.scope x) (hd : (x == ("__debug__" : Str)) = false := by decide) (hcd : (x == ("__classdict__" : Str)) = false := by decide) : PE X (.Name x pos) (tVar i) := by
  intro pins s σ H Q I h
  obtain ⟨v, e, h⟩ := h
  obtain ⟨m, hn, hl⟩ := I.loc
  obtain ⟨u, r, l⟩ := hl i x v hN e hv
  have fin : EP X pins σ Q u s := ⟨v, H, I, r, h⟩
  rcases l with ⟨hk, hm⟩ | ⟨hk, c, hc, hcell⟩
  . exact wpAny_Name (wpAny_loadName_local I.ok.kind hk hn hm fin) hd
  . rcases hk with hk | hk
    . exact wpAny_Name (wpAny_loadName_cell I.ok.kind hk hc hcell fin) hd
    . exact wpAny_Name (wpAny_loadName_free I.ok.kind hk hc hcell fin hcd) hd
theorem pe_int {i j pos} : PE X (.Constant (.int i) j pos) (tC (.int i)) := fun _ _ _ H _ I h => wpAny_Constant_int ⟨.int i, H, I.tok _, ⟨_, rfl⟩, h⟩
theorem pe_bl {b j pos} : PE X (.Constant (.bool b) j pos) (tC (.bl b)) := fun _ _ _ H _ I h => Constant_bool ⟨.bl b, H, I, rfl, h⟩
theorem pe_str {x j pos} : PE X (.Constant (.str x) j pos) (tC (.str x)) := fun _ _ _ H _ I h => Calls.Constant_str ⟨.str x, H, I.tok _, ⟨_, rfl⟩, h⟩
def Gl (X : Cx) (x : Str) : Prop := X.env.kindOf x = some .globalImplicit
theorem ld_glob {E : Value -> Shared -> Prop} {pins : List (Addr × Obj)} {s : Shared} {σ : St} {H : Hp} {x : Str} {u : Value} {pos : Pos} {Q : Value -> Shared -> Prop} (I : Inv X pins σ H s) (hg : Gl X x) (hm : X.mg x = some u) (h : Q u s)
    (hd : (x == ("__debug__" : Str)) = false := by decide) : wpAny (model X.prog X.w) X.A (eval (.Name x pos) X.env) Q E s :=
  Calls.Name_function_global I.ok.kind hg (Calls.loadGlobal_global (by rw [I.ok.glob]; exact I.mod.glob.keeps I.bk) hm h) hd
theorem ld_blt {E : Value -> Shared -> Prop} {pins : List (Addr × Obj)} {s : Shared} {σ : St} {H : Hp} {x : Str} {u : Value} {pos : Pos} {Q : Value -> Shared -> Prop} (I : Inv X pins σ H s) (hg : Gl X x) (hm : X.mg x = none) (hv : bootBuiltins x = some u) (h : Q u s)
    (hn : x ≠ "__name__" := by decide) (hd : (x == ("__debug__" : Str)) = false := by decide) : wpAny (model X.prog X.w) X.A (eval (.Name x pos) X.env) Q E s := by
  obtain ⟨mb, h1, h2⟩ := I.mod.blt
  exact Calls.Name_function_global I.ok.kind hg (Calls.loadGlobal_builtin (by rw [I.ok.glob]; exact I.mod.glob.keeps I.bk) hm (by rw [I.ok.blt]; exact h1.keeps I.bk) ((h2 x hn).trans hv) h) hd
theorem pe_glob {x : Str} {v : V} {u : Value} {pos : Pos} (hg : Gl X x) (hm : X.mg x = some u) (r : RelV v u) (hd : (x == ("__debug__" : Str)) = false := by decide) : PE X (.Name x pos) (tC v) :=
  fun _ _ _ H _ I h => ld_glob I hg hm ⟨v, H, I, r, h⟩ hd
theorem pe_bltn {x : Str} {v : V} {u : Value} {pos : Pos} (hg : Gl X x) (hm : X.mg x = none) (hv : bootBuiltins x = some u) (r : RelV v u) (hn : x ≠ "__name__" := by decide) (hd : (x == ("__debug__" : Str)) = false := by decide) : PE X (.Name x pos) (tC v) :=
  fun _ _ _ H _ I h => ld_blt I hg hm hv ⟨v, H, I, r, h⟩ hn hd
variable {a b : Expr} {ta tb : TE} {pos : Pos}
def tB (t : TE) : TT := fun σ H Q => t σ H fun x H1 => ∃ c, x = .bl c /\ Q c H1
theorem pt_val {e : Expr} {t : TE} (h : PE X e t) (he : ∀ whole, isTrue e X.env whole = (do let v <- whole; standAt e.pos; holding [v] (truthy v)) := by intro _; rfl) : PT X e (tB t) := by
  intro pins s σ H Q I hw
  refine isTrue_plain (thn (h pins s σ H _ I hw) fun v s1 ⟨x, H1, I1, r1, q1⟩ => ?_) (he _)
  obtain ⟨d, rfl, q⟩ := q1
  cases r1
  exact wpAny_truthy_bool ⟨H1, I1, q⟩
variable {tA tB' : TT} {rest : List Expr}
def tOr (t u : TT) : TT := fun σ H Q => t σ H fun c H1 => if c = true then Q true H1 else u σ H1 Q
def tNot (t : TT) : TT := fun σ H Q => t σ H fun c H1 => Q (!c) H1
theorem pw_or1 (ha : PT X a tA) : PW X (.BoolOp .Or [a] pos) tA := by
  intro wh pins s σ H Q I h
  refine isTrue_or (thn (ha pins s σ H Q I h) fun c s1 e => ?_)
  cases c with
  | false => exact isTrue_or_nil e
  | true => exact e
theorem pw_or (ha : PT X a tA) (hb : PW X (.BoolOp .Or (b :: rest) pos) tB') : PW X (.BoolOp .Or (a :: b :: rest) pos) (tOr tA tB') := by
  intro wh pins s σ H Q I h
  refine isTrue_or (thn (ha pins s σ H _ I h) fun c s1 ⟨H1, I1, q1⟩ => ?_)
  cases c with
  | true => exact ⟨H1, I1, q1⟩
  | false => exact hb wh pins s1 σ H1 Q I1 q1
theorem pt_not (ha : PT X a tA) : PT X (.UnaryOp .Not a pos) (tNot tA) := by
  intro pins s σ H Q I h
  exact isTrue_not (ha pins s σ H (fun c H1 => Q (!c) H1) I h)
def tAndV (ta tb : TE) : TE := fun σ H Q => ta σ H fun x H1 => ∃ c, x = .bl c /\ if c = true then tb σ H1 Q else Q (.bl false) H1
def tNotV (ta : TE) : TE := fun σ H Q => ta σ H fun x H1 => ∃ c, x = .bl c /\ Q (.bl (!c)) H1
theorem pe_one {op} {t : TE} (h : PE X a t) : PE X (.BoolOp op [a] pos) t := fun pins s σ H Q I hw => BoolOp_one (h pins s σ H Q I hw)
theorem pe_and (ha : PE X a ta) (hb : PE X (.BoolOp .And (b :: rest) pos) tb) : PE X (.BoolOp .And (a :: b :: rest) pos) (tAndV ta tb) := by
  intro pins s σ H Q I h
  refine BoolOp_and (thn (ha pins s σ H _ I h) fun v s1 ⟨x, H1, I1, r1, q1⟩ => ?_)
  obtain ⟨c, rfl, q1⟩ := q1
  cases r1
  refine wpAny_truthy_bool ?_
  cases c with
  | true => exact hb pins s1 σ H1 Q I1 q1
  | false => exact ⟨.bl false, H1, I1, rfl, q1⟩
theorem pe_not (ha : PE X a ta) : PE X (.UnaryOp .Not a pos) (tNotV ta) := by
  intro pins s σ H Q I h
  refine UnaryOp_ (thn (ha pins s σ H _ I h) fun v s1 ⟨x, H1, I1, r1, q1⟩ => ?_)
  obtain ⟨c, rfl, q1⟩ := q1
  cases r1
  exact not_of (wpAny_truthy_bool ⟨.bl (!c), H1, I1, rfl, q1⟩)
end
end L2
namespace L2
open PySem PySem.Spec PyProof.Rows
def SqL (K : PySem.W.Frag) (H : Hp) (a : Addr) (xs : List V) : Prop :=
  Rd H a (.lst xs) \/
    ∃ (o : Obj) (its : Array Value) (n : Nat), K.lookup a = some o /\ o.cls = .type "list" /\ o.dict = none /\ o.data = .seq its n /\ its.size <= sizeLine /\ Vals xs its.toList
def SqT (K : PySem.W.Frag) (H : Hp) (a : Addr) (xs : List V) : Prop :=
  Rd H a (.tup xs) \/
    ∃ (o : Obj) (its : Array Value) (n : Nat), K.lookup a = some o /\ o.cls = .type "tuple" /\ o.data = .seq its n /\ its.size <= sizeLine /\ Vals xs its.toList
def absV : Value -> Option V
  | .none => some .non
  | .bool b => some (.bl b)
  | .int i _ => some (.int i)
  | .str x _ => some (.str x)
  | .bytes b _ => some (.byt b)
  | .float b _ => some (.flt b)
  | .ref a => some (.ref a)
  | .type n => some (.ty n)
  | _ => none
theorem RelV.abs {x : V} {u : Value} (r : RelV x u) : absV u = some x := by
  cases x with
  | non => cases r; rfl
  | bl _ => cases r; rfl
  | int _ => obtain ⟨t, rfl⟩ := r; rfl
  | str _ => obtain ⟨t, rfl⟩ := r; rfl
  | byt _ => obtain ⟨t, rfl⟩ := r; rfl
  | flt _ => obtain ⟨t, rfl⟩ := r; rfl
  | ref _ => cases r; rfl
  | ty _ => cases r; rfl
theorem RelV.inj {x y : V} {u : Value} (r : RelV x u) (q : RelV y u) : x = y := Option.some.inj (r.abs.symm.trans q.abs)
theorem Vals.inj : ∀ {xs ys : List V} {us : List Value}, Vals xs us -> Vals ys us -> xs = ys
  | _, _, _, .nil, .nil => rfl
  | _, _, _, .cons r t, .cons r' t' => by rw [r.inj r', Vals.inj t t']
section
variable {X : Cx} {pins : List (Addr × Obj)} {σ : St} {H : Hp} {s : Shared} {a : Addr} {xs ys : List V}
theorem SqL.of {K : PySem.W.Frag} (h : H a = some (.lst xs)) : SqL K H a xs := .inl (.inl h)
theorem SqT.of {K : PySem.W.Frag} (h : H a = some (.tup xs)) : SqT K H a xs := .inl (.inl h)
theorem Inv.list (I : Inv X pins σ H s) (h : SqL X.K H a xs) : ∃ its : List Value, Vals xs its /\ PlainL s.heap a its.toArray /\ xs.length <= sizeLine := by
  rcases h with h | ⟨o, its, n, hk, hc, hd, hs, hz, r⟩
  . obtain ⟨z, its, n, r, e⟩ := h.ok I.hok
    exact ⟨its, r, ⟨_, n, e, rfl, rfl, rfl⟩, z⟩
  . refine ⟨its.toList, r, ⟨o, n, I.kIn a o hk, hc, hd, by simpa using hs⟩, ?_⟩
    have e := r.length
    simp only [Array.length_toList] at e
    omega
theorem Inv.tuple (I : Inv X pins σ H s) (h : SqT X.K H a xs) : ∃ its : List Value, Vals xs its /\ IsTup s.heap a its.toArray /\ xs.length <= sizeLine := by
  rcases h with h | ⟨o, its, n, hk, hc, hs, hz, r⟩
  . obtain ⟨z, its, r, p⟩ := h.ok I.hok
    exact ⟨its, r, p, z⟩
  . refine ⟨its.toList, r, ⟨o, I.kIn a o hk, hc, n, by simpa using hs⟩, ?_⟩
    have e := r.length
    simp only [Array.length_toList] at e
    omega
theorem Inv.list_inj (I : Inv X pins σ H s) (h : SqL X.K H a xs) (h' : SqL X.K H a ys) : xs = ys := by
  obtain ⟨its, r, ⟨o, n, e, _, _, d⟩, _⟩ := I.list h
  obtain ⟨its', r', ⟨o', n', e', _, _, d'⟩, _⟩ := I.list h'
  rw [e] at e'; cases e'
  rw [d] at d'
  injection d' with d1 _
  have : its = its' := by simpa using congrArg Array.toList d1
  subst this
  exact r.inj r'
theorem Inv.tuple_inj (I : Inv X pins σ H s) (h : SqT X.K H a xs) (h' : SqT X.K H a ys) : xs = ys := by
  obtain ⟨its, r, ⟨o, e, _, n, d⟩, _⟩ := I.tuple h
  obtain ⟨its', r', ⟨o', e', _, n', d'⟩, _⟩ := I.tuple h'
  rw [e] at e'; cases e'
  rw [d] at d'
  injection d' with d1 _
  have : its = its' := by simpa using congrArg Array.toList d1
  subst this
  exact r.inj r'
end
abbrev Cx.wish (X : Cx) (E : Value -> Shared -> Prop) : Cx := { X with xe := E }
abbrev Cx.nox (X : Cx) : Cx := X.wish fun _ _ => False
theorem Cx.Ok.wish {X : Cx} (ok : X.Ok) (E : Value -> Shared -> Prop) : (X.wish E).Ok :=
  ⟨ok.mod, ok.kind, ok.glob, ok.blt, ok.above, ok.inj, ok.has, ok.cab, ok.hd, ok.frames, ok.stk, ok.exf, ok.bs, ok.bsz, ok.noex, ok.exfs, ok.funs, ok.frf⟩
theorem Cx.Ok.unwish {X : Cx} {E : Value -> Shared -> Prop} (ok : (X.wish E).Ok) : X.Ok :=
  ⟨ok.mod, ok.kind, ok.glob, ok.blt, ok.above, ok.inj, ok.has, ok.cab, ok.hd, ok.frames, ok.stk, ok.exf, ok.bs, ok.bsz, ok.noex, ok.exfs, ok.funs, ok.frf⟩
section
variable {X : Cx} {pins : List (Addr × Obj)} {σ : St} {H : Hp} {s : Shared} {E : Value -> Shared -> Prop}
theorem Inv.wish (I : Inv X pins σ H s) (E : Value -> Shared -> Prop) : Inv (X.wish E) pins σ H s := ⟨I.ok.wish E, I.os, I.bare, I.base, I.loc, I.cell, I.free, I.freeC, I.pin, I.hok, I.len⟩
theorem Inv.unwish (I : Inv (X.wish E) pins σ H s) : Inv X pins σ H s := ⟨I.ok.unwish, I.os, I.bare, I.base, I.loc, I.cell, I.free, I.freeC, I.pin, I.hok, I.len⟩
theorem SP.unwish {D : Ends} {f : Flow} {s' : Shared} (h : SP (X.wish E) pins D f s') : SP X pins D f s' := by
  cases f with
  | next => obtain ⟨σ', H', I, q⟩ := h; exact ⟨σ', H', I.unwish, q⟩
  | brk => obtain ⟨σ', H', I, q⟩ := h; exact ⟨σ', H', I.unwish, q⟩
  | cont => obtain ⟨σ', H', I, q⟩ := h; exact ⟨σ', H', I.unwish, q⟩
  | ret u => obtain ⟨v, σ', H', I, r, q⟩ := h; exact ⟨v, σ', H', I.unwish, r, q⟩
theorem PSs.nox {st : List Stmt} {t : TS} (h : PSs X.nox st t) : PSs X st t := fun pins s σ H D I hw =>
  wpAny_mono (h pins s σ H D (I.wish _) hw) (fun _ _ q => q.unwish) fun _ _ z => False.elim z
end
section
variable {X : Cx} {st : Stmt} {rest : List Stmt} {t u : TS} {e : Expr} {te : TE} {pos : Pos}
def tNext : TS := fun D σ H => D.nx σ H
def tSeq (t u : TS) : TS := fun D σ H => t { D with nx := u D } σ H
theorem pss_nil : PSs X [] tNext := fun _ _ σ H _ I h => wpAny_execs_nil ⟨σ, H, I, h⟩
theorem pss_cons (h1 : PS X st t) (h2 : PSs X rest u) : PSs X (st :: rest) (tSeq t u) := by
  intro pins s σ H D I h
  refine wpAny_execs_cons (thn (h1 pins s σ H { D with nx := u D } I h) fun f s1 q => ?_)
  cases f with
  | next =>
    obtain ⟨σ', H', I', q⟩ := q
    exact h2 pins s1 σ' H' D I' q
  | ret v => exact q
  | brk => exact q
  | cont => exact q
theorem pss_one (h1 : PS X st t) : PSs X [st] t := by
  intro pins s σ H D I h
  refine wpAny_execs_cons (thn (h1 pins s σ H D I h) fun f s1 q => ?_)
  cases f with
  | next => exact wpAny_execs_nil q
  | ret v => exact q
  | brk => exact q
  | cont => exact q
theorem Inv.quiet {pins : List (Addr × Obj)} {σ : St} {H : Hp} {s : Shared} (I : Inv X pins σ H s) : interactive X.env = false := by simp [interactive, I.ok.kind]
def tDrop (te : TE) : TS := fun D σ H => te σ H fun _ H1 => D.nx σ H1
theorem ps_expr (he : PE X e te) (hs : swapsWith e none pos.line X.env = pure false := by rfl) : PS X (.Expr e pos) (tDrop te) := by
  intro pins s σ H D I h
  exact wpAny_Expr_any (thn (he pins s σ H _ I h) fun v s1 ⟨x, H1, I1, r1, q1⟩ => ⟨σ, H1, I1, q1⟩) I.quiet hs
def tRet (te : TE) : TS := fun D σ H => te σ H D.rt
theorem ps_ret (he : PE X e te) : PS X (.Return (some e) pos) (tRet te) := by
  intro pins s σ H D I h
  exact wpAny_Return_some (thn (he pins s σ H _ I h) fun v s1 ⟨x, H1, I1, r1, q1⟩ => ⟨x, σ, H1, I1, r1, q1⟩)
def tIfS (c : TT) (t u : TS) : TS := fun D σ H => c σ H fun b H1 => if b = true then t D σ H1 else u D σ H1
theorem ps_if {c : Expr} {a b : List Stmt} {tc : TT} (hc : PT X c tc) (ha : PSs X a t) (hb : PSs X b u) : PS X (.If c a b pos) (tIfS tc t u) := by
  intro pins s σ H D I h
  refine wpAny_If (thn (hc pins s σ H _ I h) fun d s1 ⟨H1, I1, q1⟩ => ?_)
  cases d with
  | true => exact ha pins s1 σ H1 D I1 q1
  | false => exact hb pins s1 σ H1 D I1 q1
end
abbrev TG := V -> St -> Hp -> (St -> Hp -> Prop) -> Prop
abbrev TGs := List V -> St -> Hp -> (St -> Hp -> Prop) -> Prop
def PG (X : Cx) (target : Expr) (t : TG) : Prop :=
  ∀ (pins : List (Addr × Obj)) (s : Shared) (σ : St) (H : Hp) (v : V) (u : Value) (Q : St -> Hp -> Prop), Inv X pins σ H s -> RelV v u -> t v σ H Q ->
    wpAny (model X.prog X.w) X.A (assign target X.env u) (fun _ s' => ∃ σ' H', Inv X pins σ' H' s' /\ Q σ' H') X.xe s
def PGs (X : Cx) (ts : List Expr) (t : TGs) : Prop :=
  ∀ (pins : List (Addr × Obj)) (s : Shared) (σ : St) (H : Hp) (vs : List V) (us : List Value) (Q : St -> Hp -> Prop), Inv X pins σ H s -> Vals vs us -> t vs σ H Q ->
    wpAny (model X.prog X.w) X.A (assignInOrder ((assignEach ts X.env).map (·.2)) us) (fun _ s' => ∃ σ' H', Inv X pins σ' H' s' /\ Q σ' H') X.xe s
section
variable {X : Cx} {pos : Pos}
def gName (i : Nat) : TG := fun v σ H Q => Q (σ.set i (some v)) H
theorem pg_name {i : Nat} {x : Str} (hN : X.N.Nodup) (hi : X.N[i]? = some x) (hx : Loc X.env.scope x) (hf : X.fn x = true \/ X.env.scope.names.lookup x = some .local := by first | exact .inl rfl | exact .inr rfl | assumption) : PG X (.Name x pos) (gName i) := by
  intro pins s σ H v u Q I r h
  exact wpAny_assign_Name (store_ok I hN hi hx r (fun s' I' => ⟨_, H, I', h⟩) hf)
def gNil : TGs := fun vs σ H Q => vs = [] /\ Q σ H
def gCons (t : TG) (u : TGs) : TGs := fun vs σ H Q => ∃ v r, vs = v :: r /\ t v σ H fun σ' H' => u r σ' H' Q
theorem pgs_nil : PGs X [] gNil := by
  intro pins s σ H vs us Q I r h
  obtain ⟨e, h⟩ := h
  subst e
  cases r
  exact assignInOrder_nil ⟨σ, H, I, h⟩
theorem pgs_cons {e : Expr} {es : List Expr} {t : TG} {u : TGs} (h1 : PG X e t) (h2 : PGs X es u)
    (hs : (assignEach (e :: es) X.env).map (·.2) = assign e X.env :: (assignEach es X.env).map (·.2) := by rfl) : PGs X (e :: es) (gCons t u) := by
  intro pins s σ H vs us Q I r h
  obtain ⟨v, vr, e1, h⟩ := h
  subst e1
  cases r with
  | cons r rr =>
    rw [hs]
    refine assignInOrder_cons (thn (h1 pins s σ H _ _ _ I r h) fun _ s1 ⟨σ1, H1, I1, q1⟩ => ?_)
    exact h2 pins s1 σ1 H1 _ _ Q I1 rr q1
def gTup (K : PySem.W.Frag) (n : Nat) (t : TGs) : TG := fun v σ H Q => ∃ a xs, v = .ref a /\ SqT K H a xs /\ xs.length = n /\ t xs σ H Q
theorem pg_tup {es : List Expr} {k : Nat} {t : TGs} {n : Nat} (hc : X.calm = true) (h : PGs X es t)
    (hn : (assignEach es X.env).length = n := by rfl) (hst : (assignEach es X.env).findIdx? (·.1) = none := by rfl) : PG X (.Tuple es k pos) (gTup X.K n t) := by
  intro pins s σ H v u Q I r hw
  obtain ⟨a, xs, e1, hq, hl, hw⟩ := hw
  subst e1
  cases r
  obtain ⟨its, rv, ht, hz⟩ := I.tuple hq
  refine assign_Tuple_tuple (I.ok.hd hc) ht (by simp [hn, <- hl, rv.length]) hst fun h' hx => ?_
  have I1 : Inv X pins σ H { s with heap := h' } := I.kept (t' := s.toks) fun b o e => hx b o (Nat.ne_of_lt (Heap.lt_size e)) e
  exact h pins _ σ H xs _ Q I1 (by simpa using rv) hw
def tAsg (te : TE) (g : TG) : TS := fun D σ H => te σ H fun x H1 => g x σ H1 D.nx
theorem ps_set {i : Nat} {x : Str} {e : Expr} {te : TE} {pos' : Pos} (hN : X.N.Nodup) (hi : X.N[i]? = some x) (hx : Loc X.env.scope x) (he : PE X e te) (hs : swapsWith e (some (.Name x pos')) pos.line X.env = pure false := by rfl) (hf : X.fn x = true \/ X.env.scope.names.lookup x = some .local := by first | exact .inl rfl | exact .inr rfl | assumption) :
    PS X (.Assign [.Name x pos'] e pos) (tAsg te (gName i)) := by
  intro pins s σ H D I h
  refine wpAny_Assign_Name (thn (he pins s σ H _ I h) fun v s1 ⟨y, H1, I1, r1, q1⟩ => ?_) hs
  exact store_ok I1 hN hi hx r1 (fun s2 I2 => ⟨_, H1, I2, q1⟩) hf
end
section
variable {X : Cx} {pos : Pos}
def tWhile (c : TT) (tb : TS) : TS := fun D σ H => ∃ W : Nat -> St -> Hp -> Prop, (∃ m, W m σ H) /\ ∀ m σ H, W m σ H ->
  c σ H fun b H1 => if b = true then ∃ N : St -> Hp -> Prop, (∀ σ' H', N σ' H' -> ∃ m', m' < m /\ W m' σ' H') /\ tb { D with nx := N, ct := N, bk := D.nx } σ H1 else D.nx σ H1
theorem ps_while {c : Expr} {body : List Stmt} {tc : TT} {tb : TS} (hp : PassesOwn (model X.prog X.w) X.A X.env X.xe) (hc : PT X c tc) (hb : PSs X body tb) : PS X (.While c body [] pos) (tWhile tc tb) := by
  intro pins s σ H D I h
  obtain ⟨W, ⟨m0, w0⟩, turn⟩ := h
  refine wpAny_While (codeAny_whileLoop (fun n s' => ∃ σ' H', Inv X pins σ' H' s' /\ W n σ' H') ?_ m0 ⟨σ, H, I, w0⟩)
  rintro n s1 ⟨σ1, H1, I1, w1⟩
  refine wpAny_passesOwn hp (thn (hc pins s1 σ1 H1 _ I1 (turn n σ1 H1 w1)) fun b s2 ⟨H2, I2, q2⟩ => ?_)
  cases b with
  | true =>
    obtain ⟨N, hN, q2⟩ := q2
    rw [if_pos rfl]
    refine wpAny_passesOwn hp (thn (hb pins s2 σ1 H2 _ I2 q2) fun f s3 q3 => ?_)
    cases f with
    | next =>
      obtain ⟨σ3, H3, I3, n3⟩ := q3
      obtain ⟨m', hm, w3⟩ := hN σ3 H3 n3
      exact ⟨m', hm, σ3, H3, I3, w3⟩
    | cont =>
      obtain ⟨σ3, H3, I3, n3⟩ := q3
      obtain ⟨m', hm, w3⟩ := hN σ3 H3 n3
      exact ⟨m', hm, σ3, H3, I3, w3⟩
    | brk => exact q3
    | ret v => exact q3
  | false =>
    rw [if_neg Bool.false_ne_true]
    exact wpAny_execs_nil ⟨σ1, H2, I2, q2⟩
end
structure It where
  go : Nat -> Hp -> Prop
  yld : Nat -> Hp -> V -> Hp -> Prop
  stop : Nat -> Hp -> Prop
def FpOk (X : Cx) (pins : List (Addr × Obj)) (H : Hp) (b : Addr) : Prop :=
  H b = none /\ b ≠ X.env.locals /\ b ∉ X.fs /\ (b ∈ X.ex \/ X.s₀.heap.objs.size <= b) /\ (∀ x c, X.env.cells.lookup x = some c -> c ≠ b) /\ ∀ p ∈ X.pn ++ pins, p.1 ≠ b
theorem Inv.fpOk {X : Cx} {pins : List (Addr × Obj)} {σ : St} {H H' : Hp} {s : Shared} {b : Addr} (I : Inv X pins σ H s) (hb : s.heap.objs.size <= b) (hn : H' b = none) : FpOk X pins H' b := by
  refine ⟨hn, Nat.ne_of_gt (Nat.lt_of_lt_of_le I.lt hb), I.nofs hb, .inr (Nat.le_trans I.sz hb), fun x c e z => ?_, fun p hp z => ?_⟩
  . obtain ⟨v, q⟩ := I.cell x c e
    exact absurd (Nat.lt_of_lt_of_le q.lt (by rw [z]; exact hb)) (Nat.lt_irrefl _)
  . exact absurd (Nat.lt_of_lt_of_le (Heap.lt_size (I.pin p hp).1) (by rw [z]; exact hb)) (Nat.lt_irrefl _)
structure Turn (P : Program) (w : World) (K : PySem.W.Frag) (tg : Expr) (J : It) (fp : List Addr) (it : Addr) (tn : Nat -> Heap -> Prop) : Prop where
  mem : it ∈ fp
  obj : ∀ i h, tn i h -> ∀ b ∈ fp, ∃ o, h.get? b = some o /\ ∀ v, o.data ≠ .cell v
  keep : ∀ i h h', tn i h -> (∀ b ∈ fp, ∀ o, h.get? b = some o -> h'.get? b = some o) -> tn i h'
  item : ∀ (X : Cx), X.prog = P -> X.w = w -> X.K = K -> X.calm = true -> ∀ (i : Nat) (pins : List (Addr × Obj)) (s : Shared) (σ : St) (H : Hp) (E : Value -> Shared -> Prop), Inv X pins σ H s -> (∀ b ∈ fp, FpOk X pins H b) -> tn i s.heap -> J.go i H ->
    wpAny (model P w) X.A (pyNext (.ref it)) (fun r s1 => ∃ u, r = some u /\
      wpAny (model P w) X.A (letOwnedTupleGo tg (.ref it) u) (fun _ s2 => ∃ x H', Inv X pins σ H' s2 /\ RelV x u /\ J.yld i H x H' /\ tn (i + 1) s2.heap /\ ∀ b ∈ fp, H' b = none) E s1) E s
  done : ∀ (X : Cx), X.prog = P -> X.w = w -> X.K = K -> X.calm = true -> ∀ (i : Nat) (pins : List (Addr × Obj)) (s : Shared) (σ : St) (H : Hp) (E : Value -> Shared -> Prop), Inv X pins σ H s -> (∀ b ∈ fp, FpOk X pins H b) -> tn i s.heap -> J.stop i H ->
    wpAny (model P w) X.A (pyNext (.ref it)) (fun r s1 => r = none /\ Inv X pins σ H s1) E s
  self : ∀ (A : Around) (i : Nat) (s : Shared) (Q : Value -> Shared -> Prop) (E : Value -> Shared -> Prop), tn i s.heap -> Q (.ref it) s -> wpAny (model P w) A (pyIter (.ref it)) Q E s
abbrev TI := St -> Hp -> (It -> Hp -> Prop) -> Prop
def PIE (X : Cx) (pins : List (Addr × Obj)) (σ : St) (tg : Expr) (R : It -> Hp -> Prop) (itv : Value) (s2 : Shared) : Prop :=
  ∃ (it : Addr) (fp : List Addr) (tn : Nat -> Heap -> Prop) (J : It) (H' : Hp), itv = .ref it /\ Inv X pins σ H' s2 /\ Turn X.prog X.w X.K tg J fp it tn /\ tn 0 s2.heap /\ (∀ b ∈ fp, FpOk X pins H' b) /\ R J H'
def PI (X : Cx) (tg iter : Expr) (wi : TI) : Prop :=
  ∀ (pins : List (Addr × Obj)) (s : Shared) (σ : St) (H : Hp) (R : It -> Hp -> Prop), Inv X pins σ H s -> wi σ H R ->
    wpAny (model X.prog X.w) X.A (eval iter X.env) (fun v s1 => wpAny (model X.prog X.w) X.A (pyIter v) (PIE X pins σ tg R) X.xe s1) X.xe s
theorem go_of {M : Model} {A : Around} {E : Value -> Shared -> Prop} {s : Shared} {tg : Expr} {it : Addr} {u : Value} {o : Obj} {n : String} {vs : Array Value} {Q : Unit -> Shared -> Prop} (ho : s.heap.get? it = some o) (hc : o.cls = .type n) (hd : o.data = .fields vs)
    (hn : ["enumerate", "zip", "dict_itemiterator", "dict_reverseitemiterator", "odict_iterator", "itertools.zip_longest", "itertools.pairwise"].contains n = false) (hQ : Q () s) : wpAny M A (letOwnedTupleGo tg (.ref it) u) Q E s := by
  unfold letOwnedTupleGo
  cases tg <;> first
    | exact wpAny_pure hQ
    | (cases u <;> first
        | exact wpAny_pure hQ
        | (refine wpAny_bind (wpAny_load ho ?_)
           rw [hc, hd]
           show wpAny M A (if (["enumerate", "zip", "dict_itemiterator", "dict_reverseitemiterator", "odict_iterator", "itertools.zip_longest", "itertools.pairwise"].contains n && vs[0]? == some (rawInt _)) = true then _ else _) Q E s
           rw [if_neg (by intro h; rw [hn, Bool.false_and] at h; cases h)]
           exact wpAny_pure hQ))
def Itl (K : PySem.W.Frag) (a : Addr) : It :=
  ⟨fun i H => ∃ xs x, SqL K H a xs /\ xs[i]? = some x, fun i H x H' => H' = H /\ ∀ xs, SqL K H a xs -> xs[i]? = some x, fun i H => ∃ xs, SqL K H a xs /\ xs.length <= i⟩
def Itt (K : PySem.W.Frag) (a : Addr) : It :=
  ⟨fun i H => ∃ xs x, SqT K H a xs /\ xs[i]? = some x, fun i H x H' => H' = H /\ ∀ xs, SqT K H a xs -> xs[i]? = some x, fun i H => ∃ xs, SqT K H a xs /\ xs.length <= i⟩
def Itr (lo : Int) (n : Nat) : It := ⟨fun i _ => i < n, fun i H x H' => H' = H /\ x = .int (lo + i), fun i _ => n <= i⟩
theorem turn_list {P : Program} {w : World} {K : PySem.W.Frag} {tg : Expr} (a it : Addr) : Turn P w K tg (Itl K a) [it] it (fun i h => h.IsListIter it a i) where
  mem := by simp
  obj := fun i h st b hb => by
    have e : b = it := by simpa using hb
    subst e
    obtain ⟨o, e, c, d⟩ := st
    exact ⟨o, e, fun v z => by rw [d] at z; cases z⟩
  keep := fun i h h' st k => st.at fun o e => k it (by simp) o e
  item := by
    intro X hP hw hK hc i pins s σ H E I hf st hg
    subst hP hw hK
    obtain ⟨xs, x, hq, hx⟩ := hg
    obtain ⟨its, rv, p, hz⟩ := I.list hq
    obtain ⟨u, hu, ru⟩ := rv.get hx
    obtain ⟨f0, f1, f2, f3, f4, f5⟩ := hf it (by simp)
    refine wpAny_pyNext_list_item st p.isList (x := u) (by simpa using hu) fun h' st' sb => ?_
    have I1 : Inv X pins σ H { s with heap := h' } := I.turned (t' := s.toks) (fun b o hb e => (sb.2 b hb).trans e) f0 f1 f3 f4 f5
    obtain ⟨o, e, c, d⟩ := id st'
    exact ⟨u, rfl, go_of (s := { s with heap := h' }) e c d (by decide) ⟨x, H, I1, ru, ⟨rfl, fun ys hy => by rw [I.list_inj hy hq]; exact hx⟩, st', fun b hb => (hf b hb).1⟩⟩
  done := by
    intro X hP hw hK hc i pins s σ H E I hf st hg
    subst hP hw hK
    obtain ⟨xs, hq, hx⟩ := hg
    obtain ⟨its, rv, p, hz⟩ := I.list hq
    obtain ⟨f0, f1, f2, f3, f4, f5⟩ := hf it (by simp)
    have hl := rv.length
    exact wpAny_pyNext_list_end (I.ok.hd hc) st p.isList (by simp; omega) fun h' eb => ⟨rfl, I.turned (t' := s.toks) (fun b o hb e => eb b o hb e) f0 f1 f3 f4 f5⟩
  self := fun _ _ _ _ _ st h => wpAny_pyIter_listiter st h
theorem turn_tuple {P : Program} {w : World} {K : PySem.W.Frag} {tg : Expr} (a it : Addr) : Turn P w K tg (Itt K a) [it] it (fun i h => h.IsTupleIter it a i) where
  mem := by simp
  obj := fun i h st b hb => by
    have e : b = it := by simpa using hb
    subst e
    obtain ⟨o, e, c, d⟩ := st
    exact ⟨o, e, fun v z => by rw [d] at z; cases z⟩
  keep := fun i h h' st k => st.at fun o e => k it (by simp) o e
  item := by
    intro X hP hw hK hc i pins s σ H E I hf st hg
    subst hP hw hK
    obtain ⟨xs, x, hq, hx⟩ := hg
    obtain ⟨its, rv, p, hz⟩ := I.tuple hq
    obtain ⟨u, hu, ru⟩ := rv.get hx
    obtain ⟨f0, f1, f2, f3, f4, f5⟩ := hf it (by simp)
    refine wpAny_pyNext_tuple_item st (show s.heap.IsTuple a its.toArray from p) (x := u) (by simpa using hu) fun h' st' sb => ?_
    have I1 : Inv X pins σ H { s with heap := h' } := I.turned (t' := s.toks) (fun b o hb e => (sb.2 b hb).trans e) f0 f1 f3 f4 f5
    obtain ⟨o, e, c, d⟩ := id st'
    exact ⟨u, rfl, go_of (s := { s with heap := h' }) e c d (by decide) ⟨x, H, I1, ru, ⟨rfl, fun ys hy => by rw [I.tuple_inj hy hq]; exact hx⟩, st', fun b hb => (hf b hb).1⟩⟩
  done := by
    intro X hP hw hK hc i pins s σ H E I hf st hg
    subst hP hw hK
    obtain ⟨xs, hq, hx⟩ := hg
    obtain ⟨its, rv, p, hz⟩ := I.tuple hq
    obtain ⟨f0, f1, f2, f3, f4, f5⟩ := hf it (by simp)
    have hl := rv.length
    exact wpAny_pyNext_tuple_end (I.ok.hd hc) st (show s.heap.IsTuple a its.toArray from p) (by simp; omega) fun h' eb => ⟨rfl, I.turned (t' := s.toks) (fun b o hb e => eb b o hb e) f0 f1 f3 f4 f5⟩
  self := fun _ _ _ _ _ st h => wpAny_pyIter_tupleiter st h
theorem turn_range {P : Program} {w : World} {K : PySem.W.Frag} {tg : Expr} (it : Addr) (lo : Int) (n : Nat) : Turn P w K tg (Itr lo n) [it] it (fun i h => IsRangeIter h it (lo + (i : Nat) * 1) ((n : Int) - (i : Nat)) 1) where
  mem := by simp
  obj := fun i h st b hb => by
    have e : b = it := by simpa using hb
    subst e
    exact ⟨_, st, fun v z => by
      have z' : Data.fields _ = Data.cell v := z
      cases z'⟩
  keep := fun i h h' st k => k it (by simp) _ st
  item := by
    intro X hP hw hK hc i pins s σ H E I hf st hg
    subst hP hw hK
    obtain ⟨f0, f1, f2, f3, f4, f5⟩ := hf it (by simp)
    have W := Walks.range (prog := X.prog) (w := X.w) (I.ok.hd hc) it lo 1 n
    refine W.item i s _ _ hg st fun v h' tk hv st' kk => ?_
    obtain ⟨t, rfl⟩ := hv
    have I1 : Inv X pins σ H { s with heap := h', toks := tk } := I.turned (fun b o hb e => kk b o (by simpa using hb) e) f0 f1 f3 f4 f5
    refine ⟨_, rfl, go_of (s := { s with heap := h', toks := tk }) (n := "range_iterator") st' rfl rfl (by decide) ⟨.int (lo + i), H, I1, ⟨t, ?_⟩, ⟨rfl, rfl⟩, st', fun b hb => (hf b hb).1⟩⟩
    rw [Int.mul_one]
  done := by
    intro X hP hw hK hc i pins s σ H E I hf st hg
    subst hP hw hK
    obtain ⟨f0, f1, f2, f3, f4, f5⟩ := hf it (by simp)
    exact wpAny_pyNext_range_end (I.ok.hd hc) st (by have : n <= i := hg; omega) fun h' eb => ⟨rfl, I.turned (t' := s.toks) (fun b o hb e => eb b o hb e) f0 f1 f3 f4 f5⟩
  self := fun _ _ _ _ _ st h => wpAny_pyIter_rangeiter st h
end L2
namespace L2
open PySem PySem.Spec PyProof.Rows
section
variable {X : Cx} {tg : Expr}
def iTup (K : PySem.W.Frag) (tl : TE) : TI := fun σ H R => tl σ H fun x H1 => ∃ a, x = .ref a /\ (∃ xs, SqT K H1 a xs) /\ R (Itt K a) H1
theorem pi_tup {l : Expr} {tl : TE} (hl : PE X l tl) : PI X tg l (iTup X.K tl) := by
  intro pins s σ H R I h
  refine thn (hl pins s σ H _ I h) fun v s1 ⟨x, H1, I1, r1, q1⟩ => ?_
  obtain ⟨a, e, ⟨xs, hq⟩, q⟩ := q1
  subst e
  cases r1
  obtain ⟨its, rv, p, hz⟩ := I1.tuple hq
  refine wpAny_pyIter_tuple (show s1.heap.IsTuple a its.toArray from p) ?_
  refine ⟨s1.heap.objs.size, [s1.heap.objs.size], _, _, H1, rfl, I1.kept (t' := s1.toks) fun b o e => Heap.get?_push_of_some _ e, turn_tuple a _, ⟨_, Heap.get?_push_size _ rfl, rfl, rfl⟩, fun b hb => ?_, q⟩
  have e : b = s1.heap.objs.size := by simpa using hb
  subst e
  exact I1.fpOk (Nat.le_refl _) (I1.hok.fresh (Nat.le_refl _))
theorem range_it {pins : List (Addr × Obj)} {σ : St} {H : Hp} {s : Shared} {R : It -> Hp -> Prop} {E : Value -> Shared -> Prop} {lo hi : Int} {t u v : Tok} {tk : Nat} (I : Inv X pins σ H s) (h1 : -(2 ^ 62) <= lo) (h2 : lo < 2 ^ 62) (h3 : -(2 ^ 62) <= hi) (h4 : hi < 2 ^ 62)
    (q : R (Itr lo (hi - lo).toNat) H) : wpAny (model X.prog X.w) X.A (pyIter (.ref s.heap.objs.size)) (PIE X pins σ tg R) E { s with heap := s.heap.push { cls := .type "range", data := .fields #[.int lo t, .int hi u, .int 1 v] }, toks := tk } := by
  refine wpAny_pyIter_range (IsRange.new ..) (small_one h1 h2 h3 h4) ?_
  have I1 : Inv X pins σ H { s with heap := s.heap.push { cls := .type "range", data := .fields #[.int lo t, .int hi u, .int 1 v] }, toks := tk } := I.kept fun b o e => Heap.get?_push_of_some _ e
  refine ⟨(s.heap.push { cls := .type "range", data := .fields #[.int lo t, .int hi u, .int 1 v] }).objs.size, [(s.heap.push { cls := .type "range", data := .fields #[.int lo t, .int hi u, .int 1 v] }).objs.size], _, _, H, rfl,
    I1.kept (t' := tk) fun b o e => Heap.get?_push_of_some _ e, turn_range _ lo (hi - lo).toNat, ?_, fun b hb => ?_, q⟩
  . have e1 : lo + ((0 : Nat) : Int) * 1 = lo := by simp
    have e2 : (((hi - lo).toNat : Nat) : Int) - ((0 : Nat) : Int) = Builtin.Range.rangeSize lo hi 1 := by rw [rangeSize_one]; split <;> omega
    show IsRangeIter _ _ (lo + ((0 : Nat) : Int) * 1) ((((hi - lo).toNat : Nat) : Int) - ((0 : Nat) : Int)) 1
    rw [e1, e2]
    exact Heap.get?_push_size _ rfl
  . have e : b = (s.heap.push { cls := .type "range", data := .fields #[.int lo t, .int hi u, .int 1 v] }).objs.size := by simpa using hb
    subst e
    exact I1.fpOk (Nat.le_refl _) (I1.hok.fresh (Nat.le_refl _))
def iRng1 (ta : TA) : TI := fun σ H R => ta σ H fun vs H1 => ∃ j : Int, vs = [.int j] /\ -(2 ^ 62) <= j /\ j < 2 ^ 62 /\ R (Itr 0 j.toNat) H1
def iRng2 (ta : TA) : TI := fun σ H R => ta σ H fun vs H1 => ∃ i j : Int, vs = [.int i, .int j] /\ (-(2 ^ 62) <= i /\ i < 2 ^ 62 /\ -(2 ^ 62) <= j /\ j < 2 ^ 62) /\ R (Itr i (j - i).toNat) H1
theorem pi_range1 {a : Expr} {ta : TA} {p pos : Pos} (hg : Gl X "range") (hm : X.mg "range" = none) (ha : PA X [a] ta) (hs : starEach [a] X.env = [(false, eval a X.env)] := by rfl) : PI X tg (.Call (.Name "range" p) [a] [] pos) (iRng1 ta) := by
  intro pins s σ H R I h
  refine Call_ (ld_blt I hg hm boot_range (PyProof.Rows.callWith_type1 (thn (ha pos pins s σ H _ I h) fun us s1 ⟨vs, H1, I1, r1, q1⟩ => ?_) hs rfl))
  obtain ⟨j, e, q1, q2, q⟩ := q1
  subst e
  cases r1 with
  | cons r rr =>
    cases rr
    obtain ⟨t, rfl⟩ := r
    exact call_range_1 (range_it I1 (by omega) (by omega) q1 q2 (by simpa using q))
theorem pi_range2 {a b : Expr} {ta : TA} {p pos : Pos} (hg : Gl X "range") (hm : X.mg "range" = none) (ha : PA X [a, b] ta) (hs : starEach [a, b] X.env = [(false, eval a X.env), (false, eval b X.env)] := by rfl) (hs2 : starEach [b] X.env = [(false, eval b X.env)] := by rfl) :
    PI X tg (.Call (.Name "range" p) [a, b] [] pos) (iRng2 ta) := by
  intro pins s σ H R I h
  refine Call_ (ld_blt I hg hm boot_range (PyProof.Rows.callWith_type1 (thn (ha pos pins s σ H _ I h) fun us s1 ⟨vs, H1, I1, r1, q1⟩ => ?_) (by rw [hs, hs2]) (by rw [hs2]; rfl)))
  obtain ⟨i, j, e, ⟨q1, q2, q3, q4⟩, q⟩ := q1
  subst e
  cases r1 with
  | cons r rr =>
    cases rr with
    | cons r' rr =>
      cases rr
      obtain ⟨t, rfl⟩ := r
      obtain ⟨t', rfl⟩ := r'
      exact call_range_2 (range_it I1 q1 q2 q3 q4 q)
def tFor (wi : TI) (g : TG) (tb : TS) : TS := fun D σ H => wi σ H fun J H1 => ∃ W : Nat -> Nat -> St -> Hp -> Prop, (∃ m, W 0 m σ H1) /\ ∀ i m σ H, W i m σ H ->
  (J.stop i H /\ D.nx σ H) \/ (J.go i H /\ ∃ N : St -> Hp -> Prop, (∀ σ' H', N σ' H' -> ∃ m', m' < m /\ W (i + 1) m' σ' H') /\ ∀ x H', J.yld i H x H' -> g x σ H' fun σ2 H2 => tb { D with nx := N, ct := N, bk := D.nx } σ2 H2)
def pinsAt (fp : List Addr) (h : Heap) : List (Addr × Obj) := fp.filterMap fun b => (h.get? b).map fun o => (b, o)
theorem mem_pinsAt {fp : List Addr} {h : Heap} {b : Addr} {o : Obj} (hb : b ∈ fp) (e : h.get? b = some o) : (b, o) ∈ pinsAt fp h := List.mem_filterMap.mpr ⟨b, hb, by rw [e]; rfl⟩
theorem of_pinsAt {fp : List Addr} {h : Heap} {p : Addr × Obj} (hp : p ∈ pinsAt fp h) : p.1 ∈ fp /\ h.get? p.1 = some p.2 := by
  obtain ⟨b, hb, e⟩ := List.mem_filterMap.mp hp
  cases q : h.get? b with
  | none => rw [q] at e; cases e
  | some o =>
    rw [q] at e
    have e' : (b, o) = p := Option.some.inj e
    subst e'
    exact ⟨hb, q⟩
theorem Inv.pinned {pins : List (Addr × Obj)} {σ : St} {H : Hp} {s : Shared} {fp : List Addr} (I : Inv X pins σ H s) (hf : ∀ b ∈ fp, FpOk X pins H b) (ho : ∀ b ∈ fp, ∃ o, s.heap.get? b = some o /\ ∀ v, o.data ≠ .cell v) : Inv X (pins ++ pinsAt fp s.heap) σ H s :=
  I.pins_of fun p hp => (List.mem_append.mp hp).elim (fun z => I.pin p (List.mem_append_right _ z)) fun z => by
    obtain ⟨hb, e⟩ := of_pinsAt z
    obtain ⟨f0, f1, f2, _⟩ := hf p.1 hb
    obtain ⟨o, e', d⟩ := ho p.1 hb
    rw [e] at e'; cases e'
    exact ⟨e, f0, f1, f2, d⟩
theorem Inv.unpinned {pins pl : List (Addr × Obj)} {σ : St} {H : Hp} {s : Shared} (I : Inv X (pins ++ pl) σ H s) : Inv X pins σ H s := I.pins_of fun p hp => I.pin p (List.mem_append_right _ (List.mem_append_left _ hp))
theorem ps_for {iter : Expr} {body : List Stmt} {wi : TI} {g : TG} {tb : TS} {pos : Pos} (hp : PassesOwn (model X.prog X.w) X.A X.env X.xe) (hc : X.calm = true) (hi : PI X tg iter wi) (hg : PG X tg g) (hb : PSs X body tb)
    (hs : ∀ x, foldedSetIterable iter X.env x = pure x := by intro _; rfl) : PS X (.For tg iter body [] pos) (tFor wi g tb) := by
  intro pins s σ H D I h
  refine wpAny_For (thn (hi pins s σ H _ I h) fun v s1 h1 => thn h1 fun itv s2 h2 => ?_) hs
  obtain ⟨it, fp, tn, J, H2, e, I2, T, st2, f2, W, ⟨m0, w0⟩, turn⟩ := h2
  subst e
  -- what stays true of the iterator's objects through the loop
  have stat : ∀ {H' : Hp}, (∀ b ∈ fp, H' b = none) -> ∀ b ∈ fp, FpOk X pins H' b := fun hn b hb => ⟨hn b hb, (f2 b hb).2⟩
  refine codeAny_forLoop_any (fun n s' => ∃ i σ' H', Inv X pins σ' H' s' /\ tn i s'.heap /\ (∀ b ∈ fp, H' b = none) /\ W i n σ' H') ?_ m0 ⟨0, σ, H2, I2, st2, fun b hb => (f2 b hb).1, w0⟩
  rintro n s3 ⟨i, σ3, H3, I3, st3, fr3, w3⟩
  rcases turn i n σ3 H3 w3 with ⟨stop, qn⟩ | ⟨go, N, hN, step⟩
  . refine wpAny_passesOwn hp (thn (T.done X rfl rfl rfl hc i pins s3 σ3 H3 X.xe I3 (stat fr3) st3 stop) fun r s4 ⟨hr, I4⟩ => ?_)
    subst hr
    exact wpAny_execs_nil ⟨σ3, H3, I4, qn⟩
  . refine wpAny_passesOwn hp (thn (T.item X rfl rfl rfl hc i pins s3 σ3 H3 X.xe I3 (stat fr3) st3 go) fun r s4 ⟨u, hr, h4⟩ => ?_)
    subst hr
    refine wpAny_passesOwn hp (thn h4 fun _ s5 ⟨x, H5, I5, r5, y5, st5, fr5⟩ => ?_)
    have I5' := I5.pinned (stat fr5) (T.obj _ _ st5)
    refine wpAny_passesOwn hp (thn (hg _ s5 σ3 H5 x u _ I5' r5 (step x H5 y5)) fun _ s6 ⟨σ6, H6, I6, q6⟩ => ?_)
    refine wpAny_passesOwn hp (thn (hb _ s6 σ6 H6 _ I6 q6) fun f s7 q7 => ?_)
    have again : ∀ {σ7 : St} {H7 : Hp}, Inv X (pins ++ pinsAt fp s5.heap) σ7 H7 s7 -> N σ7 H7 -> ∃ m, m < n /\ ∃ i σ' H', Inv X pins σ' H' s7 /\ tn i s7.heap /\ (∀ b ∈ fp, H' b = none) /\ W i m σ' H' := fun {σ7 H7} I7 n7 => by
      obtain ⟨m', hm, w7⟩ := hN σ7 H7 n7
      refine ⟨m', hm, i + 1, σ7, H7, I7.unpinned, T.keep _ _ _ st5 fun b hb o e => (I7.pin (b, o) (List.mem_append_right _ (List.mem_append_right _ (mem_pinsAt hb e)))).1, fun b hb => ?_, w7⟩
      obtain ⟨o, e, d⟩ := T.obj _ _ st5 b hb
      exact (I7.pin (b, o) (List.mem_append_right _ (List.mem_append_right _ (mem_pinsAt hb e)))).2.1
    cases f with
    | next => obtain ⟨σ7, H7, I7, n7⟩ := q7; exact again I7 n7
    | cont => obtain ⟨σ7, H7, I7, n7⟩ := q7; exact again I7 n7
    | brk => obtain ⟨σ7, H7, I7, q7⟩ := q7; exact ⟨σ7, H7, I7.unpinned, q7⟩
    | ret v => obtain ⟨x7, σ7, H7, I7, r7, q7⟩ := q7; exact ⟨x7, σ7, H7, I7.unpinned, r7, q7⟩
end
theorem for_tup {K : PySem.W.Frag} {a : Addr} {xs : List V} {g : TG} {tb : TS} {D : Ends} {σ : St} {H : Hp} (Pv : Nat -> St -> Hp -> Prop) (h0 : Pv 0 σ H) (hl : ∀ i σ H, i <= xs.length -> Pv i σ H -> SqT K H a xs)
    (hs : ∀ i x σ H, xs[i]? = some x -> Pv i σ H -> g x σ H fun σ2 H2 => tb { D with nx := Pv (i + 1), ct := Pv (i + 1), bk := D.nx } σ2 H2) (hd : ∀ σ H, Pv xs.length σ H -> D.nx σ H) :
    ∃ W : Nat -> Nat -> St -> Hp -> Prop, (∃ m, W 0 m σ H) /\ ∀ i m σ H, W i m σ H ->
      ((Itt K a).stop i H /\ D.nx σ H) \/ ((Itt K a).go i H /\ ∃ N : St -> Hp -> Prop, (∀ σ' H', N σ' H' -> ∃ m', m' < m /\ W (i + 1) m' σ' H') /\ ∀ x H', (Itt K a).yld i H x H' -> g x σ H' fun σ2 H2 => tb { D with nx := N, ct := N, bk := D.nx } σ2 H2) := by
  refine ⟨fun i m σ H => m = xs.length - i /\ i <= xs.length /\ Pv i σ H, ⟨xs.length, by simp, Nat.zero_le _, h0⟩, ?_⟩
  rintro i m σ H ⟨rfl, hi, p⟩
  have q := hl i σ H hi p
  by_cases hlt : i < xs.length
  . refine .inr ⟨⟨xs, xs[i], q, by simp [hlt]⟩, Pv (i + 1), fun σ' H' p' => ⟨xs.length - (i + 1), by omega, rfl, hlt, p'⟩, fun x H' y => ?_⟩
    obtain ⟨e, y⟩ := y
    subst e
    exact hs i x σ _ (y xs q) p
  . have e : i = xs.length := by omega
    subst e
    exact .inl ⟨⟨xs, q, Nat.le_refl _⟩, hd σ H p⟩
theorem for_range {lo : Int} {n : Nat} {g : TG} {tb : TS} {D : Ends} {σ : St} {H : Hp} (Pv : Nat -> St -> Hp -> Prop) (h0 : Pv 0 σ H)
    (hs : ∀ i σ H, i < n -> Pv i σ H -> g (.int (lo + i)) σ H fun σ2 H2 => tb { D with nx := Pv (i + 1), ct := Pv (i + 1), bk := D.nx } σ2 H2) (hd : ∀ σ H, Pv n σ H -> D.nx σ H) :
    ∃ W : Nat -> Nat -> St -> Hp -> Prop, (∃ m, W 0 m σ H) /\ ∀ i m σ H, W i m σ H ->
      ((Itr lo n).stop i H /\ D.nx σ H) \/ ((Itr lo n).go i H /\ ∃ N : St -> Hp -> Prop, (∀ σ' H', N σ' H' -> ∃ m', m' < m /\ W (i + 1) m' σ' H') /\ ∀ x H', (Itr lo n).yld i H x H' -> g x σ H' fun σ2 H2 => tb { D with nx := N, ct := N, bk := D.nx } σ2 H2) := by
  refine ⟨fun i m σ H => m = n - i /\ i <= n /\ Pv i σ H, ⟨n, by simp, Nat.zero_le _, h0⟩, ?_⟩
  rintro i m σ H ⟨rfl, hi, p⟩
  by_cases hlt : i < n
  . refine .inr ⟨hlt, Pv (i + 1), fun σ' H' p' => ⟨n - (i + 1), by omega, rfl, hlt, p'⟩, fun x H' y => ?_⟩
    obtain ⟨e, y⟩ := y
    subst e y
    exact hs i σ _ hlt p
  . have e : i = n := by omega
    subst e
    exact .inl ⟨Nat.le_refl _, hd σ H p⟩
end L2
namespace L2
open PySem PySem.Spec PyProof.Rows
abbrev R2 := V -> V -> Hp -> VK -> Prop
def OpR (X : Cx) (f : Value -> Value -> Sem Value) (r : R2) : Prop :=
  ∀ (pins : List (Addr × Obj)) (s : Shared) (σ : St) (H : Hp) (x y : V) (v u : Value) (Q : VK), Inv X pins σ H s -> RelV x v -> RelV y u -> r x y H Q ->
    wpAny (model X.prog X.w) X.A (f v u) (EP X pins σ Q) X.xe s
def UnR (X : Cx) (f : Value -> Sem Value) (r : V -> Hp -> VK -> Prop) : Prop :=
  ∀ (pins : List (Addr × Obj)) (s : Shared) (σ : St) (H : Hp) (x : V) (v : Value) (Q : VK), Inv X pins σ H s -> RelV x v -> r x H Q ->
    wpAny (model X.prog X.w) X.A (f v) (EP X pins σ Q) X.xe s
def CallR (X : Cx) (f : Value) (r : List V -> Hp -> VK -> Prop) : Prop :=
  ∀ (pins : List (Addr × Obj)) (s : Shared) (σ : St) (H : Hp) (xs : List V) (us : List Value) (Q : VK), Inv X pins σ H s -> Vals xs us -> r xs H Q ->
    wpAny (model X.prog X.w) X.A (call f us) (EP X pins σ Q) X.xe s
def tOp (r : R2) (ta tb : TE) : TE := fun σ H Q => ta σ H fun x H1 => tb σ H1 fun y H2 => r x y H2 Q
def tUn (r : V -> Hp -> VK -> Prop) (ta : TE) : TE := fun σ H Q => ta σ H fun x H1 => r x H1 Q
def rI (C : Int -> Int -> Prop) (g : Int -> Int -> V) : R2 := fun x y H Q => ∃ i j, x = .int i /\ y = .int j /\ C i j /\ Q (g i j) H
def rI0 (g : Int -> Int -> V) : R2 := fun x y H Q => ∃ i j, x = .int i /\ y = .int j /\ Q (g i j) H
def rU (g : Int -> V) : V -> Hp -> VK -> Prop := fun x H Q => ∃ i, x = .int i /\ Q (g i) H
section
variable {X : Cx} {a b c : Expr} {ta tb tc : TE} {pos : Pos}
theorem binT (ha : PE X a ta) (hb : PE X b tb) {pins : List (Addr × Obj)} {s : Shared} {σ : St} {H : Hp} {R : V -> V -> Hp -> Prop} (I : Inv X pins σ H s)
    (h : ta σ H fun x H1 => tb σ H1 fun y H2 => R x y H2) {Q : Value -> Shared -> Prop} {f : Value -> Value -> Sem Value}
    (hf : ∀ v u s2 x y H2, Inv X pins σ H2 s2 -> RelV x v -> RelV y u -> R x y H2 -> wpAny (model X.prog X.w) X.A (f v u) Q X.xe s2) :
    wpAny (model X.prog X.w) X.A (eval a X.env) (fun v s₁ => wpAny (model X.prog X.w) X.A (eval b X.env) (fun u s₂ => wpAny (model X.prog X.w) X.A (f v u) Q X.xe s₂) X.xe s₁) X.xe s := by
  refine thn (ha pins s σ H _ I h) fun v s1 ⟨x, H1, I1, r1, q1⟩ => ?_
  refine thn (hb pins s1 σ H1 _ I1 q1) fun u s2 ⟨y, H2, I2, r2, q2⟩ => ?_
  exact hf v u s2 x y H2 I2 r1 r2 q2
theorem pe_op {op : Operator} {r : R2} (ho : OpR X (binaryOp op) r) (ha : PE X a ta) (hb : PE X b tb) : PE X (.BinOp a op b pos) (tOp r ta tb) := by
  intro pins s σ H Q I h
  exact wpAny_BinOp (binT ha hb I h fun v u s2 x y H2 I2 rx ry q => ho pins s2 σ H2 x y v u Q I2 rx ry q)
theorem pe_un {op : UnaryOp} {r : V -> Hp -> VK -> Prop} (ho : UnR X (unaryOp op) r) (ha : PE X a ta) : PE X (.UnaryOp op a pos) (tUn r ta) := by
  intro pins s σ H Q I h
  exact UnaryOp_ (thn (ha pins s σ H _ I h) fun v s1 ⟨x, H1, I1, r1, q1⟩ => ho pins s1 σ H1 x v Q I1 r1 q1)
theorem opI {f : Value -> Value -> Sem Value} {C : Int -> Int -> Prop} {g : Int -> Int -> Int}
    (rule : ∀ (i j : Int) (t u : Tok) (s : Shared) (Q : Value -> Shared -> Prop) (E : Value -> Shared -> Prop), C i j -> Q (.int (g i j) s.toks) { s with toks := s.toks + 1 } -> wpAny (model X.prog X.w) X.A (f (.int i t) (.int j u)) Q E s) :
    OpR X f (rI C fun i j => .int (g i j)) := by
  intro pins s σ H x y v u Q I rx ry h
  obtain ⟨i, j, rfl, rfl, hc, q⟩ := h
  obtain ⟨t, rfl⟩ := rx
  obtain ⟨t', rfl⟩ := ry
  exact rule i j t t' s _ _ hc ⟨.int (g i j), H, I.tok _, ⟨_, rfl⟩, q⟩
theorem opI0 {f : Value -> Value -> Sem Value} {g : Int -> Int -> Int}
    (rule : ∀ (i j : Int) (t u : Tok) (s : Shared) (Q : Value -> Shared -> Prop) (E : Value -> Shared -> Prop), Q (.int (g i j) s.toks) { s with toks := s.toks + 1 } -> wpAny (model X.prog X.w) X.A (f (.int i t) (.int j u)) Q E s) :
    OpR X f (rI0 fun i j => .int (g i j)) := by
  intro pins s σ H x y v u Q I rx ry h
  obtain ⟨i, j, rfl, rfl, q⟩ := h
  obtain ⟨t, rfl⟩ := rx
  obtain ⟨t', rfl⟩ := ry
  exact rule i j t t' s _ _ ⟨.int (g i j), H, I.tok _, ⟨_, rfl⟩, q⟩
theorem opB0 {f : Value -> Value -> Sem Value} {g : Int -> Int -> Bool}
    (rule : ∀ (i j : Int) (t u : Tok) (s : Shared) (Q : Value -> Shared -> Prop) (E : Value -> Shared -> Prop), Q (.bool (g i j)) s -> wpAny (model X.prog X.w) X.A (f (.int i t) (.int j u)) Q E s) :
    OpR X f (rI0 fun i j => .bl (g i j)) := by
  intro pins s σ H x y v u Q I rx ry h
  obtain ⟨i, j, rfl, rfl, q⟩ := h
  obtain ⟨t, rfl⟩ := rx
  obtain ⟨t', rfl⟩ := ry
  exact rule i j t t' s _ _ ⟨.bl (g i j), H, I, rfl, q⟩
def CDiv (i j : Int) : Prop := 0 < j /\ j < 1073741824
def CMul (i j : Int) : Prop := (-(2 ^ 64) < i /\ i < 2 ^ 64) \/ (-(2 ^ 64) < j /\ j < 2 ^ 64)
theorem CMul.ok {i j : Int} (h : CMul i j) : IntMulOk i j := by
  rcases h with ⟨h1, h2⟩ | ⟨h1, h2⟩
  . exact .of_left (intBits_le_64 h1 h2)
  . exact .of_right (intBits_le_64 h1 h2)
theorem op_add : OpR X (binaryOp .Add) (rI0 fun i j => .int (i + j)) := opI0 fun _ _ _ _ _ _ _ q => add_int q
theorem op_sub : OpR X (binaryOp .Sub) (rI0 fun i j => .int (i - j)) := opI0 fun _ _ _ _ _ _ _ q => sub_int q
theorem op_mul : OpR X (binaryOp .Mult) (rI CMul fun i j => .int (i * j)) := opI fun _ _ _ _ _ _ _ hc q => mul_int q hc.ok
theorem op_fdiv : OpR X (binaryOp .FloorDiv) (rI CDiv fun i j => .int (i / j)) := opI fun i j _ _ _ _ _ hc q => by
  have h1 : (0 : Int) < j := hc.1
  have h2 : j < 1073741824 := hc.2
  exact floordiv_int (by omega) (by rw [Int.fdiv_eq_ediv_of_nonneg i (by omega)]; exact q) (.inl (PyProof.noPylong_small (by omega)))
theorem op_mod : OpR X (binaryOp .Mod) (rI (fun _ j => 0 < j) fun i j => .int (i % j)) := opI fun i j _ _ _ _ _ hc q => by
  have h1 : (0 : Int) < j := hc
  exact mod_int' (by omega) (by rw [Int.fmod_eq_emod_of_nonneg i (by omega)]; exact q)
theorem unI {f : Value -> Sem Value} {g : Int -> Int}
    (rule : ∀ (i : Int) (t : Tok) (s : Shared) (Q : Value -> Shared -> Prop) (E : Value -> Shared -> Prop), Q (.int (g i) s.toks) { s with toks := s.toks + 1 } -> wpAny (model X.prog X.w) X.A (f (.int i t)) Q E s) :
    UnR X f (rU fun i => .int (g i)) := by
  intro pins s σ H x v Q I rx h
  obtain ⟨i, rfl, q⟩ := h
  obtain ⟨t, rfl⟩ := rx
  exact rule i t s _ _ ⟨.int (g i), H, I.tok _, ⟨_, rfl⟩, q⟩
theorem un_neg : UnR X (unaryOp .USub) (rU fun i => .int (-i)) := unI fun _ _ _ _ _ q => neg_int q
end
def scal : V -> V -> Bool
  | .non, .non => true | .non, .int _ => true | .int _, .non => true | .non, .bl _ => true | .bl _, .non => true | .non, .str _ => true | .str _, .non => true
  | .int _, .int _ => true | .bl _, .bl _ => true | .str _, .str _ => true | .byt _, .byt _ => true
  | .int _, .str _ => true | .str _, .int _ => true | .bl _, .str _ => true | .str _, .bl _ => true
  | _, _ => false
def rEq : R2 := fun x y H Q => scal x y = true /\ Q (.bl (decide (x = y))) H
def rNe : R2 := fun x y H Q => scal x y = true /\ Q (.bl (!decide (x = y))) H
theorem dec_int {i j : Int} : decide (V.int i = V.int j) = (i == j) := by
  rw [Bool.eq_iff_iff]
  simp
theorem dec_bl {i j : Bool} : decide (V.bl i = V.bl j) = (i == j) := by
  rw [Bool.eq_iff_iff]
  simp
theorem dec_str {i j : Str} : decide (V.str i = V.str j) = (i == j) := by
  rw [Bool.eq_iff_iff]
  simp
theorem dec_byt {i j : Array UInt8} : decide (V.byt i = V.byt j) = (i.toList == j.toList) := by
  rw [Bool.eq_iff_iff]
  cases i
  cases j
  simp
section
variable {X : Cx} {a b c : Expr} {ta tb tc : TE} {pos : Pos}
theorem fin_bl {pins : List (Addr × Obj)} {σ : St} {H : Hp} {s : Shared} {Q : VK} {k k' : Bool} (I : Inv X pins σ H s) (q : Q (.bl k) H) (e : k = k') : EP X pins σ Q (.bool k') s := by
  subst e
  exact ⟨.bl k, H, I, rfl, q⟩
theorem op_eq : OpR X (compareOp .Eq) rEq := by
  intro pins s σ H x y v u Q I rx ry h
  obtain ⟨hs, q⟩ := h
  cases x with
  | non =>
    cases rx
    cases y with
    | non => cases ry; exact PySem.EqNone.eq_none_none (fin_bl I q (by simp))
    | bl j => cases ry; exact PySem.EqNone.eq_none_bool (fin_bl I q (by simp))
    | int j => obtain ⟨t', rfl⟩ := ry; exact PySem.EqNone.eq_none_int (fin_bl I q (by simp))
    | str j => obtain ⟨t', rfl⟩ := ry; exact PySem.EqNone.eq_none_str (fin_bl I q (by simp))
    | _ => exact absurd (show false = true from hs) Bool.false_ne_true
  | bl i =>
    cases rx
    cases y with
    | non => cases ry; exact PySem.EqNone.eq_bool_none (fin_bl I q (by simp))
    | bl j => cases ry; exact eq_bool (fin_bl I q dec_bl)
    | str j => obtain ⟨t', rfl⟩ := ry; exact PySem.EqMixed.eq_bool_str (fin_bl I q (by simp))
    | _ => exact absurd (show false = true from hs) Bool.false_ne_true
  | int i =>
    obtain ⟨t, rfl⟩ := rx
    cases y with
    | non => cases ry; exact PySem.EqNone.eq_int_none (fin_bl I q (by simp))
    | int j => obtain ⟨t', rfl⟩ := ry; exact eq_int (fin_bl I q dec_int)
    | str j => obtain ⟨t', rfl⟩ := ry; exact PySem.EqMixed.eq_int_str (fin_bl I q (by simp))
    | _ => exact absurd (show false = true from hs) Bool.false_ne_true
  | str i =>
    obtain ⟨t, rfl⟩ := rx
    cases y with
    | non => cases ry; exact PySem.EqNone.eq_str_none (fin_bl I q (by simp))
    | bl j => cases ry; exact PySem.EqMixed.eq_str_bool (fin_bl I q (by simp))
    | int j => obtain ⟨t', rfl⟩ := ry; exact PySem.EqMixed.eq_str_int (fin_bl I q (by simp))
    | str j => obtain ⟨t', rfl⟩ := ry; exact eq_str (fin_bl I q dec_str)
    | _ => exact absurd (show false = true from hs) Bool.false_ne_true
  | byt i =>
    obtain ⟨t, rfl⟩ := rx
    cases y with
    | byt j => obtain ⟨t', rfl⟩ := ry; exact PySem.W.eq_bytes (fin_bl I q dec_byt)
    | _ => exact absurd (show false = true from hs) Bool.false_ne_true
  | _ => cases y <;> exact absurd (show false = true from hs) Bool.false_ne_true
theorem op_ne : OpR X (compareOp .NotEq) rNe := by
  intro pins s σ H x y v u Q I rx ry h
  obtain ⟨hs, q⟩ := h
  cases x with
  | non =>
    cases rx
    cases y with
    | non => cases ry; exact PySem.EqNone.ne_none_none (fin_bl I q (by simp))
    | bl j => cases ry; exact PySem.EqNone.ne_none_bool (fin_bl I q (by simp))
    | int j => obtain ⟨t', rfl⟩ := ry; exact PySem.EqNone.ne_none_int (fin_bl I q (by simp))
    | str j => obtain ⟨t', rfl⟩ := ry; exact PySem.EqNone.ne_none_str (fin_bl I q (by simp))
    | _ => exact absurd (show false = true from hs) Bool.false_ne_true
  | bl i =>
    cases rx
    cases y with
    | non => cases ry; exact PySem.EqNone.ne_bool_none (fin_bl I q (by simp))
    | bl j => cases ry; exact ne_bool (fin_bl I q (congrArg not dec_bl))
    | str j => obtain ⟨t', rfl⟩ := ry; exact PySem.EqMixed.ne_bool_str (fin_bl I q (by simp))
    | _ => exact absurd (show false = true from hs) Bool.false_ne_true
  | int i =>
    obtain ⟨t, rfl⟩ := rx
    cases y with
    | non => cases ry; exact PySem.EqNone.ne_int_none (fin_bl I q (by simp))
    | int j => obtain ⟨t', rfl⟩ := ry; exact ne_int (fin_bl I q (congrArg not dec_int))
    | str j => obtain ⟨t', rfl⟩ := ry; exact PySem.EqMixed.ne_int_str (fin_bl I q (by simp))
    | _ => exact absurd (show false = true from hs) Bool.false_ne_true
  | str i =>
    obtain ⟨t, rfl⟩ := rx
    cases y with
    | non => cases ry; exact PySem.EqNone.ne_str_none (fin_bl I q (by simp))
    | bl j => cases ry; exact PySem.EqMixed.ne_str_bool (fin_bl I q (by simp))
    | int j => obtain ⟨t', rfl⟩ := ry; exact PySem.EqMixed.ne_str_int (fin_bl I q (by simp))
    | str j => obtain ⟨t', rfl⟩ := ry; exact ne_str (fin_bl I q (congrArg not dec_str))
    | _ => exact absurd (show false = true from hs) Bool.false_ne_true
  | byt i =>
    obtain ⟨t, rfl⟩ := rx
    cases y with
    | byt j => obtain ⟨t', rfl⟩ := ry; exact PySem.W.ne_bytes (fin_bl I q (congrArg not dec_byt))
    | _ => exact absurd (show false = true from hs) Bool.false_ne_true
  | _ => cases y <;> exact absurd (show false = true from hs) Bool.false_ne_true
theorem op_lt : OpR X (compareOp .Lt) (rI0 fun i j => .bl (decide (i < j))) := opB0 fun _ _ _ _ _ _ _ q => lt_int q
theorem op_le : OpR X (compareOp .LtE) (rI0 fun i j => .bl (decide (i <= j))) := opB0 fun _ _ _ _ _ _ _ q => le_int q
theorem op_gt : OpR X (compareOp .Gt) (rI0 fun i j => .bl (decide (j < i))) := opB0 fun _ _ _ _ _ _ _ q => gt_int q
theorem nomark (b : Expr) {op : CmpOp} (h : op ≠ .In := by decide) (h2 : op ≠ .NotIn := by decide) : behindInMarks op b = false := by
  have e1 : (op == CmpOp.In) = false := by cases op <;> first | rfl | exact absurd rfl h
  have e2 : (op == CmpOp.NotIn) = false := by cases op <;> first | rfl | exact absurd rfl h2
  cases b <;> simp [behindInMarks, e1, e2]
theorem pe_cmpR {op : CmpOp} {r : R2} (ho : OpR X (compareOp op) r) (ha : PE X a ta) (hb : PE X b tb) (hm : behindInMarks op b = false) : PE X (.Compare a [op] [b] pos) (tOp r ta tb) := by
  intro pins s σ H Q I h
  exact wpAny_Compare1 (binT ha hb I h fun v u s2 x y H2 I2 rx ry q => ho pins s2 σ H2 x y v u Q I2 rx ry q) hm
def tTest (t : TE) : TT := fun σ H Q => t σ H fun x H' => ∃ k, x = .bl k /\ Q k H'
theorem pt_cmpR {op : CmpOp} {r : R2} (ho : OpR X (compareOp op) r) (ha : PE X a ta) (hb : PE X b tb) (hm : behindInMarks op b = false) : PT X (.Compare a [op] [b] pos) (tTest (tOp r ta tb)) := by
  intro pins s σ H Q I h
  refine wpAny_isTrue_Compare1 (thn (ha pins s σ H _ I h) fun v s1 ⟨x, H1, I1, r1, q1⟩ => thn (hb pins s1 σ H1 _ I1 q1) fun u s2 ⟨y, H2, I2, r2, q2⟩ =>
    thn (ho pins s2 σ H2 x y v u _ I2 r1 r2 q2) fun c s3 ⟨z, H3, I3, r3, k, e, q3⟩ => ?_) hm
  subst e
  cases r3
  exact wpAny_truthy_bool ⟨H3, I3, q3⟩
def tChain (r r' : R2) (ta tb tc : TE) : TE := fun σ H Q => ta σ H fun x H1 => tb σ H1 fun y H2 => r x y H2 fun z H3 => ∃ k, z = .bl k /\
  (if k = true then tc σ H3 fun w' H4 => r' y w' H4 Q else Q (.bl false) H3)
theorem pe_chain {op op' : CmpOp} {r r' : R2} (ho : OpR X (compareOp op) r) (ho' : OpR X (compareOp op') r') (ha : PE X a ta) (hb : PE X b tb) (hc : PE X c tc)
    (hm : lastMarks [op, op'] [b, c] = false := by with_unfolding_all rfl) : PE X (.Compare a [op, op'] [b, c] pos) (tChain r r' ta tb tc) := by
  intro pins s σ H Q I h
  refine Compare_chain (thn (ha pins s σ H _ I h) fun v s1 ⟨x, H1, I1, r1, q1⟩ => chain_link (thn (hb pins s1 σ H1 _ I1 q1) fun u s2 ⟨y, H2, I2, r2, q2⟩ =>
    thn (ho pins s2 σ H2 x y v u _ I2 r1 r2 q2) fun d s3 ⟨z, H3, I3, r3, k, e, q3⟩ => ?_)) hm
  subst e
  cases r3
  refine wpAny_truthy_bool ?_
  cases k with
  | false => exact ite_ff ⟨.bl false, H3, I3, rfl, q3⟩
  | true => exact ite_tt (chain_last (thn (hc pins s3 σ H3 _ I3 q3) fun w' s4 ⟨z', H4, I4, r4, q4⟩ => ho' pins s4 σ H4 y z' u w' Q I4 r2 r4 q4))
theorem line63 : (sizeLine : Nat) < 2 ^ 63 := by rw [sizeLine_eq]; decide
theorem vals1 {x : V} {us : List Value} (r : Vals [x] us) : ∃ u, us = [u] /\ RelV x u := by
  cases r with
  | cons r1 r2 => cases r2; exact ⟨_, rfl, r1⟩
theorem vals2 {x y : V} {us : List Value} (r : Vals [x, y] us) : ∃ u w', us = [u, w'] /\ RelV x u /\ RelV y w' := by
  cases r with
  | cons r1 r2 =>
    cases r2 with
    | cons r3 r4 => cases r4; exact ⟨_, _, rfl, r1, r3⟩
theorem call_max2 (hc : X.calm = true) : CallR X (.builtin "max") (fun xs H Q => ∃ i j, xs = [.int i, .int j] /\ Q (.int (if j > i then j else i)) H) := by
  intro pins s σ H xs us Q I r h
  obtain ⟨i, j, rfl, q⟩ := h
  obtain ⟨u, w', rfl, ⟨t, rfl⟩, ⟨t', rfl⟩⟩ := vals2 r
  refine max_two_ints (I.ok.hd hc) fun h' tk k => ⟨_, H, I.kept k, ?_, q⟩
  by_cases hj : j > i
  . rw [if_pos hj, if_pos hj]; exact ⟨_, rfl⟩
  . rw [if_neg hj, if_neg hj]; exact ⟨_, rfl⟩
theorem call_min2 (hc : X.calm = true) : CallR X (.builtin "min") (fun xs H Q => ∃ i j, xs = [.int i, .int j] /\ Q (.int (if j < i then j else i)) H) := by
  intro pins s σ H xs us Q I r h
  obtain ⟨i, j, rfl, q⟩ := h
  obtain ⟨u, w', rfl, ⟨t, rfl⟩, ⟨t', rfl⟩⟩ := vals2 r
  refine min_two_ints (I.ok.hd hc) fun h' tk k => ⟨_, H, I.kept k, ?_, q⟩
  by_cases hj : j < i
  . rw [if_pos hj, if_pos hj]; exact ⟨_, rfl⟩
  . rw [if_neg hj, if_neg hj]; exact ⟨_, rfl⟩
end
end L2
namespace L2
open PySem PySem.Spec PyProof.Rows
structure ObjM (h : Heap) (x dx C : Addr) (mA : Str -> Option Value) : Prop where
  obj : h.get? x = some (PySem.W.instObj C dx)
  ns : h.Ns1 dx mA
  ne : dx ≠ x
theorem lookIn_ns {h : Heap} {dx : Addr} {mA : Str -> Option Value} (n : h.Ns1 dx mA) : ∃ od, h.get? dx = some od /\ ∀ name, PySem.W.lookIn name od = some (mA name) := by
  obtain ⟨o, es, ep, ho, hd, hk, _, hm⟩ := n
  refine ⟨o, ho, fun name => ?_⟩
  have e := hm name
  unfold nsFind findBy at e
  rw [<- Array.find?_toList] at e
  unfold PySem.W.lookIn
  rw [hd]
  dsimp only
  split
  . rename_i y q
    rw [q] at e
    exact congrArg some e
  . rename_i q
    rw [q] at e
    have a : es.toList.any (·.refKey) = false := by
      rw [List.any_eq_false]
      intro y hy
      obtain ⟨z, t, hkey⟩ := hk y (Array.mem_toList_iff.mp hy)
      simp [DictEntry.refKey, hkey]
    have a' : ¬ es.toList.any (·.refKey) = true := by rw [a]; exact Bool.false_ne_true
    rw [if_neg a']
    exact congrArg some e
theorem ObjM.look {h : Heap} {x dx C : Addr} {mA : Str -> Option Value} (I : ObjM h x dx C mA) : ∃ od, PySem.W.InstAt h x (PySem.W.instObj C dx) C (some od) /\ ∀ name, PySem.W.lookIn name od = some (mA name) :=
  let ⟨od, ho, hl⟩ := lookIn_ns I.ns
  ⟨od, ⟨I.obj, rfl, rfl, ho⟩, hl⟩
section
variable {prog : Program} {w : World} {A : Around} {E : Value -> Shared -> Prop} {s : Shared} {K : PySem.W.Frag} {x dx C f : Addr} {mA : Str -> Option Value} {name : Str} {v : Value}
end
section
variable {P : Program} {w : World} {H H' : Hp} {h h' : Heap} {a C dx : Addr} {fs fs' : List (Str × V)}
theorem ins_get (hok : HOk P w H h) (e : H a = some (.ins C dx fs)) : ∃ mA, ObjM h a dx C mA /\ (∀ f, RelO (fs.lookup f) (mA f)) /\ PySem.Within mA (fs.map (·.1)) /\ fs.length <= 1000 /\ H dx = some (.own a) := by
  obtain ⟨d, z, ne, ob, mA, n, r, q⟩ := (show ObjOk P w H h a (.ins C dx fs) from hok a _ e)
  exact ⟨mA, ⟨ob, n, ne⟩, r, q, z, d⟩
end
structure Cls (K : PySem.W.Frag) (C : Addr) : Prop where
  pg : PySem.W.plainGet K C Str.empty = true
  hd : PySem.W.hasDictIn K C = true
  po : PySem.W.plainOver K C = true
  sa : PySem.W.findIn K (.ref C) "__setattr__" = some (some (.builtin "object.__setattr__"))
theorem Cls.get {K : PySem.W.Frag} {C : Addr} (c : Cls K C) (f : Str) : PySem.W.plainGet K C f = true := c.pg
section
variable {X : Cx} {pins : List (Addr × Obj)} {σ : St} {H : Hp} {s : Shared} {a C dx : Addr} {fs : List (Str × V)} {f : Str} {v : V} {A : Around} {E : Value -> Shared -> Prop}
end
section
variable {X : Cx} {o e value : Expr} {f : Str} {pos pos' tpos : Pos} {ta tv : TE}
end
section
variable {X : Cx} {pins : List (Addr × Obj)} {σ : St} {H : Hp} {s : Shared} {A : Around} {E : Value -> Shared -> Prop} {Q : Value -> Shared -> Prop} {c : Value} {b : Bool}
inductive TyOf (K : PySem.W.Frag) (H : Hp) : V -> Value -> Prop where
  | non : TyOf K H .non (.type "NoneType")
  | bl (x : Bool) : TyOf K H (.bl x) (.type "bool")
  | int (i : Int) : TyOf K H (.int i) (.type "int")
  | str (x : Str) : TyOf K H (.str x) (.type "str")
  | flt (x : UInt64) : TyOf K H (.flt x) (.type "float")
  | lst {a : Addr} {xs : List V} (e : H a = some (.lst xs)) : TyOf K H (.ref a) (.type "list")
  | frz {a : Addr} {o : Obj} {xs : List V} (e : H a = some (.frz o (.lst xs))) : TyOf K H (.ref a) (.type "list")
  | tup {a : Addr} {xs : List V} (e : H a = some (.tup xs)) : TyOf K H (.ref a) (.type "tuple")
  | dK {a : Addr} {kvs : List (Key × V)} (e : H a = some (.dK kvs)) : TyOf K H (.ref a) (.type "dict")
  | dT {a : Addr} {kvs : List (List Key × V)} (e : H a = some (.dT kvs)) : TyOf K H (.ref a) (.type "dict")
  | ins {a C dx : Addr} {fs : List (Str × V)} (e : H a = some (.ins C dx fs)) (cl : Cls K C) (ha : PySem.W.findIn K (.ref C) "__class__" = some (some (.builtin "object.__class__")))
      (hn : PySem.W.specialIn K (.builtin "object.__class__") "__get__" = some (some (.builtin "getset_descriptor.__get__"))) (htk : PySem.W.takesIn K (.builtin "object.__class__") = some true)
      (hm : PySem.W.mroIn K C (.type "object") = some true) : TyOf K H (.ref a) (.ref C)
theorem isinst_ok {x : V} {u t : Value} (I : Inv X pins σ H s) (rx : RelV x u) (ty : TyOf X.K H x t) (e : PySem.W.kitOne X.K t c = some b) (h : ∀ tk, Q (.bool b) { s with toks := tk }) :
    wpAny (model X.prog X.w) A (call (.builtin "isinstance") [u, c]) Q E s := by
  cases ty with
  | non => cases (show u = Value.none from rx); exact PySem.W.kia_one PySem.W.kitx_none I.kIn True.intro e (fun z => nomatch z) h
  | bl y => cases (show u = Value.bool y from rx); exact PySem.W.kia_one PySem.W.kitx_bool I.kIn True.intro e (fun z => nomatch z) h
  | int i => obtain ⟨t, q⟩ := (show ∃ t, u = Value.int i t from rx); cases q; exact PySem.W.kia_one PySem.W.kitx_int I.kIn True.intro e (fun z => nomatch z) h
  | str y => obtain ⟨t, q⟩ := (show ∃ t, u = Value.str y t from rx); cases q; exact PySem.W.kia_one PySem.W.kitx_str I.kIn True.intro e (fun z => nomatch z) h
  | flt y => obtain ⟨t, q⟩ := (show ∃ t, u = Value.float y t from rx); cases q; exact PySem.W.kia_one PySem.W.kitx_float I.kIn True.intro e (fun z => nomatch z) h
  | @lst a xs ea =>
    cases (show u = Value.ref a from rx)
    obtain ⟨_, _, n, _, h1⟩ := (show ObjOk X.prog X.w H s.heap a (.lst xs) from I.hok a _ ea)
    exact PySem.W.kia_one PySem.W.kitx_list I.kIn ⟨_, h1, rfl⟩ e (fun z => nomatch z) h
  | @frz a ob xs ea =>
    cases (show u = Value.ref a from rx)
    obtain ⟨_, _, _, n, _, h1⟩ := (show ObjOk X.prog X.w H s.heap a (.frz ob (.lst xs)) from I.hok a _ ea)
    exact PySem.W.kia_one PySem.W.kitx_list I.kIn ⟨_, h1, rfl⟩ e (fun z => nomatch z) h
  | @tup a xs ea =>
    cases (show u = Value.ref a from rx)
    obtain ⟨_, _, _, p⟩ := (show ObjOk X.prog X.w H s.heap a (.tup xs) from I.hok a _ ea)
    obtain ⟨o, h1, h2, _⟩ := p
    exact PySem.W.kia_one PySem.W.kitx_tuple I.kIn ⟨o, h1, h2⟩ e (fun z => nomatch z) h
  | @dK a kvs ea =>
    cases (show u = Value.ref a from rx)
    obtain ⟨_, _, vs, _, p⟩ := (show ObjOk X.prog X.w H s.heap a (.dK kvs) from I.hok a _ ea)
    obtain ⟨o, es, ep, h1, h2, _⟩ := p
    exact PySem.W.kia_one PySem.W.kitx_dict I.kIn ⟨o, h1, h2.1⟩ e (fun z => nomatch z) h
  | @dT a kvs ea =>
    cases (show u = Value.ref a from rx)
    obtain ⟨_, _, xs, _, o, es, ep, h1, h2, _⟩ := (show ObjOk X.prog X.w H s.heap a (.dT kvs) from I.hok a _ ea)
    exact PySem.W.kia_one PySem.W.kitx_dict I.kIn ⟨o, h1, h2.1⟩ e (fun z => nomatch z) h
  | @ins a C dx fs ea cl ha hn htk hm =>
    cases (show u = Value.ref a from rx)
    obtain ⟨mA, O, _⟩ := ins_get I.hok ea
    obtain ⟨od, J, _⟩ := O.look
    exact PySem.W.kia_one (PySem.W.kitx_own (cl.get _) cl.hd ha hn htk hm) I.kIn J e (fun z => nomatch z) h
end
end L2
namespace L2
open PySem PySem.Spec PyProof.Rows
structure Room (k : Nat) (A : Around) : Prop where
  hd : A.handled = none
  dp : A.depth + 3 * k + 5 < recursionLimit
  un : A.units + 16 * k + 200 < cLine
theorem Room.mono {j k : Nat} {A : Around} (r : Room k A) (h : j <= k) : Room j A := ⟨r.hd, by have := r.dp; omega, by have := r.un; omega⟩
theorem Room.deeper {k : Nat} {A : Around} (r : Room (k + 1) A) (env : Env) : Room k (A.deeper env) :=
  ⟨r.hd, by have := r.dp; show A.depth + 1 + 3 * k + 5 < _; omega, by have := r.un; show A.units + 3 + 16 * k + 200 < _; omega⟩
theorem Room.depth {k : Nat} {A : Around} (r : Room k A) : A.depth < recursionLimit := by have := r.dp; omega
theorem Room.units {k : Nat} {A : Around} (r : Room k A) : A.units + 64 < cLine := by have := r.un; omega
def tNil : TA := fun _ H Q => Q [] H
def tCons (ta : TE) (tr : TA) : TA := fun σ H Q => ta σ H fun x H1 => tr σ H1 fun xs H2 => Q (x :: xs) H2
section
variable {X : Cx} {e : Expr} {es : List Expr} {te : TE} {t : TA} {pos : Pos}
theorem pa_nil : PA X [] tNil := fun _ _ _ _ H Q I h => Calls.spliced_nil ⟨[], H, I, .nil, h⟩
theorem pa_cons (ha : PE X e te) (hr : PA X es t) (hs : starEach (e :: es) X.env = (false, eval e X.env) :: starEach es X.env := by rfl) : PA X (e :: es) (tCons te t) := by
  intro pos pins s σ H Q I h
  rw [hs]
  show wpAny _ _ (spliced ((false, eval e X.env) :: backTo pos (starEach es X.env))) _ _ s
  refine Calls.spliced_cons (thn (ha pins s σ H _ I h) fun u s1 ⟨x, H1, I1, r1, q1⟩ => ?_)
  exact thn (hr pos pins s1 σ H1 _ I1 q1) fun us s2 ⟨xs, H2, I2, r2, q2⟩ => ⟨x :: xs, H2, I2, .cons r1 r2, q2⟩
def tTup (t : TA) : TE := fun σ H Q => t σ H fun xs H1 => xs.length <= sizeLine /\ ∀ p, H1 p = none -> Q (.ref p) (upd H1 p (.tup xs))
def tLst (t : TA) : TE := fun σ H Q => t σ H fun xs H1 => xs.length <= sizeLine /\ ∀ p, H1 p = none -> Q (.ref p) (upd H1 p (.lst xs))
theorem pe_tup {x1} (h : PA X es t) : PE X (.Tuple es x1 pos) (tTup t) := by
  intro pins s σ H Q I hq
  refine wpAny_Tuple_spliced (thn (h pos pins s σ H _ I hq) fun us s1 ⟨xs, H1, I1, r, z, q⟩ => ⟨by rw [<- r.length]; exact z, ?_⟩)
  have hf : H1 s1.heap.objs.size = none := I1.hok.fresh (Nat.le_refl _)
  refine ⟨.ref s1.heap.objs.size, upd H1 s1.heap.objs.size (.tup xs), I1.laid (t' := s1.toks) (fun b u e => Heap.get?_push_of_some _ e) (Nat.le_refl _) ?_, rfl, q _ hf⟩
  exact ⟨z, us, r, ⟨_, Heap.get?_push_size _ rfl, rfl, _, rfl⟩⟩
theorem pe_lst (h : PA X es t) : PE X (.List es pos) (tLst t) := by
  intro pins s σ H Q I hq
  refine wpAny_List_spliced (thn (h pos pins s σ H _ I hq) fun us s1 ⟨xs, H1, I1, r, z, q⟩ => ⟨by rw [<- r.length]; exact z, ?_⟩)
  have hf : H1 s1.heap.objs.size = none := I1.hok.fresh (Nat.le_refl _)
  refine ⟨.ref s1.heap.objs.size, upd H1 s1.heap.objs.size (.lst xs), I1.laid (t' := s1.toks) (fun b u e => Heap.get?_push_of_some _ e) (Nat.le_refl _) ?_, rfl, q _ hf⟩
  exact ⟨z, us, 0, r, Heap.get?_push_size _ rfl⟩
end
abbrev Sp := List V -> Hp -> VK -> XK -> Prop
abbrev CXT := List Env -> Hp -> Shared -> XK -> Value -> Shared -> Prop
structure Env0 (P : Program) (w : World) (K : PySem.W.Frag) (mg : Str -> Option Value) (base : Heap) (A : Around) (outer : List Env) (s : Shared) (H : Hp) : Prop where
  frames : A.frames = some outer
  mod : Mod K mg base
  bs : ∀ b o, base.get? b = some o -> s.heap.get? b = some o /\ H b = none
  bsz : base.objs.size <= s.heap.objs.size
  funs : s.heap.FunFrames base outer
  frf : ∀ b ∈ frs outer, H b = none
  hok : HOk P w H s.heap
  bare : AllBare s.gens
def CE (outer : List Env) (P : Program) (w : World) (H : Hp) (s : Shared) (Q : VK) (u : Value) (s' : Shared) : Prop :=
  ∃ v H', s'.os = s.os /\ AllBare s'.gens /\ Un (frs outer) [] H H' s.heap s'.heap /\ HOk P w H' s'.heap /\ RelV v u /\ Q v H'
def CR (CX : CXT) (outer : List Env) (P : Program) (w : World) (H : Hp) (s : Shared) (Q : VK) (E : XK) (r : Result) (s' : Shared) : Prop :=
  match r with
  | .ok (.ret u) => CE outer P w H s Q u s'
  | .ok _ => False
  | .error e => CX outer H s E e s'
structure FnOk (P : Program) (w : World) (K : PySem.W.Frag) (mg : Str -> Option Value) (base : Heap) (CX : CXT) (k : Nat) (f : Addr) (fd : FuncData) (ps : List Str) (sp : Sp) : Prop where
  len : ∀ vs H Q E, sp vs H Q E -> vs.length = ps.length
  run : ∀ (A : Around) (outer : List Env) (s : Shared) (H : Hp) (args : Args) (us : List Value) (vs : List V) (Q : VK) (E : XK), Room k A -> Env0 P w K mg base A outer s H -> BindsTo s fd args (ps.zip us) -> Vals vs us -> sp vs H Q E ->
    codeAny (model P w) A (.call (.ref f) args) (CR CX outer P w H s Q E) s
section
variable {X : Cx} {pins : List (Addr × Obj)} {σ : St} {H : Hp} {s s' : Shared}
theorem Inv.env0 (I : Inv X pins σ H s) : Env0 X.prog X.w X.K X.mg X.base X.A X.stack s H :=
  ⟨I.ok.frames, I.ok.mod, I.bs, Nat.le_trans I.ok.bsz I.sz, I.stack, I.stkFree, I.hok, I.bare⟩
theorem Inv.after {Q : VK} {u : Value} (I : Inv X pins σ H s) (h : CE X.stack X.prog X.w H s Q u s') : EP X pins σ Q u s' := by
  obtain ⟨v, H', os, bare, un, hok, r, q⟩ := h
  obtain ⟨hh, g, d, t, os'⟩ := s'
  obtain rfl : os' = s.os := os
  exact ⟨v, H', I.call (h' := hh) (g' := g) (d' := d) (t' := t) (ch := []) un hok bare (fun b z => absurd z (by simp)), r, q⟩
end
def tCall (sp : Sp) (dvs : List V) (E : XK) (t : TA) : TE := fun σ H Q => t σ H fun vs H1 => sp (vs ++ dvs) H1 Q E
def Binds (K : PySem.W.Frag) (fd : FuncData) (ps : List Str) (ds : List Value) : Prop :=
  ∀ (s : Shared) (us : List Value), K.In s.heap -> (us ++ ds).length = ps.length -> BindsTo s fd ⟨us, []⟩ (ps.zip (us ++ ds))
theorem Binds.all {K : PySem.W.Frag} {fd : FuncData} {ps : List Str} (h : ∀ us : List Value, us.length = ps.length -> bindArgs fd ⟨us, []⟩ = pure (ps.zip us)) : Binds K fd ps [] := fun s us _ hl => by
  rw [List.append_nil] at hl ⊢
  exact .of_eq (h us hl)
def Passes (CX : CXT) (X : Cx) (E : XK) : Prop := ∀ (pins : List (Addr × Obj)) (σ : St) (H : Hp) (s : Shared) (e : Value) (s' : Shared), Inv X pins σ H s -> CX X.stack H s E e s' -> X.xe e s'
section
variable {X : Cx} {CX : CXT} {k : Nat} {f C : Addr} {fd : FuncData} {ps : List Str} {sp : Sp} {dvs : List V} {ds : List Value} {E : XK} {x m : Str} {p pos apos : Pos} {e o : Expr} {es : List Expr} {ta : TE} {t : TA}
theorem run_fn {pins : List (Addr × Obj)} {σ : St} {H : Hp} {s : Shared} {Q : VK} {us : List Value} {vs : List V} (F : FnOk X.prog X.w X.K X.mg X.base CX k f fd ps sp) (hr : Room k X.A) (hb : Binds X.K fd ps ds) (hd : Vals dvs ds) (hx : Passes CX X E)
    (I : Inv X pins σ H s) (r : Vals vs us) (h : sp (vs ++ dvs) H Q E) : wpAny (model X.prog X.w) X.A (call (.ref f) us) (EP X pins σ Q) X.xe s := by
  have r2 : Vals (vs ++ dvs) (us ++ ds) := r.append hd
  have hl : (us ++ ds).length = ps.length := by rw [<- r2.length]; exact F.len _ _ _ _ h
  refine wpAny_call (codeAny_mono (F.run X.A X.stack s H ⟨us, []⟩ (us ++ ds) (vs ++ dvs) Q E hr I.env0 (hb s us I.kIn hl) r2 h) fun r s' hq => ?_)
  cases r with
  | error e => exact hx pins σ H s e s' I hq
  | ok fl =>
    cases fl with
    | ret u => exact I.after hq
    | next => exact False.elim hq
    | brk => exact False.elim hq
    | cont => exact False.elim hq
theorem pe_call (F : FnOk X.prog X.w X.K X.mg X.base CX k f fd ps sp) (hr : Room k X.A) (hg : Gl X x) (hm : X.mg x = some (.ref f)) (hk : PySem.W.keepIn X.K (.ref f) = true) (hb : Binds X.K fd ps ds) (hd : Vals dvs ds) (hx : Passes CX X E)
    (ha : PA X (e :: es) t) (hdb : (x == ("__debug__" : Str)) = false := by decide) (he : starEach (e :: es) X.env = (false, eval e X.env) :: starEach es X.env := by rfl) (hpl : (backTo pos (starEach es X.env)).any (·.1) = false := by rfl) :
    PE X (.Call (.Name x p) (e :: es) [] pos) (tCall sp dvs E t) := by
  intro pins s σ H Q I h
  refine wpAny_Call_Name_kw (ld_glob I hg hm ?_ hdb)
  refine PySem.W.callWith_K (h₀ := X.base) I.ok.mod.kin hk (thn (ha pos pins s σ H _ I h) fun us s1 ⟨vs, H1, I1, r, q⟩ => ⟨I1.kIn, ?_⟩) he hpl
  exact run_fn F hr hb hd hx I1 r q
end
section
variable {X : Cx} {CX : CXT} {k : Nat} {f C : Addr} {fd : FuncData} {ps ks : List Str} {sp : Sp} {E : XK} {x m : Str} {p pos apos kpos : Pos} {e o : Expr} {es : List Expr} {kws : List Keyword} {te ta : TE} {t tk : TA} {nm : Option Str}
variable {g : List Value -> List Value -> List Value} {gV : List V -> List V -> List V}
end
structure FnScope (N P : List Str) (sc : Scope) : Prop where
  kind : sc.kind = .function
  co : sc.isCoroutine = false
  gen : sc.isGenerator = false
  nd : N.Nodup
  pre : N.take P.length = P
  par : ∀ x ∈ P, sc.names.lookup x = some .local \/ sc.names.lookup x = some .cell
  nofree : ∀ y ∈ sc.names, y.2 ≠ .free
theorem bindL_out {kindOf : Str -> Option NameKind} {x : Str} : ∀ {binds : List (Str × Value)} {m : Str -> Option Value}, (∀ v, (x, v) ∉ binds) -> bindL kindOf binds m x = m x
  | [], _, _ => rfl
  | (n, v) :: r, m, h => by
    unfold bindL
    rw [bindL_out fun w hw => h w (List.mem_cons_of_mem _ hw)]
    split
    . have : x ≠ n := by rintro rfl; exact h v List.mem_cons_self
      simp [this]
    . rfl
theorem bindC_out {kindOf : Str -> Option NameKind} {x : Str} : ∀ {binds : List (Str × Value)} {m : Str -> Option Value}, (∀ v, (x, v) ∉ binds) -> bindC kindOf binds m x = m x
  | [], _, _ => rfl
  | (n, v) :: r, m, h => by
    unfold bindC
    rw [bindC_out fun w hw => h w (List.mem_cons_of_mem _ hw)]
    split
    . rfl
    . have : x ≠ n := by rintro rfl; exact h v List.mem_cons_self
      simp [this]
theorem bindL_get {kindOf : Str -> Option NameKind} {x : Str} {v : Value} : ∀ {P : List Str} {vs : List Value} {i : Nat} {m : Str -> Option Value}, P.Nodup -> P[i]? = some x -> vs[i]? = some v -> kindOf x = some .local ->
    bindL kindOf (P.zip vs) m x = some v
  | [], _, _, _, _, h, _, _ => by simp at h
  | _ :: _, [], _, _, _, _, h, _ => by simp at h
  | p :: P, w :: vs, 0, m, nd, h1, h2, hk => by
    simp at h1 h2; subst h1; subst h2
    show bindL kindOf ((p, w) :: P.zip vs) m p = _
    unfold bindL
    rw [bindL_out fun v hv => (List.nodup_cons.mp nd).1 (List.of_mem_zip hv).1, if_pos hk]
    simp
  | p :: P, w :: vs, i + 1, m, nd, h1, h2, hk => by
    show bindL kindOf ((p, w) :: P.zip vs) m x = _
    unfold bindL
    exact bindL_get (i := i) (List.nodup_cons.mp nd).2 (by simpa using h1) (by simpa using h2) hk
theorem bindC_get {kindOf : Str -> Option NameKind} {x : Str} {v : Value} : ∀ {P : List Str} {vs : List Value} {i : Nat} {m : Str -> Option Value}, P.Nodup -> P[i]? = some x -> vs[i]? = some v -> kindOf x ≠ some .local ->
    bindC kindOf (P.zip vs) m x = some v
  | [], _, _, _, _, h, _, _ => by simp at h
  | _ :: _, [], _, _, _, _, h, _ => by simp at h
  | p :: P, w :: vs, 0, m, nd, h1, h2, hk => by
    simp at h1 h2; subst h1; subst h2
    show bindC kindOf ((p, w) :: P.zip vs) m p = _
    unfold bindC
    rw [bindC_out fun v hv => (List.nodup_cons.mp nd).1 (List.of_mem_zip hv).1, if_neg hk]
    simp
  | p :: P, w :: vs, i + 1, m, nd, h1, h2, hk => by
    show bindC kindOf ((p, w) :: P.zip vs) m x = _
    unfold bindC
    exact bindC_get (i := i) (List.nodup_cons.mp nd).2 (by simpa using h1) (by simpa using h2) hk
def start (N : List Str) (vs : List V) : St := vs.map some ++ List.replicate (N.length - vs.length) none
def cxOf (CX : CXT) (P : Program) (w : World) (K : PySem.W.Frag) (mg : Str -> Option Value) (base : Heap) (N : List Str) (qual : Str) (scope : Scope) (f : Addr) (cd : Value) (A : Around) (outer : List Env) (s : Shared) (H : Hp) (E : XK) : Cx where
  prog := P
  w := w
  K := K
  mg := mg
  base := base
  A := A.deeper (envOfC qual scope s.heap.objs.size f cd)
  N := N
  s₀ := s
  H₀ := H
  env := envOfC qual scope s.heap.objs.size f cd
  outer := outer
  stack := envOfC qual scope s.heap.objs.size f cd :: outer
  ex := []
  calm := true
  fn := fun _ => true
  pn := []
  xe := fun e s' => wpAny (model P w) (A.deeper (envOfC qual scope s.heap.objs.size f cd)) (leaving (envOfC qual scope s.heap.objs.size f cd) e) (fun _ s'' => CX outer H s E e s'') (fun e' s'' => CX outer H s E e' s'') s'
theorem cell_has {sc : Scope} {n : Nat} {x : Str} (h : sc.names.lookup x = some .cell) : ∃ c, (cellsFrom n sc.names []).lookup x = some c := by
  have q := PySem.W.cellsFrom_some sc.names n [] (.inl h)
  exact Option.isSome_iff_exists.mp q
theorem inv_start {CX : CXT} {P : Program} {w : World} {K : PySem.W.Frag} {mg : Str -> Option Value} {base : Heap} {N ps : List Str} {qual : Str} {scope : Scope} {f : Addr} {cd : Value} {A : Around} {outer : List Env} {s s1 : Shared} {H : Hp} {E : XK} {us : List Value} {vs : List V}
    (S : FnScope N ps scope) (hd : A.handled = none) (e0 : Env0 P w K mg base A outer s H) (hl : vs.length = ps.length) (r : Vals vs us)
    (x : InCallC s s.heap.objs.size (bindL (envOfC qual scope s.heap.objs.size f cd).kindOf (ps.zip us) fun _ => none) (cellsFrom (s.heap.objs.size + 1) scope.names []) (bindC (envOfC qual scope s.heap.objs.size f cd).kindOf (ps.zip us) fun _ => none) s1) :
    Inv (cxOf CX P w K mg base N qual scope f cd A outer s H E) [] (start N vs) H s1 := by
  have hpl : ps.length <= N.length := by have := congrArg List.length S.pre; rw [List.length_take] at this; omega
  obtain ⟨h1, tk, rfl, hk⟩ := x.done
  have noA : ∀ b : Addr, b ∉ (cxOf CX P w K mg base N qual scope f cd A outer s H E).ex := fun b z => absurd (show b ∈ ([] : List Addr) from z) (by simp)
  refine ⟨⟨e0.mod, S.kind, rfl, rfl, Nat.le_refl _, fun y z c h1 h2 => ?_, fun y hy => ?_, fun y c _ h => ?_, fun _ => hd, Around.frames_deeper e0.frames, .inr ⟨rfl, rfl⟩, fun b z => absurd z (noA b), e0.bs, e0.bsz, fun b _ _ => noA b, fun b z => absurd z (noA b), e0.funs, e0.frf⟩,
    rfl, e0.bare, Un.kept hk, ⟨_, x.toInCall.ns, fun i y v h1 h2 h3 => ?_⟩, fun y c h => ⟨_, x.cell y c h⟩, e0.hok.fresh (Nat.le_refl _), fun y c h => ?_, fun p hp => absurd (show p ∈ ([] : List (Addr × Obj)) from hp) (by simp), e0.hok.kept hk, ?_⟩
  . exact name_of_addr x.apart (PySem.mem_of_lookup h1) (PySem.mem_of_lookup h2)
  . have hy : scope.names.lookup y = some .cell \/ scope.names.lookup y = some .free := hy
    rcases hy with hy | hy
    . exact cell_has hy
    . exact absurd rfl (S.nofree _ (PySem.mem_of_lookup hy))
  . exact Nat.le_of_lt (x.above y c (PySem.mem_of_lookup h))
  . have hi : i < vs.length := by
      unfold start at h2
      by_cases hi : i < vs.length
      . exact hi
      . rw [List.getElem?_append_right (by simpa using hi)] at h2
        rw [List.getElem?_replicate] at h2
        split at h2 <;> cases h2
    have ha : vs[i]? = some v := by
      unfold start at h2
      rw [List.getElem?_append_left (by simpa using hi), List.getElem?_map] at h2
      cases e : vs[i]? with
      | none => rw [e] at h2; cases h2
      | some a => rw [e] at h2; cases h2; rfl
    obtain ⟨u, hu, rv⟩ := r.get ha
    have hp : ps[i]? = some y := by
      rw [<- S.pre, List.getElem?_take_of_lt (by omega)]; exact h1
    have ndP : ps.Nodup := by rw [<- S.pre]; exact S.nd.sublist (List.take_sublist _ _)
    refine ⟨u, rv, ?_⟩
    rcases S.par y (List.mem_of_getElem? hp) with k | k
    . exact .inl ⟨k, bindL_get ndP hp hu k⟩
    . obtain ⟨c, e⟩ := cell_has (n := s.heap.objs.size + 1) k
      refine .inr ⟨.inl k, c, e, ?_⟩
      have q := x.cell y c e
      rw [bindC_get ndP hp hu (by show scope.names.lookup y ≠ _; rw [k]; decide)] at q
      exact q
  . exact e0.hok.fresh (Nat.le_of_lt (x.above y c (PySem.mem_of_lookup h)))
  . unfold start
    show _ = N.length
    rw [List.length_append, List.length_map, List.length_replicate]
    omega
theorem fn_of {CX : CXT} {P : Program} {w : World} {K : PySem.W.Frag} {mg : Str -> Option Value} {base : Heap} {k : Nat} {f : Addr} {name qual : Str} {params : Arguments} {body : List Stmt} {scope : Scope} {dV kV doc pm cdv ct oc : Value} {an od : Option Addr}
    {osl : Array (Option Value)} {N ps : List Str} {sp : Sp} (lk : K.lookup f = some ⟨oc, od, .func (PySem.W.fnOf name qual params body scope dV kV doc pm an cdv ct), osl⟩) (hcd : PySem.W.codeIn K cdv qual = true) (S : FnScope N ps scope)
    (len : ∀ vs H Q E, sp vs H Q E -> vs.length = ps.length)
    (hbody : ∀ (A : Around) (outer : List Env) (s : Shared) (H : Hp) (vs : List V) (Q : VK) (E : XK), Room k (A.deeper (envOfC qual scope s.heap.objs.size f cdv)) -> sp vs H Q E ->
      ∃ t, PSs (cxOf CX P w K mg base N qual scope f cdv A outer s H E) body t /\ t { nx := fun _ H' => Q .non H', rt := Q } (start N vs) H) :
    FnOk P w K mg base CX (k + 1) f (PySem.W.fnOf name qual params body scope dV kV doc pm an cdv ct) ps sp := by
  refine ⟨len, fun A outer s H args us vs Q E hr e0 hb r hsp => ?_⟩
  have hl := len _ _ _ _ hsp
  have KX : K.In s.heap := e0.mod.kin.keeps fun b o e => (e0.bs b o e).1
  have lim : s.heap.NoLimit := e0.mod.nolimit.keeps fun b o e => (e0.bs b o e).1
  have hkind : ∀ y ∈ ps.zip us, scope.names.lookup y.1 = some .local \/ (scope.names.lookup y.1 = some .cell /\ ((cellsFrom (s.heap.objs.size + 1) scope.names []).lookup y.1).isSome = true) := fun ⟨n, v⟩ hy => by
    rcases S.par n (List.of_mem_zip hy).1 with q | q
    . exact .inl q
    . exact .inr ⟨q, PySem.W.cellsFrom_some _ _ _ (.inl q)⟩
  refine codeAny_call_function hr.depth (KX _ _ lk) rfl S.co S.gen rfl (PySem.W.codeRec_of KX hcd) (hb _ _ _ _ ?_)
  refine wpAny_newFunctionEnv_cells S.kind hkind fun env he s1 x => ?_
  subst he
  refine ⟨lim.keeps x.toInCall.keep, codeAny_func ?_⟩
  obtain ⟨t, ht, hq⟩ := hbody A outer s H vs Q E (hr.deeper _) hsp
  have I : Inv (cxOf CX P w K mg base N qual scope f cdv A outer s H E) [] (start N vs) H s1 := inv_start S hr.hd e0 hl r x
  refine wpAny_mono (ht [] s1 (start N vs) H _ I hq) (fun fl s' hs => ?_) fun e s' hs => hs
  have fin : ∀ {σ' : St} {H' : Hp} {v : V} {u : Value}, Inv (cxOf CX P w K mg base N qual scope f cdv A outer s H E) [] σ' H' s' -> RelV v u -> Q v H' -> CE outer P w H s Q u s' :=
    fun {σ' H' v u} J rv q => ⟨v, H', J.os, J.bare, J.base, J.hok, rv, q⟩
  cases fl with
  | ret u =>
    obtain ⟨v, σ', H', J, rv, q⟩ := hs
    exact fin J rv q
  | next =>
    obtain ⟨σ', H', J, q⟩ := hs
    exact fin (v := V.non) (u := Value.none) J rfl q
  | brk =>
    obtain ⟨_, _, _, q⟩ := hs
    exact False.elim q
  | cont =>
    obtain ⟨_, _, _, q⟩ := hs
    exact False.elim q
end L2
namespace L2
open PySem PySem.Spec PyProof.Rows
section
variable {X : Cx} {x : Str} {p pos : Pos} {e : Expr} {es : List Expr} {t : TA} {id T : String} {r : List V -> Hp -> VK -> Prop}
def tCB (r : List V -> Hp -> VK -> Prop) (t : TA) : TE := fun σ H Q => t σ H fun vs H1 => r vs H1 Q
theorem pe_callB (hc : CallR X (.builtin id) r) (hg : Gl X x) (hm : X.mg x = none) (hv : bootBuiltins x = some (.builtin id)) (ha : PA X (e :: es) t) (hn : x ≠ "__name__" := by decide) (hdb : (x == ("__debug__" : Str)) = false := by decide)
    (he : starEach (e :: es) X.env = (false, eval e X.env) :: starEach es X.env := by rfl) (hpl : (backTo pos (starEach es X.env)).any (·.1) = false := by rfl) : PE X (.Call (.Name x p) (e :: es) [] pos) (tCB r t) := by
  intro pins s σ H Q I h
  refine wpAny_Call_Name_kw (ld_blt I hg hm hv ?_ hn hdb)
  exact PyProof.Rows.callWith_builtin1 (thn (ha pos pins s σ H _ I h) fun us s1 ⟨vs, H1, I1, r1, q1⟩ => hc pins s1 σ H1 vs us Q I1 r1 q1) he hpl
theorem pe_callTy (hc : CallR X (.type T) r) (hg : Gl X x) (hm : X.mg x = none) (hv : bootBuiltins x = some (.type T)) (ha : PA X (e :: es) t) (hn : x ≠ "__name__" := by decide) (hdb : (x == ("__debug__" : Str)) = false := by decide)
    (he : starEach (e :: es) X.env = (false, eval e X.env) :: starEach es X.env := by rfl) (hpl : (backTo pos (starEach es X.env)).any (·.1) = false := by rfl) : PE X (.Call (.Name x p) (e :: es) [] pos) (tCB r t) := by
  intro pins s σ H Q I h
  refine wpAny_Call_Name_kw (ld_blt I hg hm hv ?_ hn hdb)
  exact PyProof.Rows.callWith_type1 (thn (ha pos pins s σ H _ I h) fun us s1 ⟨vs, H1, I1, r1, q1⟩ => hc pins s1 σ H1 vs us Q I1 r1 q1) he hpl
end
end L2
namespace HT
open PySem PyProof.Rows
section
open PySem.SeqAt
open PySem.AutoSeq1 (wpAny_loadPart')
open PySem.MeetsSeq PySem.MeetsSeq2 PySem.MeetsSeq3
end
section
variable {prog : Program} {w : World} {A : Around} {E : Value -> Shared -> Prop} {s : Shared}
theorem cat_tup {t b : Addr} {vs ws : List Value} {Q : Value -> Shared -> Prop} (ht : IsTup s.heap t vs.toArray) (hb : IsTup s.heap b ws.toArray) (hv : vs ≠ [])
    (h1 : ws = [] -> Q (.ref t) s) (h2 : ws ≠ [] -> Q (.ref s.heap.objs.size) { s with heap := s.heap.push { cls := .type "tuple", data := .seq (vs ++ ws).toArray } })
    (hsz : vs.length + ws.length <= sizeLine) : wpAny (model prog w) A (binaryOp .Add (.ref t) (.ref b)) Q E s := by
  obtain ⟨⟨cls, dd, data, sl⟩, ho, hc, n, hd⟩ := id ht
  obtain ⟨⟨cls2, dd2, data2, sl2⟩, ho2, hc2, n2, hd2⟩ := id hb
  simp only at hc hd hc2 hd2
  subst hc hd hc2 hd2
  have e : vs.toArray ++ ws.toArray = (vs ++ ws).toArray := by simp
  by_cases hw : ws = []
  . exact concat_meets ⟨_, ho, rfl⟩ ⟨_, ho2, rfl⟩ noFill_tuple_add seq_tuple_add PySem.F.slot_tuple_add PySem.F.entry_tuple_add (PySem.F.args_tuple_add_2 _ _)
      (tuple_addW1 t b vs.toArray ws.toArray n n2 dd dd2 sl sl2 (by simpa using hv) (by simp [hw])) ⟨ho, ho2, h1 hw⟩
  . refine concat_meets ⟨_, ho, rfl⟩ ⟨_, ho2, rfl⟩ noFill_tuple_add seq_tuple_add PySem.F.slot_tuple_add PySem.F.entry_tuple_add (PySem.F.args_tuple_add_2 _ _)
      (tuple_addW2 t b vs.toArray ws.toArray n n2 dd dd2 sl sl2 (by simpa using hv) (by simpa using hw) (by rw [List.size_toArray, List.size_toArray]; exact hsz)) ⟨ho, ho2, ?_⟩
    rw [e]
    exact h2 hw
def sIx (n d : Nat) : Option Int -> Nat
  | none => d
  | some v => if v < 0 then (v + (n : Int)).toNat else min v.toNat n
theorem sIx_le (n d : Nat) (hd : d <= n) (o : Option Int) : sIx n d o <= n := by
  cases o with
  | none => exact hd
  | some v =>
    show (if v < 0 then (v + (n : Int)).toNat else min v.toNat n) <= n
    by_cases hv : v < 0
    . rw [if_pos hv]; omega
    . rw [if_neg hv]; exact Nat.min_le_right _ _
theorem clip_eq (v : Int) (n d : Nat) : (if v < 0 then max (v + (n : Int)) 0 else min v (n : Int)) = ((sIx n d (some v) : Nat) : Int) := by
  show (if v < 0 then max (v + (n : Int)) 0 else min v (n : Int)) = (((if v < 0 then (v + (n : Int)).toNat else min v.toNat n) : Nat) : Int)
  by_cases hv : v < 0
  . simp only [if_pos hv]; omega
  . simp only [if_neg hv]; omega
theorem adjust_gen (lo hi : Option Int) (n : Nat) : Builtin.Slice.sliceAdjust lo hi 1 (n : Int) = (((sIx n 0 lo : Nat) : Int), ((sIx n n hi : Nat) : Int)) := by
  have h1 : ¬ ((1 : Int) < 0) := by omega
  unfold Builtin.Slice.sliceAdjust
  simp only [h1, if_false]
  refine Prod.ext ?_ ?_
  . cases lo with
    | none => rfl
    | some v => exact clip_eq v n 0
  . cases hi with
    | none => rfl
    | some v => exact clip_eq v n n
theorem places_gen (i j : Nat) : Builtin.Slice.slicePlaces (i : Int) (j : Int) 1 = j - i := by
  unfold Builtin.Slice.slicePlaces
  have h1 : (1 : Int) > 0 := by omega
  simp only [h1, if_true, Int.ediv_one]
  split <;> omega
theorem slicePart_ {v : Value} {o : Option Int} {Q : Option Int -> Shared -> Prop} (p : IsPart v o) (h : Q o s) : wpAny (model prog w) A (Builtin.Slice.slicePartIndex v) Q E s := by
  cases p with
  | none => exact slicePart_none h
  | int i t => exact slicePart_int h
theorem sliceApplied_gen {sl : Addr} {vl vu : Value} {lo hi : Option Int} {n : Nat} {Q : Int × Int × Nat -> Shared -> Prop} (hs : s.heap.IsSliceOf sl vl vu .none) (pl : IsPart vl lo) (pu : IsPart vu hi)
    (h : Q (((sIx n 0 lo : Nat) : Int), 1, sIx n n hi - sIx n 0 lo) s) : wpAny (model prog w) A (Builtin.Slice.sliceApplied (.ref sl) (pure (n : Int))) Q E s := by
  obtain ⟨os, hos, hcs, hds⟩ := id hs
  unfold Builtin.Slice.sliceApplied Builtin.Slice.sliceFields
  refine wpAny_bind (wpAny_bind (wpAny_field hos hds (x := vl) rfl (wpAny_bind (wpAny_field hos hds (x := vu) rfl (wpAny_bind (wpAny_field hos hds (x := .none) rfl (wpAny_pure ?_)))))))
  refine wpAny_bind (slicePart_none ?_)
  show wpAny _ _ (if ((1 : Int) == 0) = true then _ else _) _ _ s
  rw [if_neg (by decide)]
  refine wpAny_bind (slicePart_ pl (wpAny_bind (slicePart_ pu (wpAny_bind (wpAny_pure ?_)))))
  show wpAny _ _ (match Builtin.Slice.sliceAdjust lo hi 1 (n : Int) with | (lo, hi) => pure (lo, (1 : Int), Builtin.Slice.slicePlaces lo hi 1)) _ _ s
  rw [adjust_gen lo hi n]
  show wpAny _ _ (pure (((sIx n 0 lo : Nat) : Int), (1 : Int), Builtin.Slice.slicePlaces ((sIx n 0 lo : Nat) : Int) ((sIx n n hi : Nat) : Int) 1)) _ _ s
  rw [places_gen]
  exact wpAny_pure h
theorem pick_gen (xs : Array Value) (i k : Nat) : ((List.range k).filterMap fun (m : Nat) => xs[((i : Int) + (m : Int) * 1).toNat]?).toArray = ((xs.toList.drop i).take k).toArray := by
  have e : (fun (m : Nat) => xs[((i : Int) + (m : Int) * 1).toNat]?) = fun m => xs[i + m]? := by
    funext m
    have : ((i : Int) + (m : Int) * 1).toNat = i + m := by omega
    rw [this]
  rw [e]
  have := pick_run xs i k
  rw [List.filterMap_map] at this
  have e2 : ((fun x => xs[x]?) ∘ fun x => i + x) = fun m => xs[i + m]? := rfl
  rw [e2] at this
  rw [this]
theorem getItem_tuple_cut {t sl : Addr} {items : Array Value} {vl vu : Value} {lo hi : Option Int} {Q : Value -> Shared -> Prop} (ht : IsTup s.heap t items) (hs : s.heap.IsSliceOf sl vl vu .none) (pl : IsPart vl lo) (pu : IsPart vu hi)
    (hw : ¬ (sIx items.size 0 lo = 0 /\ sIx items.size items.size hi = items.size))
    (h : Q (.ref s.heap.objs.size) { s with heap := s.heap.push { cls := .type "tuple", data := .seq ((items.toList.drop (sIx items.size 0 lo)).take (sIx items.size items.size hi - sIx items.size 0 lo)).toArray } })
    (hsz : items.size <= sizeLine) : wpAny (model prog w) A (getItem (.ref t) (.ref sl)) Q E s := by
  have htake : sizeOk (.seq ((items.toList.drop (sIx items.size 0 lo)).take (sIx items.size items.size hi - sIx items.size 0 lo)).toArray) := by
    show ((items.toList.drop (sIx items.size 0 lo)).take (sIx items.size items.size hi - sIx items.size 0 lo)).toArray.size <= sizeLine
    rw [List.size_toArray, List.length_take, List.length_drop, Array.length_toList]
    omega
  have hj : sIx items.size items.size hi <= items.size := sIx_le _ _ (Nat.le_refl _) hi
  obtain ⟨os, hos, hcs, hds⟩ := id hs
  have hTs : s.TypeIs (.ref sl) "slice" := ⟨os, hos, hcs⟩
  unfold getItem
  try with_reducible refine wpAny_holding ?_
  first | refine wpAny_bind (wpAny_pure ?_) | skip
  refine wpAny_bind (wpAny_sequenceKey ht.typeIs (by decide) ?_)
  refine wpAny_bind (wpAny_callSpecial?_slot (name := Str.ofString "__getitem__") ht.typeIs PyProof.Rows.slot_tuple_getitem
    (wpAny_call_entry PyProof.Rows.slot_tuple_getitem ht.typeIs entry_tuple_getitem ?_ (args_tuple_getitem _ _)))
  show wpAny _ _ (Builtin.Tuple.tupleItemsOf (.ref t) >>= _) _ _ s
  refine wpAny_bind (tupleItemsOf_ ht ?_)
  refine wpAny_bind (wpAny_typeOf hTs ?_)
  rw [if_pos (by decide)]
  refine wpAny_bind (sliceApplied_gen hs pl pu ?_)
  have hno : ¬ ((((sIx items.size 0 lo : Nat) : Int) == 0 && (1 : Int) == 1 && (sIx items.size items.size hi - sIx items.size 0 lo) == items.size) = true) := by
    intro q
    rw [Bool.and_eq_true, Bool.and_eq_true] at q
    have q1 : ((sIx items.size 0 lo : Nat) : Int) = 0 := eq_of_beq q.1.1
    have q2 : sIx items.size items.size hi - sIx items.size 0 lo = items.size := eq_of_beq q.2
    exact hw ⟨by omega, by omega⟩
  show wpAny _ _ (if (((sIx items.size 0 lo : Nat) : Int) == 0 && (1 : Int) == 1 && (sIx items.size items.size hi - sIx items.size 0 lo) == items.size) = true then _ else _) _ _ s
  rw [if_neg hno, pick_gen]
  first
    | exact wpAny_bind (m := Builtin.Tuple.tupleExact _) (wpAny_newObj_type (wpAny_pure ⟨_, rfl, wpAny_pure h⟩) htake)
    | exact wpAny_bind (m := Builtin.Tuple.tupleExact _) (wpAny_newObj_type (wpAny_bind (wpAny_pure (wpAny_pure ⟨_, rfl, wpAny_pure h⟩))) htake)
    | exact wpAny_bind (wpAny_bind (m := Builtin.Tuple.tupleExact _) (wpAny_newObj_type (wpAny_pure (wpAny_pure ⟨_, rfl, wpAny_pure h⟩)) htake))
    | exact wpAny_bind (wpAny_bind (m := Builtin.Tuple.tupleExact _) (wpAny_newObj_type (wpAny_pure ⟨_, rfl, wpAny_pure h⟩) htake))
end
end HT
namespace L2
open PySem PySem.Spec PyProof.Rows
abbrev TO := St -> Hp -> (Option Int -> Hp -> Prop) -> Prop
def PO (X : Cx) (e : Option Expr) (t : TO) : Prop :=
  ∀ (pins : List (Addr × Obj)) (s : Shared) (σ : St) (H : Hp) (Q : Option Int -> Hp -> Prop), Inv X pins σ H s -> t σ H Q ->
    wpAny (model X.prog X.w) X.A (evalPart e X.env) (fun u s' => ∃ o H', Inv X pins σ H' s' /\ IsPart u o /\ Q o H') X.xe s
def tNoPart : TO := fun _ H Q => Q none H
def tPart (t : TE) : TO := fun σ H Q => t σ H fun x H1 => ∃ i, x = .int i /\ Q (some i) H1
theorem intsAre_of {ns : List Int} : ∀ {us : List Value}, Vals (ns.map V.int) us -> IntsAre us ns := by
  induction ns with
  | nil => intro us r; rw [List.map_nil] at r; cases r; exact .nil
  | cons n ns ih =>
    intro us r
    rw [List.map_cons] at r
    cases r with
    | cons r1 r2 =>
      obtain ⟨t, e⟩ := r1
      subst e
      exact .cons n t (ih r2)
section
variable {X : Cx} {e : Expr} {te : TE} {lo hi : Option Expr} {tl th : TO} {pos p2 : Pos}
theorem po_none : PO X none tNoPart := by
  intro pins s σ H Q I h
  rw [evalPart_none]
  exact wpAny_pure ⟨none, H, I, .none, h⟩
theorem po_some (h : PE X e te) : PO X (some e) (tPart te) := by
  intro pins s σ H Q I hw
  rw [evalPart_some]
  refine thn (h pins s σ H _ I hw) fun u s1 ⟨x, H1, I1, r1, q1⟩ => ?_
  obtain ⟨i, rfl, q⟩ := q1
  obtain ⟨t, rfl⟩ := r1
  exact ⟨some i, H1, I1, .int i t, q⟩
def SlR (X : Cx) (r : V -> Option Int -> Option Int -> Hp -> VK -> Prop) : Prop :=
  ∀ (pins : List (Addr × Obj)) (s : Shared) (σ : St) (H : Hp) (x : V) (v vl vu : Value) (lo hi : Option Int) (sl : Addr) (Q : VK), Inv X pins σ H s -> RelV x v -> s.heap.IsSliceOf sl vl vu .none -> IsPart vl lo -> IsPart vu hi -> r x lo hi H Q ->
    ∃ T id, typeLookup (.type T) "__getitem__" = pure (some (.builtin id)) /\ s.TypeIs v T /\ wpAny (model X.prog X.w) X.A (getItem v (.ref sl)) (EP X pins σ Q) X.xe s
def tSl (r : V -> Option Int -> Option Int -> Hp -> VK -> Prop) (te : TE) (tl th : TO) : TE := fun σ H Q => te σ H fun x H1 => tl σ H1 fun l H2 => th σ H2 fun u H3 => r x l u H3 Q
theorem pe_slice {r : V -> Option Int -> Option Int -> Hp -> VK -> Prop} (hr : SlR X r) (he : PE X e te) (hl : PO X lo tl) (hu : PO X hi th) : PE X (.Subscript e (.Slice lo hi none p2) pos) (tSl r te tl th) := by
  intro pins s σ H Q I h
  refine Subscript_ (thn (he pins s σ H _ I h) fun v s1 ⟨x, H1, I1, r1, q1⟩ => ?_)
  refine wpAny_Slice (thn (hl pins s1 σ H1 _ I1 q1) fun vl s2 ⟨l, H2, I2, pl, q2⟩ => thn (hu pins s2 σ H2 _ I2 q2) fun vu s3 ⟨u, H3, I3, pu, q3⟩ => ?_)
  rw [evalPart_none]
  refine wpAny_pure ?_
  have I4 : Inv X pins σ H3 { s3 with heap := s3.heap.push { cls := .type "slice", data := .fields #[vl, vu, .none] } } := I3.kept (t' := s3.toks) fun b ob q => Heap.get?_push_of_some _ q
  obtain ⟨T, id, hT, ht, hg⟩ := hr pins { s3 with heap := s3.heap.push { cls := .type "slice", data := .fields #[vl, vu, .none] } } σ H3 x v vl vu l u s3.heap.objs.size Q I4 r1 (Heap.IsSliceOf.new ..) pl pu q3
  show wpAny (model X.prog X.w) X.A (subscriptTail e (.Slice lo hi none p2) v (.ref s3.heap.objs.size)) (EP X pins σ Q) X.xe { s3 with heap := s3.heap.push { cls := .type "slice", data := .fields #[vl, vu, .none] } }
  exact tail_any (ops := [.ref s3.heap.objs.size, v]) ht hT hg (by with_unfolding_all rfl)
def cutV (xs : List V) (lo hi : Option Int) : List V := (xs.drop (HT.sIx xs.length 0 lo)).take (HT.sIx xs.length xs.length hi - HT.sIx xs.length 0 lo)
theorem cutV_length (xs : List V) (lo hi : Option Int) : (cutV xs lo hi).length <= xs.length := by
  unfold cutV
  rw [List.length_take, List.length_drop]
  omega
def rSlT (K : PySem.W.Frag) : V -> Option Int -> Option Int -> Hp -> VK -> Prop := fun x lo hi H Q => ∃ a xs, x = .ref a /\ SqT K H a xs /\
  ¬ (HT.sIx xs.length 0 lo = 0 /\ HT.sIx xs.length xs.length hi = xs.length) /\ ∀ p, H p = none -> Q (.ref p) (upd H p (.tup (cutV xs lo hi)))
theorem sl_tup : SlR X (rSlT X.K) := by
  intro pins s σ H x v vl vu lo hi sl Q I rx hs pl pu h
  obtain ⟨a, xs, rfl, hx, hw, q⟩ := h
  cases rx
  obtain ⟨its, r, ht, hz⟩ := I.tuple hx
  have hlen : its.toArray.size = xs.length := by rw [List.size_toArray]; exact r.length.symm
  refine ⟨"tuple", _, PyProof.Rows.slot_tuple_getitem.lookup, ht.typeIs, ?_⟩
  refine HT.getItem_tuple_cut ht hs pl pu (by rw [hlen]; exact hw) ?_ (by rw [hlen]; exact hz)
  rw [hlen]
  refine ⟨.ref s.heap.objs.size, _, I.laid (t' := s.toks) (o := .tup (cutV xs lo hi)) (fun b ob q => Heap.get?_push_of_some _ q) (Nat.le_refl _) ?_, rfl, q _ (I.hok.fresh (Nat.le_refl _))⟩
  exact ⟨Nat.le_trans (cutV_length xs lo hi) hz, _, (r.drop (HT.sIx xs.length 0 lo)).take (HT.sIx xs.length xs.length hi - HT.sIx xs.length 0 lo), IsTup.new _ _⟩
def rCatT (K : PySem.W.Frag) : R2 := fun x y H Q => ∃ a b xs ys, x = .ref a /\ y = .ref b /\ SqT K H a xs /\ SqT K H b ys /\ xs ≠ [] /\ xs.length + ys.length <= sizeLine /\
  (ys = [] -> Q (.ref a) H) /\ (ys ≠ [] -> ∀ p, H p = none -> Q (.ref p) (upd H p (.tup (xs ++ ys))))
theorem Vals.nil_iff {xs : List V} {us : List Value} (r : Vals xs us) : us = [] ↔ xs = [] := by
  cases r with
  | nil => simp
  | cons _ _ => simp
theorem op_catT : OpR X (binaryOp .Add) (rCatT X.K) := by
  intro pins s σ H x y v u Q I rx ry h
  obtain ⟨a, b, xs, ys, rfl, rfl, ha, hb, hx, hz, q1, q2⟩ := h
  cases rx
  cases ry
  obtain ⟨its, r1, p1, _⟩ := I.tuple ha
  obtain ⟨its2, r2, p2, _⟩ := I.tuple hb
  refine HT.cat_tup p1 p2 (fun z => hx (r1.nil_iff.mp z)) (fun z => ⟨.ref a, H, I, rfl, q1 (r2.nil_iff.mp z)⟩) (fun z => ?_) (by rw [<- r1.length, <- r2.length]; exact hz)
  refine ⟨.ref s.heap.objs.size, _, I.laid (t' := s.toks) (o := .tup (xs ++ ys)) (fun b ob q => Heap.get?_push_of_some _ q) (Nat.le_refl _) ?_, rfl, q2 (fun w => z (r2.nil_iff.mpr w)) _ (I.hok.fresh (Nat.le_refl _))⟩
  exact ⟨by rw [List.length_append]; exact hz, _, r1.append r2, IsTup.new _ _⟩
end
end L2
namespace L2
open PySem PySem.Spec PyProof.Rows
def ixN (n : Nat) (i : Int) : Option Nat := if 0 <= i then (if i < n then some i.toNat else none) else if -(n : Int) <= i then some (i + n).toNat else none
def atI {α : Type} (xs : List α) (i : Int) : Option α := (ixN xs.length i).bind fun j => xs[j]?
theorem ixN_seq {n : Nat} {i : Int} {j : Nat} (h : ixN n i = some j) : seqIndex? i n = some j /\ j < n /\ -(n : Int) <= i /\ i < n := by
  unfold ixN at h
  by_cases h0 : 0 <= i
  . rw [if_pos h0] at h
    by_cases h1 : i < n
    . rw [if_pos h1] at h
      have e : i.toNat = j := Option.some.inj h
      exact ⟨by rw [seqIndex_of h0 h1, e], by omega, by omega, h1⟩
    . rw [if_neg h1] at h; cases h
  . rw [if_neg h0] at h
    by_cases h1 : -(n : Int) <= i
    . rw [if_pos h1] at h
      have e : (i + n).toNat = j := Option.some.inj h
      exact ⟨by rw [seqIndex_neg (by omega) h1, e], by omega, h1, by omega⟩
    . rw [if_neg h1] at h; cases h
theorem atI_get {α : Type} {xs : List α} {i : Int} {v : α} (h : atI xs i = some v) : ∃ j, seqIndex? i xs.length = some j /\ xs[j]? = some v /\ j < xs.length /\ -(xs.length : Int) <= i /\ i < xs.length := by
  unfold atI at h
  cases e : ixN xs.length i with
  | none => rw [e] at h; cases h
  | some j =>
    rw [e] at h
    obtain ⟨h1, h2, h3, h4⟩ := ixN_seq e
    exact ⟨j, h1, h, h2, h3, h4⟩
theorem atI_nat {α : Type} {xs : List α} {j : Nat} {v : α} (h : xs[j]? = some v) : atI xs (j : Int) = some v := by
  have hj : j < xs.length := (List.getElem?_eq_some_iff.mp h).1
  have e : ixN xs.length (j : Int) = some j := by
    unfold ixN
    rw [if_pos (by omega), if_pos (by omega)]; simp
  unfold atI; rw [e]; exact h
def PlainIx (b : Expr) : Prop := ∀ o i, subscripted b false o i = operate [o, i] (getItem o i)
def IxR (X : Cx) (r : R2) : Prop :=
  ∀ (value slice : Expr) (pins : List (Addr × Obj)) (s : Shared) (σ : St) (H : Hp) (x y : V) (v u : Value) (Q : VK), Inv X pins σ H s -> RelV x v -> RelV y u -> r x y H Q ->
    subscripted slice false v u = operate [v, u] (getItem v u) -> wpAny (model X.prog X.w) X.A (subscriptTail value slice v u) (EP X pins σ Q) X.xe s
def MtR (X : Cx) (id : String) (r : V -> List V -> Hp -> VK -> Prop) : Prop :=
  ∀ (pins : List (Addr × Obj)) (s : Shared) (σ : St) (H : Hp) (x : V) (xs : List V) (v : Value) (us : List Value) (Q : VK), Inv X pins σ H s -> RelV x v -> Vals xs us -> r x xs H Q ->
    wpAny (model X.prog X.w) X.A (call (.builtin id) (v :: us)) (EP X pins σ Q) X.xe s
section
variable {X : Cx} {a b : Expr} {ta tb : TE} {pos : Pos}
theorem pe_ix {r : R2} (hr : IxR X r) (ha : PE X a ta) (hb : PE X b tb) (hs : PlainIx b) : PE X (.Subscript a b pos) (tOp r ta tb) := by
  intro pins s σ H Q I h
  exact Subscript_ (binT ha hb I h fun v u s2 x y H2 I2 rx ry q => hr a b pins s2 σ H2 x y v u Q I2 rx ry q (hs _ _))
def rIxL (K : PySem.W.Frag) : R2 := fun x y H Q => ∃ p xs i v, x = .ref p /\ y = .int i /\ SqL K H p xs /\ atI xs i = some v /\ Q v H
def rIxT (K : PySem.W.Frag) : R2 := fun x y H Q => ∃ p xs i v, x = .ref p /\ y = .int i /\ SqT K H p xs /\ atI xs i = some v /\ Q v H
theorem ix_list : IxR X (rIxL X.K) := by
  intro value slice pins s σ H x y v u Q I rx ry h hs
  obtain ⟨p, xs, i, z, rfl, rfl, hq, he, q⟩ := h
  cases rx
  obtain ⟨t, rfl⟩ := ry
  obtain ⟨its, r, pl, hz⟩ := I.list hq
  obtain ⟨j, h1, h2, h3, h4, h5⟩ := atI_get he
  obtain ⟨w, ew, rw'⟩ := r.get h2
  have hl := r.length
  have hn := line63
  have fin : EP X pins σ Q w s := ⟨z, H, I, rw', q⟩
  by_cases h0 : 0 <= i
  . have hj : i.toNat = j := by
      rw [seqIndex_of h0 h5] at h1
      exact Option.some.inj h1
    exact item_listR pl.isList h0 (by omega) (by rw [hj]; simpa using ew) fin hs
  . have hj : (i + (its.toArray.size : Int)).toNat = j := by
      rw [seqIndex_neg (by omega) h4] at h1
      rw [List.size_toArray, <- hl]
      exact Option.some.inj h1
    exact subscriptTail_builtinR (x := w) pl.isList.typeIs slot_list_getitem.lookup
      (wpAny_getItem_list_neg (Q := fun r s' => r = w /\ EP X pins σ Q r s') pl.isList (by omega) (by rw [List.size_toArray] <;> omega) (by omega) (by rw [hj]; simpa using ew) ⟨rfl, fin⟩) hs
theorem ix_tup : IxR X (rIxT X.K) := by
  intro value slice pins s σ H x y v u Q I rx ry h hs
  obtain ⟨p, xs, i, z, rfl, rfl, hq, he, q⟩ := h
  cases rx
  obtain ⟨t, rfl⟩ := ry
  obtain ⟨its, r, pl, hz⟩ := I.tuple hq
  obtain ⟨j, h1, h2, h3, h4, h5⟩ := atI_get he
  obtain ⟨w, ew, rw'⟩ := r.get h2
  have hl := r.length
  have hn := line63
  have fin : EP X pins σ Q w s := ⟨z, H, I, rw', q⟩
  exact subscriptTail_builtinR (x := w) pl.typeIs slot_tuple_getitem.lookup
    (getItem_tuple (j := j) (Q := fun r s' => r = w /\ EP X pins σ Q r s') pl (by omega) (by omega) (by rw [List.size_toArray, <- hl]; exact h1) (by simpa using ew) ⟨rfl, fin⟩) hs
def flatV : V -> Bool
  | .non => true
  | .bl _ => true
  | .int _ => true
  | .str _ => true
  | _ => false
def eqV : V -> V -> Bool
  | .non, .non => true
  | .bl a, .bl b => a == b
  | .bl a, .int b => (if a then 1 else 0) == b
  | .int a, .bl b => a == (if b then 1 else 0)
  | .int a, .int b => a == b
  | .str a, .str b => a == b
  | _, _ => false
theorem eqAt_V {A : Around} {s : Shared} {y x : V} {u v : Value} (ry : RelV y u) (rx : RelV x v) (fy : flatV y = true) (fx : flatV x = true) : SeqAt.EqAt A s u v (eqV y x) := by
  cases y with
  | non =>
    cases ry
    cases x with
    | non => cases rx; exact SeqAt.EqAt.same _
    | bl b => cases rx; exact SeqAt.EqAt.none_bool b
    | int b => obtain ⟨t, rfl⟩ := rx; exact SeqAt.EqAt.none_int b t
    | str b => obtain ⟨t, rfl⟩ := rx; exact SeqAt.EqAt.none_str b t
    | _ => exact absurd (show false = true from fx) Bool.false_ne_true
  | bl a =>
    cases ry
    cases x with
    | non => cases rx; exact SeqAt.EqAt.bool_none a
    | bl b => cases rx; exact SeqAt.EqAt.bool_bool a b
    | int b => obtain ⟨t, rfl⟩ := rx; exact SeqAt.EqAt.bool_int a b t
    | str b => obtain ⟨t, rfl⟩ := rx; exact SeqAt.EqAt.bool_str a b t
    | _ => exact absurd (show false = true from fx) Bool.false_ne_true
  | int a =>
    obtain ⟨t', rfl⟩ := ry
    cases x with
    | non => cases rx; exact SeqAt.EqAt.int_none a t'
    | bl b => cases rx; exact SeqAt.EqAt.int_bool a t' b
    | int b => obtain ⟨t, rfl⟩ := rx; exact SeqAt.EqAt.int_int a t' b t
    | str b => obtain ⟨t, rfl⟩ := rx; exact SeqAt.EqAt.int_str a t' b t
    | _ => exact absurd (show false = true from fx) Bool.false_ne_true
  | str a =>
    obtain ⟨t', rfl⟩ := ry
    cases x with
    | non => cases rx; exact SeqAt.EqAt.str_none a t'
    | bl b => cases rx; exact SeqAt.EqAt.str_bool a t' b
    | int b => obtain ⟨t, rfl⟩ := rx; exact SeqAt.EqAt.str_int a t' b t
    | str b => obtain ⟨t, rfl⟩ := rx; exact SeqAt.EqAt.str_str a t' b t
    | _ => exact absurd (show false = true from fx) Bool.false_ne_true
  | _ => exact absurd (show false = true from fy) Bool.false_ne_true
theorem call_len_seq : CallR X (.builtin "len") (fun xs H Q => ∃ p ys, xs = [.ref p] /\ (SqL X.K H p ys \/ SqT X.K H p ys) /\ Q (.int ys.length) H) := by
  intro pins s σ H xs us Q I r h
  obtain ⟨p, ys, rfl, hq, q⟩ := h
  obtain ⟨u, rfl, rx⟩ := vals1 r
  cases rx
  have hn := line63
  rcases hq with hq | hq
  . obtain ⟨its, r', pl, hz⟩ := I.list hq
    have hlen := r'.length
    exact Calls.call_len_list pl.isList (by simp only [List.size_toArray] <;> omega) ⟨.int ys.length, H, I.tok _, ⟨s.toks + 1, by rw [List.size_toArray, hlen]⟩, q⟩
  . obtain ⟨its, r', pl, hz⟩ := I.tuple hq
    have hlen := r'.length
    exact len_tuple pl (by simp only [List.size_toArray] <;> omega) ⟨.int ys.length, H, I.tok _, ⟨s.toks + 1, by rw [List.size_toArray, hlen]⟩, q⟩
theorem call_tuple_of : CallR X (.type "tuple") (fun xs H Q => ∃ p ys, xs = [.ref p] /\ ((SqL X.K H p ys /\ ∀ l, H l = none -> Q (.ref l) (upd H l (.tup ys))) \/ (SqT X.K H p ys /\ Q (.ref p) H))) := by
  intro pins s σ H xs us Q I r h
  obtain ⟨p, ys, rfl, h⟩ := h
  obtain ⟨u, rfl, rx⟩ := vals1 r
  cases rx
  rcases h with ⟨hq, q⟩ | ⟨hq, q⟩
  . obtain ⟨its, r', pl, hz⟩ := I.list hq
    have hlen := r'.length
    refine call_tuple_list pl.isList (fun h' kp => ?_) (by simp only [List.size_toArray] <;> omega)
    have I1 : Inv X pins σ H { s with heap := h' } := I.kept (t' := s.toks) kp
    have I2 : Inv X pins σ (upd H h'.objs.size (.tup ys)) { s with heap := h'.push { cls := .type "tuple", data := .seq its.toArray } } :=
      I1.laid (t' := s.toks) (fun b o e => Heap.get?_push_of_some _ e) (Nat.le_refl _) (show ObjOk X.prog X.w _ _ _ (.tup ys) from ⟨hz, its, r', IsTup.new _ _⟩)
    exact ⟨.ref h'.objs.size, _, I2, rfl, q _ (I1.hok.fresh (Nat.le_refl _))⟩
  . obtain ⟨its, r', pl, hz⟩ := I.tuple hq
    exact call_tuple_same pl ⟨.ref p, H, I, rfl, q⟩
def tyV (K : PySem.W.Frag) (T : String) (x : V) (H : Hp) : Prop := match x with
  | .str _ => T = "str"
  | .int _ => T = "int"
  | .ref p => (T = "list" /\ ∃ xs, SqL K H p xs) \/ (T = "tuple" /\ ∃ o, K.lookup p = some o /\ o.cls = .type "tuple" /\ o.dict = none) \/
      (T = "dict" /\ ((∃ kvs, H p = some (.dK kvs)) \/ ∃ kvs, H p = some (.dT kvs))) \/ (T = "set" /\ ∃ S n, H p = some (.set S n))
  | _ => False
theorem tyV_is {pins : List (Addr × Obj)} {σ : St} {H : Hp} {s : Shared} {T : String} {x : V} {v : Value} (I : Inv X pins σ H s) (r : RelV x v) (ty : tyV X.K T x H) :
    s.TypeIs v T /\ ∀ a, v = .ref a -> ∃ ob, s.heap.get? a = some ob /\ ob.dict = none := by
  cases x with
  | str z =>
    obtain ⟨t, rfl⟩ := r
    cases (show T = "str" from ty)
    exact ⟨typeIs_str s z t, fun _ e => nomatch e⟩
  | int i =>
    obtain ⟨t, rfl⟩ := r
    cases (show T = "int" from ty)
    exact ⟨typeIs_int s i t, fun _ e => nomatch e⟩
  | ref p =>
    cases r
    rcases ty with ⟨rfl, xs, hq⟩ | ⟨rfl, o, hk, hc, hd⟩ | ⟨rfl, hk⟩ | ⟨rfl, S, n, hk⟩
    . obtain ⟨its, _, pl, _⟩ := I.list hq
      refine ⟨pl.isList.typeIs, fun a e => ?_⟩
      cases e
      obtain ⟨o, n, e, c, hd, _⟩ := pl
      exact ⟨o, e, hd⟩
    . refine ⟨⟨o, I.kIn p o hk, hc⟩, fun a e => ?_⟩
      cases e
      exact ⟨o, I.kIn _ o hk, hd⟩
    . have z : ∃ o, s.heap.get? p = some o /\ o.ExactDict := by
        rcases hk with ⟨kvs, hk⟩ | ⟨kvs, hk⟩
        . obtain ⟨_, _, _, _, o, _, _, e, ex, _⟩ := I.hok p _ hk
          exact ⟨o, e, ex⟩
        . obtain ⟨_, _, _, _, o, _, _, e, ex, _⟩ := I.hok p _ hk
          exact ⟨o, e, ex⟩
      obtain ⟨o, e, ex⟩ := z
      refine ⟨⟨o, e, ex.1⟩, fun a e2 => ?_⟩
      cases e2
      exact ⟨o, e, ex.2.1⟩
    . obtain ⟨o, _, _, _, e, ex, _⟩ := I.hok p _ hk
      refine ⟨⟨o, e, ex.1⟩, fun a e2 => ?_⟩
      cases e2
      exact ⟨o, e, ex.2.1⟩
  | _ => exact False.elim ty
def tBM (K : PySem.W.Frag) (T : String) (r : V -> List V -> Hp -> VK -> Prop) (to : TE) (t : TA) : TE := fun σ H Q => to σ H fun x H1 => tyV K T x H1 /\ t σ H1 fun xs H2 => r x xs H2 Q
variable {o e : Expr} {es : List Expr} {to : TE} {t : TA} {name : Str} {apos cpos : Pos} {T id : String} {r : V -> List V -> Hp -> VK -> Prop}
theorem pe_bm (pa : PlainAttrs T) (slot : Slot T name id) (hty : typeOf (.builtin id) = pure (.type "method_descriptor")) (hm : MtR X id r) (ho : PE X o to) (ha : PA X (e :: es) t)
    (hbase : attributeBase o name X.env (eval o X.env) = eval o X.env := by rfl)
    (hfew : ((backTo cpos (starEach (e :: es) X.env)).all (fun x => !x.1) && (backToKw cpos (keywordEach [] X.env)).all (fun x => x.1.isSome)
      && decide ((e :: es).length + ([] : List Keyword).length + (if ([] : List Keyword).isEmpty then 0 else 1) < 30)) = true := by rfl)
    (hline : (apos.endLine == cpos.line) = true := by rfl) (hs : starEach (e :: es) X.env = (false, eval e X.env) :: starEach es X.env := by rfl) (hplain : (backTo cpos (starEach es X.env)).any (·.1) = false := by rfl) :
    PE X (.Call (.Attribute o name apos) (e :: es) [] cpos) (tBM X.K T r to t) := by
  intro pins s σ H Q I h
  refine wpAny_Call_method_late hbase hfew hline rfl (thn (ho pins s σ H _ I h) fun v s1 ⟨x, H1, I1, r1, ty, q1⟩ => ?_)
  obtain ⟨h1, h2⟩ := tyV_is I1 r1 ty
  refine ⟨T, id, pa, slot, hty, h1, h2, ?_⟩
  have hA := ha cpos pins s1 σ H1 _ I1 q1
  rw [hs] at hA ⊢
  refine Calls.callWith_builtin (by show (false || (backTo cpos (starEach es X.env)).any (·.1)) = false; rw [hplain] <;> rfl) (Calls.evalArgs_plain ?_)
  exact thn hA fun us s2 ⟨vs, H2, I2, r2, q2⟩ => hm pins s2 σ H2 x vs v us Q I2 r1 r2 q2
/- xs.append(e), list.index on a module's tuple .. are MtR facts of 06m -/
end
end L2
namespace L2
open PySem PySem.Spec PyProof.Rows
def MtM (X : Cx) (id : String) (r : V -> List V -> Hp -> VK -> Prop) : Prop :=
  ∀ (pins : List (Addr × Obj)) (s : Shared) (σ : St) (H : Hp) (x : V) (xs : List V) (v : Value) (us : List Value) (Q : VK), Inv X pins σ H s -> RelV x v -> Vals xs us -> r x xs H Q ->
    wpAny (model X.prog X.w) X.A (call (.builtin id) (v :: us)) (EP X pins σ Q) X.xe s
theorem Vals.one : ∀ {x : V} {us : List Value}, Vals [x] us -> ∃ u, us = [u] /\ RelV x u
  | _, _, .cons r .nil => ⟨_, rfl, r⟩
theorem Vals.reverse {xs : List V} {us : List Value} (h : Vals xs us) : Vals xs.reverse us.reverse := by
  induction h with
  | nil => exact .nil
  | cons r t ih => rw [List.reverse_cons, List.reverse_cons]; exact Vals.append ih (.cons r .nil)
theorem Vals.rep {xs : List V} {us : List Value} (h : Vals xs us) : ∀ k : Nat, Vals (List.replicate k xs).flatten (List.replicate k us).flatten
  | 0 => .nil
  | k + 1 => by
    rw [List.replicate_succ, List.replicate_succ, List.flatten_cons, List.flatten_cons]
    exact Vals.append h (Vals.rep h k)
theorem foldl_rep (its : List Value) : ∀ (k : Nat) (acc : List Value),
    List.foldl (fun x1 x2 => x1 ++ x2) acc.toArray (List.replicate k its.toArray) = (acc ++ (List.replicate k its).flatten).toArray
  | 0, acc => by simp
  | k + 1, acc => by
    have e : acc.toArray ++ its.toArray = (acc ++ its).toArray := by simp
    have e2 : (acc ++ its) ++ (List.replicate k its).flatten = acc ++ (List.replicate (k + 1) its).flatten := by
      rw [List.replicate_succ, List.flatten_cons, List.append_assoc]
    rw [<- e2, <- foldl_rep its k (acc ++ its), <- e, List.replicate_succ, List.foldl_cons]
section
variable {X : Cx} {pins : List (Addr × Obj)} {σ : St} {H : Hp} {s : Shared} {l b : Addr} {xs ys zs : List V}
theorem Inv.lset {its its' : List Value} {n : Nat} {f : Array Value -> Array Value} {t' : Nat} (I : Inv X pins σ H s) (hH : H l = some (.lst xs))
    (e : s.heap.get? l = some { cls := .type "list", data := .seq its.toArray n }) (hf : f its.toArray = its'.toArray) (hv : Vals ys its') (hz : ys.length <= sizeLine) :
    Inv X pins σ (upd H l (.lst ys)) { s with heap := s.heap.update l (Obj.mapSeq f), toks := t' } := by
  have q := PySem.IsL.update e f
  rw [hf] at q
  refine I.write (x := l) (e := l) (by rw [hH]; exact trivial) (.inl rfl) (fun b' u hb hu => (Heap.get?_update_other s.heap (Obj.mapSeq f) (Ne.symm hb)).trans hu) ⟨_, q⟩ ?_
  exact ⟨hz, its', _, hv, q⟩
theorem Inv.lnew {its : List Value} {t' : Nat} (I : Inv X pins σ H s) (hv : Vals ys its) (hz : ys.length <= sizeLine) :
    Inv X pins σ (upd H s.heap.objs.size (.lst ys)) { s with heap := s.heap.push { cls := .type "list", data := .seq its.toArray }, toks := t' } :=
  I.laid (fun _ _ q => Heap.get?_push_of_some _ q) (Nat.le_refl _) ⟨hz, its, 0, hv, Heap.get?_push_size _ rfl⟩
theorem Inv.fresh (I : Inv X pins σ H s) : H s.heap.objs.size = none := I.hok.fresh (Nat.le_refl _)
theorem Inv.lstM (I : Inv X pins σ H s) (hH : H l = some (.lst xs)) : xs.length <= sizeLine /\ ∃ (its : List Value) (n : Nat), Vals xs its /\ xs.length = its.length /\ s.heap.get? l = some { cls := .type "list", data := .seq its.toArray n } := by
  obtain ⟨z, its, n, r, e⟩ := I.hok l _ hH
  exact ⟨z, its, n, r, r.length, e⟩
theorem notLongL {n : Nat} (h : n <= sizeLine) : Builtin.List.listTooLong n = false := by
  unfold Builtin.List.listTooLong
  exact decide_eq_false (by omega)
end
section
variable {X : Cx}
def rAppend : V -> List V -> Hp -> VK -> Prop := fun x vs H Q => ∃ l xs y, x = .ref l /\ vs = [y] /\ H l = some (.lst xs) /\ xs.length < sizeLine /\ Q .non (upd H l (.lst (xs ++ [y])))
theorem mt_append : MtM X "list.append" rAppend := by
  intro pins s σ H x vs v us Q I rx rv h
  obtain ⟨l, xs, y, rfl, rfl, hH, hz, q⟩ := h
  cases rx
  obtain ⟨u, rfl, ru⟩ := rv.one
  obtain ⟨z, its, n, r, hl, e⟩ := I.lstM hH
  refine call_meets F.slot_list_append ⟨_, e, rfl⟩ F.entry_list_append (F.args_list_append_2 _ _) (PySem.list_append l its.toArray n u (by rw [List.size_toArray]; omega)) ⟨e, ?_⟩
  refine ⟨.non, _, I.lset (its' := its ++ [u]) hH e (by simp) (r.append (.cons ru .nil)) ?_, rfl, q⟩
  rw [List.length_append, List.length_singleton]
  omega
def rExtend : V -> List V -> Hp -> VK -> Prop := fun x vs H Q => ∃ l b xs zs, x = .ref l /\ vs = [.ref b] /\ H l = some (.lst xs) /\ H b = some (.lst zs) /\ xs.length + zs.length <= sizeLine /\ Q .non (upd H l (.lst (xs ++ zs)))
theorem mt_extend : MtM X "list.extend" rExtend := by
  intro pins s σ H x vs v us Q I rx rv h
  obtain ⟨l, b, xs, zs, rfl, rfl, hH, hB, hz, q⟩ := h
  cases rx
  obtain ⟨u, rfl, ru⟩ := rv.one
  cases ru
  obtain ⟨z, its, n, r, hl, e⟩ := I.lstM hH
  obtain ⟨z2, its2, n2, r2, hl2, e2⟩ := I.lstM hB
  have hsz : its.toArray.size + its2.toArray.size <= sizeLine := by rw [List.size_toArray, List.size_toArray]; omega
  have hlong : ¬ (!its.toArray.isEmpty && Builtin.List.listTooLong (its.toArray.size + its2.toArray.size)) = true := by
    rw [notLongL hsz, Bool.and_false]
    exact Bool.false_ne_true
  refine call_meets F.slot_list_extend ⟨_, e, rfl⟩ F.entry_list_extend (F.args_list_extend_2 _ _)
    (AutoSeq1.list_extend_list_list_0 l its.toArray n b its2.toArray n2 hlong (by rw [List.size_toArray]; omega) (by omega)) ⟨e, e2, ?_⟩
  refine ⟨.non, _, I.lset (its' := its ++ its2) hH e (by simp) (r.append r2) ?_, rfl, q⟩
  rw [List.length_append]
  omega
def rCat : R2 := fun x y H Q => ∃ l b xs zs, x = .ref l /\ y = .ref b /\ H l = some (.lst xs) /\ H b = some (.lst zs) /\ xs.length + zs.length <= sizeLine /\ ∀ p, H p = none -> Q (.ref p) (upd H p (.lst (xs ++ zs)))
theorem op_cat : OpR X (binaryOp .Add) rCat := by
  intro pins s σ H x y v u Q I rx ry h
  obtain ⟨l, b, xs, zs, rfl, rfl, hH, hB, hz, q⟩ := h
  cases rx
  cases ry
  obtain ⟨z, its, n, r, hl, e⟩ := I.lstM hH
  obtain ⟨z2, its2, n2, r2, hl2, e2⟩ := I.lstM hB
  refine PySem.P.add_list e e2 ?_ (by rw [List.size_toArray, List.size_toArray]; omega)
  have ea : its.toArray ++ its2.toArray = (its ++ its2).toArray := by simp
  rw [ea]
  exact ⟨.ref _, _, I.lnew (t' := s.toks) (r.append r2) (by rw [List.length_append]; omega), rfl, q _ I.fresh⟩
theorem len_rep {α : Type} (xs : List α) (k : Nat) : (List.replicate k xs).flatten.length = k * xs.length := by
  induction k with
  | zero => simp
  | succ k ih => rw [List.replicate_succ, List.flatten_cons, List.length_append, ih, Nat.succ_mul, Nat.add_comm]
end
section
variable {prog : Program} {w : World} {A : Around} {E : Value -> Shared -> Prop} {s : Shared}
end
section
variable {X : Cx}
end
end L2
namespace Att
open PySem PySem.W PySem.Calls PyProof.Rows
theorem ints_of_wellAll {P : Params} {h : Heap} : ∀ (ns : List Int) (vs : List Value), WellAll P h vs (ns.map WData.int) -> IntsAre vs ns := by
  intro ns
  induction ns with
  | nil =>
    intro vs w
    rw [List.map_nil] at w
    cases w
    exact .nil
  | cons n ns ih =>
    intro vs w
    rw [List.map_cons] at w
    cases w with
    | cons a b =>
      cases a
      exact .cons _ _ (ih _ b)
theorem script_of {l : OpenLaw} {n : Nat} (hn : l.most = some n) {P : Params} {h : Heap} {args : List WData} {vals : List Value}
    (hpre : l.row.toRowW.claim.pre args = true) (hwl : WellAll P h vals args) :
    ∃ a vs ns, vals = [Value.ref a] /\ args = [WData.list (ns.map WData.int)] /\ h.get? a = some { cls := .type "list", data := .seq vs.toArray } /\ IntsAre vs ns /\ ns.length <= n := by
  have hsh : WShape.hasAll [] args [.list .int] = true := (pre_splitW hpre).1
  have hc : l.pre.holds [] { args := args } = true := (pre_splitW hpre).2
  obtain ⟨d, r, rfl, h1, h2⟩ := hasAllW_cons hsh
  obtain rfl := hasAllW_nil h2
  obtain ⟨xs, rfl, h3⟩ := hasW_list h1
  obtain ⟨ns, rfl⟩ := items_int h3
  have hlen : ns.length <= n := by
    unfold OpenLaw.pre at hc
    have h4 : (WTm.not (.lt (.lit (.int (n : Int))) (.len (.arg 0)))).holds [] { args := [.list (ns.map .int)] } = true := by
      have h4 := (holds_andW hc).1
      rw [hn] at h4
      exact h4
    have h5 := condW_of h4 (w_not (w_lt w_lit (w_len_list (w_arg rfl))))
    rw [List.length_map] at h5
    refine Nat.le_of_not_lt fun q => ?_
    have q' : (n : Int) < ((ns.length : Nat) : Int) := by omega
    first
      | (rw [decide_eq_true q'] at h5; exact absurd h5 (by decide))
      | (simp at h5; omega)
  cases hwl with
  | cons w1 w2 =>
    cases w2
    cases w1 with
    | list ho hall => exact ⟨_, _, ns, rfl, rfl, ho, ints_of_wellAll ns _ hall, hlen⟩
theorem post_true (l : OpenLaw) (args : List WData) : l.row.toRowW.claim.post args (.bool true) args = true :=
  postW_of (r := l.row.toRowW) (X := (true == true))
    (show WShape.has [] (.bool true) .bool = true by first | rfl | decide | simp [WShape.has, WShape.arms, WShape.armsAll])
    (show (WTm.eq .res (.lit (.bool true))).value [] { args := args, res := some (.bool true), after := args } = some (.bool (true == true)) from w_eq_bool (w_res rfl) w_lit) rfl
theorem attach_call {l : OpenLaw} {n : Nat} {q : Program} {loose : List Str} {XP : (Str -> Option Value) -> Heap -> Prop} {YP : World -> Heap -> Prop} {d : DefRec}
    (hn : l.most = some n) (hdf : d.params.defaults = [])
    (call : ∀ (w : World) (s₀ s₁ : Shared) (mg mb : Str -> Option Value) (fa : Addr) (o : Obj) (pm cd doc : Value) (a : Addr) (vs : List Value) (ns : List Int),
      Ground q loose [] XP w s₀ mg mb s₁.heap -> YP w s₁.heap ->
      s₁.heap.get? fa = some o -> o.data = .func (docDef d.name d.params d.body d.scope pm cd doc) -> s₁.heap.CodeRec cd d.name -> mg d.name = some (.ref fa) ->
      s₁.heap.get? a = some { cls := .type "list", data := .seq vs.toArray } -> IntsAre vs ns -> ns.length <= n -> s₁.gens = #[] ->
      codeAny (model l.prog w) callerA (.call (.ref fa) ⟨[.ref a], []⟩) (fun r s' => r = .ok (.ret (.bool true)) /\ OldK s₁.heap s'.heap /\ s'.os = s₁.os /\ AllBare s'.gens) s₁) :
    WalkO q loose XP YP l.row.toRowW d [] (fun f vs => PySem.call f vs) := by
  intro w s₀ s₁ mg mb G Y fa o pm cd doc dV kV ho hd hcd hD hmg hg args vals as hpre hlay hrd hwl hlo
  obtain rfl : dV = .none := Dflts.none hD hdf
  obtain rfl : kV = .none := Dflts.noKw hD
  obtain ⟨a, vs, ns, rfl, rfl, hobj, hints, hlen⟩ := script_of hn hpre hwl
  refine enter_call (codeAny_mono (call w s₀ s₁ mg mb fa o pm cd doc a vs ns G Y ho (fd_plain hd) hcd hmg hobj hints hlen hg) fun r s' hq => ?_)
  obtain ⟨rfl, h2, h3, h4⟩ := hq
  exact ⟨.inl ⟨.bool true, .bool true, [], rfl, fun _ => rfl, .bool true, post_true l _, fun _ => ⟨List.Pairwise.nil, fun _ hm => (nomatch hm)⟩⟩, h2, h3, h4⟩
section
variable {prog : Program} {w : World} {A : Around} {E : Value -> Shared -> Prop} {s : Shared} {K : Frag}
end
end Att
namespace L2
open PySem PySem.Spec PyProof.Rows
theorem vals_ints : ∀ {vs : List Value} {ns : List Int}, IntsAre vs ns -> Vals (ns.map V.int) vs
  | _, _, .nil => .nil
  | _, _, .cons n t h => .cons ⟨t, rfl⟩ (vals_ints h)
def Only (H : Hp) : Prop := ∀ b, H b = none \/ ∃ o xs, H b = some (.frz o (.lst xs))
theorem law_call {P : Program} {w : World} {K : PySem.W.Frag} {mg mb : Str -> Option Value} {CX : CXT} {k : Nat} {fa a : Addr} {fd : FuncData} {x : Str} {sp : Sp} {s₁ : Shared} {vs : List Value} {ns : List Int}
    (KX : K.In s₁.heap) (hns : s₁.heap.Ns mainGlobals mg) (hb : s₁.heap.Ns builtinsNs mb) (hbb : ∀ x : Str, x ≠ "__name__" -> mb x = bootBuiltins x) (hlim : s₁.heap.NoLimit) (hg : s₁.gens = #[])
    (ha : s₁.heap.get? a = some { cls := .type "list", data := .seq vs.toArray }) (hi : IntsAre vs ns) (hl : ns.length <= sizeLine) (hr : Room k callerA)
    (F : ∀ base : Heap, K.In base -> base.Ns mainGlobals mg -> FnOk P w K mg base CX k fa fd [x] sp) (hbind : ∀ (s : Shared) (u : Value), BindsTo s fd ⟨[u], []⟩ [(x, u)])
    (hsp : ∀ H : Hp, Only H -> SqL K H a (ns.map V.int) -> sp [.ref a] H (fun v _ => v = .bl true) fun _ _ _ => False)
    (hCX : ∀ H e s', CX [] H s₁ (fun _ _ _ => False) e s' -> False) :
    codeAny (model P w) callerA (.call (.ref fa) ⟨[.ref a], []⟩) (fun r s' => r = .ok (.ret (.bool true)) /\ OldK s₁.heap s'.heap /\ s'.os = s₁.os /\ AllBare s'.gens) s₁ := by
  have rv := vals_ints hi
  have lenV := hi.length
  -- from an abstract heap in which nothing but the script may be tracked
  have core : ∀ H : Hp, Only H -> SqL K H a (ns.map V.int) -> HOk P w H s₁.heap -> (∀ b, H b ≠ none -> b = a) -> (H a ≠ none -> K.lookup a = none) ->
      codeAny (model P w) callerA (.call (.ref fa) ⟨[.ref a], []⟩) (fun r s' => r = .ok (.ret (.bool true)) /\ OldK s₁.heap s'.heap /\ s'.os = s₁.os /\ AllBare s'.gens) s₁ := by
    intro H hO hS hok hA hK
    have base_of : ∀ {b : Addr} {o : Obj}, s₁.heap.get? b = some o -> H b = none -> (hidT s₁.heap H).get? b = some o := fun e n => hidT_get e n
    have noA : ∀ {b : Addr} {o : Obj} {es : Array DictEntry} {ep : Nat}, s₁.heap.get? b = some o -> o.data = .dict es ep -> H b = none := fun {b o es ep} e d => by
      cases q : H b with
      | none => rfl
      | some u =>
        have e' : b = a := hA b (by rw [q]; simp)
        subst e'
        rw [ha] at e; cases e
        have d' : Data.seq vs.toArray _ = Data.dict es ep := d
        cases d'
    have nsK : ∀ {b : Addr} {m : Str -> Option Value}, s₁.heap.Ns b m -> (hidT s₁.heap H).Ns b m := fun {b m} ⟨o, es, ep, e, d, r⟩ => ⟨o, es, ep, base_of e (noA e d), d, r⟩
    have hKb : K.In (hidT s₁.heap H) := fun b o e => base_of (KX b o e) (by
      cases q : H b with
      | none => rfl
      | some u =>
        have e' : b = a := hA b (by rw [q]; simp)
        subst e'
        rw [hK (by rw [q]; simp)] at e; cases e)
    have hM : Mod K mg (hidT s₁.heap H) := ⟨hKb, nsK hns, ⟨mb, nsK hb, hbb⟩, let ⟨mc, h1, h2⟩ := hlim; ⟨mc, nsK h1, h2⟩⟩
    have e0 : Env0 P w K mg (hidT s₁.heap H) callerA [] s₁ H := ⟨rfl, hM, fun b o e => of_hidT e, Nat.le_of_eq (hidT_size _ _), trivial, fun b hb => absurd (show b ∈ ([] : List Addr) from hb) (by simp), hok, .of_eq hg⟩
    refine codeAny_mono ((F _ hKb (nsK hns)).run callerA [] s₁ H ⟨[.ref a], []⟩ [.ref a] [.ref a] _ _ hr e0 (hbind s₁ (.ref a)) (.cons rfl .nil) (hsp H hO hS)) fun r s' h => ?_
    cases r with
    | error e => exact (hCX H e s' h).elim
    | ok fl =>
      cases fl with
      | next => exact False.elim h
      | brk => exact False.elim h
      | cont => exact False.elim h
      | ret u =>
        obtain ⟨v, H', os, bare, un, hok', r', q⟩ := h
        have q' : v = .bl true := q
        subst q'
        obtain rfl : u = Value.bool true := r'
        refine ⟨rfl, OldK.of_keep fun b o e => ?_, os, bare⟩
        cases q : H b with
        | none => exact un.keep b o e q (by intro z; exact absurd (show b ∈ ([] : List Addr) from z) (by simp)) (by simp)
        | some u =>
          rcases hO b with z | ⟨ob, xs, z⟩
          . rw [q] at z; cases z
          . have z2 := un.frzs b ob _ z
            obtain ⟨e1, _⟩ := hok b _ z
            obtain ⟨e2, _⟩ := hok' b _ z2
            rw [e] at e1; cases e1
            exact e2
  cases hk : K.lookup a with
  | some o =>
    -- the script is one of the module's own objects
    have e := KX a o hk
    rw [ha] at e
    cases e
    refine core (fun _ => none) (fun _ => .inl rfl) (.inr ⟨_, vs.toArray, _, hk, rfl, rfl, rfl, by rw [List.size_toArray, lenV]; exact hl, by simpa using rv⟩) (fun b u z => by have z' : (none : Option HO) = some u := z; cases z') (fun b z => absurd rfl z) fun z => absurd rfl z
  | none =>
    refine core (fun b => if b = a then some (.frz { cls := .type "list", data := .seq vs.toArray } (.lst (ns.map V.int))) else none) (fun b => ?_) (.inl (.inr ⟨{ cls := .type "list", data := .seq vs.toArray }, if_pos rfl⟩)) (fun b u z => ?_) (fun b z => ?_) fun _ => hk
    . by_cases hb : b = a
      . exact .inr ⟨_, _, if_pos hb⟩
      . exact .inl (if_neg hb)
    . by_cases hb : b = a
      . have z' := (if_pos hb).symm.trans z
        cases z'
        subst hb
        exact ⟨ha, by rw [List.length_map]; exact hl, vs, _, rv, ha⟩
      . have z' := (if_neg hb).symm.trans z
        cases z'
    . by_cases hb : b = a
      . exact hb
      . exact absurd (if_neg hb) z
end L2
namespace L2
open PySem PySem.Spec PyProof.Rows
theorem walk_of {l : PySem.W.OpenLaw} {n k : Nat} {q : Program} {loose : List Str} {XP : (Str -> Option Value) -> Heap -> Prop} {YP : World -> Heap -> Prop} {d : DefRec} {K : Params -> PySem.W.Frag} {CX : World -> CXT} {sp : World -> Sp} {x : Str}
    (hn : l.most = some n) (hn2 : n <= sizeLine) (hdf : d.params.defaults = []) (hr : Room k callerA)
    (hY : ∀ (w : World) (h : Heap), YP w h -> (K w.params).In h)
    (F : ∀ (w : World) (mg : Str -> Option Value) (fa : Addr) (h : Heap), (K w.params).In h -> h.Ns mainGlobals mg -> mg d.name = some (.ref fa) ->
      ∃ fd : FuncData, (∀ (s : Shared) (u : Value), BindsTo s fd ⟨[u], []⟩ [(x, u)]) /\
        ∀ base : Heap, (K w.params).In base -> base.Ns mainGlobals mg -> FnOk l.prog w (K w.params) mg base (CX w) k fa fd [x] (sp w))
    (hsp : ∀ (w : World) (H : Hp) (a : Addr) (ns : List Int), ns.length <= n -> Only H -> SqL (K w.params) H a (ns.map V.int) -> sp w [.ref a] H (fun v _ => v = .bl true) fun _ _ _ => False)
    (hCX : ∀ (w : World) (H : Hp) (s : Shared) (e : Value) (s' : Shared), CX w [] H s (fun _ _ _ => False) e s' -> False) :
    PySem.W.WalkO q loose XP YP l.row.toRowW d [] (fun f vs => PySem.call f vs) := by
  refine Att.attach_call hn hdf fun w s₀ s₁ mg mb fa o pm cd doc a vs ns G Y ho hd hcd hmg hobj hints hlen hg => ?_
  have KX := hY w _ Y
  obtain ⟨fd, hb, hF⟩ := F w mg fa _ KX G.T.g hmg
  exact law_call KX G.T.g G.T.b G.T.builtins G.T.nolimit hg hobj hints (Nat.le_trans hlen hn2) hr hF hb (fun H hO hS => hsp w H a ns hlen hO hS) fun H e s' => hCX w H s₁ e s'
end L2
namespace L2
open PySem PySem.Spec PyProof.Rows
def defArgs (s : Stmt) : Arguments := match s with
  | .FunctionDef _ a _ _ _ _ _ _ _ _ => a
  | _ => { posonlyargs := [], args := [], vararg := none, kwonlyargs := [], kw_defaults := [], kwarg := none, defaults := [] }
def defBody (s : Stmt) : List Stmt := match s with
  | .FunctionDef _ _ b _ _ _ _ _ _ _ => b
  | _ => []
def defScope (s : Stmt) : Scope := match s with
  | .FunctionDef _ _ _ _ _ _ sc _ _ _ => sc
  | _ => { kind := .function, names := [], isGenerator := false, isCoroutine := false }
abbrev CX0 : CXT := fun _ _ _ _ _ _ => False
abbrev E0 : XK := fun _ _ _ => False
theorem pass0 {X : Cx} : Passes CX0 X E0 := fun _ _ _ _ _ _ _ h => h.elim
structure Fun (K : PySem.W.Frag) (x qual : Str) (st : Stmt) (f : Addr) (fd : FuncData) : Prop where
  ex : ∃ (oc : Value) (od : Option Addr) (kV doc pm : Value) (an : Option Addr) (cdv ct : Value) (osl : Array (Option Value)),
    fd = PySem.W.fnOf x qual (defArgs st) (defBody st) (defScope st) .none kV doc pm an cdv ct /\ K.lookup f = some ⟨oc, od, .func fd, osl⟩ /\ PySem.W.codeIn K cdv qual = true
  kp : PySem.W.keepIn K (.ref f) = true
section
variable {P : Program} {w : World} {K : PySem.W.Frag} {mg : Str -> Option Value} {base : Heap}
theorem Fun.ok {x qual : Str} {st : Stmt} {f : Addr} {fd : FuncData} {N ps : List Str} {k : Nat} {sp : Sp} (F : Fun K x qual st f fd) (S : FnScope N ps (defScope st)) (len : ∀ vs H Q E, sp vs H Q E -> vs.length = ps.length)
    (hbody : ∀ (cdv : Value) (A : Around) (outer : List Env) (s : Shared) (H : Hp) (vs : List V) (Q : VK) (E : XK), Room k (A.deeper (envOfC qual (defScope st) s.heap.objs.size f cdv)) -> sp vs H Q E ->
      ∃ t, PSs (cxOf CX0 P w K mg base N qual (defScope st) f cdv A outer s H E).nox (defBody st) t /\ t { nx := fun _ H' => Q .non H', rt := Q } (start N vs) H) : FnOk P w K mg base CX0 (k + 1) f fd ps sp := by
  obtain ⟨oc, od, kV, doc, pm, an, cdv, ct, osl, rfl, lk, hcd⟩ := F.ex
  refine fn_of lk hcd S len fun A outer s H vs Q E hr hsp => ?_
  obtain ⟨t, h, q⟩ := hbody cdv A outer s H vs Q E hr hsp
  exact ⟨t, h.nox, q⟩
theorem Fun.binds {x qual : Str} {st : Stmt} {f : Addr} {fd : FuncData} {ps : List Str} (F : Fun K x qual st f fd)
    (h : ∀ (kV doc pm : Value) (an : Option Addr) (cdv ct : Value) (us : List Value), us.length = ps.length -> bindArgs (PySem.W.fnOf x qual (defArgs st) (defBody st) (defScope st) .none kV doc pm an cdv ct) ⟨us, []⟩ = pure (ps.zip us)) : Binds K fd ps [] := by
  obtain ⟨oc, od, kV, doc, pm, an, cdv, ct, osl, rfl, lk, hcd⟩ := F.ex
  exact .all (h kV doc pm an cdv ct)
theorem fun_mk {x qual : Str} {st : Stmt} {f : Addr} {oc : Value} {od an : Option Addr} {osl : Array (Option Value)} {kV doc pm cdv ct : Value} (l : K.lookup f = some ⟨oc, od, .func (PySem.W.fnOf x qual (defArgs st) (defBody st) (defScope st) .none kV doc pm an cdv ct), osl⟩)
    (c : PySem.W.codeIn K cdv qual = true) (k : PySem.W.keepIn K (.ref f) = true) : Fun K x qual st f (PySem.W.fnOf x qual (defArgs st) (defBody st) (defScope st) .none kV doc pm an cdv ct) := ⟨⟨oc, od, kV, doc, pm, an, cdv, ct, osl, rfl, l, c⟩, k⟩
end
section
variable {X : Cx}
theorem pv (i : Nat) {x : Str} {pos : Pos} (hN : X.N[i]? = some x := by rfl) (hv : Vis X.env.scope x := by first | exact Or.inl rfl | exact Or.inr (Or.inl rfl) | exact Or.inr (Or.inr rfl)) (hd : (x == ("__debug__" : Str)) = false := by decide)
    (hcd : (x == ("__classdict__" : Str)) = false := by decide) : PE X (.Name x pos) (tVar i) := pe_var hN hv hd hcd
end
theorem ite2 {c A B : Prop} [Decidable c] (h1 : c -> A) (h2 : ¬ c -> B) : if c then A else B := by
  by_cases h : c
  . rw [if_pos h]
    exact h1 h
  . rw [if_neg h]
    exact h2 h
def Same (H H' : Hp) : Prop := ∀ b o, H b = some o -> H' b = some o
theorem Same.refl (H : Hp) : Same H H := fun _ _ h => h
theorem Same.trans {H H1 H2 : Hp} (a : Same H H1) (b : Same H1 H2) : Same H H2 := fun c o h => b c o (a c o h)
theorem Same.seq {K : PySem.W.Frag} {H H' : Hp} {a : Addr} {xs : List V} (e : Same H H') (h : SqL K H a xs) : SqL K H' a xs := by
  rcases h with (h | ⟨o, h⟩) | h
  . exact .inl (.inl (e _ _ h))
  . exact .inl (.inr ⟨o, e _ _ h⟩)
  . exact .inr h
end L2
set_option Elab.async false
set_option linter.all false
set_option maxRecDepth 100000
set_option maxHeartbeats 4000000
namespace L2
open PySem PySem.Spec PyProof.Rows
section
variable {κ : Type} [DecidableEq κ]
end
section
variable {P : Program} {w : World} {H : Hp} {h : Heap} {a : Addr}
end
section
variable {X : Cx} {pins : List (Addr × Obj)} {σ : St} {H : Hp} {s : Shared} {a : Addr} {y v : V} {u r : Value} {o : Option V} {A : Around} {E : Value -> Shared -> Prop}
end
section
variable {X : Cx} {pins : List (Addr × Obj)} {σ : St} {H : Hp} {s : Shared} {a : Addr} {kvs : List (Key × V)} {k : Key} {u : Value} {A : Around} {E : Value -> Shared -> Prop}
end
section
variable {X : Cx} {o i e value : Expr} {pos pos' tpos : Pos} {td ty tv : TE}
end
section
variable {X : Cx} {pos : Pos}
end
section
variable {X : Cx} {pins : List (Addr × Obj)} {σ : St} {H : Hp} {s : Shared} {a : Addr} {y d : V} {u r : Value} {o : Option V} {A : Around} {E : Value -> Shared -> Prop}
end
section
variable {X : Cx} {o e f : Expr} {apos cpos : Pos} {td ty tx : TE}
end
section
variable {X : Cx} {pins : List (Addr × Obj)} {σ : St} {H : Hp} {s : Shared} {a : Addr} {kvs : List (Key × V)} {A : Around} {E : Value -> Shared -> Prop}
end
section
variable {X : Cx} {pins : List (Addr × Obj)} {σ : St} {H : Hp} {s : Shared} {a : Addr} {y : V} {u : Value} {A : Around} {E : Value -> Shared -> Prop}
end
end L2
set_option Elab.async false
set_option linter.all false
set_option maxRecDepth 100000
set_option maxHeartbeats 4000000
namespace L2
open PySem PySem.Spec PyProof.Rows
def clOf (env : Env) : List (Str × NameKind) -> List (Str × Addr) -> List (Str × Addr)
  | [], acc => acc
  | (n, k) :: r, acc => if (k == .free) = true then clOf env r ((n, (env.cells.lookup n).getD 0) :: acc) else clOf env r acc
theorem closure_eq {env : Env} {scope : Scope} (h : ∀ p ∈ scope.names, p.2 = .free -> ∃ c, env.cells.lookup p.1 = some c) : closureFor scope env = pure (clOf env scope.names []) := by
  have go : ∀ (l : List (Str × NameKind)) (acc : List (Str × Addr)), (∀ p ∈ l, p.2 = .free -> ∃ c, env.cells.lookup p.1 = some c) ->
      (forIn l acc fun (x : Str × NameKind) (cs : List (Str × Addr)) => (if (x.2 == .free) = true then do let c <- cellOf env x.1; pure (ForInStep.yield ((x.1, c) :: cs)) else pure (ForInStep.yield cs) : Sem (ForInStep (List (Str × Addr))))) = (pure (clOf env l acc) : Sem (List (Str × Addr))) := by
    intro l
    induction l with
    | nil => intro acc _; rfl
    | cons p r ih =>
      intro acc hl
      obtain ⟨n, k⟩ := p
      rw [List.forIn_cons]
      by_cases hk : (k == .free) = true
      . obtain ⟨c, hc⟩ := hl (n, k) List.mem_cons_self (by simpa using hk)
        have e1 : cellOf env n = pure c := by unfold cellOf; rw [hc]
        have ih' := ih ((n, c) :: acc) fun q hq => hl q (List.mem_cons_of_mem _ hq)
        show ((if (k == .free) = true then do let c <- cellOf env n; pure (ForInStep.yield ((n, c) :: acc)) else pure (ForInStep.yield acc) : Sem _) >>= _) = _
        rw [if_pos hk, e1]
        show (forIn r ((n, c) :: acc) _ : Sem _) = _
        rw [clOf, if_pos hk, hc]
        exact ih'
      . have ih' := ih acc fun q hq => hl q (List.mem_cons_of_mem _ hq)
        show ((if (k == .free) = true then do let c <- cellOf env n; pure (ForInStep.yield ((n, c) :: acc)) else pure (ForInStep.yield acc) : Sem _) >>= _) = _
        rw [if_neg hk]
        show (forIn r acc _ : Sem _) = _
        rw [clOf, if_neg hk]
        exact ih'
  have e := go scope.names [] h
  unfold closureFor
  show (forIn scope.names [] _ >>= fun cs => pure cs : Sem _) = _
  have e2 : (forIn scope.names [] (fun (x : Str × NameKind) (r : List (Str × Addr)) => (match x with
      | (name, kind) => if (kind == .free) = true then do let c <- cellOf env name; pure (ForInStep.yield ((name, c) :: r)) else do pure PUnit.unit; pure (ForInStep.yield r) : Sem (ForInStep (List (Str × Addr)))))) = (pure (clOf env scope.names []) : Sem (List (Str × Addr))) := e
  exact congrArg (fun z => z >>= fun cs => pure cs) e2
theorem clOf_mem {env : Env} : ∀ (l : List (Str × NameKind)) (acc : List (Str × Addr)), (∀ p ∈ l, p.2 = .free -> ∃ c, env.cells.lookup p.1 = some c) -> (∀ q ∈ acc, env.cells.lookup q.1 = some q.2) -> ∀ q ∈ clOf env l acc, env.cells.lookup q.1 = some q.2
  | [], _, _, ha, q, hq => ha q hq
  | (n, k) :: r, acc, hl, ha, q, hq => by
    unfold clOf at hq
    by_cases hk : (k == .free) = true
    . rw [if_pos hk] at hq
      obtain ⟨c, hc⟩ := hl (n, k) List.mem_cons_self (by simpa using hk)
      refine clOf_mem r _ (fun p hp => hl p (List.mem_cons_of_mem _ hp)) (fun p hp => ?_) q hq
      rcases List.mem_cons.mp hp with rfl | hp
      . show env.cells.lookup n = some ((env.cells.lookup n).getD 0)
        rw [hc]; rfl
      . exact ha p hp
    . rw [if_neg hk] at hq
      exact clOf_mem r _ (fun p hp => hl p (List.mem_cons_of_mem _ hp)) ha q hq
theorem clOf_has {env : Env} : ∀ (l : List (Str × NameKind)) (acc : List (Str × Addr)) (x : Str), ((x, NameKind.free) ∈ l \/ ∃ c, (x, c) ∈ acc) -> ∃ c, (x, c) ∈ clOf env l acc
  | [], _, _, h => by
    rcases h with h | h
    . cases h
    . exact h
  | (n, k) :: r, acc, x, h => by
    unfold clOf
    by_cases hk : (k == .free) = true
    . rw [if_pos hk]
      refine clOf_has r _ x ?_
      rcases h with h | ⟨c, h⟩
      . rcases List.mem_cons.mp h with h | h
        . cases h
          exact .inr ⟨_, List.mem_cons_self⟩
        . exact .inl h
      . exact .inr ⟨c, List.mem_cons_of_mem _ h⟩
    . rw [if_neg hk]
      refine clOf_has r _ x ?_
      rcases h with h | h
      . rcases List.mem_cons.mp h with h | h
        . cases h
          exact absurd rfl hk
        . exact .inl h
      . exact .inr h
theorem lookup_some_of_mem {β : Type} : ∀ {l : List (Str × β)} {x : Str} {c : β}, (x, c) ∈ l -> ∃ c', l.lookup x = some c'
  | [], _, _, h => by cases h
  | (n, d) :: r, x, c, h => by
    by_cases hx : (x == n) = true
    . exact ⟨d, by rw [List.lookup_cons, hx]⟩
    . rcases List.mem_cons.mp h with h | h
      . cases h; exact absurd (beq_self_eq_true _) hx
      . obtain ⟨c', e⟩ := lookup_some_of_mem h
        exact ⟨c', by rw [List.lookup_cons]; simp only [Bool.not_eq_true] at hx; rw [hx]; exact e⟩
def relF (env : Env) : Str × NameKind -> Str × NameKind := fun (n, k) => if (k == NameKind.free && env.scope.kind == .function && env.kindOf n == some .cell) then (n, NameKind.cell) else (n, k)
theorem relF_yes {env : Env} {n : Str} {k : NameKind} (h : (k == NameKind.free && env.scope.kind == .function && env.kindOf n == some .cell) = true) : relF env (n, k) = (n, .cell) := if_pos h
theorem relF_no {env : Env} {n : Str} {k : NameKind} (h : ¬ (k == NameKind.free && env.scope.kind == .function && env.kindOf n == some .cell) = true) : relF env (n, k) = (n, k) := if_neg h
theorem relabel_kind {env : Env} : ∀ {names : List (Str × NameKind)} {x : Str} {k : NameKind}, (∀ y ∈ names, y.2 ≠ .cell) ->
    (names.map (relF env)).lookup x = some k -> (k = .cell \/ k = .free) -> (x, NameKind.free) ∈ names
  | [], _, _, _, h, _ => by simp at h
  | (n, k') :: r, x, k, hc, h, hk => by
    have ih := @relabel_kind env r x k (fun y hy => hc y (List.mem_cons_of_mem _ hy))
    rw [List.map_cons] at h
    by_cases hb : (k' == NameKind.free && env.scope.kind == .function && env.kindOf n == some .cell) = true
    . rw [relF_yes hb, List.lookup_cons] at h
      cases hx : x == n with
      | true =>
        have e : x = n := by simpa using hx
        subst e
        have e2 : k' = .free := by
          simp only [Bool.and_eq_true] at hb
          simpa using hb.1.1
        subst e2
        exact List.mem_cons_self
      | false =>
        rw [hx] at h
        exact List.mem_cons_of_mem _ (ih h hk)
    . rw [relF_no hb, List.lookup_cons] at h
      cases hx : x == n with
      | true =>
        rw [hx] at h
        have e : x = n := by simpa using hx
        subst e
        have e2 : k' = k := Option.some.inj h
        subst e2
        rcases hk with rfl | rfl
        . exact absurd rfl (hc _ List.mem_cons_self)
        . exact List.mem_cons_self
      | false =>
        rw [hx] at h
        exact List.mem_cons_of_mem _ (ih h hk)
theorem relabel_free {env : Env} : ∀ {names : List (Str × NameKind)} {x : Str}, names.lookup x = some .free ->
    ∃ k, (k = NameKind.cell \/ k = NameKind.free) /\ (names.map (relF env)).lookup x = some k
  | [], _, h => by simp at h
  | (n, k') :: r, x, h => by
    have ih := @relabel_free env r x
    rw [List.lookup_cons] at h
    rw [List.map_cons]
    cases hx : x == n with
    | true =>
      rw [hx] at h
      have e2 : k' = .free := Option.some.inj h
      subst e2
      by_cases hb : ((NameKind.free : NameKind) == NameKind.free && env.scope.kind == .function && env.kindOf n == some .cell) = true
      . exact ⟨.cell, .inl rfl, by rw [relF_yes hb, List.lookup_cons, hx]⟩
      . exact ⟨.free, .inr rfl, by rw [relF_no hb, List.lookup_cons, hx]⟩
    | false =>
      rw [hx] at h
      obtain ⟨k, hk, e⟩ := ih h
      refine ⟨k, hk, ?_⟩
      by_cases hb : (k' == NameKind.free && env.scope.kind == .function && env.kindOf n == some .cell) = true
      . rw [relF_yes hb, List.lookup_cons, hx]; exact e
      . rw [relF_no hb, List.lookup_cons, hx]; exact e
end L2
set_option Elab.async false
set_option linter.all false
set_option maxRecDepth 100000
set_option maxHeartbeats 4000000
namespace L2
open PySem PySem.Spec PyProof.Rows
section
variable {prog : Program} {w : World} {A : Around} {R : Result -> Shared -> Prop} {s : Shared}
abbrev cpW (prog : Program) (w : World) (A : Around) (R : Result -> Shared -> Prop) (env : Env) {α : Type} (m : Sem α) (Q : α -> Shared -> Prop) : Shared -> Prop := wpAny (model prog w) A m Q (notedBy (model prog w) A env fun e t => R (.error e) t)
theorem compLoop_gen {elt target iter : Expr} {ifs : List Expr} {scope : Scope} {pos : Pos} {it acc : Value} {env : Env} (I : Nat -> Shared -> Prop)
    (turn : ∀ n s, I n s -> cpW prog w A R env (pyNext it) (fun r s => match r with
      | none => R (.ok .next) s
      | some v => cpW prog w A R env (letOwnedTupleGo target it v) (fun _ => cpW prog w A R env (assign target env v) fun _ => cpW prog w A R env (forIn ifs true fun c r => if r = true then do let ok <- isTrue c env (eval c env); pure (ForInStep.yield ok) else pure (ForInStep.yield r)) fun ok s =>
          if ok = true then cpW prog w A R env (eval elt env) (fun x => cpW prog w A R env (call (.builtin "list.append") [acc, x]) fun _ t => ∃ m, m < n /\ I m t) s else ∃ m, m < n /\ I m s) s) s)
    (n : Nat) (h : I n s) : codeAny (model prog w) A (.compLoop (.ListComp elt [⟨target, iter, ifs, 0⟩] scope pos) 0 it acc env) R s := by
  have mono : ∀ {α β : Type} {m : Sem α} {f : α -> Sem β} {Q : α -> Shared -> Prop} {Q' : β -> Shared -> Prop} {s : Shared}, cpW prog w A R env m Q s -> (∀ a t, Q a t -> cpW prog w A R env (f a) Q' t) -> cpW prog w A R env (m >>= f) Q' s := fun h k => wpAny_bind (wpAny_mono h k fun _ _ e => e)
  refine codeAny_loop rfl I (fun n s hI => wpAny_noted ?_) n h
  rw [compTurn_list]
  refine wpAny_bind (wpAny_standAt (mono (turn n s hI) fun r s1 h1 => ?_))
  cases r with
  | none => exact wpAny_pure h1
  | some v =>
    refine mono h1 fun _ _ h2 => mono h2 fun _ _ h3 => mono h3 fun ok s4 h4 => ?_
    cases ok with
    | false => exact wpAny_pure ⟨rfl, h4⟩
    | true => exact wpAny_bind (mono h4 fun _ _ h5 => mono h5 fun _ _ h6 => wpAny_pure (wpAny_pure ⟨rfl, h6⟩))
end
abbrev Cx.blk (X : Cx) (N : List Str) (sc : Scope) (C : Addr) (s₀ : Shared) (H₀ : Hp) (ex : List Addr) : Cx :=
  { X with N := N, env := compEnvC sc (clOf X.env sc.names []) C X.env, outer := X.stack, s₀ := s₀, H₀ := H₀, ex := ex, fn := fun _ => false, pn := [], xe := fun _ _ => False }
structure BlkSc (X : Cx) (sc : Scope) : Prop where
  kind : sc.kind = .function
  nocell : ∀ y ∈ sc.names, y.2 ≠ .cell
  loc : ∀ y ∈ sc.names, y.2 = .local -> sc.names.lookup y.1 = some .local
  free : ∀ y ∈ sc.names, y.2 = .free -> X.env.kindOf y.1 = some .cell \/ X.env.kindOf y.1 = some .free
abbrev Caps := List (Str × Option Nat)
def Caps.names (c : Caps) : List Str := c.map (·.1)
def Caps.st (c : Caps) (σ : St) : St := c.map fun p => p.2.bind fun j => (σ[j]?).join
def CapsOk (N : List Str) (sc : Scope) : Caps -> Prop
  | [] => True
  | (_, none) :: r => CapsOk N sc r
  | (x, some j) :: r => (N[j]? = some x /\ sc.names.lookup x = some .free) /\ CapsOk N sc r
theorem CapsOk.get {N : List Str} {sc : Scope} : ∀ {c : Caps} {i : Nat} {x : Str} {j : Nat}, CapsOk N sc c -> c[i]? = some (x, some j) -> N[j]? = some x /\ sc.names.lookup x = some .free
  | [], _, _, _, _, h => by simp at h
  | (y, none) :: r, 0, x, j, _, h => by simp at h
  | (y, none) :: r, i + 1, x, j, ok, h => CapsOk.get (c := r) (i := i) ok (by simpa using h)
  | (y, some k) :: r, 0, x, j, ok, h => by
    simp only [List.getElem?_cons_zero, Option.some.injEq, Prod.mk.injEq] at h
    obtain ⟨rfl, rfl⟩ := h
    exact ok.1
  | (y, some k) :: r, i + 1, x, j, ok, h => CapsOk.get (c := r) (i := i) ok.2 (by simpa using h)
section
variable {X : Cx} {pins : List (Addr × Obj)} {σ : St} {H : Hp} {s : Shared} {sc : Scope} {fp : List Addr}
theorem blk_cells (I : Inv X pins σ H s) (S : BlkSc X sc) : ∀ p ∈ sc.names, p.2 = .free -> ∃ c, X.env.cells.lookup p.1 = some c := fun p hp e => I.ok.has p.1 (S.free p hp e)
theorem blk_lookup (I : Inv X pins σ H s) (S : BlkSc X sc) {x : Str} {c : Addr} (h : (clOf X.env sc.names []).lookup x = some c) : X.env.cells.lookup x = some c :=
  clOf_mem sc.names [] (blk_cells I S) (fun q hq => by cases hq) (x, c) (PySem.mem_of_lookup h)
theorem blk_ok {N : List Str} {C : Addr} (I : Inv X pins σ H s) (S : BlkSc X sc) (hC : s.heap.objs.size <= C) (hf : ∀ b ∈ fp, FpOk X pins H b) (ho : ∀ b ∈ fp, ∃ o, s.heap.get? b = some o) : (X.blk N sc C s H fp).Ok where
  mod := I.ok.mod
  kind := S.kind
  glob := I.ok.glob
  blt := I.ok.blt
  above := hC
  inj := fun x y c h1 h2 => I.ok.inj x y c (blk_lookup I S h1) (blk_lookup I S h2)
  has := fun x hx => by
    have hx' : (x, NameKind.free) ∈ sc.names := by
      rcases hx with hx | hx
      . exact relabel_kind (env := X.env) S.nocell hx (.inl rfl)
      . exact relabel_kind (env := X.env) S.nocell hx (.inr rfl)
    obtain ⟨c, hc⟩ := clOf_has (env := X.env) sc.names [] x (.inl hx')
    exact lookup_some_of_mem hc
  cab := fun x c h => absurd (show false = true from h) Bool.false_ne_true
  hd := I.ok.hd
  frames := I.ok.frames
  stk := .inl rfl
  exf := fun b hb => by
    obtain ⟨o, ho⟩ := ho b hb
    refine ⟨Nat.ne_of_lt (Nat.lt_of_lt_of_le (Heap.lt_size ho) hC), fun x c h => (hf b hb).2.2.2.2.1 x c (blk_lookup I S h)⟩
  bs := I.bs
  bsz := Nat.le_trans I.ok.bsz I.sz
  noex := fun b o e hb => by
    rcases (hf b hb).2.2.2.1 with z | z
    . exact I.ok.noex b o e z
    . exact absurd (Nat.lt_of_lt_of_le (Heap.lt_size (I.ok.bs b o e).1) z) (Nat.lt_irrefl _)
  exfs := fun b hb z => by
    rcases List.mem_cons.mp (I.stkSub b z) with e | e
    . exact (hf b hb).2.1 e
    . exact (hf b hb).2.2.1 e
  funs := I.stack
  frf := I.stkFree
theorem blk_start {c : Caps} {C : Addr} {s4 : Shared} {m : Str -> Option Value} (I : Inv X pins σ H s) (S : BlkSc X sc) (hc : CapsOk X.N sc c) (hC : s.heap.objs.size <= C) (hf : ∀ b ∈ fp, FpOk X pins H b) (ho : ∀ b ∈ fp, ∃ o, s.heap.get? b = some o)
    (hos : s4.os = s.os) (hb : s4.gens = s.gens) (hk : ∀ b o, s.heap.get? b = some o -> s4.heap.get? b = some o) (hn : s4.heap.Ns C m) : Inv (X.blk c.names sc C s H fp) [] (c.st σ) H s4 where
  ok := blk_ok I S hC hf ho
  os := hos
  bare := by rw [hb]; exact I.bare
  base := Un.kept hk
  loc := by
    refine ⟨m, hn, fun i x v h1 h2 hv => ?_⟩
    have h1' : (c.map (·.1))[i]? = some x := h1
    have h2' : (c.map fun p => p.2.bind fun j => (σ[j]?).join)[i]? = some (some v) := h2
    rw [List.getElem?_map] at h1' h2'
    cases e : c[i]? with
    | none => rw [e] at h1'; cases h1'
    | some p =>
      obtain ⟨y, oj⟩ := p
      rw [e] at h1' h2'
      have e1 : y = x := Option.some.inj h1'
      subst e1
      have e2 : (oj.bind fun j => (σ[j]?).join) = some v := Option.some.inj h2'
      cases oj with
      | none => cases e2
      | some j =>
        have e3 : (σ[j]?).join = some v := e2
        have e4 : σ[j]? = some (some v) := by
          cases q : σ[j]? with
          | none => rw [q] at e3; cases e3
          | some z => rw [q] at e3; exact congrArg some e3
        obtain ⟨k1, k2⟩ := CapsOk.get hc e
        have k3 : X.env.kindOf y = some .cell \/ X.env.kindOf y = some .free := S.free (y, .free) (PySem.mem_of_lookup k2) rfl
        have vis : Vis X.env.scope y := by
          rcases k3 with k | k
          . exact .inr (.inl k)
          . exact .inr (.inr k)
        obtain ⟨mX, hnX, hl⟩ := I.loc
        obtain ⟨u, r, l⟩ := hl j y v k1 e4 vis
        refine ⟨u, r, ?_⟩
        rcases l with ⟨k, _⟩ | ⟨_, ca, hca, z⟩
        . rcases k3 with k' | k' <;> (rw [k] at k'; cases k')
        . obtain ⟨kd, hkd, ek⟩ := relabel_free (env := X.env) k2
          have hk2 : (compEnvC sc (clOf X.env sc.names []) C X.env).kindOf y = some kd := ek
          obtain ⟨c', hc'⟩ := clOf_has (env := X.env) sc.names [] y (.inl (PySem.mem_of_lookup k2))
          obtain ⟨c2, hc2⟩ := lookup_some_of_mem hc'
          have e5 := blk_lookup I S hc2
          rw [hca] at e5
          have e6 : ca = c2 := Option.some.inj e5
          subst e6
          refine .inr ⟨?_, ca, hc2, ?_⟩
          . rcases hkd with rfl | rfl
            . exact .inl hk2
            . exact .inr hk2
          . obtain ⟨oc, hoc, hd⟩ := z
            exact ⟨oc, hk _ _ hoc, hd⟩
  cell := fun x ca h => by
    obtain ⟨v, oc, hoc, hd⟩ := I.cell x ca (blk_lookup I S h)
    exact ⟨v, oc, hk _ _ hoc, hd⟩
  free := I.hok.fresh hC
  freeC := fun x ca h => I.freeC x ca (blk_lookup I S h)
  pin := fun p hp => absurd (show p ∈ ([] : List (Addr × Obj)) from hp) (by simp)
  hok := I.hok.kept hk
  len := by show (c.map _).length = (c.map _).length; rw [List.length_map, List.length_map]
theorem HOk.track {P : Program} {w : World} {H : Hp} {h : Heap} {a : Addr} {o : HO} (x : HOk P w H h) (hn : H a = none) (new : ObjOk P w (upd H a o) h a o) : HOk P w (upd H a o) h := fun b u e => by
  by_cases hb : b = a
  . subst hb; rw [upd_same] at e; cases e; exact new
  . rw [upd_ne hb] at e
    exact (x b u e).stay (fun c v _ q => q) (fun c q => by rw [upd_ne (ne_of_none q hn)]; exact q) fun c xs q => by rw [upd_ne (ne_of_none q hn)]; exact q
theorem Un.track {fs ex : List Addr} {H H' : Hp} {h h' : Heap} {a : Addr} {o : HO} (u : Un fs ex H H' h h') (ha : h.objs.size <= a) (hn : H' a = none) : Un fs ex H (upd H' a o) h h' where
  keep := u.keep
  slot := u.slot
  free := fun b ob q n hx => by rw [upd_ne (Nat.ne_of_lt (Nat.lt_of_lt_of_le (Heap.lt_size q) ha))]; exact u.free b ob q n hx
  there := u.there
  tups := fun b xs q => by rw [upd_ne (ne_of_none (u.tups b xs q) hn)]; exact u.tups b xs q
  frzs := fun b ob xs q => by rw [upd_ne (ne_of_none (u.frzs b ob xs q) hn)]; exact u.frzs b ob xs q
  tbls := fun b ps q => by
    obtain ⟨more, e⟩ := u.tbls b ps q
    exact ⟨more, by rw [upd_ne (ne_of_none e hn)]; exact e⟩
theorem blk_end {c : Caps} {C D : Addr} {s' : Shared} {σ' : St} {H' : Hp} {o : HO} (I : Inv X pins σ H s) (J : Inv (X.blk c.names sc C s H fp) [] σ' H' s') (hf : ∀ b ∈ fp, FpOk X pins H b) (hD : s.heap.objs.size <= D) (hn : H' D = none)
    (new : ObjOk X.prog X.w (upd H' D o) s'.heap D o) : Inv X pins σ (upd H' D o) s' := by
  have u : Un (frs X.stack) fp H H' s.heap s'.heap := J.base
  exact I.call' J.os (u.track hD hn) (J.hok.track hn new) J.bare fun b hb => ⟨(hf b hb).2.2.2.1, (hf b hb).2.1, (hf b hb).2.2.2.2.1, (hf b hb).2.2.2.2.2⟩
end
def PF (X : Cx) (ifs : List Expr) (t : TT) : Prop :=
  ∀ (pins : List (Addr × Obj)) (s : Shared) (σ : St) (H : Hp) (Q : Bool -> Hp -> Prop), Inv X pins σ H s -> t σ H Q ->
    wpAny (model X.prog X.w) X.A (forIn ifs true fun c r => if r = true then do let ok <- isTrue c X.env (eval c X.env); pure (ForInStep.yield ok) else pure (ForInStep.yield r)) (TP X pins σ Q) X.xe s
def tTrue : TT := fun _ H Q => Q true H
theorem pf_nil {X : Cx} : PF X [] tTrue := fun _ _ _ H _ I h => wpAny_tests_nil ⟨H, I, h⟩
def tComp (wi : TI) (cp : Caps) (g : TG) (tc : TT) (te : TE) : TE := fun σ H Q => wi σ H fun J H1 => ∃ W : Nat -> Nat -> List V -> St -> Hp -> Prop, (∃ m, W 0 m [] (cp.st σ) H1) /\ ∀ i m ys σ' H', W i m ys σ' H' ->
  ys.length < sizeLine /\ ((J.stop i H' /\ ∀ D, H' D = none -> Q (.ref D) (upd H' D (.lst ys))) \/ (J.go i H' /\ ∃ N : List V -> St -> Hp -> Prop, (∀ zs σ2 H2, N zs σ2 H2 -> ∃ m', m' < m /\ W (i + 1) m' zs σ2 H2) /\ ∀ x H2, J.yld i H' x H2 -> g x σ' H2 fun σ2 H3 => tc σ2 H3 fun b H4 =>
    if b = true then te σ2 H4 fun v H5 => N (ys ++ [v]) σ2 H5 else N ys σ2 H4))
section
variable {X : Cx} {tg iter elt : Expr} {ifs : List Expr} {sc : Scope} {pos : Pos} {wi : TI} {cp : Caps} {g : TG} {tc : TT} {te : TE}
theorem comp_core (hc : X.calm = true) (S : BlkSc X sc) (hcp : CapsOk X.N sc cp)
    (hg : ∀ C s₀ H₀ ex, PG (X.blk cp.names sc C s₀ H₀ ex) tg g) (hf : ∀ C s₀ H₀ ex, PF (X.blk cp.names sc C s₀ H₀ ex) ifs tc) (he : ∀ C s₀ H₀ ex, PE (X.blk cp.names sc C s₀ H₀ ex) elt te)
    {pins : List (Addr × Obj)} {σ : St} {H : Hp} {s : Shared} {J : It} {it : Addr} {fp : List Addr} {tn : Nat -> Heap -> Prop} {Q : VK} {RR : Value -> Addr -> Result -> Shared -> Prop} {E : Value -> Shared -> Prop}
    (I : Inv X pins σ H s) (T : Turn X.prog X.w X.K tg J fp it tn) (st : tn 0 s.heap) (fpo : ∀ b ∈ fp, FpOk X pins H b)
    (hw : ∃ W : Nat -> Nat -> List V -> St -> Hp -> Prop, (∃ m, W 0 m [] (cp.st σ) H) /\ ∀ i m ys σ' H', W i m ys σ' H' ->
      ys.length < sizeLine /\ ((J.stop i H' /\ ∀ D, H' D = none -> Q (.ref D) (upd H' D (.lst ys))) \/ (J.go i H' /\ ∃ N : List V -> St -> Hp -> Prop, (∀ zs σ2 H2, N zs σ2 H2 -> ∃ m', m' < m /\ W (i + 1) m' zs σ2 H2) /\ ∀ x H2, J.yld i H' x H2 -> g x σ' H2 fun σ2 H3 => tc σ2 H3 fun b H4 =>
        if b = true then te σ2 H4 fun v H5 => N (ys ++ [v]) σ2 H5 else N ys σ2 H4)))
    (hR : ∀ D C s' H' (m : Str -> Option Value), Inv X pins σ H' s' -> Q (.ref D) H' -> s'.heap.Ns C m -> H' C = none -> C ≠ X.env.locals -> X.s₀.heap.objs.size <= C -> (∀ x c, X.env.cells.lookup x = some c -> c ≠ C) -> (∀ p ∈ X.pn ++ pins, p.1 ≠ C) -> RR (.ref D) C (.ok .next) s') :
    wpAny (model X.prog X.w) X.A (newList []) (fun acc s₃ => wpAny (model X.prog X.w) X.A (newFunctionEnv sc X.env.globals (clOf X.env sc.names []) [] X.env.qual none .none (some X.env)) (fun cenv s₄ =>
      codeAny (model X.prog X.w) X.A (.compStart (.ListComp elt [⟨tg, iter, ifs, 0⟩] sc pos) 0 (.ref it) acc { cenv with scope := relabel sc X.env }) (RR acc cenv.locals) s₄) E s₃) E s := by
  obtain ⟨W, ⟨m0, w0⟩, turn⟩ := hw
  refine wpAny_newObj_type (wpAny_newFunctionEnv S.nocell (by intro y hy; simp at hy) (fun h₁ hns₁ hsb₁ => ?_) S.kind)
  dsimp only at hns₁ hsb₁ ⊢
  generalize hH2 : s.heap.push { cls := .type "list", dict := none, data := .seq ([] : List Value).toArray } = H2 at hns₁ hsb₁ ⊢
  have hC : H2.objs.size = s.heap.objs.size + 1 := by rw [<- hH2, Heap.size_push]
  have hDC : s.heap.objs.size ≠ H2.objs.size := by rw [hC]; exact Nat.ne_of_lt (Nat.lt_succ_self _)
  have hCle : s.heap.objs.size <= H2.objs.size := by rw [hC]; exact Nat.le_succ _
  have below : ∀ b, b < s.heap.objs.size -> b ≠ H2.objs.size := fun b hb => by rw [hC]; exact Nat.ne_of_lt (Nat.lt_succ_of_lt hb)
  have old : ∀ b o, s.heap.get? b = some o -> h₁.get? b = some o := fun b o e => hsb₁.extBut b o (below b (Heap.lt_size e)) (Heap.get?_push_of_some _ (hH2 ▸ Heap.get?_push_of_some _ e))
  have hacc : h₁.get? s.heap.objs.size = some { cls := .type "list", data := .seq ([] : List Value).toArray 0 } := hsb₁.extBut _ _ hDC (Heap.get?_push_of_some _ (hH2 ▸ Heap.get?_push_size _ rfl))
  have hst₁ : tn 0 h₁ := T.keep 0 _ _ st fun b _ o e => old b o e
  have hobj : ∀ b ∈ fp, ∃ o, s.heap.get? b = some o := fun b hb => let ⟨o, e, _⟩ := T.obj 0 _ st b hb; ⟨o, e⟩
  have J0 : Inv (X.blk cp.names sc H2.objs.size s H fp) [] (cp.st σ) H { s with heap := h₁, toks := s.toks + ([] : List (Str × Value)).length } := blk_start I S hcp hCle fpo hobj rfl rfl old hns₁
  have nfs : ∀ b, s.heap.objs.size <= b -> b ∉ frs X.stack := fun b hb z => by
    rcases List.mem_cons.mp (I.stkSub b z) with e | e
    . exact absurd (Nat.lt_of_lt_of_le I.lt (by rw [<- e]; exact hb)) (Nat.lt_irrefl _)
    . exact I.nofs hb e
  have ncell : ∀ b, s.heap.objs.size <= b -> ∀ x c, X.env.cells.lookup x = some c -> c ≠ b := fun b hb x c e z => by
    obtain ⟨v, q⟩ := I.cell x c e
    exact absurd (Nat.lt_of_lt_of_le q.lt (by rw [z]; exact hb)) (Nat.lt_irrefl _)
  have fpb : ∀ {pins' : List (Addr × Obj)} {H' : Hp}, (∀ b ∈ fp, H' b = none) -> (∀ p ∈ pins', p.1 ∉ fp) -> ∀ b ∈ fp, FpOk (X.blk cp.names sc H2.objs.size s H fp) pins' H' b := fun {pins' H'} hn hp b hb => by
    obtain ⟨o, e⟩ := hobj b hb
    refine ⟨hn b hb, below b (Heap.lt_size e), fun z => ?_, .inl hb, fun x c h => (fpo b hb).2.2.2.2.1 x c (blk_lookup I S h), fun p hp' z => ?_⟩
    . rcases List.mem_cons.mp (I.stkSub b z) with e | e
      . exact (fpo b hb).2.1 e
      . exact (fpo b hb).2.2.1 e
    . have hp'' : p ∈ pins' := by simpa using hp'
      exact hp p hp'' (by rw [z]; exact hb)
  have loop : ∀ s₃ : Shared, s₃ = { s with heap := h₁, toks := s.toks + ([] : List (Str × Value)).length } ->
      codeAny (model X.prog X.w) X.A (.compLoop (.ListComp elt [⟨tg, iter, ifs, 0⟩] sc pos) 0 (.ref it) (.ref s.heap.objs.size) (compEnvC sc (clOf X.env sc.names []) H2.objs.size X.env))
        (RR (.ref s.heap.objs.size) H2.objs.size) s₃ := by
    rintro s₃ rfl
    refine compLoop_gen (fun n s' => ∃ i σ' H' ys its k, Inv (X.blk cp.names sc H2.objs.size s H fp) [] σ' H' s' /\ tn i s'.heap /\ (∀ b ∈ fp, H' b = none) /\ H' s.heap.objs.size = none /\
      s'.heap.get? s.heap.objs.size = some { cls := .type "list", data := .seq its.toArray k } /\ Vals ys its /\ W i n ys σ' H') ?_ m0
      ⟨0, _, H, [], [], 0, J0, hst₁, fun b hb => (fpo b hb).1, I.hok.fresh (Nat.le_refl _), hacc, .nil, w0⟩
    rintro n s3 ⟨i, σ3, H3, ys, its, k, I3, st3, fr3, hD3, e3, rv, w3⟩
    obtain ⟨hz, tr⟩ := turn i n ys σ3 H3 w3
    have hlen := rv.length
    -- the accumulator stands still while anything else runs
    have dpin : ∀ p ∈ [(s.heap.objs.size, ({ cls := .type "list", data := .seq its.toArray k } : Obj))], p.1 ∉ fp := fun p hp z => by
      have e : p = _ := List.mem_singleton.mp hp
      subst e
      obtain ⟨o, e⟩ := hobj _ z
      exact absurd (Heap.lt_size e) (Nat.lt_irrefl _)
    have I3' : Inv (X.blk cp.names sc H2.objs.size s H fp) [(s.heap.objs.size, ({ cls := .type "list", data := .seq its.toArray k } : Obj))] σ3 H3 s3 := I3.pins_of fun p hp => by
      have e : p = _ := List.mem_singleton.mp hp
      subst e
      exact ⟨e3, hD3, hDC, nfs _ (Nat.le_refl _), fun v z => by cases z⟩
    have stat : ∀ b ∈ fp, FpOk (X.blk cp.names sc H2.objs.size s H fp) [(s.heap.objs.size, ({ cls := .type "list", data := .seq its.toArray k } : Obj))] H3 b := fpb fr3 dpin
    rcases tr with ⟨stop, qn⟩ | ⟨go, N, hN, step⟩
    . refine thn (T.done (X.blk cp.names sc H2.objs.size s H fp) rfl rfl rfl hc i _ s3 σ3 H3 _ I3' stat st3 stop) fun r s4 ⟨hr, I4⟩ => ?_
      subst hr
      obtain ⟨e4, n4, _⟩ := I4.pin (s.heap.objs.size, ({ cls := .type "list", data := .seq its.toArray k } : Obj)) (by simp)
      have new : ObjOk X.prog X.w (upd H3 s.heap.objs.size (.lst ys)) s4.heap s.heap.objs.size (.lst ys) := ⟨Nat.le_of_lt hz, its, k, rv, e4⟩
      obtain ⟨mC, hnC, _⟩ := I4.loc
      have I4' : Inv (X.blk cp.names sc H2.objs.size s H fp) [] σ3 H3 s4 := I4.pins_of fun p hp => by cases hp
      have I5 := blk_end I I4' fpo (Nat.le_refl _) n4 new
      refine hR _ _ s4 _ mC I5 (qn _ n4) hnC ?_ (Nat.ne_of_gt (Nat.lt_of_lt_of_le I.lt hCle)) (Nat.le_trans I.sz hCle) (ncell _ hCle) fun p hp z => ?_
      . rw [upd_ne (Ne.symm hDC)]; exact I4.free
      . exact absurd (Nat.lt_of_lt_of_le (Heap.lt_size (I.pin p hp).1) (by rw [z]; exact hCle)) (Nat.lt_irrefl _)
    . refine thn (T.item (X.blk cp.names sc H2.objs.size s H fp) rfl rfl rfl hc i _ s3 σ3 H3 _ I3' stat st3 go) fun r s4 ⟨u, hr, h4⟩ => ?_
      subst hr
      refine thn h4 fun _ s5 ⟨x, H5, I5, r5, y5, st5, fr5⟩ => ?_
      have I5' := I5.pinned (fpb fr5 dpin) (T.obj _ _ st5)
      have fin : ∀ {σ7 : St} {H7 : Hp} {s7 : Shared}, Inv (X.blk cp.names sc H2.objs.size s H fp) ([(s.heap.objs.size, ({ cls := .type "list", data := .seq its.toArray k } : Obj))] ++ pinsAt fp s5.heap) σ7 H7 s7 ->
          s7.heap.get? s.heap.objs.size = some { cls := .type "list", data := .seq its.toArray k } /\ H7 s.heap.objs.size = none /\ (∀ b ∈ fp, H7 b = none) /\ ∀ b ∈ fp, ∀ o, s5.heap.get? b = some o -> s7.heap.get? b = some o := fun {σ7 H7 s7} I7 => by
        obtain ⟨e7, n7, _⟩ := I7.pin (s.heap.objs.size, ({ cls := .type "list", data := .seq its.toArray k } : Obj)) (by simp)
        refine ⟨e7, n7, fun b hb => ?_, fun b hb o e => ?_⟩
        . obtain ⟨o, e, _⟩ := T.obj _ _ st5 b hb
          exact (I7.pin (b, o) (List.mem_append_right _ (List.mem_append_right _ (mem_pinsAt hb e)))).2.1
        . exact (I7.pin (b, o) (List.mem_append_right _ (List.mem_append_right _ (mem_pinsAt hb e)))).1
      refine wpAny_mono (hg _ _ _ _ _ s5 σ3 H5 x u _ I5' r5 (step x H5 y5)) (fun _ s6 ⟨σ6, H6, I6, q6⟩ => ?_) fun _ _ z => False.elim z
      refine wpAny_mono (hf _ _ _ _ _ s6 σ6 H6 _ I6 q6) (fun ok s7 ⟨H7, I7, q7⟩ => ?_) fun _ _ z => False.elim z
      cases ok with
      | false =>
        rw [if_neg Bool.false_ne_true]
        rw [if_neg Bool.false_ne_true] at q7
        obtain ⟨m', hm, w7⟩ := hN _ _ _ q7
        obtain ⟨e7, n7, fr7, k7⟩ := fin I7
        exact ⟨m', hm, i + 1, σ6, H7, ys, its, k, I7.pins_of (fun p hp => by cases hp), T.keep _ _ _ st5 k7, fr7, n7, e7, rv, w7⟩
      | true =>
        rw [if_pos rfl]
        rw [if_pos rfl] at q7
        refine wpAny_mono (he _ _ _ _ _ s7 σ6 H7 _ I7 q7) (fun v s8 ⟨y, H8, I8, r8, q8⟩ => ?_) fun _ _ z => False.elim z
        obtain ⟨m', hm, w8⟩ := hN _ _ _ q8
        obtain ⟨e8, n8, fr8, k8⟩ := fin I8
        refine call_meets F.slot_list_append ⟨_, e8, rfl⟩ F.entry_list_append (F.args_list_append_2 _ _) (PySem.list_append s.heap.objs.size its.toArray k v (by rw [List.size_toArray]; omega)) ⟨e8, ?_⟩
        obtain ⟨k', q⟩ : ∃ k', (s8.heap.update s.heap.objs.size (Obj.mapSeq fun x => x.push v)).get? s.heap.objs.size = some { cls := .type "list", data := .seq (its ++ [v]).toArray k' } := ⟨_, by
          have q := PySem.IsL.update e8 fun x => x.push v
          have e : (its ++ [v]).toArray = its.toArray.push v := by simp
          rw [e]
          exact q⟩
        have I8' : Inv (X.blk cp.names sc H2.objs.size s H fp) [] σ6 H8 s8 := I8.pins_of fun p hp => by cases hp
        have I9 : Inv (X.blk cp.names sc H2.objs.size s H fp) [] σ6 H8 { s8 with heap := s8.heap.update s.heap.objs.size (Obj.mapSeq fun x => x.push v), toks := s8.toks } :=
          I8'.turned (it := s.heap.objs.size) (fun b o hb e => (Heap.get?_update_other _ _ (Ne.symm hb)).trans e) n8 hDC (.inr (Nat.le_refl _)) (fun x c e => ncell _ (Nat.le_refl _) x c (blk_lookup I S e)) (fun p hp => by cases hp)
        refine ⟨m', hm, i + 1, σ6, H8, ys ++ [y], its ++ [v], k', I9, T.keep (i + 1) s5.heap _ st5 (fun b hb o e => ?_), fr8, n8, q, rv.append (.cons r8 .nil), w8⟩
        . refine (Heap.get?_update_other _ _ ?_).trans (k8 b hb o e)
          intro z
          obtain ⟨ob, eb⟩ := hobj b hb
          exact absurd (Heap.lt_size eb) (by rw [<- z]; exact Nat.lt_irrefl _)
  exact codeAny_compStart_list (loop _ rfl) (T.self _ 0 _ _ _ hst₁ (loop _ rfl))
theorem pe_comp (hc : X.calm = true) (S : BlkSc X sc) (hcp : CapsOk X.N sc cp) (hi : PI X tg iter wi)
    (hg : ∀ C s₀ H₀ ex, PG (X.blk cp.names sc C s₀ H₀ ex) tg g) (hf : ∀ C s₀ H₀ ex, PF (X.blk cp.names sc C s₀ H₀ ex) ifs tc) (he : ∀ C s₀ H₀ ex, PE (X.blk cp.names sc C s₀ H₀ ex) elt te)
    (hs : ∀ x, foldedSetIterable iter X.env x = pure x := by intro _; rfl) : PE X (.ListComp elt [⟨tg, iter, ifs, 0⟩] sc pos) (tComp wi cp g tc te) := by
  intro pins s σ H Q I h
  rw [eval_ListComp]
  refine wpAny_comprehension_free (use := none) rfl hs (closure_eq (blk_cells I S)) S.kind S.loc (thn (hi pins s σ H _ I h) fun xv s₁ h₁ => thn h₁ fun itv s₂ h₂ => ?_)
  obtain ⟨it, fp, tn, J, H2, e, I2, T, st2, f2, hw⟩ := h₂
  subst e
  refine comp_core (RR := fun acc C => compPost (model X.prog X.w) X.A X.xe none (EP X pins σ Q) acc C) hc S hcp hg hf he I2 T st2 f2 hw ?_
  intro D C s' H' m I' q hn hC hL hz hcl hp
  exact ⟨m, hn, fun h' hs' => ⟨.ref D, H', I'.turned (t' := s'.toks) (it := C) (fun b o hb e => hs'.extBut b o hb e) hC hL (.inr hz) hcl hp, rfl, q⟩⟩
theorem ps_setC {i : Nat} {x : Str} {px spos : Pos} (hN : X.N.Nodup) (hi : X.N[i]? = some x) (hx : X.env.scope.names.lookup x = some .local) (hc : X.calm = true) (S : BlkSc X sc) (hcp : CapsOk X.N sc cp) (hit : PI X tg iter wi)
    (hg : ∀ C s₀ H₀ ex, PG (X.blk cp.names sc C s₀ H₀ ex) tg g) (hf : ∀ C s₀ H₀ ex, PF (X.blk cp.names sc C s₀ H₀ ex) ifs tc) (he : ∀ C s₀ H₀ ex, PE (X.blk cp.names sc C s₀ H₀ ex) elt te)
    (hsw : swapsWith (.ListComp elt [⟨tg, iter, ifs, 0⟩] sc pos) (some (.Name x px)) spos.line X.env = pure true := by rfl)
    (hs : ∀ x, foldedSetIterable iter X.env x = pure x := by intro _; rfl) : PS X (.Assign [.Name x px] (.ListComp elt [⟨tg, iter, ifs, 0⟩] sc pos) spos) (tAsg (tComp wi cp g tc te) (gName i)) := by
  intro pins s σ H D I h
  rw [exec_Assign_Name_used _ _ _ _ hsw]
  refine wpAny_bind (wpAny_standAt (wpAny_bind ?_))
  show wpAny _ X.A (do let _ <- comprehension (.ListComp elt [⟨tg, iter, ifs, 0⟩] sc pos) sc X.env _ (newList []) false (eval iter X.env) (some (assign (.Name x px) X.env))) _ _ s
  refine wpAny_bind (wpAny_mono (wpAny_comprehension_free (use := some (assign (.Name x px) X.env)) (Q := fun _ s' => SP X pins D .next s') rfl hs (closure_eq (blk_cells I S)) S.kind S.loc
    (thn (hit pins s σ H _ I h) fun xv s₁ h₁ => thn h₁ fun itv s₂ h₂ => ?_)) (fun _ s' hq => wpAny_pure (wpAny_pure hq)) fun _ _ e => e)
  obtain ⟨it, fp, tn, J, H2, e, I2, T, st2, f2, hw⟩ := h₂
  subst e
  refine comp_core (RR := fun acc C => compPost (model X.prog X.w) X.A X.xe (some (assign (.Name x px) X.env)) (fun _ s' => SP X pins D .next s') acc C) (Q := fun v H1 => gName i v σ H1 D.nx) hc S hcp hg hf he I2 T st2 f2 hw ?_
  intro Dl C s' H' m I' q hn hC hL hz hcl hp
  show wpAny _ X.A (assign (.Name x px) X.env (.ref Dl)) _ _ _
  refine wpAny_assign_Name (store_ok2 I' hN hi (.inl hx) (v := .ref Dl) rfl (fun s'' I'' ⟨a, hsb, ha⟩ => ?_) (.inr hx))
  have hne : C ≠ a := by
    rcases ha with rfl | ha
    . exact hL
    . exact fun z => hcl _ _ ha z.symm
  refine ⟨m, hn.sameBut hsb hne, fun h' hs' => ⟨_, H', I''.turned (t' := s''.toks) (it := C) (fun b o hb e => hs'.extBut b o hb e) hC hL (.inr hz) hcl hp, q⟩⟩
end
theorem comp_list {K : PySem.W.Frag} {a : Addr} {xs : List V} {g : TG} {tc : TT} {te : TE} {Q : VK} {σ : St} {H : Hp} (Pv : Nat -> List V -> St -> Hp -> Prop) (h0 : Pv 0 [] σ H) (hz : xs.length < sizeLine)
    (hl : ∀ i ys σ H, i <= xs.length -> Pv i ys σ H -> SqL K H a xs /\ ys.length <= i)
    (hs : ∀ i x ys σ H, xs[i]? = some x -> Pv i ys σ H -> g x σ H fun σ2 H2 => tc σ2 H2 fun b H3 => if b = true then te σ2 H3 fun v H4 => Pv (i + 1) (ys ++ [v]) σ2 H4 else Pv (i + 1) ys σ2 H3)
    (hd : ∀ ys σ H, Pv xs.length ys σ H -> ∀ D, H D = none -> Q (.ref D) (upd H D (.lst ys))) :
    ∃ W : Nat -> Nat -> List V -> St -> Hp -> Prop, (∃ m, W 0 m [] σ H) /\ ∀ i m ys σ' H', W i m ys σ' H' ->
      ys.length < sizeLine /\ (((Itl K a).stop i H' /\ ∀ D, H' D = none -> Q (.ref D) (upd H' D (.lst ys))) \/ ((Itl K a).go i H' /\ ∃ N : List V -> St -> Hp -> Prop, (∀ zs σ2 H2, N zs σ2 H2 -> ∃ m', m' < m /\ W (i + 1) m' zs σ2 H2) /\ ∀ x H2, (Itl K a).yld i H' x H2 -> g x σ' H2 fun σ2 H3 => tc σ2 H3 fun b H4 =>
        if b = true then te σ2 H4 fun v H5 => N (ys ++ [v]) σ2 H5 else N ys σ2 H4)) := by
  refine ⟨fun i m ys σ H => m = xs.length - i /\ i <= xs.length /\ Pv i ys σ H, ⟨xs.length, by simp, Nat.zero_le _, h0⟩, ?_⟩
  rintro i m ys σ H ⟨rfl, hi, p⟩
  obtain ⟨q, ly⟩ := hl i ys σ H hi p
  refine ⟨by omega, ?_⟩
  by_cases hlt : i < xs.length
  . refine .inr ⟨⟨xs, xs[i], q, by simp [hlt]⟩, Pv (i + 1), fun zs σ' H' p' => ⟨xs.length - (i + 1), by omega, rfl, hlt, p'⟩, fun x H' y => ?_⟩
    obtain ⟨e, y⟩ := y
    subst e
    exact hs i x ys σ _ (y xs q) p
  . have e : i = xs.length := by omega
    subst e
    exact .inl ⟨⟨xs, q, Nat.le_refl _⟩, hd ys σ H p⟩
theorem comp_tup {K : PySem.W.Frag} {a : Addr} {xs : List V} {g : TG} {tc : TT} {te : TE} {Q : VK} {σ : St} {H : Hp} (Pv : Nat -> List V -> St -> Hp -> Prop) (h0 : Pv 0 [] σ H) (hz : xs.length < sizeLine)
    (hl : ∀ i ys σ H, i <= xs.length -> Pv i ys σ H -> SqT K H a xs /\ ys.length <= i)
    (hs : ∀ i x ys σ H, xs[i]? = some x -> Pv i ys σ H -> g x σ H fun σ2 H2 => tc σ2 H2 fun b H3 => if b = true then te σ2 H3 fun v H4 => Pv (i + 1) (ys ++ [v]) σ2 H4 else Pv (i + 1) ys σ2 H3)
    (hd : ∀ ys σ H, Pv xs.length ys σ H -> ∀ D, H D = none -> Q (.ref D) (upd H D (.lst ys))) :
    ∃ W : Nat -> Nat -> List V -> St -> Hp -> Prop, (∃ m, W 0 m [] σ H) /\ ∀ i m ys σ' H', W i m ys σ' H' ->
      ys.length < sizeLine /\ (((Itt K a).stop i H' /\ ∀ D, H' D = none -> Q (.ref D) (upd H' D (.lst ys))) \/ ((Itt K a).go i H' /\ ∃ N : List V -> St -> Hp -> Prop, (∀ zs σ2 H2, N zs σ2 H2 -> ∃ m', m' < m /\ W (i + 1) m' zs σ2 H2) /\ ∀ x H2, (Itt K a).yld i H' x H2 -> g x σ' H2 fun σ2 H3 => tc σ2 H3 fun b H4 =>
        if b = true then te σ2 H4 fun v H5 => N (ys ++ [v]) σ2 H5 else N ys σ2 H4)) := by
  refine ⟨fun i m ys σ H => m = xs.length - i /\ i <= xs.length /\ Pv i ys σ H, ⟨xs.length, by simp, Nat.zero_le _, h0⟩, ?_⟩
  rintro i m ys σ H ⟨rfl, hi, p⟩
  obtain ⟨q, ly⟩ := hl i ys σ H hi p
  refine ⟨by omega, ?_⟩
  by_cases hlt : i < xs.length
  . refine .inr ⟨⟨xs, xs[i], q, by simp [hlt]⟩, Pv (i + 1), fun zs σ' H' p' => ⟨xs.length - (i + 1), by omega, rfl, hlt, p'⟩, fun x H' y => ?_⟩
    obtain ⟨e, y⟩ := y
    subst e
    exact hs i x ys σ _ (y xs q) p
  . have e : i = xs.length := by omega
    subst e
    exact .inl ⟨⟨xs, q, Nat.le_refl _⟩, hd ys σ H p⟩
theorem comp_range {lo : Int} {n : Nat} {g : TG} {tc : TT} {te : TE} {Q : VK} {σ : St} {H : Hp} (Pv : Nat -> List V -> St -> Hp -> Prop) (h0 : Pv 0 [] σ H) (hz : n < sizeLine)
    (hl : ∀ i ys σ H, i <= n -> Pv i ys σ H -> ys.length <= i)
    (hs : ∀ i ys σ H, i < n -> Pv i ys σ H -> g (.int (lo + i)) σ H fun σ2 H2 => tc σ2 H2 fun b H3 => if b = true then te σ2 H3 fun v H4 => Pv (i + 1) (ys ++ [v]) σ2 H4 else Pv (i + 1) ys σ2 H3)
    (hd : ∀ ys σ H, Pv n ys σ H -> ∀ D, H D = none -> Q (.ref D) (upd H D (.lst ys))) :
    ∃ W : Nat -> Nat -> List V -> St -> Hp -> Prop, (∃ m, W 0 m [] σ H) /\ ∀ i m ys σ' H', W i m ys σ' H' ->
      ys.length < sizeLine /\ (((Itr lo n).stop i H' /\ ∀ D, H' D = none -> Q (.ref D) (upd H' D (.lst ys))) \/ ((Itr lo n).go i H' /\ ∃ N : List V -> St -> Hp -> Prop, (∀ zs σ2 H2, N zs σ2 H2 -> ∃ m', m' < m /\ W (i + 1) m' zs σ2 H2) /\ ∀ x H2, (Itr lo n).yld i H' x H2 -> g x σ' H2 fun σ2 H3 => tc σ2 H3 fun b H4 =>
        if b = true then te σ2 H4 fun v H5 => N (ys ++ [v]) σ2 H5 else N ys σ2 H4)) := by
  refine ⟨fun i m ys σ H => m = n - i /\ i <= n /\ Pv i ys σ H, ⟨n, by simp, Nat.zero_le _, h0⟩, ?_⟩
  rintro i m ys σ H ⟨rfl, hi, p⟩
  have ly := hl i ys σ H hi p
  refine ⟨by omega, ?_⟩
  by_cases hlt : i < n
  . refine .inr ⟨hlt, Pv (i + 1), fun zs σ' H' p' => ⟨n - (i + 1), by omega, rfl, hlt, p'⟩, fun x H' y => ?_⟩
    obtain ⟨e, y⟩ := y
    subst e y
    exact hs i ys σ _ hlt p
  . have e : i = n := by omega
    subst e
    exact .inl ⟨Nat.le_refl _, hd ys σ H p⟩
end L2
set_option Elab.async false
set_option linter.all false
set_option maxRecDepth 100000
set_option maxHeartbeats 4000000
namespace L2
open PySem PySem.Spec PyProof.Rows
section
variable {X : Cx}
theorem vals_bool_get {bs : List Bool} {its : List Value} (r : Vals (bs.map V.bl) its) {i : Nat} {v : Value} (h : its[i]? = some v) : ∃ b, bs[i]? = some b /\ v = .bool b := by
  have hi : i < its.length := (List.getElem?_eq_some_iff.mp h).1
  have hl := r.length
  rw [List.length_map] at hl
  obtain ⟨u, hu, ru⟩ := r.get (i := i) (x := V.bl bs[i]) (by rw [List.getElem?_map]; simp [show i < bs.length by omega])
  rw [h] at hu
  cases hu
  exact ⟨bs[i], by simp [show i < bs.length by omega], ru⟩
theorem map_at (bs : List Bool) : (List.range bs.length).map (fun i => bs.getD i false) = bs :=
  List.ext_getElem (by simp) fun i _ h => by simp [h]
theorem range_all {bs : List Bool} : (List.range bs.length).all (fun i => bs.getD i false) = bs.all id := by
  have e := congrArg (fun l => l.all id) (map_at bs)
  rw [List.all_map] at e; exact e
theorem truth_bools {bs : List Bool} {its : List Value} {A : Around} {P : Program} {w : World} (r : Vals (bs.map V.bl) its) : TruthOf P w A (fun i v => its.toArray[i]? = some v) (fun i => bs.getD i false) := by
  intro i v s Q E hv hq
  obtain ⟨b, hb, e⟩ := vals_bool_get r (by simpa using hv)
  subst e
  refine wpAny_truthy_bool ?_
  have e : bs.getD i false = b := by rw [List.getD_eq_getElem?_getD, hb]; rfl
  have hq' : Q (bs.getD i false) s := hq
  rw [e] at hq'
  exact hq'
theorem call_all (hc : X.calm = true) : CallR X (.builtin "all") (fun xs H Q => ∃ (p : Addr) (bs : List Bool), xs = [.ref p] /\ SqL X.K H p (bs.map V.bl) /\ Q (.bl (bs.all id)) H) := by
  intro pins s σ H xs us Q I r h
  obtain ⟨p, bs, rfl, hq, q⟩ := h
  obtain ⟨u, rfl, ru⟩ := vals1 r
  cases ru
  obtain ⟨its, rv, pl, hz⟩ := I.list hq
  have hlen := rv.length
  rw [List.length_map] at hlen
  have hh : X.A.in1.handled = none := I.ok.hd hc
  obtain ⟨o, ho, _⟩ := id pl.isList
  have hne : p ≠ s.heap.objs.size := Nat.ne_of_lt (Heap.lt_size ho)
  refine call_all_walk (wpAny_pyIter_list pl.isList ?_)
  refine ⟨s.heap.objs.size, _, _, its.toArray.size, _, _, fun i => bs.getD i false, rfl, Walks.list hh _ p hne its.toArray, ⟨⟨_, Heap.get?_push_size _ rfl, rfl, rfl⟩, pl.isList.at fun o e => Heap.get?_push_of_some _ e⟩, truth_bools rv, fun h' tk hk => ?_⟩
  refine ⟨.bl (bs.all id), H, I.kept (t' := tk) fun b o e => hk b o ?_ (Heap.get?_push_of_some _ e), ?_, q⟩
  . intro hb
    have e' : b = s.heap.objs.size := by simpa using hb
    exact absurd (Heap.lt_size e) (by rw [e']; exact Nat.lt_irrefl _)
  . rw [List.size_toArray, <- hlen, range_all]; rfl
theorem call_isinst : CallR X (.builtin "isinstance") (fun xs H Q => ∃ x c cv t b, xs = [x, c] /\ TyOf X.K H x t /\ (∀ u, RelV c u -> u = cv) /\ PySem.W.kitOne X.K t cv = some b /\ Q (.bl b) H) := by
  intro pins s σ H xs us Q I r h
  obtain ⟨x, c, cv, t, b, rfl, ty, hc, hk, q⟩ := h
  obtain ⟨u, w', rfl, rx, rc⟩ := vals2 r
  rw [hc _ rc]
  exact isinst_ok I rx ty hk fun tk => ⟨.bl b, H, I.tok tk, rfl, q⟩
def EqD (K : PySem.W.Frag) (H : Hp) : Nat -> V -> V -> Bool -> Prop
  | 0, x, y, b => flatV x = true /\ flatV y = true /\ b = eqV x y
  | n + 1, x, y, b => (flatV x = true /\ flatV y = true /\ b = eqV x y) \/ ∃ a c xs ys, x = .ref a /\ y = .ref c /\ ((SqL K H a xs /\ SqL K H c ys) \/ (SqT K H a xs /\ SqT K H c ys)) /\ 
      ∃ e : Nat -> Bool, (∀ i x y, xs[i]? = some x -> ys[i]? = some y -> EqD K H n x y (e i)) /\ b = (decide (xs.length = ys.length) && (List.range (min xs.length ys.length)).all e)
theorem in1_units (A : Around) : A.in1.units = A.units + 1 := rfl
theorem eqV_self {x : V} (h : flatV x = true) : eqV x x = true := by
  cases x <;> first | rfl | (simp [eqV]; done) | exact absurd (show false = true from h) Bool.false_ne_true
theorem EqD.self {pins : List (Addr × Obj)} {s : Shared} {σ : St} {H : Hp} (I : Inv X pins σ H s) : ∀ (n : Nat) {x : V} {b : Bool}, EqD X.K H n x x b -> b = true := by
  intro n
  induction n with
  | zero =>
    rintro x b ⟨fx, _, rfl⟩
    exact eqV_self fx
  | succ n ih =>
    rintro x b (⟨fx, _, rfl⟩ | ⟨a, c, xs, ys, rfl, e2, hq, e, he, rfl⟩)
    . exact eqV_self fx
    . cases e2
      have exy : xs = ys := by
        rcases hq with ⟨h1, h2⟩ | ⟨h1, h2⟩
        . exact I.list_inj h1 h2
        . exact I.tuple_inj h1 h2
      subst exy
      simp only [decide_true, Bool.true_and, Nat.min_self, List.all_eq_true, List.mem_range]
      intro i hi
      exact ih (he i xs[i] xs[i] (by simp [hi]) (by simp [hi]))
theorem all_and {n m : Nat} {e : Nat -> Bool} : ((List.range (min n m)).all e && n == m) = (decide (n = m) && (List.range (min n m)).all e) := by
  rw [Bool.and_comm]
  congr 1
theorem EqD.at {pins : List (Addr × Obj)} {s : Shared} {σ : St} {H : Hp} (I : Inv X pins σ H s) : ∀ (n : Nat) (A : Around) {x y : V} {u v : Value} {b : Bool}, A.units + n < cLine -> RelV x u -> RelV y v -> EqD X.K H n x y b ->
    SeqAt.EqAt A s u v b /\ ∀ a c, x = .ref a -> y = .ref c -> SeqAt.RcAt A s u v b := by
  intro n
  induction n with
  | zero =>
    intro A x y u v b hu rx ry h
    obtain ⟨fx, fy, rfl⟩ := h
    refine ⟨eqAt_V rx ry fx fy, ?_⟩
    rintro a c rfl rfl
    exact absurd (show false = true from fx) Bool.false_ne_true
  | succ n ih =>
    intro A x y u v b hu rx ry h
    have hself := h
    rcases h with ⟨fx, fy, rfl⟩ | ⟨a, c, xs, ys, rfl, rfl, hq, e, he, rfl⟩
    . refine ⟨eqAt_V rx ry fx fy, ?_⟩
      rintro a c rfl rfl
      exact absurd (show false = true from fx) Bool.false_ne_true
    . cases rx
      cases ry
      have key : ∀ (its its2 : List Value), Vals xs its -> Vals ys its2 -> ∀ j (h1 : j < its.toArray.size) (h2 : j < its2.toArray.size), SeqAt.EqAt A.in1 s its.toArray[j] its2.toArray[j] (e j) := fun its its2 r1 r2 j h1 h2 => by
        have l1 := r1.length
        have l2 := r2.length
        rw [List.size_toArray] at h1 h2
        obtain ⟨u1, g1, q1⟩ := r1.get (i := j) (x := xs[j]'(by omega)) (by simp [show j < xs.length by omega])
        obtain ⟨u2, g2, q2⟩ := r2.get (i := j) (x := ys[j]'(by omega)) (by simp [show j < ys.length by omega])
        have k1 : its.toArray[j]'(by rw [List.size_toArray]; exact h1) = u1 := by
          have := (List.getElem?_eq_some_iff.mp g1).2
          simpa using this
        have k2 : its2.toArray[j]'(by rw [List.size_toArray]; exact h2) = u2 := by
          have := (List.getElem?_eq_some_iff.mp g2).2
          simpa using this
        rw [k1, k2]
        exact (ih A.in1 (by rw [in1_units]; omega) q1 q2 (he j _ _ (by simp [show j < xs.length by omega]) (by simp [show j < ys.length by omega]))).1
      have rc : SeqAt.RcAt A s (.ref a) (.ref c) (decide (xs.length = ys.length) && (List.range (min xs.length ys.length)).all e) := by
        rcases hq with ⟨h1, h2⟩ | ⟨h1, h2⟩
        . obtain ⟨its, r1, p1, _⟩ := I.list h1
          obtain ⟨its2, r2, p2, _⟩ := I.list h2
          have l1 := r1.length
          have l2 := r2.length
          by_cases hl : xs.length = ys.length
          . have := SeqAt.RcAt.lists (e := e) p1.isList p2.isList (by rw [List.size_toArray, List.size_toArray]; omega) (by omega) (key its its2 r1 r2)
            rw [List.size_toArray, <- l1] at this
            rw [decide_eq_true hl, Bool.true_and, <- hl, Nat.min_self]
            exact this
          . rw [decide_eq_false hl, Bool.false_and]
            exact SeqAt.RcAt.lists_lengths p1.isList p2.isList (by rw [List.size_toArray, List.size_toArray]; simp; omega) (by omega)
        . obtain ⟨its, r1, p1, _⟩ := I.tuple h1
          obtain ⟨its2, r2, p2, _⟩ := I.tuple h2
          have l1 := r1.length
          have l2 := r2.length
          have := SeqAt.RcAt.tuples (e := e) (show s.heap.IsTuple a its.toArray from p1) (show s.heap.IsTuple c its2.toArray from p2) (by omega) (key its its2 r1 r2)
          rw [List.size_toArray, List.size_toArray, <- l1, <- l2, all_and] at this
          exact this
      refine ⟨?_, fun a' c' _ _ => rc⟩
      by_cases hac : a = c
      . subst hac
        rw [EqD.self I (n + 1) hself]
        exact SeqAt.EqAt.same _
      . exact SeqAt.EqAt.of_refs hac rc
theorem EqD.flat {K : PySem.W.Frag} {H : Hp} {a c : Addr} {xs ys : List V} (hq : (SqL K H a xs /\ SqL K H c ys) \/ (SqT K H a xs /\ SqT K H c ys)) (fx : ∀ x ∈ xs, flatV x = true) (fy : ∀ y ∈ ys, flatV y = true) (hi : ∀ x ∈ xs, ∀ y ∈ ys, eqV x y = decide (x = y)) (n : Nat) :
    EqD K H (n + 1) (.ref a) (.ref c) (decide (xs = ys)) := by
  have base : ∀ m i x y, xs[i]? = some x -> ys[i]? = some y -> EqD K H m x y (decide (x = y)) := fun m i x y h1 h2 => by
    have m1 := List.mem_of_getElem? h1
    have m2 := List.mem_of_getElem? h2
    cases m with
    | zero => exact ⟨fx _ m1, fy _ m2, (hi _ m1 _ m2).symm⟩
    | succ m => exact .inl ⟨fx _ m1, fy _ m2, (hi _ m1 _ m2).symm⟩
  refine .inr ⟨a, c, xs, ys, rfl, rfl, hq, fun i => match xs[i]?, ys[i]? with | some x, some y => decide (x = y) | _, _ => true, fun i x y h1 h2 => ?_, ?_⟩
  . simp only [h1, h2]
    exact base n i x y h1 h2
  . rw [Bool.eq_iff_iff]
    simp only [decide_eq_true_eq, Bool.and_eq_true, List.all_eq_true, List.mem_range]
    constructor
    . rintro rfl
      refine ⟨rfl, fun i hi => ?_⟩
      have hi : i < xs.length := by omega
      simp [hi]
    . rintro ⟨hl, h⟩
      refine List.ext_getElem? fun i => ?_
      by_cases hi : i < xs.length
      . have := h i (by omega)
        simp [hi, show i < ys.length by omega] at this
        simp [hi, show i < ys.length by omega, this]
      . rw [List.getElem?_eq_none (by omega), List.getElem?_eq_none (by omega)]
end
end L2
namespace L2
open PySem PySem.Spec PyProof.Rows
def blkOk (outer : List (Str × NameKind)) (sc : Scope) : Bool :=
  sc.kind == .function && sc.names.all (fun y => y.2 != .cell && (y.2 != .local || sc.names.lookup y.1 == some .local) && (y.2 != .free || outer.lookup y.1 == some .cell || outer.lookup y.1 == some .free))
theorem blk_mk {X : Cx} {sc : Scope} (h : blkOk X.env.scope.names sc = true) : BlkSc X sc := by
  unfold blkOk at h
  rw [Bool.and_eq_true, List.all_eq_true] at h
  obtain ⟨h1, h2⟩ := h
  refine ⟨by simpa using h1, fun y hy z => ?_, fun y hy z => ?_, fun y hy z => ?_⟩
  . have := h2 y hy
    simp only [Bool.and_eq_true] at this
    have := this.1.1
    rw [z] at this
    exact absurd this (by decide)
  . have := h2 y hy
    simp only [Bool.and_eq_true] at this
    have := this.1.2
    rw [z] at this
    simpa using this
  . have := h2 y hy
    simp only [Bool.and_eq_true] at this
    have := this.2
    rw [z] at this
    have t : (X.env.scope.names.lookup y.1 == some .cell || X.env.scope.names.lookup y.1 == some .free) = true := by simpa using this
    rw [Bool.or_eq_true] at t
    rcases t with t | t
    . exact .inl (by show X.env.scope.names.lookup y.1 = some .cell; simpa using t)
    . exact .inr (by show X.env.scope.names.lookup y.1 = some .free; simpa using t)
end L2
set_option Elab.async false
set_option linter.all false
set_option maxRecDepth 100000
set_option maxHeartbeats 4000000
namespace L2
open PySem PySem.Spec PyProof.Rows
section
variable {t u : TS} {te ta tb tc' : TE} {tt tu : TT} {A B : TA} {D : Ends} {σ : St} {H : Hp} {Q : VK} {R : Bool -> Hp -> Prop} {S : List V -> Hp -> Prop} {i : Nat} {v : V} {g : TG} {r r' : R2} {K : PySem.W.Frag} {wi : TI} {cp : Caps}
theorem r_seq : tSeq t u D σ H = t { D with nx := u D } σ H := rfl
theorem r_next : tNext D σ H = D.nx σ H := rfl
theorem r_asg : tAsg te g D σ H = te σ H fun x H1 => g x σ H1 D.nx := rfl
theorem r_gname {N : St -> Hp -> Prop} : gName i v σ H N = N (σ.set i (some v)) H := rfl
theorem r_var : tVar i σ H Q = ∃ v, σ[i]? = some (some v) /\ Q v H := rfl
theorem r_c : tC v σ H Q = Q v H := rfl
theorem r_op : tOp r ta tb σ H Q = ta σ H fun x H1 => tb σ H1 fun y H2 => r x y H2 Q := rfl
theorem r_un {f : V -> Hp -> VK -> Prop} : tUn f ta σ H Q = ta σ H fun x H1 => f x H1 Q := rfl
theorem r_I {C : Int -> Int -> Prop} {f : Int -> Int -> V} {x y : V} : rI C f x y H Q = ∃ i j, x = .int i /\ y = .int j /\ C i j /\ Q (f i j) H := rfl
theorem r_I0 {f : Int -> Int -> V} {x y : V} : rI0 f x y H Q = ∃ i j, x = .int i /\ y = .int j /\ Q (f i j) H := rfl
theorem r_U {f : Int -> V} {x : V} : rU f x H Q = ∃ i, x = .int i /\ Q (f i) H := rfl
theorem r_call {sp : Sp} {dvs : List V} {E : XK} : tCall sp dvs E A σ H Q = A σ H fun vs H1 => sp (vs ++ dvs) H1 Q E := rfl
theorem r_cons : tCons te A σ H S = te σ H fun x H1 => A σ H1 fun xs H2 => S (x :: xs) H2 := rfl
theorem r_nil : tNil σ H S = S [] H := rfl
theorem r_ret : tRet te D σ H = te σ H D.rt := rfl
theorem r_drop : tDrop te D σ H = te σ H fun _ H1 => D.nx σ H1 := rfl
theorem r_if : tIfS tt t u D σ H = tt σ H fun b H1 => if b = true then t D σ H1 else u D σ H1 := rfl
theorem r_B : tB te σ H R = te σ H fun x H1 => ∃ c, x = .bl c /\ R c H1 := rfl
theorem r_test : tTest te σ H R = te σ H fun x H1 => ∃ c, x = .bl c /\ R c H1 := rfl
theorem r_or : tOr tt tu σ H R = tt σ H fun c H1 => if c = true then R true H1 else tu σ H1 R := rfl
theorem r_not : tNot tt σ H R = tt σ H fun c H1 => R (!c) H1 := rfl
theorem r_andV : tAndV ta tb σ H Q = ta σ H fun x H1 => ∃ c, x = .bl c /\ if c = true then tb σ H1 Q else Q (.bl false) H1 := rfl
theorem r_notV : tNotV ta σ H Q = ta σ H fun x H1 => ∃ c, x = .bl c /\ Q (.bl (!c)) H1 := rfl
theorem r_chain : tChain r r' ta tb tc' σ H Q = ta σ H fun x H1 => tb σ H1 fun y H2 => r x y H2 fun z H3 => ∃ k, z = .bl k /\ (if k = true then tc' σ H3 fun w' H4 => r' y w' H4 Q else Q (.bl false) H3) := rfl
theorem r_CB {f : List V -> Hp -> VK -> Prop} : tCB f A σ H Q = A σ H fun vs H1 => f vs H1 Q := rfl
theorem r_lst : tLst A σ H Q = A σ H fun xs H1 => xs.length <= sizeLine /\ ∀ p, H1 p = none -> Q (.ref p) (upd H1 p (.lst xs)) := rfl
theorem r_tup : tTup A σ H Q = A σ H fun xs H1 => xs.length <= sizeLine /\ ∀ p, H1 p = none -> Q (.ref p) (upd H1 p (.tup xs)) := rfl
theorem r_ixL {x y : V} : rIxL K x y H Q = ∃ p xs i v, x = .ref p /\ y = .int i /\ SqL K H p xs /\ atI xs i = some v /\ Q v H := rfl
theorem r_ixT {x y : V} : rIxT K x y H Q = ∃ p xs i v, x = .ref p /\ y = .int i /\ SqT K H p xs /\ atI xs i = some v /\ Q v H := rfl
theorem r_sl {f : V -> Option Int -> Option Int -> Hp -> VK -> Prop} {tl th : TO} : tSl f te tl th σ H Q = te σ H fun x H1 => tl σ H1 fun l H2 => th σ H2 fun u H3 => f x l u H3 Q := rfl
theorem r_part {U : Option Int -> Hp -> Prop} : tPart te σ H U = te σ H fun x H1 => ∃ i, x = .int i /\ U (some i) H1 := rfl
theorem r_nopart {U : Option Int -> Hp -> Prop} : tNoPart σ H U = U none H := rfl
theorem r_BM {T : String} {f : V -> List V -> Hp -> VK -> Prop} : tBM K T f te A σ H Q = te σ H fun x H1 => tyV K T x H1 /\ A σ H1 fun xs H2 => f x xs H2 Q := rfl
theorem r_append {x : V} {vs : List V} : rAppend x vs H Q = ∃ l xs y, x = .ref l /\ vs = [y] /\ H l = some (.lst xs) /\ xs.length < sizeLine /\ Q .non (upd H l (.lst (xs ++ [y]))) := rfl
theorem r_Eq {x y : V} : rEq x y H Q = (scal x y = true /\ Q (.bl (decide (x = y))) H) := rfl
theorem r_Ne {x y : V} : rNe x y H Q = (scal x y = true /\ Q (.bl (!decide (x = y))) H) := rfl
theorem r_iTup {Z : It -> Hp -> Prop} : iTup K te σ H Z = te σ H fun x H1 => ∃ a, x = .ref a /\ (∃ xs, SqT K H1 a xs) /\ Z (Itt K a) H1 := rfl
theorem r_iRng1 {Z : It -> Hp -> Prop} : iRng1 A σ H Z = A σ H fun vs H1 => ∃ j : Int, vs = [.int j] /\ -(2 ^ 62) <= j /\ j < 2 ^ 62 /\ Z (Itr 0 j.toNat) H1 := rfl
theorem r_true : tTrue σ H R = R true H := rfl
end
theorem Same.new {H : Hp} {p : Addr} {o : HO} (h : H p = none) : Same H (upd H p o) := fun b u e => by rw [upd_ne (ne_of_none e h)]; exact e
theorem Same.newT {H H' : Hp} {p : Addr} {o : HO} (s : Same H H') (h : H' p = none) : Same H (upd H' p o) := s.trans (Same.new h)
theorem Same.over {H H' : Hp} {p : Addr} {o : HO} (s : Same H H') (h : H p = none) : Same H (upd H' p o) := fun b u e => by rw [upd_ne (ne_of_none e h)]; exact s b u e
theorem Same.seqT {K : PySem.W.Frag} {H H' : Hp} {a : Addr} {xs : List V} (e : Same H H') (h : SqT K H a xs) : SqT K H' a xs := by
  rcases h with (h | ⟨o, h⟩) | h
  . exact .inl (.inl (e _ _ h))
  . exact .inl (.inr ⟨o, e _ _ h⟩)
  . exact .inr h
theorem hu9 {k : Nat} {A : Around} (hr : Room k A) : A.units + 8 < cLine := by have := hr.units; omega
section
variable {K : PySem.W.Frag} {wi : TI} {cp : Caps} {g : TG} {tc : TT} {te : TE} {σ : St} {H : Hp} {Q : VK}
theorem r_cxK {CX : CXT} {P : Program} {w : World} {mg : Str -> Option Value} {base : Heap} {N : List Str} {qual : Str} {scope : Scope} {f : Addr} {cd : Value} {A : Around} {outer : List Env} {s : Shared} {E : XK} : (cxOf CX P w K mg base N qual scope f cd A outer s H E).K = K := rfl
def CompW (J : It) (cp : Caps) (g : TG) (tc : TT) (te : TE) (σ : St) (H1 : Hp) (Q : VK) : Prop := ∃ W : Nat -> Nat -> List V -> St -> Hp -> Prop, (∃ m, W 0 m [] (cp.st σ) H1) /\ ∀ i m ys σ' H', W i m ys σ' H' ->
  ys.length < sizeLine /\ ((J.stop i H' /\ ∀ D, H' D = none -> Q (.ref D) (upd H' D (.lst ys))) \/ (J.go i H' /\ ∃ N : List V -> St -> Hp -> Prop, (∀ zs σ2 H2, N zs σ2 H2 -> ∃ m', m' < m /\ W (i + 1) m' zs σ2 H2) /\ ∀ x H2, J.yld i H' x H2 -> g x σ' H2 fun σ2 H3 => tc σ2 H3 fun b H4 =>
    if b = true then te σ2 H4 fun v H5 => N (ys ++ [v]) σ2 H5 else N ys σ2 H4))
theorem r_comp : tComp wi cp g tc te σ H Q = wi σ H fun J H1 => CompW J cp g tc te σ H1 Q := rfl
def ForW (J : It) (g : TG) (tb : TS) (D : Ends) (σ : St) (H1 : Hp) : Prop := ∃ W : Nat -> Nat -> St -> Hp -> Prop, (∃ m, W 0 m σ H1) /\ ∀ i m σ H, W i m σ H ->
  (J.stop i H /\ D.nx σ H) \/ (J.go i H /\ ∃ N : St -> Hp -> Prop, (∀ σ' H', N σ' H' -> ∃ m', m' < m /\ W (i + 1) m' σ' H') /\ ∀ x H', J.yld i H x H' -> g x σ H' fun σ2 H2 => tb { D with nx := N, ct := N, bk := D.nx } σ2 H2)
theorem r_for {tb : TS} {D : Ends} : tFor wi g tb D σ H = wi σ H fun J H1 => ForW J g tb D σ H1 := rfl
theorem forT {a : Addr} {xs : List V} {g : TG} {tb : TS} {D : Ends} {σ : St} {H : Hp} (Pv : Nat -> St -> Hp -> Prop) (h0 : Pv 0 σ H) (hl : ∀ i σ H, i <= xs.length -> Pv i σ H -> SqT K H a xs)
    (hs : ∀ i x σ H, xs[i]? = some x -> Pv i σ H -> g x σ H fun σ2 H2 => tb { D with nx := Pv (i + 1), ct := Pv (i + 1), bk := D.nx } σ2 H2) (hd : ∀ σ H, Pv xs.length σ H -> D.nx σ H) : ForW (Itt K a) g tb D σ H := for_tup Pv h0 hl hs hd
theorem forR {lo : Int} {n : Nat} {g : TG} {tb : TS} {D : Ends} {σ : St} {H : Hp} (Pv : Nat -> St -> Hp -> Prop) (h0 : Pv 0 σ H)
    (hs : ∀ i σ H, i < n -> Pv i σ H -> g (.int (lo + i)) σ H fun σ2 H2 => tb { D with nx := Pv (i + 1), ct := Pv (i + 1), bk := D.nx } σ2 H2) (hd : ∀ σ H, Pv n σ H -> D.nx σ H) : ForW (Itr lo n) g tb D σ H := for_range Pv h0 hs hd
theorem compL {a : Addr} {xs : List V} (Pv : Nat -> List V -> St -> Hp -> Prop) (h0 : Pv 0 [] (cp.st σ) H) (hz : xs.length < sizeLine)
    (hl : ∀ i ys σ H, i <= xs.length -> Pv i ys σ H -> SqL K H a xs /\ ys.length <= i)
    (hs : ∀ i x ys σ H, xs[i]? = some x -> Pv i ys σ H -> g x σ H fun σ2 H2 => tc σ2 H2 fun b H3 => if b = true then te σ2 H3 fun v H4 => Pv (i + 1) (ys ++ [v]) σ2 H4 else Pv (i + 1) ys σ2 H3)
    (hd : ∀ ys σ H, Pv xs.length ys σ H -> ∀ D, H D = none -> Q (.ref D) (upd H D (.lst ys))) : CompW (Itl K a) cp g tc te σ H Q := comp_list Pv h0 hz hl hs hd
theorem compT {a : Addr} {xs : List V} (Pv : Nat -> List V -> St -> Hp -> Prop) (h0 : Pv 0 [] (cp.st σ) H) (hz : xs.length < sizeLine)
    (hl : ∀ i ys σ H, i <= xs.length -> Pv i ys σ H -> SqT K H a xs /\ ys.length <= i)
    (hs : ∀ i x ys σ H, xs[i]? = some x -> Pv i ys σ H -> g x σ H fun σ2 H2 => tc σ2 H2 fun b H3 => if b = true then te σ2 H3 fun v H4 => Pv (i + 1) (ys ++ [v]) σ2 H4 else Pv (i + 1) ys σ2 H3)
    (hd : ∀ ys σ H, Pv xs.length ys σ H -> ∀ D, H D = none -> Q (.ref D) (upd H D (.lst ys))) : CompW (Itt K a) cp g tc te σ H Q := comp_tup Pv h0 hz hl hs hd
theorem compR {lo : Int} {n : Nat} (Pv : Nat -> List V -> St -> Hp -> Prop) (h0 : Pv 0 [] (cp.st σ) H) (hz : n < sizeLine)
    (hl : ∀ i ys σ H, i <= n -> Pv i ys σ H -> ys.length <= i)
    (hs : ∀ i ys σ H, i < n -> Pv i ys σ H -> g (.int (lo + i)) σ H fun σ2 H2 => tc σ2 H2 fun b H3 => if b = true then te σ2 H3 fun v H4 => Pv (i + 1) (ys ++ [v]) σ2 H4 else Pv (i + 1) ys σ2 H3)
    (hd : ∀ ys σ H, Pv n ys σ H -> ∀ D, H D = none -> Q (.ref D) (upd H D (.lst ys))) : CompW (Itr lo n) cp g tc te σ H Q := comp_range Pv h0 hz hl hs hd
theorem compMapT {a : Addr} {xs : List V} {σ' : St} (f : V -> V) (e : cp.st σ = none :: σ') (hl : SqT K H a xs) (hz : xs.length < sizeLine) (hs : ∀ x ∈ xs, ∀ R : VK, R (f x) H -> te (some x :: σ') H R) (hd : ∀ D, H D = none -> Q (.ref D) (upd H D (.lst (xs.map f)))) :
    CompW (Itt K a) cp (gName 0) tTrue te σ H Q := by
  refine compT (xs := xs) (fun i ys σ2 H2 => H2 = H /\ ys = (xs.take i).map f /\ ∃ o, σ2 = o :: σ') ⟨rfl, by simp, none, e⟩ hz (fun i ys σ2 H2 hi h => ?_) (fun i x ys σ2 H2 hx h => ?_) (fun ys σ2 H2 h => ?_)
  . obtain ⟨rfl, rfl, _⟩ := h
    exact ⟨hl, by rw [List.length_map, List.length_take]; omega⟩
  . obtain ⟨rfl, rfl, o, rfl⟩ := h
    refine hs x (List.mem_of_getElem? hx) _ ⟨rfl, ?_, some x, rfl⟩
    rw [List.take_add_one, hx]; simp
  . obtain ⟨rfl, rfl, _⟩ := h
    rw [List.take_length]
    exact hd
theorem compMapL {a : Addr} {xs : List V} {σ' : St} (f : V -> V) (e : cp.st σ = none :: σ') (hl : SqL K H a xs) (hz : xs.length < sizeLine) (hs : ∀ x ∈ xs, ∀ R : VK, R (f x) H -> te (some x :: σ') H R) (hd : ∀ D, H D = none -> Q (.ref D) (upd H D (.lst (xs.map f)))) :
    CompW (Itl K a) cp (gName 0) tTrue te σ H Q := by
  refine compL (xs := xs) (fun i ys σ2 H2 => H2 = H /\ ys = (xs.take i).map f /\ ∃ o, σ2 = o :: σ') ⟨rfl, by simp, none, e⟩ hz (fun i ys σ2 H2 hi h => ?_) (fun i x ys σ2 H2 hx h => ?_) (fun ys σ2 H2 h => ?_)
  . obtain ⟨rfl, rfl, _⟩ := h
    exact ⟨hl, by rw [List.length_map, List.length_take]; omega⟩
  . obtain ⟨rfl, rfl, o, rfl⟩ := h
    refine hs x (List.mem_of_getElem? hx) _ ⟨rfl, ?_, some x, rfl⟩
    rw [List.take_add_one, hx]; simp
  . obtain ⟨rfl, rfl, _⟩ := h
    rw [List.take_length]
    exact hd
end
def tCut (t u : TS) : TS := fun D σ H => ∃ R : St -> Hp -> Prop, t { D with nx := R } σ H /\ ∀ σ' H', R σ' H' -> u D σ' H'
theorem pss_cut {X : Cx} {st : Stmt} {rest : List Stmt} {t u : TS} (h1 : PS X st t) (h2 : PSs X rest u) : PSs X (st :: rest) (tCut t u) := by
  intro pins s σ H D I h
  obtain ⟨R, ha, hb⟩ := h
  refine wpAny_execs_cons (thn (h1 pins s σ H { D with nx := R } I ha) fun f s1 q => ?_)
  cases f with
  | next =>
    obtain ⟨σ', H', I', q⟩ := q
    exact h2 pins s1 σ' H' D I' (hb σ' H' q)
  | ret v => exact q
  | brk => exact q
  | cont => exact q
theorem line1000 : 1000000 < sizeLine := by rw [sizeLine_eq]; decide
theorem mem_mapI {ns : List Int} {x : V} (h : x ∈ ns.map V.int) : ∃ n, n ∈ ns /\ x = .int n := by
  obtain ⟨n, hn, e⟩ := List.mem_map.mp h
  exact ⟨n, hn, e.symm⟩
theorem get_mapI {ns : List Int} {i : Nat} {x : V} (h : (ns.map V.int)[i]? = some x) : ∃ n, ns[i]? = some n /\ x = .int n := by
  rw [List.getElem?_map] at h
  cases e : ns[i]? with
  | none => rw [e] at h; cases h
  | some n => rw [e] at h; exact ⟨n, rfl, (Option.some.inj h).symm⟩
theorem atI_of {α : Type} {xs : List α} {i : Int} {v : α} (h0 : 0 <= i) (h : xs[i.toNat]? = some v) : atI xs i = some v := by
  have := atI_nat h
  rwa [show ((i.toNat : Nat) : Int) = i by omega] at this
theorem kit_self {K : PySem.W.Frag} {t : Value} : PySem.W.kitOne K t t = some true := by unfold PySem.W.kitOne; rw [if_pos (by simp)]
theorem kit_int_bool {K : PySem.W.Frag} : PySem.W.kitOne K (.type "int") (.type "bool") = some false := by
  first | rfl | decide +kernel | (unfold PySem.W.kitOne; kernel_rfl)
theorem rel_ty {n : String} : ∀ u, RelV (V.ty n) u -> u = .type n := fun _ h => h
theorem rel_ref {a : Addr} : ∀ u, RelV (V.ref a) u -> u = .ref a := fun _ h => h
end L2
set_option Elab.async false
set_option linter.all false
set_option maxRecDepth 100000
set_option maxHeartbeats 4000000
namespace L2
open PySem PySem.W PySem.Spec PySem.Calls PyProof.Rows
section
variable {prog : Program} {w : World} {A : Around} {E : Value -> Shared -> Prop} {s : Shared} {K : Frag} {x D : Addr} {ox : Obj}
structure ExcCls (K : Frag) (D : Addr) : Prop where
  ga : findIn K (.ref D) "__getattribute__" = some (some (.builtin "BaseException.__getattribute__"))
  hk : findIn K (.ref D) "__getattr__" = some none
  cl : (clsIn K D).isSome = true
  ca : findIn K (.ref D) "__class__" = some (some (.builtin "object.__class__"))
  gs : specialIn K (.builtin "object.__class__") "__get__" = some (some (.builtin "getset_descriptor.__get__"))
  tk : takesIn K (.builtin "object.__class__") = some true
  mo : mroIn K D (.type "object") = some true
  mb : mroIn K D (.type "BaseException") = some true
def ExcAt (x D : Addr) (h : Heap) : Prop := ∃ ox, h.get? x = some ox /\ ox.cls = .ref D
theorem ExcAt.type {M : Model} {h : Heap} (I : ExcAt x D h) : Looks M h (typeOf (.ref x)) (.ref D) := by
  obtain ⟨ox, h1, h2⟩ := I
  exact h2 ▸ (Looks.ld h1).andThen .now
theorem exc_find {M : Model} {h : Heap} (X : K.In h) (C : ExcCls K D) : Looks M h (Builtin.ObjectAttr.find (.ref x) (.ref D) "__class__") (.bind (.builtin "getset_descriptor.__get__") (.builtin "object.__class__")) :=
  (looks_findIn X C.ca).andThen ((show Looks M h (Builtin.ObjectAttr.getOf (some (.builtin "object.__class__"))) _ from looks_specialIn X C.gs).andThen
    ((show Looks M h (Builtin.ObjectAttr.dataDescriptor? (some (.builtin "object.__class__")) (some (.builtin "getset_descriptor.__get__"))) (some (.builtin "getset_descriptor.__get__", .builtin "object.__class__")) from (looks_takesIn X C.tk).andThen .now).andThen (Looks.tag .now)))
open Builtin Builtin.ObjectAttr Builtin.Getset_descriptor in
theorem exc_get {R : Result -> Shared -> Prop} {tp : Value} (X : K.In s.heap) (I : ExcAt x D s.heap) (hm : mroIn K D (.type "object") = some true) (h : R (.ok (.ret (.ref D))) s) : codeAny (model prog w) A (.call (.builtin "getset_descriptor.__get__") ⟨[.builtin "object.__class__", .ref x, tp], []⟩) R s := by
  have l0 := I.type (M := model prog w)
  have l1 := looks_mroIn (M := model prog w) X hm
  obtain ⟨_, _, _, _, _⟩ := s
  have sg := KF.slot_gs
  refine codeAny_call_builtin sg.plain KF.entry_gs (sg.check _ _ _ _ _ _ _ _ KF.type_class (KF.args_gs _ _ _) ?_)
  unfold Builtin.«getset_descriptor.__get__» descrGet
  rw [dga_obj]
  unfold descrGetter descrCheckInstance isInstance descrNameAndClass
  refine wpAny_bind (wpAny_pure ?_)
  simp only [KF.owner_class]
  repeat lk
  refine ⟨Code.quiet_builtin _ (by decide +kernel), codeAny_builtin KF.entry_class ?_⟩
  unfold Builtin.«object.__class__» shownTypeOf
  repeat lk
  exact h
theorem exc_check {M : Model} {nameV : Value} {Q : Unit -> Shared -> Prop} (X : K.In s.heap) (I : ExcAt x D s.heap) (C : ExcCls K D) (hq : Q () s) : wpAny M A (checkBuiltinCall "BaseException.__getattribute__" ⟨[.ref x, nameV], []⟩) Q E s := by
  have a1 := F.args_bexc_ga (.ref x) nameV
  have l0 := I.type (M := M)
  have l1 := looks_mroIn (M := M) X C.mb
  obtain ⟨_, _, _, _, _⟩ := s
  simp only [checkBuiltinCall, show builtinKind "BaseException.__getattribute__" = some .slot by decide +kernel, show splitId "BaseException.__getattribute__" = some ("BaseException", "__getattribute__") by decide +kernel, isInstance]
  repeat (first | lk | wp_step)
  exact hq
theorem exc_entry {tk : Tok} {Q : Fin -> Shared -> Prop} (X : K.In s.heap) (I : ExcAt x D s.heap) (C : ExcCls K D) (hq : Q (.done (.ret (.ref D))) s) : wpAny (model prog w) A (Builtin.«object.__getattribute__» ⟨[.ref x, .str "__class__" tk], []⟩) Q E s := by
  obtain ⟨hh, g, d, t, os⟩ := s
  have L0 := I.type (M := model prog w)
  have L1 := exc_find (M := model prog w) (x := x) X C
  unfold Builtin.«object.__getattribute__»
  refine wpAny_bind (wpAny_pure ?_)
  refine wpAny_bind (wpAny_pure ?_)
  refine wpAny_bind (L0.at ?_)
  refine wpAny_bind (L1.at ?_)
  show wpAny _ _ (Builtin.ObjectAttr.bindTo _ _ _ _) _ _ _
  unfold Builtin.ObjectAttr.bindTo
  dsimp only
  refine wpAny_bind (wpAny_holding (wpAny_call (exc_get (K := K) (s := ⟨hh, g, d, t, os⟩) X I C.mo ?_)))
  exact wpAny_pure hq
theorem exc_class {Q : Option Value -> Shared -> Prop} (X : K.In s.heap) (I : ExcAt x D s.heap) (C : ExcCls K D) (h : Q (some (.ref D)) { s with toks := s.toks + 1 }) : wpAny (model prog w) A (getAttr? (.ref x) "__class__") Q E s := by
  obtain ⟨hh, g, d, t, os⟩ := s
  have L0 := I.type (M := model prog w)
  have L1 := looks_findIn (M := model prog w) X C.ga
  have L2 := looks_findIn (M := model prog w) X C.hk
  unfold getAttr? getAttrBy? getAttrBy
  refine wpAny_bind (wpAny_mkText (wpAny_bind (wpAny_attempt (wpAny_holding (wpAny_bind (L0.at (wpAny_bind (L1.at ?_))))))))
  show wpAny _ _ (getAttrByItsOwn _ _ _ _ _ _) _ _ _
  unfold getAttrByItsOwn hookBefore
  refine wpAny_bind ?_
  rw [if_pos (by rfl)]
  refine L2.at (wpAny_bind (wpAny_attempt (wpAny_holding ?_)))
  unfold callGetattribute
  rw [if_neg (by decide)]
  unfold boundAndCalled
  have f3 := PySem.F.attr_ValueError.ga.bind (.ref x)
  refine wpAny_bind (wpAny_of_eq f3 ?_)
  refine wpAny_call (codeAny_call_builtin PySem.F.attr_ValueError.ga.plain F.entry_bexc_ga (exc_check (K := K) (s := ⟨hh, g, d, t + 1, os⟩) X I C (exc_entry (K := K) (s := ⟨hh, g, d, t + 1, os⟩) X I C ?_)))
  exact wpAny_pure (wpAny_pure h)
theorem kitx_exc (C : ExcCls K D) : KitX K (.ref x) (.ref D) (ExcAt x D) := by
  have cl := C.cl
  unfold clsIn at cl
  refine ⟨fun _ _ _ I => I.type, fun _ _ X _ => ?_, fun h tp dd its n sl X htp => ?_, fun X I k => exc_class X I C k⟩
  . split at cl
    . rename_i ho
      intro A' Q' E' s' k q
      exact wpAny_bind (wpAny_loadPart (k _ _ (X _ _ ho)) (wpAny_pure q))
    . cases cl
  . split at cl
    . rename_i ho
      cases hb : (Value.ref D == Value.ref tp) with
      | false => rfl
      | true =>
        obtain rfl : D = tp := Value.ref.inj (beq_iff_eq.mp hb)
        cases (X _ _ ho).symm.trans htp
    . cases cl
end
section
variable {P : Program} {w : World}
theorem ObjOk.there {H : Hp} {h : Heap} {a : Addr} {o : HO} (x : ObjOk P w H h a o) : ∃ ob, h.get? a = some ob := by
  induction o with
  | lst xs => obtain ⟨_, _, _, _, e⟩ := x; exact ⟨_, e⟩
  | tup xs => obtain ⟨_, _, _, ob, e, _⟩ := x; exact ⟨_, e⟩
  | dK kvs => obtain ⟨_, _, _, _, o, _, _, e, _⟩ := x; exact ⟨_, e⟩
  | dT kvs => obtain ⟨_, _, _, _, o, _, _, e, _⟩ := x; exact ⟨_, e⟩
  | set S n => obtain ⟨o, _, _, _, e, _⟩ := x; exact ⟨_, e⟩
  | ins C dx fs => obtain ⟨_, _, _, e, _⟩ := x; exact ⟨_, e⟩
  | own y => obtain ⟨_, e⟩ := x; exact ⟨_, e⟩
  | xd fs => obtain ⟨_, ⟨_, _, _, e, _⟩, _⟩ := x; exact ⟨_, e⟩
  | rng lo hi => obtain ⟨_, _, _, e⟩ := x; exact ⟨_, e⟩
  | frz ob u ih => obtain ⟨e, _⟩ := x; exact ⟨_, e⟩
  | tbl ps => exact ⟨_, (show h.get? a = some _ from x)⟩
  | met f y => exact ⟨_, (show h.get? a = some _ from x)⟩
  | ext φ => obtain ⟨_, ⟨_, e⟩, _⟩ := x; exact ⟨_, e⟩
structure Fly (P : Program) (w : World) (fs : List Addr) (H1 H' : Hp) (h1 g B : Heap) : Prop where
  un : Un fs [] H1 H' h1 g
  hok : HOk P w H' g
  cov : ∀ b o, g.get? b = some o -> (H' b ≠ none \/ ∃ o', h1.get? b = some o') -> b ∉ fs -> B.get? b = some o
theorem Fly.move {fs : List Addr} {H1 H' : Hp} {h1 g B h2 : Heap} (x : Fly P w fs H1 H' h1 g B) (frees : ∀ b ∈ fs, H' b = none) (st : B.StaysIn h2) (up : ∀ b ∈ fs, ∀ o, g.get? b = some o -> ∃ sl, h2.get? b = some { o with slots := sl }) : Fly P w fs H1 H' h1 h2 B := by
  have keep : ∀ b o, g.get? b = some o -> (H' b ≠ none \/ ∃ o', h1.get? b = some o') -> b ∉ fs -> h2.get? b = some o := fun b o e h n => st b o (x.cov b o e h n)
  have nfs : ∀ b u, H' b = some u -> b ∉ fs := fun b u e z => by rw [frees b z] at e; cases e
  refine ⟨⟨fun b o e n hb hx => ?_, fun b o e n hb hx => ?_, fun b o e n hx => x.un.free b o e n hx, fun b o e hx => ?_, x.un.tups, x.un.frzs, x.un.tbls⟩, fun b u e => ?_, fun b o e h n => ?_⟩
  . exact keep b o (x.un.keep b o e n hb hx) (.inr ⟨o, e⟩) hb
  . obtain ⟨sl, e1⟩ := x.un.slot b o e n hb hx
    obtain ⟨sl', e2⟩ := up b hb _ e1
    exact ⟨sl', e2⟩
  . obtain ⟨o', e1⟩ := x.un.there b o e hx
    by_cases hb : b ∈ fs
    . obtain ⟨sl', e2⟩ := up b hb _ e1
      exact ⟨_, e2⟩
    . exact ⟨o', keep b o' e1 (.inr ⟨o, e⟩) hb⟩
  . refine (x.hok b u e).stay (fun c v hc q => ?_) (fun _ q => q) fun _ _ q => q
    rcases hc with rfl | hc
    . exact keep c v q (.inl (by rw [e]; simp)) (nfs c u e)
    . exact keep c v q (.inl (by rw [hc]; simp)) (nfs c _ hc)
  . -- B has it still
    have ⟨o1, e1⟩ : ∃ o1, g.get? b = some o1 := by
      rcases h with h | ⟨o', h⟩
      . cases q : H' b with
        | none => exact absurd q h
        | some u => exact (x.hok b u q).there
      . exact x.un.there b o' h (by simp)
    have e2 := x.cov b o1 e1 h n
    have e3 := st b o1 e2
    rw [e] at e3
    cases e3
    exact e2
def CXe (P : Program) (w : World) : CXT := fun outer H s E e s' => ∃ (ea : Addr) (cls a0 : Value) (H' : Hp) (B : Heap), e = .ref ea /\ s'.os = s.os /\ AllBare s'.gens /\ Fly P w (frs outer) H H' s.heap s'.heap B /\ Heap.FlyingW B outer ea cls a0 s'.heap /\ E cls none H'
theorem fly_frees {X : Cx} {pins : List (Addr × Obj)} {σ : St} {H1 H' : Hp} {s1 : Shared} {g B : Heap} (I : Inv X pins σ H1 s1) (x : Fly P w (frs X.stack) H1 H' s1.heap g B) : ∀ b ∈ frs X.stack, H' b = none := fun b hb => by
  obtain ⟨_, o, ho, _⟩ := I.stack.mem hb
  exact x.un.free b o ho (I.stkFree b hb) (by simp)
theorem passE {K : PySem.W.Frag} {mg : Str -> Option Value} {base : Heap} {N : List Str} {qual : Str} {scope : Scope} {f : Addr} {cd : Value} {A : Around} {outer : List Env} {s : Shared} {H : Hp} {E E' : XK} (hE : ∀ c d H', E' c d H' -> E c d H') :
    Passes (CXe P w) (cxOf (CXe P w) P w K mg base N qual scope f cd A outer s H E) E' := by
  intro pins σ H1 s1 e s' I hc
  obtain ⟨ea, cls, a0, H', B, rfl, os, bare, fl, fw, q⟩ := hc
  have fr : (cxOf (CXe P w) P w K mg base N qual scope f cd A outer s H E).A.frames = some (envOfC qual scope s.heap.objs.size f cd :: outer) := I.ok.frames
  refine wpAny_leaves_onW fr rfl fw fun h' fw' ups => ?_
  have fl2 := fl.move (fly_frees I fl) fw'.1 (fun b hb o e => by
    obtain ⟨_, o', ho', nf⟩ := fw.2.2.1.mem hb
    rw [e] at ho'; cases ho'
    exact ups b o e nf)
  have I2 : Inv (cxOf (CXe P w) P w K mg base N qual scope f cd A outer s H E) pins σ H' { s' with heap := h' } := I.call' (s' := { s' with heap := h' }) os fl2.un fl2.hok bare (fun b hb => by cases hb)
  refine ⟨ea, cls, a0, H', B, rfl, I2.os, I2.bare, ⟨I2.base, I2.hok, fun b o e h n => fl2.cov b o e ?_ (fun z => ?_)⟩, fw', hE _ _ _ q⟩
  . rcases h with h | ⟨o', h⟩
    . exact .inl h
    . obtain ⟨o2, e2⟩ := I.base.there b o' h (by show b ∉ ([] : List Addr); simp)
      exact .inr ⟨o2, e2⟩
  . rcases List.mem_cons.mp (I.stkSub b z) with e' | e'
    . rcases h with h | ⟨o', h⟩
      . exact h (by rw [e']; exact I2.free)
      . have := Heap.lt_size h
        rw [e'] at this
        exact absurd (Nat.lt_of_lt_of_le this I.ok.above) (Nat.lt_irrefl _)
    . exact n e'
theorem raiseE {K : PySem.W.Frag} {mg : Str -> Option Value} {base : Heap} {N : List Str} {qual : Str} {scope : Scope} {f : Addr} {cd : Value} {A : Around} {outer : List Env} {s : Shared} {H : Hp} {E : XK}
    {pins : List (Addr × Obj)} {σ : St} {H1 : Hp} {s1 : Shared} {h' : Heap} {ea : Addr} {cls : Value} {vs : List Value}
    (I : Inv (cxOf (CXe P w) P w K mg base N qual scope f cd A outer s H E) pins σ H1 s1) (hx : Heap.MadeExcOf s1.heap h' ea cls vs) (q : E cls none H1) :
    (cxOf (CXe P w) P w K mg base N qual scope f cd A outer s H E).xe (.ref ea) { s1 with heap := h' } := by
  have fr : (cxOf (CXe P w) P w K mg base N qual scope f cd A outer s H E).A.frames = some (envOfC qual scope s.heap.objs.size f cd :: outer) := I.ok.frames
  have hin : ∀ env ∈ (envOfC qual scope s.heap.objs.size f cd :: outer), ∀ b, env.frame = some b -> b ∈ frs (envOfC qual scope s.heap.objs.size f cd :: outer) := fun env he b hb => List.mem_filterMap.mpr ⟨env, he, hb⟩
  have stk := I.stack
  have fl : Fly P w (frs (envOfC qual scope s.heap.objs.size f cd :: outer)) H1 H1 s1.heap s1.heap (PySem.W.hideAll s1.heap (frs (envOfC qual scope s.heap.objs.size f cd :: outer))) := ⟨Un.refl, I.hok, fun b o e _ n => PySem.W.hideAll_get _ e n⟩
  refine wpAny_leaves_madeW (base := PySem.W.hideAll s1.heap (frs (envOfC qual scope s.heap.objs.size f cd :: outer))) (h := s1.heap) fr rfl (fun b o q => PySem.W.of_hideAll _ q) ?_ hx fun h'' t fw' ht hnt ups => ?_
  . exact PySem.W.funFrames_hide stk hin
  . have fl2 := fl.move (fly_frees (X := cxOf (CXe P w) P w K mg base N qual scope f cd A outer s H E) I fl) fw'.1 (fun b hb o e => by
      obtain ⟨_, o', ho', nf⟩ := stk.mem hb
      rw [e] at ho'; cases ho'
      exact ups b o (hx.keeps b o e) nf)
    have I2 : Inv (cxOf (CXe P w) P w K mg base N qual scope f cd A outer s H E) pins σ H1 { s1 with heap := h'' } := I.call' (s' := { s1 with heap := h'' }) rfl fl2.un fl2.hok I.bare (fun b hb => by cases hb)
    refine ⟨ea, cls, .ref t, H1, _, rfl, I2.os, I2.bare, ⟨I2.base, I2.hok, fun b o e h n => fl2.cov b o e ?_ (fun z => ?_)⟩, fw', q⟩
    . rcases h with h | ⟨o', h⟩
      . exact .inl h
      . obtain ⟨o2, e2⟩ := I.base.there b o' h (by show b ∉ ([] : List Addr); simp)
        exact .inr ⟨o2, e2⟩
    . rcases List.mem_cons.mp (I.stkSub b z) with e' | e'
      . rcases h with h | ⟨o', h⟩
        . exact h (by rw [e']; exact I2.free)
        . have := Heap.lt_size h
          rw [e'] at this
          exact absurd (Nat.lt_of_lt_of_le this I.ok.above) (Nat.lt_irrefl _)
      . exact n e'
end
theorem exc_obj {K : Frag} {h : Heap} {C : Addr} {bmB : List Value} {newId : String} (X : K.In h) (q : excIn K C bmB newId = true) :
    ∃ bm N nm q bs hdct sn sub ab col dd k0 k1 k2 k3 k5 mN, h.get? C = some (excClassObj nm q C N bs bm hdct sn sub ab col dd k0 k1 k2 k3 k5 newId) /\ h.Ns N mN /\ mN "__init__" = none /\ OwnTail h bmB bm := by
  delta excIn at q
  split at q
  case h_2 => cases q
  rename_i d0 c0 s0 hl
  split at q
  case h_2 => cases q
  rename_i B tl a0 a1 a2 a3 id0 a5 em es
  have g := X C _ hl
  repeat rw [Bool.and_eq_true] at q
  rcases q with ⟨⟨⟨⟨⟨e1, e2⟩, e3⟩, e4⟩, e5⟩, e6⟩
  cases eq_of_beq e1
  cases eq_of_beq e2
  rcases s0 with ⟨l0⟩
  cases es
  rcases c0 with ⟨f0, f1, f2, f3, f4, f5, f6, f7, f8, f9, f10⟩
  cases em
  cases f10
  . exact ⟨tl, f3, f0, f4, f1, f5, f6, f7, f8, f9, d0, a0, a1, a2, a3, a5, h.nsMap f3, g, .of_isNs (isNs_of_in X e5), nsMap_none_of_in X e5 (eq_of_beq e6), tail_of_in X e4⟩
  . cases e3
def bmV : List Value := [.type "ValueError", .type "Exception", .type "BaseException", .type "object"]
section
variable {P : Program} {w : World} {K : PySem.W.Frag} {mg : Str -> Option Value} {base : Heap} {N : List Str} {qual : Str} {scope : Scope} {f : Addr} {cd : Value} {A : Around} {outer : List Env} {s : Shared} {H : Hp} {E : XK}
def tRaise (C : Addr) (E : XK) (ta : TA) : TS := fun _ σ H => ta σ H fun vs H1 => vs.length <= sizeLine /\ E (.ref C) none H1
theorem ps_raise {x : Str} {C : Addr} {newId : String} {np cpos pos : Pos} {e₀ : Expr} {rest : List Expr} {ta : TA} (hm : mg x = some (.ref C)) (hx : excIn K C bmV newId = true) (hg : Gl (cxOf (CXe P w) P w K mg base N qual scope f cd A outer s H E) x)
    (hn : newId = "ValueError.__new__") (ha : PA (cxOf (CXe P w) P w K mg base N qual scope f cd A outer s H E) (e₀ :: rest) ta)
    (he : starEach (e₀ :: rest) (cxOf (CXe P w) P w K mg base N qual scope f cd A outer s H E).env = (false, eval e₀ (cxOf (CXe P w) P w K mg base N qual scope f cd A outer s H E).env) :: starEach rest (cxOf (CXe P w) P w K mg base N qual scope f cd A outer s H E).env := by rfl)
    (hplain : (backTo cpos (starEach rest (cxOf (CXe P w) P w K mg base N qual scope f cd A outer s H E).env)).any (·.1) = false := by rfl) (hd : (x == ("__debug__" : Str)) = false := by decide) :
    PS (cxOf (CXe P w) P w K mg base N qual scope f cd A outer s H E) (.Raise (some (.Call (.Name x np) (e₀ :: rest) [] cpos)) none pos) (tRaise C E ta) := by
  intro pins s1 σ H1 D I h
  subst hn
  obtain ⟨bm, Nc, nm, q, bs, hdct, sn, sub, ab, col, dd, k0, k1, k2, k3, k5, mN, hC, hN, hni, T⟩ := exc_obj I.mod.kin hx
  refine wpAny_Raise_call_subU (C := C) (nm := nm) (q := q) (N := Nc) (bs := bs) (bm := bm) (hdct := hdct) (sn := sn) (sub := sub) (ab := ab) (col := col) (dd := dd) (k0 := k0) (k1 := k1) (k2 := k2) (k3 := k3) (k5 := k5)
    PySem.F.excBase_ValueError (bmB := bmV) (by decide +kernel) PySem.F.excBase_ValueError (mN := mN) (T.hasType PySem.F.excBase_ValueError.hasBase) (I.ok.hd rfl) (by rw [he]; show (false || (backTo cpos (starEach rest _)).any (·.1)) = false; rw [hplain]; rfl) hni (ld_glob I hg hm ⟨rfl, ?_⟩ hd)
  have hA := ha cpos pins s1 σ H1 _ I h
  rw [he] at hA ⊢
  refine Calls.evalArgs_plain (thn hA fun us s2 ⟨vs, H2, I2, r2, hz, q2⟩ => ⟨rfl, by rw [<- r2.length]; exact hz, I2.bk _ _ hC, hN.keeps I2.bk, T.keeps I2.bk, fun h' e hm => raiseE I2 hm q2⟩)
end
end L2
set_option Elab.async false
set_option linter.all false
set_option maxRecDepth 100000
set_option maxHeartbeats 4000000
namespace L2
open PySem PySem.Spec PyProof.Rows
abbrev Cx.body (X : Cx) (xe : Value -> Shared -> Prop) (pn : List (Addr × Obj)) : Cx := { X with xe := xe, pn := pn }
abbrev Cx.suite (X : Cx) (ea : Addr) (pn : List (Addr × Obj)) : Cx := { X with A := X.A.mark (some (.ref ea)), calm := false, xe := fun _ _ => False, pn := pn }
section
variable {X : Cx} {pins pins' : List (Addr × Obj)} {σ : St} {H : Hp} {s : Shared} {xe xe' : Value -> Shared -> Prop} {ea : Addr}
theorem Inv.toBody (I : Inv X pins σ H s) : Inv (X.body xe (X.pn ++ pins)) [] σ H s :=
  ⟨⟨I.ok.mod, I.ok.kind, I.ok.glob, I.ok.blt, I.ok.above, I.ok.inj, I.ok.has, I.ok.cab, I.ok.hd, I.ok.frames, I.ok.stk, I.ok.exf, I.ok.bs, I.ok.bsz, I.ok.noex, I.ok.exfs, I.ok.funs, I.ok.frf⟩, I.os, I.bare, I.base, I.loc, I.cell, I.free, I.freeC, fun p hp => I.pin p (by simpa using hp), I.hok, I.len⟩
theorem Inv.ofBody (I : Inv (X.body xe (X.pn ++ pins)) pins' σ H s) : Inv X pins σ H s :=
  ⟨⟨I.ok.mod, I.ok.kind, I.ok.glob, I.ok.blt, I.ok.above, I.ok.inj, I.ok.has, I.ok.cab, I.ok.hd, I.ok.frames, I.ok.stk, I.ok.exf, I.ok.bs, I.ok.bsz, I.ok.noex, I.ok.exfs, I.ok.funs, I.ok.frf⟩, I.os, I.bare, I.base, I.loc, I.cell, I.free, I.freeC, fun p hp => I.pin p (List.mem_append_left _ hp), I.hok, I.len⟩
theorem Inv.reBody {pn : List (Addr × Obj)} (I : Inv (X.body xe pn) pins' σ H s) : Inv (X.body xe' pn) pins' σ H s :=
  ⟨⟨I.ok.mod, I.ok.kind, I.ok.glob, I.ok.blt, I.ok.above, I.ok.inj, I.ok.has, I.ok.cab, I.ok.hd, I.ok.frames, I.ok.stk, I.ok.exf, I.ok.bs, I.ok.bsz, I.ok.noex, I.ok.exfs, I.ok.funs, I.ok.frf⟩, I.os, I.bare, I.base, I.loc, I.cell, I.free, I.freeC, I.pin, I.hok, I.len⟩
theorem Inv.toSuite (I : Inv X pins σ H s) : Inv (X.suite ea (X.pn ++ pins)) [] σ H s :=
  ⟨⟨I.ok.mod, I.ok.kind, I.ok.glob, I.ok.blt, I.ok.above, I.ok.inj, I.ok.has, I.ok.cab, fun z => absurd (show false = true from z) Bool.false_ne_true, I.ok.frames, I.ok.stk, I.ok.exf, I.ok.bs, I.ok.bsz, I.ok.noex, I.ok.exfs, I.ok.funs, I.ok.frf⟩, I.os, I.bare, I.base, I.loc, I.cell, I.free, I.freeC, fun p hp => I.pin p (by simpa using hp), I.hok, I.len⟩
theorem Inv.ofSuite (hd : X.calm = true -> X.A.handled = none) (I : Inv (X.suite ea (X.pn ++ pins)) pins' σ H s) : Inv X pins σ H s :=
  ⟨⟨I.ok.mod, I.ok.kind, I.ok.glob, I.ok.blt, I.ok.above, I.ok.inj, I.ok.has, I.ok.cab, hd, I.ok.frames, I.ok.stk, I.ok.exf, I.ok.bs, I.ok.bsz, I.ok.noex, I.ok.exfs, I.ok.funs, I.ok.frf⟩, I.os, I.bare, I.base, I.loc, I.cell, I.free, I.freeC, fun p hp => I.pin p (List.mem_append_left _ hp), I.hok, I.len⟩
theorem Inv.forget {i : Nat} {n : Str} {m : Str -> Option Value} {v : Option Value} {h' : Heap} {t' : Nat} (I : Inv X pins σ H s) (hN : X.N.Nodup) (hi : X.N[i]? = some n) (hx : X.env.scope.names.lookup n = some .local)
    (hl : ∀ (i : Nat) (x : Str) (v : V), X.N[i]? = some x -> σ[i]? = some (some v) -> Vis X.env.scope x -> ∃ u, RelV v u /\ Look X.env s.heap m x u) (hn : s.heap.Ns X.env.locals m)
    (hn' : h'.Ns X.env.locals (fun x => if x = n then v else m x)) (hs : Heap.SameBut X.env.locals s.heap h') : Inv X pins (σ.set i none) H { s with heap := h', toks := t' } := by
  have cne := I.cne
  obtain ⟨oL, _, _, hoL, _⟩ := id hn
  have tracked : HOk X.prog X.w H h' := fun b ob e => by
    refine (I.hok b ob e).stay (fun c w' hc q => (hs.2 c ?_).trans q) (fun _ q => q) fun _ _ q => q
    rintro rfl
    rcases hc with rfl | hc
    . rw [I.free] at e; cases e
    . rw [I.free] at hc; cases hc
  refine ⟨I.ok, I.os, I.bare, ⟨fun b o e n hb hx => ?_, fun b o e n hb hx => ?_, I.base.free, fun b o e hx => ?_, I.base.tups, I.base.frzs, I.base.tbls⟩, ⟨_, hn', fun j y v' e1 e2 e3 => ?_⟩, fun y c e => ?_, I.free, I.freeC, fun p hp => ?_, tracked, by simpa using I.len⟩
  . exact (hs.2 b (Nat.ne_of_lt (Nat.lt_of_lt_of_le (Heap.lt_size e) I.ok.above))).trans (I.base.keep b o e n hb hx)
  . obtain ⟨sl, e1⟩ := I.base.slot b o e n hb hx
    exact ⟨sl, (hs.2 b (Nat.ne_of_lt (Nat.lt_of_lt_of_le (Heap.lt_size e) I.ok.above))).trans e1⟩
  . obtain ⟨o', e1⟩ := I.base.there b o e hx
    exact ⟨o', (hs.2 b (Nat.ne_of_lt (Nat.lt_of_lt_of_le (Heap.lt_size e) I.ok.above))).trans e1⟩
  . by_cases hj : j = i
    . subst hj
      have hlt : j < σ.length := by
        have := (List.getElem?_eq_some_iff.mp e2).1
        simpa using this
      rw [List.getElem?_set_self hlt] at e2
      cases e2
    . rw [List.getElem?_set_ne (Ne.symm hj)] at e2
      obtain ⟨u', r', q⟩ := hl j y v' e1 e2 e3
      refine ⟨u', r', ?_⟩
      rcases q with ⟨k, e⟩ | ⟨k, c, e, z⟩
      . refine .inl ⟨k, ?_⟩
        have : y ≠ n := fun e => hj (nodup_ix hN e1 (e ▸ hi))
        simp [this, e]
      . exact .inr ⟨k, c, e, z.sameBut hs (cne y c e)⟩
  . obtain ⟨w', z⟩ := I.cell y c e
    exact ⟨w', z.sameBut hs (cne y c e)⟩
  . obtain ⟨e, n, ne, nf, d⟩ := I.pin p hp
    exact ⟨(hs.2 p.1 ne).trans e, n, ne, nf, d⟩
end
def PassesAt (CX : CXT) (X : Cx) (σ : St) (E : XK) : Prop := ∀ (pins : List (Addr × Obj)) (H : Hp) (s : Shared) (e : Value) (s' : Shared), Inv X pins σ H s -> CX X.stack H s E e s' -> X.xe e s'
section
variable {X : Cx} {CX : CXT} {k : Nat} {f C : Addr} {fd : FuncData} {ps : List Str} {sp : Sp} {dvs : List V} {ds : List Value} {E : St -> XK} {x : Str} {p pos : Pos} {e : Expr} {es : List Expr} {t : TA}
theorem run_fnE {pins : List (Addr × Obj)} {σ : St} {H : Hp} {s : Shared} {Q : VK} {us : List Value} {vs : List V} {E : XK} (F : FnOk X.prog X.w X.K X.mg X.base CX k f fd ps sp) (hr : Room k X.A) (hb : Binds X.K fd ps ds) (hd : Vals dvs ds) (hx : PassesAt CX X σ E)
    (I : Inv X pins σ H s) (r : Vals vs us) (h : sp (vs ++ dvs) H Q E) : wpAny (model X.prog X.w) X.A (call (.ref f) us) (EP X pins σ Q) X.xe s := by
  have r2 : Vals (vs ++ dvs) (us ++ ds) := r.append hd
  have hl : (us ++ ds).length = ps.length := by rw [<- r2.length]; exact F.len _ _ _ _ h
  refine wpAny_call (codeAny_mono (F.run X.A X.stack s H ⟨us, []⟩ (us ++ ds) (vs ++ dvs) Q E hr I.env0 (hb s us I.kIn hl) r2 h) fun r s' hq => ?_)
  cases r with
  | error e => exact hx pins H s e s' I hq
  | ok fl =>
    cases fl with
    | ret u => exact I.after hq
    | next => exact False.elim hq
    | brk => exact False.elim hq
    | cont => exact False.elim hq
end
def excO (ea C : Addr) : HO := .ext (ExcAt ea C)
def Ends.un (D : Ends) (i : Nat) : Ends := { nx := fun σ H => D.nx (σ.set i none) H, rt := D.rt, bk := fun σ H => D.bk (σ.set i none) H, ct := fun σ H => D.ct (σ.set i none) H }
def tTry (K : PySem.W.Frag) (Ca : Addr) (i : Nat) (E : St -> XK) (tb ts : TS) : TS := fun D σ H => tb D σ H /\ ∀ σ' cls H', E σ' cls none H' ->
  ∃ C, cls = .ref C /\ PySem.W.exmOne K (.ref C) (.ref Ca) = some true /\ ∀ ea, H' ea = none -> ts (D.un i) (σ'.set i (some (.ref ea))) (upd H' ea (excO ea C))
theorem ps_try {X : Cx} {body : List Stmt} {c n : Str} {Ca : Addr} {np hpos pos : Pos} {b₀ : Stmt} {suite : List Stmt} {i : Nat} {E : St -> XK} {tb ts : TS} (hN : X.N.Nodup) (hi : X.N[i]? = some n) (hn : X.env.scope.names.lookup n = some .local)
    (hg : Gl X c) (hm : X.mg c = some (.ref Ca)) (hst : X.stack = X.env :: X.outer) (hL : X.env.frame = some X.env.locals) (hex : X.ex = [])
    (hb : ∀ xe pn, (∀ σ, PassesAt (CXe X.prog X.w) (X.body xe pn) σ (E σ)) -> PSs (X.body xe pn) body tb) (hs : ∀ ea pn, PSs (X.suite ea pn) (b₀ :: suite) ts) (hd : (c == ("__debug__" : Str)) = false := by decide) :
    PS X (.Try body [.ExceptHandler (some (.Name c np)) (some n) (b₀ :: suite) hpos] [] [] pos) (tTry X.K Ca i E tb ts) := by
  intro pins s σ H D I h
  obtain ⟨hbody, hhand⟩ := h
  have hB := hb (fun e s' => ∃ pins' σ' H1 s1, Inv (X.body (fun _ _ => True) (X.pn ++ pins)) pins' σ' H1 s1 /\ CXe X.prog X.w X.stack H1 s1 (E σ') e s') (X.pn ++ pins) (fun σ pins' H s e s' I' hcx => ⟨pins', σ, H, s, I'.reBody, hcx⟩) [] s σ H D I.toBody hbody
  refine wpAny_Try_except (wpAny_mono hB (fun f s1 q => ?_) fun e s1 q => ?_)
  . cases f with
    | next => obtain ⟨σ1, H1, I1, q1⟩ := q; exact wpAny_execs_nil ⟨σ1, H1, I1.ofBody, q1⟩
    | brk => obtain ⟨σ1, H1, I1, q1⟩ := q; exact ⟨σ1, H1, I1.ofBody, q1⟩
    | cont => obtain ⟨σ1, H1, I1, q1⟩ := q; exact ⟨σ1, H1, I1.ofBody, q1⟩
    | ret v => obtain ⟨x1, σ1, H1, I1, r1, q1⟩ := q; exact ⟨x1, σ1, H1, I1.ofBody, r1, q1⟩
  . obtain ⟨pins', σ', H1, s2, I2, ea, cls, a0, H', B, rfl, os, bare, fl, fw, hE⟩ := q
    obtain ⟨C, rfl, hexm, hts⟩ := hhand σ' cls H' hE
    have I2' : Inv X pins σ' H1 s2 := I2.ofBody
    have fr : X.A.frames = some (X.env :: X.outer) := by rw [I.ok.frames, hst]
    have frees := fly_frees I2' fl
    have fw0 := fw
    rw [hst] at fw
    have invAt : ∀ h', Heap.FlyingW B (X.env :: X.outer) ea (.ref C) a0 h' -> s1.heap.UpToSlots h' -> Inv X pins σ' H' { s1 with heap := h' } := fun h' fw' ups => by
      have fl2 := fl.move frees fw'.1 (fun b hb o e => by
        obtain ⟨_, o', ho', nf⟩ := fw0.2.2.1.mem hb
        rw [e] at ho'; cases ho'
        exact ups b o e nf)
      exact I2'.call' (s' := { s1 with heap := h' }) os fl2.un fl2.hok bare (fun b hb => by cases hb)
    refine wpAny_looks_onW fr hL fw fun h4 held4 up4 => ?_
    refine wpAny_landsW held4 fun h5 fw5 up5 => ?_
    have I5 := invAt h5 fw5 (up4.trans up5)
    have I5m : Inv (X.suite ea (X.pn ++ pins)) [] σ' H' { s1 with heap := h5 } := I5.toSuite
    refine wpAny_handleBy_cons (codeAny_handlers_test (ld_glob (X := X.suite ea (X.pn ++ pins)) I5m hg hm ?_ hd)) (by intro q; cases q)
    have LT : PySem.W.Looks (model X.prog X.w) h5 (typeOf (.ref ea)) (.ref C) := by
      obtain ⟨ob, hob, hoc⟩ := fw5.there
      exact hoc ▸ (PySem.W.Looks.ld hob).andThen .now
    refine (PySem.W.exm_one (K := X.K) (M := model X.prog X.w) I5.kIn LT hexm) _ _ _ _ (fun b o e => e) ?_
    refine codeAny_handlers_suite_as ?_
    refine lands_againW fw5 fun h6 fw6 up6 => ?_
    have I6 := invAt h6 fw6 ((up4.trans up5).trans up6)
    -- the exception's object is not tracked yet
    have hne : H' ea = none := by
      cases q : H' ea with
      | none => rfl
      | some u =>
        have nfs : ea ∉ frs X.stack := fun z => by rw [frees ea z] at q; cases q
        obtain ⟨o, ho⟩ := (fl.hok ea u q).there
        have := fl.cov ea o ho (.inl (by rw [q]; simp)) nfs
        rw [fw.2.1] at this
        cases this
    have new : ObjOk X.prog X.w (upd H' ea (excO ea C)) h6 ea (excO ea C) := by
      obtain ⟨ob, hob, hoc⟩ := fw6.there
      refine ⟨⟨ob, hob, hoc⟩, ⟨ob, hob⟩, fun g1 g2 ⟨o1, e1, c1⟩ k => ⟨o1, k o1 e1, c1⟩⟩
    have hsz : s2.heap.get? ea = none := by
      cases q : s2.heap.get? ea with
      | none => rfl
      | some o =>
        by_cases z : ea ∈ frs X.stack
        . obtain ⟨_, o', ho', nf⟩ := fw0.2.2.1.mem z
          obtain ⟨oe, vs, hoe, _, hdt, _⟩ := fw.first
          rw [ho'] at hoe; cases hoe
          exact absurd hdt (nf vs)
        . obtain ⟨o', e'⟩ := fl.un.there ea o q (by simp)
          have := fl.cov ea o' e' (.inr ⟨o, q⟩) z
          rw [fw.2.1] at this
          cases this
    have I6t : Inv X pins σ' (upd H' ea (excO ea C)) { s1 with heap := h6 } := by
      refine ⟨I6.ok, I6.os, I6.bare, ?_, I6.loc, I6.cell, ?_, fun x c e => ?_, fun p hp => ?_, I6.hok.track hne new, I6.len⟩
      . -- newer than the entry
        have h0 : X.s₀.heap.get? ea = none := by
          cases q : X.s₀.heap.get? ea with
          | none => rfl
          | some o =>
            obtain ⟨o', e'⟩ := I2'.base.there ea o q (by rw [hex]; simp)
            rw [hsz] at e'; cases e'
        refine ⟨I6.base.keep, I6.base.slot, fun b o e n hx => ?_, I6.base.there, fun b xs q => ?_, fun b ob xs q => ?_, fun b ps q => ?_⟩
        . rw [upd_ne (fun z => by rw [z, h0] at e; cases e)]; exact I6.base.free b o e n hx
        . have := I6.base.tups b xs q; rw [upd_ne (ne_of_none this hne)]; exact this
        . have := I6.base.frzs b ob xs q; rw [upd_ne (ne_of_none this hne)]; exact this
        . obtain ⟨more, e⟩ := I6.base.tbls b ps q
          exact ⟨more, by rw [upd_ne (ne_of_none e hne)]; exact e⟩
      . rw [upd_ne (fun z => ?_)]
        . exact I6.free
        . have := I2'.lt
          obtain ⟨m, ⟨o, _, _, ho, _⟩, _⟩ := I2'.loc
          rw [z, hsz] at ho; cases ho
      . rw [upd_ne (fun z => ?_)]
        . exact I6.freeC x c e
        . obtain ⟨v, o, ho, _⟩ := I2'.cell x c e
          rw [z, hsz] at ho; cases ho
      . obtain ⟨e, n, r⟩ := I6.pin p hp
        refine ⟨e, ?_, r⟩
        rw [upd_ne (fun z => ?_)]
        . exact n
        . have := (I2'.pin p hp).1
          rw [z, hsz] at this; cases this
    have I6m : Inv (X.suite ea (X.pn ++ pins)) [] σ' (upd H' ea (excO ea C)) { s1 with heap := h6 } := I6t.toSuite
    refine store_ok (X := X.suite ea (X.pn ++ pins)) I6m hN hi (.inl hn) (v := .ref ea) rfl (fun s7 I7 => ?_) (.inr hn)
    refine wpAny_mono (hs ea (X.pn ++ pins) [] s7 _ _ (D.un i) I7 (hts ea hne)) (fun f s8 q8 => ?_) (fun _ _ z => False.elim z)
    have hcl : (X.env.scope.kind == .class || (X.env.scope.kind == .module && X.env.locals != X.env.globals)) = false := by rw [I.ok.kind]; rfl
    have goes : ∀ {σ8 : St} {H8 : Hp}, Inv (X.suite ea (X.pn ++ pins)) [] σ8 H8 s8 -> ∀ (R : Unit -> Shared -> Prop), (∀ s9, Inv X pins (σ8.set i none) H8 s9 -> R () s9) ->
        wpAny (model X.prog X.w) X.A (do bindName X.env n .none; unbindBehindTheSuite X.env n hpos) R X.xe s8 := fun {σ8 H8} I8 R hR => by
      have I8' : Inv X pins σ8 H8 s8 := I8.ofSuite I.ok.hd
      obtain ⟨m, hns, hl⟩ := I8'.loc
      exact wpAny_nameGoes_keeps hn hns hcl fun h9 v hn9 sb => hR _ (I8'.forget hN hi hn hl hns hn9 sb)
    cases f with
    | next => obtain ⟨σ8, H8, I8, q⟩ := q8; exact goes I8 _ fun s9 I9 => ⟨_, H8, I9, q⟩
    | brk => obtain ⟨σ8, H8, I8, q⟩ := q8; exact goes I8 _ fun s9 I9 => ⟨_, H8, I9, q⟩
    | cont => obtain ⟨σ8, H8, I8, q⟩ := q8; exact goes I8 _ fun s9 I9 => ⟨_, H8, I9, q⟩
    | ret v => obtain ⟨x8, σ8, H8, I8, r8, q⟩ := q8; exact goes I8 _ fun s9 I9 => ⟨x8, _, H8, I9, r8, q⟩
theorem call_isinstE {X : Cx} : CallR X (.builtin "isinstance") (fun xs H Q => ∃ ea C c cv b, xs = [.ref ea, c] /\ H ea = some (excO ea C) /\ ExcCls X.K C /\ (∀ u, RelV c u -> u = cv) /\ PySem.W.kitOne X.K (.ref C) cv = some b /\ Q (.bl b) H) := by
  intro pins s σ H xs us Q I r h
  obtain ⟨ea, C, c, cv, b, rfl, hea, hC, hc, hk, q⟩ := h
  obtain ⟨u, w', rfl, rx, rc⟩ := vals2 r
  rw [hc _ rc]
  cases rx
  obtain ⟨p, _, _⟩ := (show ObjOk X.prog X.w H s.heap ea (.ext (ExcAt ea C)) from I.hok ea _ hea)
  exact PySem.W.kia_one (kitx_exc hC) I.kIn p hk (fun z => nomatch z) fun tk => ⟨.bl b, H, I.tok tk, rfl, q⟩
end L2
set_option Elab.async false
set_option linter.all false
set_option maxRecDepth 100000
set_option maxHeartbeats 4000000
namespace HT
open PySem PySem.Spec PyProof.Rows
open PySem.AutoSeq1 (wpAny_loadPart')
section
open PySem.SeqAt PySem.MeetsSeq PySem.MeetsSeq2 PySem.MeetsSeq3
theorem int_rmul_tup (a : Int) (t : Tok) (l : Addr) (items : Array Value) (n : Nat) (dd : Option Addr) (sl : Array (Option Value)) :
    Meets (Builtin.«int.__rmul__» ⟨[.int a t, .ref l], []⟩) (fun _ R s => s.heap.get? l = some { cls := .type "tuple", dict := dd, data := .seq items n, slots := sl } /\ R (.ok (.ret Value.notImplemented)) s) :=
  .of_wp fun prog w A R s h => by obtain ⟨hp, g, d, tk, os⟩ := s; obtain ⟨hl, h⟩ := h; wp_walk using wpAny_loadPart' hl; exact ⟨_, rfl, h⟩
theorem noFill_tuple_mul : fillsNumberSlot (.type "tuple") "mul" = pure false := by
  first | exact fillsNumberSlot_false (by decide +kernel) | (unfold fillsNumberSlot; kernel_rfl) | kernel_rfl
theorem repeat_tuple : seqRepeat? (.type "tuple") = pure (some (.builtin "tuple.__mul__")) := by
  unfold seqRepeat?
  rw [PySem.seqSlot_of (T := "tuple") (name := "__mul__") (id := "tuple.__mul__") F.slot_tuple_mul.lookup (by decide +kernel), PySem.seqSlot_of (T := "tuple") (name := "__rmul__") (id := "tuple.__rmul__") F.slot_tuple_rmul.lookup (by decide +kernel)]
  rfl
theorem tup_mul_one (l : Addr) (items : Array Value) (n : Nat) (dd : Option Addr) (sl : Array (Option Value)) (u : Tok) :
    Meets (Builtin.«tuple.__mul__» ⟨[.ref l, .int 1 u], []⟩) (fun _ R s => s.heap.get? l = some { cls := .type "tuple", dict := dd, data := .seq items n, slots := sl } /\ R (.ok (.ret (Value.ref l))) s) :=
  .of_wp fun prog w A R s h => by
    obtain ⟨hp, g, d, tk, os⟩ := s; obtain ⟨hl, h⟩ := h
    have f1 := AutoSeq1.idx_int
    unfold Builtin.«tuple.__mul__»
    wp_walk using wpAny_loadPart' hl
    exact ⟨_, rfl, h⟩
theorem tup_mul_none (l : Addr) (items : Array Value) (n : Nat) (dd : Option Addr) (sl : Array (Option Value)) (x : Int) (u : Tok) (h0 : ¬ items.isEmpty = true) (h1 : x <= 0) (h2 : -(2 ^ 63) <= x) :
    Meets (Builtin.«tuple.__mul__» ⟨[.ref l, .int x u], []⟩) (fun _ R s => s.heap.get? l = some { cls := .type "tuple", dict := dd, data := .seq items n, slots := sl } /\ R (.ok (.ret (Value.ref s.heap.objs.size))) { s with heap := s.heap.push { cls := .type "tuple", data := .seq #[] } }) :=
  .of_wp fun prog w A R s h => by
    obtain ⟨hp, g, d, tk, os⟩ := s; obtain ⟨hl, h⟩ := h
    have f1 := AutoSeq1.idx_int
    have c1 : (decide (x < -(2 ^ 63 : Int)) || decide (x >= 2 ^ 63)) = false := by simp; omega
    have c2 : (items.isEmpty || x == 1) = false := by simp at h0 ⊢; exact ⟨h0, by omega⟩
    have c3 : (decide (x <= 0) || items.isEmpty) = true := by simp [h1]
    unfold Builtin.«tuple.__mul__»
    wp_walk using wpAny_loadPart' hl
    rw [if_neg (by rw [c1]; exact Bool.false_ne_true)]
    wp_walk using wpAny_loadPart' hl
    rw [if_neg (by rw [c2]; exact Bool.false_ne_true)]
    rw [if_pos c3]
    wp_walk using wpAny_loadPart' hl
    exact ⟨_, rfl, h⟩
theorem tup_mul_many (l : Addr) (items : Array Value) (n : Nat) (dd : Option Addr) (sl : Array (Option Value)) (x : Int) (u : Tok) (h0 : ¬ items.isEmpty = true) (h1 : 1 < x) (h2 : x < 2 ^ 63) (h3 : items.size * x.toNat <= sizeLine) :
    Meets (Builtin.«tuple.__mul__» ⟨[.ref l, .int x u], []⟩) (fun _ R s => s.heap.get? l = some { cls := .type "tuple", dict := dd, data := .seq items n, slots := sl } /\ R (.ok (.ret (Value.ref s.heap.objs.size))) { s with heap := s.heap.push { cls := .type "tuple", data := .seq ((List.replicate x.toNat items).foldl (· ++ ·) #[]) } }) :=
  .of_wp fun prog w A R s h => by
    obtain ⟨hp, g, d, tk, os⟩ := s; obtain ⟨hl, h⟩ := h
    have f1 := AutoSeq1.idx_int
    have hs : sizeLine = 16777216 := sizeLine_eq
    have c1 : (decide (x < -(2 ^ 63 : Int)) || decide (x >= 2 ^ 63)) = false := by simp; omega
    have c2 : (items.isEmpty || x == 1) = false := by simp at h0 ⊢; exact ⟨h0, by omega⟩
    have c3 : (decide (x <= 0) || items.isEmpty) = false := by simp at h0 ⊢; exact ⟨by omega, h0⟩
    obtain ⟨k, rfl⟩ : ∃ k : Nat, x = (k : Int) := ⟨x.toNat, by omega⟩
    have c4 : ¬ ((items.size : Int) * (k : Int) > (2 ^ 63 - 1) / 8) := by
      rw [Int.toNat_natCast] at h3
      have : ((items.size * k : Nat) : Int) = (items.size : Int) * (k : Int) := by push_cast; rfl
      omega
    have c5 : Builtin.Tuple.tupleTooMany ((items.size : Int) * (k : Int)) = false := by
      unfold Builtin.Tuple.tupleTooMany
      rw [Int.toNat_natCast] at h3
      have : ((items.size * k : Nat) : Int) = (items.size : Int) * (k : Int) := by push_cast; rfl
      simp
      omega
    unfold Builtin.«tuple.__mul__»
    wp_walk using wpAny_loadPart' hl
    rw [if_neg (by rw [c1]; exact Bool.false_ne_true)]
    wp_walk using wpAny_loadPart' hl
    rw [if_neg (by rw [c2]; exact Bool.false_ne_true)]
    rw [if_neg (by rw [c3]; exact Bool.false_ne_true), if_neg c4, if_neg (by rw [c5]; exact Bool.false_ne_true)]
    wp_walk using wpAny_loadPart' hl
    have hz : ¬ (List.foldl (fun x1 x2 => x1 ++ x2) #[] (List.replicate ((k : Int)).toNat items)).size > sizeLine := by
      have := L2.foldl_rep items.toList k []
      rw [List.nil_append] at this
      have e : items.toList.toArray = items := by simp
      rw [e] at this
      rw [Int.toNat_natCast, this, List.size_toArray, L2.len_rep]
      rw [Int.toNat_natCast] at h3
      rw [Array.length_toList, Nat.mul_comm]
      omega
    rw [if_neg hz]
    wp_walk using wpAny_loadPart' hl
    exact ⟨_, rfl, h⟩
end
end HT
namespace L2
open PySem PySem.Spec PyProof.Rows
section
variable {X : Cx}
def rRepT (K : PySem.W.Frag) : R2 := fun x y H Q => ∃ l k xs, x = .ref l /\ y = .int k /\ SqT K H l xs /\ xs ≠ [] /\ -(2 ^ 63) <= k /\ k < 2 ^ 63 /\ xs.length * k.toNat <= sizeLine /\
  (k = 1 -> Q (.ref l) H) /\ (k ≠ 1 -> ∀ p, H p = none -> Q (.ref p) (upd H p (.tup (List.replicate k.toNat xs).flatten)))
theorem op_repT : OpR X (binaryOp .Mult) (rRepT X.K) := by
  intro pins s σ H x y v u Q I rx ry h
  obtain ⟨l, k, xs, rfl, rfl, hq, hne, h1, h2, hz, q1, q2⟩ := h
  cases rx
  obtain ⟨t, rfl⟩ := ry
  obtain ⟨its, r, p1, _⟩ := I.tuple hq
  have hlen := r.length
  have hn' : ¬ its.toArray.isEmpty = true := by
    intro z
    have : its = [] := by simpa using z
    exact hne (r.nil_iff.mp this)
  obtain ⟨⟨cls, dd, data, sl⟩, ho, hc, n, hd⟩ := id p1
  simp only at hc hd
  subst hc hd
  refine wpAny_binaryOp_repeat_ref (T := "tuple") (U := "int") (by decide) ⟨_, ho, rfl⟩ (fun s' => typeIs_int s' k t) HT.noFill_tuple_mul F.fills_int_mul F.slot_int_rmul HT.repeat_tuple F.slot_int_index.lookup
    (call_meets F.slot_int_rmul (typeIs_int s k t) F.entry_int_rmul (F.args_int_rmul_2 _ _) (HT.int_rmul_tup k t l its.toArray n dd sl) ⟨ho, rfl, ⟨_, ho, rfl⟩, ?_⟩)
  by_cases k1 : k = 1
  . subst k1
    exact call_meets F.slot_tuple_mul ⟨_, ho, rfl⟩ F.entry_tuple_mul (F.args_tuple_mul_2 _ _) (HT.tup_mul_one l its.toArray n dd sl t) ⟨ho, ⟨.ref l, H, I, rfl, q1 rfl⟩⟩
  . have fin : ∀ (ys : List Value), Vals (List.replicate k.toNat xs).flatten ys -> EP X pins σ Q (.ref s.heap.objs.size) { s with heap := s.heap.push { cls := .type "tuple", data := .seq ys.toArray } } := fun ys rv =>
      ⟨.ref s.heap.objs.size, _, I.laid (t' := s.toks) (o := .tup (List.replicate k.toNat xs).flatten) (fun b ob q => Heap.get?_push_of_some _ q) (Nat.le_refl _) ⟨by rw [len_rep, Nat.mul_comm]; exact hz, _, rv, IsTup.new _ _⟩, rfl, q2 k1 _ (I.hok.fresh (Nat.le_refl _))⟩
    by_cases k0 : k <= 0
    . refine call_meets F.slot_tuple_mul ⟨_, ho, rfl⟩ F.entry_tuple_mul (F.args_tuple_mul_2 _ _) (HT.tup_mul_none l its.toArray n dd sl k t hn' k0 h1) ⟨ho, ?_⟩
      exact fin [] (by rw [show k.toNat = 0 by omega]; exact .nil)
    . refine call_meets F.slot_tuple_mul ⟨_, ho, rfl⟩ F.entry_tuple_mul (F.args_tuple_mul_2 _ _) (HT.tup_mul_many l its.toArray n dd sl k t hn' (by omega) h2 (by rw [List.size_toArray, <- hlen]; exact hz)) ⟨ho, ?_⟩
      have e := foldl_rep its k.toNat []
      rw [List.nil_append] at e
      have e' : List.foldl (fun x1 x2 => x1 ++ x2) #[] (List.replicate k.toNat its.toArray) = (List.replicate k.toNat its).flatten.toArray := e
      rw [e']
      exact fin _ (r.rep k.toNat)
def rCatT2 (K : PySem.W.Frag) : R2 := fun x y H Q => ∃ a b xs ys, x = .ref a /\ y = .ref b /\ SqT K H a xs /\ SqT K H b ys /\ xs.length + ys.length <= sizeLine /\
  (xs = [] -> Q (.ref b) H) /\ (xs ≠ [] -> ys = [] -> Q (.ref a) H) /\ (xs ≠ [] -> ys ≠ [] -> ∀ p, H p = none -> Q (.ref p) (upd H p (.tup (xs ++ ys))))
theorem op_catT2 : OpR X (binaryOp .Add) (rCatT2 X.K) := by
  intro pins s σ H x y v u Q I rx ry h
  obtain ⟨a, b, xs, ys, rfl, rfl, ha, hb, hz, q0, q1, q2⟩ := h
  by_cases hx : xs = []
  . subst hx
    cases rx
    cases ry
    obtain ⟨its, r1, p1, _⟩ := I.tuple ha
    obtain ⟨its2, r2, p2, _⟩ := I.tuple hb
    have : its = [] := r1.nil_iff.mpr rfl
    subst this
    obtain ⟨⟨cls, dd, data, sl⟩, ho, hc, n, hd⟩ := id p1
    obtain ⟨⟨cls2, dd2, data2, sl2⟩, ho2, hc2, n2, hd2⟩ := id p2
    simp only at hc hd hc2 hd2
    subst hc hd hc2 hd2
    exact concat_meets ⟨_, ho, rfl⟩ ⟨_, ho2, rfl⟩ noFill_tuple_add seq_tuple_add PySem.F.slot_tuple_add PySem.F.entry_tuple_add (PySem.F.args_tuple_add_2 _ _)
      (PyProof.Rows.tuple_addW0 a b _ _ n n2 dd dd2 sl sl2 rfl) ⟨ho, ho2, ⟨.ref b, H, I, rfl, q0 rfl⟩⟩
  . exact op_catT pins s σ H _ _ v u Q I rx ry ⟨a, b, xs, ys, rfl, rfl, ha, hb, hx, hz, q1 hx, q2 hx⟩
end
theorem whileW {c : TT} {tb : TS} {D : Ends} {σ : St} {H : Hp} (Pv : Nat -> St -> Hp -> Prop) (h0 : ∃ m, Pv m σ H)
    (hs : ∀ m σ H, Pv m σ H -> c σ H fun b H1 => if b = true then ∃ N : St -> Hp -> Prop, (∀ σ' H', N σ' H' -> ∃ m', m' < m /\ Pv m' σ' H') /\ tb { D with nx := N, ct := N, bk := D.nx } σ H1 else D.nx σ H1) : tWhile c tb D σ H := ⟨Pv, h0, hs⟩
section
variable {K : PySem.W.Frag} {H : Hp} {Q : VK}
theorem rRepT.of {l : Addr} {k : Int} {xs : List V} (hq : SqT K H l xs) (hne : xs ≠ []) (h1 : -(2 ^ 63) <= k) (h2 : k < 2 ^ 63) (hz : xs.length * k.toNat <= sizeLine) (h : ∀ p H', Same H H' -> SqT K H' p (List.replicate k.toNat xs).flatten -> Q (.ref p) H') : rRepT K (.ref l) (.int k) H Q := by
  refine ⟨l, k, xs, rfl, rfl, hq, hne, h1, h2, hz, fun e => ?_, fun _ p hp => h p _ (Same.new hp) (SqT.of upd_same)⟩
  subst e
  exact h l H (Same.refl _) (by simpa using hq)
theorem rCatT2.of {a b : Addr} {xs ys : List V} (ha : SqT K H a xs) (hb : SqT K H b ys) (hz : xs.length + ys.length <= sizeLine) (h : ∀ p H', Same H H' -> SqT K H' p (xs ++ ys) -> Q (.ref p) H') : rCatT2 K (.ref a) (.ref b) H Q := by
  refine ⟨a, b, xs, ys, rfl, rfl, ha, hb, hz, fun e => ?_, fun _ e => ?_, fun _ _ p hp => h p _ (Same.new hp) (SqT.of upd_same)⟩
  . subst e; exact h b H (Same.refl _) (by simpa using hb)
  . subst e; exact h a H (Same.refl _) (by simpa using ha)
end
theorem r_slT {K : PySem.W.Frag} {H : Hp} {Q : VK} {x : V} {lo hi : Option Int} : rSlT K x lo hi H Q = ∃ a xs, x = .ref a /\ SqT K H a xs /\
  ¬ (HT.sIx xs.length 0 lo = 0 /\ HT.sIx xs.length xs.length hi = xs.length) /\ ∀ p, H p = none -> Q (.ref p) (upd H p (.tup (cutV xs lo hi))) := rfl
inductive TyW (K : PySem.W.Frag) (H : Hp) : V -> Value -> Prop where
  | non : TyW K H .non (.type "NoneType")
  | bl (x : Bool) : TyW K H (.bl x) (.type "bool")
  | int (i : Int) : TyW K H (.int i) (.type "int")
  | str (x : Str) : TyW K H (.str x) (.type "str")
  | lst {a : Addr} {xs : List V} (e : SqL K H a xs) : TyW K H (.ref a) (.type "list")
  | tup {a : Addr} {xs : List V} (e : SqT K H a xs) : TyW K H (.ref a) (.type "tuple")
  | exc {a C : Addr} (e : H a = some (excO a C)) (c : ExcCls K C) : TyW K H (.ref a) (.ref C)
theorem call_isinstW {X : Cx} : CallR X (.builtin "isinstance") (fun xs H Q => ∃ x c cv t b, xs = [x, c] /\ TyW X.K H x t /\ (∀ u, RelV c u -> u = cv) /\ PySem.W.kitOne X.K t cv = some b /\ Q (.bl b) H) := by
  intro pins s σ H xs us Q I r h
  obtain ⟨x, c, cv, t, b, rfl, ty, hc, hk, q⟩ := h
  cases ty with
  | non => exact call_isinst pins s σ H _ us Q I r ⟨_, c, cv, _, b, rfl, .non, hc, hk, q⟩
  | bl y => exact call_isinst pins s σ H _ us Q I r ⟨_, c, cv, _, b, rfl, .bl y, hc, hk, q⟩
  | int y => exact call_isinst pins s σ H _ us Q I r ⟨_, c, cv, _, b, rfl, .int y, hc, hk, q⟩
  | str y => exact call_isinst pins s σ H _ us Q I r ⟨_, c, cv, _, b, rfl, .str y, hc, hk, q⟩
  | exc e hC => exact call_isinstE pins s σ H _ us Q I r ⟨_, _, c, cv, b, rfl, e, hC, hc, hk, q⟩
  | @lst a xs e =>
    obtain ⟨u, w', rfl, rx, rc⟩ := vals2 r
    rw [hc _ rc]
    cases rx
    obtain ⟨its, _, pl, _⟩ := I.list e
    obtain ⟨o, ho, hcl, _⟩ := pl.isList
    exact PySem.W.kia_one PySem.W.kitx_list I.kIn ⟨o, ho, hcl⟩ hk (fun z => nomatch z) fun tk => ⟨.bl b, H, I.tok tk, rfl, q⟩
  | @tup a xs e =>
    obtain ⟨u, w', rfl, rx, rc⟩ := vals2 r
    rw [hc _ rc]
    cases rx
    obtain ⟨its, _, ⟨o, ho, hcl, _⟩, _⟩ := I.tuple e
    exact PySem.W.kia_one PySem.W.kitx_tuple I.kIn ⟨o, ho, hcl⟩ hk (fun z => nomatch z) fun tk => ⟨.bl b, H, I.tok tk, rfl, q⟩
end L2
set_option Elab.async false
set_option linter.all false
set_option maxRecDepth 100000
set_option maxHeartbeats 4000000
namespace GW
def placeR (L : Int) : List Int -> Int
  | [] => 0
  | x :: r => placeR L r * L + x + 1
def place (L : Int) (w : List Int) : Int := placeR L w.reverse
def inW (L x : Int) : Bool := decide (0 <= x) && decide (x < L)
def isW (L : Int) (ws : List Int) : Bool := ws.all (inW L)
theorem inW_iff {L x : Int} : inW L x = true ↔ 0 <= x /\ x < L := by simp [inW]
theorem isW_iff {L : Int} {ws : List Int} : isW L ws = true ↔ ∀ x ∈ ws, 0 <= x /\ x < L := by simp [isW, inW_iff]
def many (L : Int) : Nat -> Int
  | 0 => 0
  | k + 1 => many L k * L + 1
end GW
set_option Elab.async false
set_option linter.all false
set_option maxRecDepth 100000
set_option maxHeartbeats 4000000
namespace PySem
section
variable {prog : Program} {w : World} {A : Around} {E : Value -> Shared -> Prop} {s : Shared}
abbrev lsO (acc : Array Value) (c : Nat) : Obj := { cls := .type "list", dict := none, data := .seq acc c, slots := #[] }
def KP (wr : Addr -> Prop) (h h' : Heap) : Prop := ∀ b o, ¬ wr b -> h.get? b = some o -> h'.get? b = some o
structure Gat (prog : Program) (w : World) (s : Shared) (r I : Addr) (T : String) (n : Nat) (wr : Addr -> Prop) (J : Nat -> List Value -> Heap -> Prop) (Fn : List Value -> Heap -> Prop) : Prop where
  type : s.TypeIs (.ref r) T
  nl : (Value.type T == Value.type "list") = false
  nt : (Value.type T == Value.type "tuple") = false
  le : n <= sizeLine
  hint : ∀ (A : Around) (t : Shared) (Q : Bool -> Shared -> Prop) (E : Value -> Shared -> Prop), (∀ b o, s.heap.get? b = some o -> t.heap.get? b = some o) -> (∀ b tk, Q b { t with toks := tk }) -> wpAny (model prog w) A (Builtin.List.listLengthHint (.ref r)) Q E t
  iter : ∀ (A : Around) (h1 : Heap) (Q : Value -> Shared -> Prop) (E : Value -> Shared -> Prop), (∀ b o, s.heap.get? b = some o -> h1.get? b = some o) -> h1.objs.size = s.heap.objs.size + 1 -> (∀ h', J 0 [] h' -> (∀ b o, h1.get? b = some o -> h'.get? b = some o) -> Q (.ref I) { s with heap := h' }) -> wpAny (model prog w) A (pyIter (.ref r)) Q E { s with heap := h1 }
  next : ∀ (A : Around) i acc (t : Shared) (Q : Option Value -> Shared -> Prop) (E : Value -> Shared -> Prop), A.handled = none -> J i acc t.heap -> acc.length = i -> i <= n -> s.heap.objs.size < t.heap.objs.size ->
    (∀ v h' tk, i < n -> J (i + 1) (acc ++ [v]) h' -> KP wr t.heap h' -> Q (some v) { t with heap := h', toks := tk }) -> (∀ h' tk, i = n -> Fn acc h' -> KP wr t.heap h' -> Q none { t with heap := h', toks := tk }) -> wpAny (model prog w) A (pyNext (.ref I)) Q E t
  frame : ∀ i acc h h', J i acc h -> (∀ b o, b ≠ s.heap.objs.size -> h.get? b = some o -> h'.get? b = some o) -> J i acc h'
  nw : ¬ wr s.heap.objs.size
variable {I r : Addr} {T : String} {n : Nat} {wr : Addr -> Prop} {J : Nat -> List Value -> Heap -> Prop} {Fn : List Value -> Heap -> Prop} {R : Result -> Shared -> Prop} {res : Value}
theorem Gat.loop (G : Gat prog w s r I T n wr J Fn) (hh : A.handled = none)
    (hR : ∀ h' tk acc c, Fn acc h' -> acc.length = n -> h'.get? s.heap.objs.size = some (lsO acc.toArray c) -> KP wr s.heap h' -> R (.ok (.ret res)) { s with heap := h', toks := tk }) :
    ∀ (k : Nat) (h : Heap) (tk c : Nat) (acc : List Value), n - acc.length = k -> acc.length <= n -> J acc.length acc h -> h.get? s.heap.objs.size = some (lsO acc.toArray c) -> KP wr s.heap h -> codeAny (model prog w) A (.builtin "list.extend.loop" ⟨[.ref s.heap.objs.size, .ref I, res], []⟩) R { s with heap := h, toks := tk } := by
  intro k
  induction k with
  | zero =>
    intro h tk c acc hk hi j hS kp
    refine codeAny_builtin F.entry_extend_loop ?_
    rw [Around.under_plainId F.plain_extend_loop _]
    refine wpAny_bind (G.next A.in1 _ acc { s with heap := h, toks := tk } _ _ hh j rfl hi (Heap.lt_size hS) (fun v h' tk l => by omega) fun h' tk e j' kk => ?_)
    exact wpAny_pure (hR h' tk acc c j' (by omega) (kk _ _ G.nw hS) fun b o m q => kk b o m (kp b o m q))
  | succ k ih =>
    intro h tk c acc hk hi j hS kp
    refine codeAny_builtin F.entry_extend_loop ?_
    rw [Around.under_plainId F.plain_extend_loop _]
    refine wpAny_bind (G.next A.in1 _ acc { s with heap := h, toks := tk } _ _ hh j rfl hi (Heap.lt_size hS) (fun v h' tk l j' kk => ?_) fun h' tk e => by omega)
    have hS' := kk _ _ G.nw hS
    have up : ∀ b o, b ≠ s.heap.objs.size -> h'.get? b = some o -> (h'.update s.heap.objs.size (Obj.mapSeq (·.push v))).get? b = some o := fun b o m q => (Heap.get?_update_other _ _ (Ne.symm m)).trans q
    have hl : (acc ++ [v]).length = acc.length + 1 := by simp
    have := G.le
    obtain ⟨c', hS2⟩ : ∃ c', (h'.update s.heap.objs.size (Obj.mapSeq (·.push v))).get? s.heap.objs.size = some (lsO (acc ++ [v]).toArray c') := ⟨_, by rw [<- List.push_toArray]; exact Heap.get?_update_self _ hS' rfl⟩
    exact wpAny_bind (wpAny_updateSeq hS' rfl (wpAny_pure ⟨plainId_quiet F.plain_extend_loop _, ih _ tk c' (acc ++ [v]) (by omega) (by omega) (by rw [hl]; exact G.frame _ _ _ _ j' up) hS2 fun b o m q => up b o (Nat.ne_of_lt (Heap.lt_size q)) (kk b o m (kp b o m q))⟩) (by simp; omega))
theorem Gat.extend {Z : Fin -> Shared -> Prop} {c₀ : Nat} {h1 : Heap} (G : Gat prog w s r I T n wr J Fn) (hh : A.handled = none) (k1 : ∀ b o, s.heap.get? b = some o -> h1.get? b = some o) (hz : h1.objs.size = s.heap.objs.size + 1) (hS : h1.get? s.heap.objs.size = some (lsO #[] c₀))
    (hZ : ∀ c t, c.quiet = true -> codeAny (model prog w) A c R t -> Z (.again c) t)
    (hR : ∀ h' tk acc c, Fn acc h' -> acc.length = n -> h'.get? s.heap.objs.size = some (lsO acc.toArray c) -> KP wr s.heap h' -> R (.ok (.ret res)) { s with heap := h', toks := tk }) :
    wpAny (model prog w) A.in1 (Builtin.List.listExtendWith (.ref s.heap.objs.size) (.ref r) res) Z E { s with heap := h1 } := by
  have hr : r < s.heap.objs.size := let ⟨_, ho, _⟩ := G.type; Heap.lt_size ho
  have e1 : Builtin.List.listSameRef (.ref s.heap.objs.size) (.ref r) = false := by simp [Builtin.List.listSameRef, Nat.ne_of_gt hr]
  have hT : Shared.TypeIs { s with heap := h1 } (.ref r) T := let ⟨o, ho, x⟩ := G.type; ⟨o, k1 _ _ ho, x⟩
  have oth : ∀ (h : Heap) f b o, b ≠ s.heap.objs.size -> h.get? b = some o -> (h.update s.heap.objs.size f).get? b = some o := fun h f b o n q => (Heap.get?_update_other _ _ (Ne.symm n)).trans q
  have go : ∀ (h : Heap) c tk, J 0 [] h -> h.get? s.heap.objs.size = some (lsO #[] c) -> (∀ b o, b ≠ s.heap.objs.size -> h1.get? b = some o -> h.get? b = some o) -> Z (.again (.builtin "list.extend.loop" ⟨[.ref s.heap.objs.size, .ref I, res], []⟩)) { s with heap := h, toks := tk } := fun h c tk j q k =>
    hZ _ _ (plainId_quiet F.plain_extend_loop _) (G.loop hh hR n h tk c [] rfl (Nat.zero_le _) j q fun b o _ x => k b o (Nat.ne_of_lt (Heap.lt_size x)) (k1 b o x))
  unfold Builtin.List.listExtendWith
  refine wpAny_bind (wpAny_typeOf hT ?_)
  simp only [e1, G.nl, G.nt, Bool.or_false, Bool.false_eq_true, if_false]
  refine wpAny_bind (G.iter A.in1 h1 _ _ k1 hz fun h' j kk => wpAny_bind (wpAny_holding (G.hint A.in1 _ _ _ (fun b o q => kk b o (k1 b o q)) fun bb tk => ?_)))
  have hS' := kk _ _ hS
  refine wpAny_ite_split (fun _ => ?_) fun _ => wpAny_pure (go h' c₀ tk j hS' fun b o _ q => kk b o q)
  wp_walk
  exact go _ _ tk (G.frame _ _ _ _ (G.frame _ _ _ _ j fun b o m q => oth _ _ b o m q) fun b o m q => oth _ _ b o m q) (Heap.get?_update_self _ (Heap.get?_update_self _ hS' rfl) rfl) fun b o m q => oth _ _ b o m (oth _ _ b o m (kk b o q))
theorem Gat.collect {Q : List Value -> Shared -> Prop} (G : Gat prog w s r I T n wr J Fn) (hh : A.handled = none) (hQ : ∀ h' tk acc, Fn acc h' -> acc.length = n -> KP wr s.heap h' -> Q acc { s with heap := h', toks := tk }) : wpAny (model prog w) A (collect (.ref r)) Q E s := by
  have hS : (s.heap.push (lsO #[] 0)).get? s.heap.objs.size = some (lsO #[] 0) := Heap.get?_push_size _ rfl
  unfold PySem.collect
  refine wpAny_bind (wpAny_runValue (codeAny_builtin F.entry_proto_collect ?_))
  rw [Around.under_plainId F.plain_proto_collect _]
  wp_walk
  refine ⟨plainId_quiet F.plain_list_iadd _, codeAny_builtin F.entry_list_iadd ?_⟩
  rw [Around.under_plainId F.plain_list_iadd _]
  refine G.extend hh (fun b o e => Heap.get?_push_of_some _ e) (Heap.size_push ..) hS (fun _ _ a b => ⟨a, b⟩) fun h' tk acc c k1 k2 k3 k4 => ?_
  exact wpAny_bind (wpAny_load k3 (wpAny_pure (hQ h' tk acc k1 k2 k4)))
theorem Gat.tuple {Q : Value -> Shared -> Prop} (G : Gat prog w s r I T n wr J Fn) (hh : A.handled = none)
    (hQ : ∀ (h' : Heap) tk acc, Fn acc h' -> acc.length = n -> KP wr s.heap h' -> Q (.ref h'.objs.size) { s with heap := h'.push { cls := .type "tuple", data := .seq acc.toArray }, toks := tk }) : wpAny (model prog w) A (call (.type "tuple") [.ref r]) Q E s := by
  have hsub := sub_tuple_self
  have hinit := init_tuple_lookup
  have hmh := madeHere_tuple
  have hT := G.type
  refine callType_codes (Q₁ := fun obj s₁ => s₁.TypeIs obj "tuple" /\ Q obj s₁) F.called_tuple (F.typeCall_tuple_1 _) F.entry_object_init ?_ fun obj s₁ h₁ => ⟨h₁.1, F.args_object_init_2 obj _, object_init_meets F.called_tuple.init.lookup F.called_tuple.made (by decide) prog w A.in1 _ s₁ ⟨h₁.1, rfl, h₁.2⟩⟩
  refine codeAny_of_tree (wpAny_bind (wpAny_of_eq (F.newCall_tuple_1 _) (wpAny_pure ⟨plainId_quiet F.plain_tuple_new _, codeAny_builtin F.entry_tuple_new ?_⟩)))
  rw [Around.under_plainId F.plain_tuple_new _]
  have h2 : A.in1.in1.handled = none := hh
  have n1 := G.nl
  have n2 := G.nt
  wp_walk using wpAny_typeOf hT, G.collect h2
  intro h' tk acc k1 k2 k3
  have hl : acc.length <= sizeLine := k2 ▸ G.le
  have q := hQ h' tk acc k1 k2 k3
  clear k2
  wp_walk
  exact ⟨⟨_, Heap.get?_push_size _ rfl, rfl⟩, q⟩
theorem Gat.ofWalks {fp wl : List Addr} {P : Nat -> Value -> Prop} {St : Nat -> Heap -> Prop} (W : ∀ A : Around, A.handled = none -> Walks prog w A I fp wl n P St) (hh : A.handled = none) (hf : s.heap.objs.size ∉ fp) (ty : s.TypeIs (.ref r) T) (nl : (Value.type T == Value.type "list") = false) (nt : (Value.type T == Value.type "tuple") = false) (le : n <= sizeLine)
    (hint : ∀ (A : Around) (t : Shared) (Q : Bool -> Shared -> Prop) (E : Value -> Shared -> Prop), (∀ b o, s.heap.get? b = some o -> t.heap.get? b = some o) -> (∀ b tk, Q b { t with toks := tk }) -> wpAny (model prog w) A (Builtin.List.listLengthHint (.ref r)) Q E t)
    (iter : ∀ (A : Around) (h1 : Heap) (Q : Value -> Shared -> Prop) (E : Value -> Shared -> Prop), (∀ b o, s.heap.get? b = some o -> h1.get? b = some o) -> h1.objs.size = s.heap.objs.size + 1 -> (∀ h', St 0 h' -> (∀ b o, h1.get? b = some o -> h'.get? b = some o) -> Q (.ref I) { s with heap := h' }) -> wpAny (model prog w) A (pyIter (.ref r)) Q E { s with heap := h1 }) :
    Gat prog w s r I T n (· ∈ wl) (fun i acc h => St i h /\ ∀ (j : Nat) v, acc[j]? = some v -> P j v) (fun acc _ => ∀ (j : Nat) v, acc[j]? = some v -> P j v) where
  type := ty
  nl := nl
  nt := nt
  le := le
  hint := hint
  iter := fun A h1 Q E k z q => iter A h1 Q E k z fun h' st => q h' ⟨st, fun j v e => by simp at e⟩
  next := fun A i acc t Q E hh j hl hi _ q1 q2 => by
    have W := W A hh
    rcases Nat.lt_or_ge i n with l | l
    . refine W.item i t Q E l j.1 fun v h' tk p st' k => q1 v h' tk l ⟨st', fun m u e => ?_⟩ k
      rcases Nat.lt_or_ge m acc.length with a | a
      . rw [List.getElem?_append_left a] at e
        exact j.2 m u e
      . have := (List.getElem?_eq_some_iff.mp e).1
        obtain rfl : m = i := by simp at this; omega
        rw [List.getElem?_append_right a, hl, Nat.sub_self] at e
        exact (show v = u by simpa using e) ▸ p
    . obtain rfl : i = n := by omega
      exact W.done t Q E j.1 fun h' tk k => q2 h' tk rfl j.2 k
  frame := fun i acc h h' j k => ⟨(W A hh).frame _ _ _ j.1 fun b hb o q => k b o (fun z => hf (z ▸ hb)) q, j.2⟩
  nw := fun m => hf ((W A hh).sub _ m)
end
end PySem
set_option Elab.async false
set_option linter.all false
set_option maxRecDepth 100000
set_option maxHeartbeats 4000000
namespace PySem
open Sem (wp)
open AutoSeq1 (wpAny_loadPart')
namespace F
end F
section
variable {prog : Program} {w : World} {A : Around} {E : Value -> Shared -> Prop} {s : Shared}
theorem rev_items {items : Array Value} {acc : List Value} (l : acc.length = items.size) (h : ∀ (j : Nat) v, acc[j]? = some v -> items[items.size - 1 - j]? = some v) : ItemsOf (fun i v => items[items.size - 1 - i]? = some v) acc.toArray items.size := ⟨by simpa using l, fun i v e => h i v (by simpa using e)⟩
end
end PySem
namespace L2
open PySem PySem.Spec PyProof.Rows
theorem boot_ValueError : bootBuiltins "ValueError" = some (.type "ValueError") := by decide +kernel
section
variable {P : Program} {w : World} {K : PySem.W.Frag} {mg : Str -> Option Value} {base : Heap}
theorem Fun.okE {x qual : Str} {st : Stmt} {f : Addr} {fd : FuncData} {N ps : List Str} {k : Nat} {sp : Sp} (F : Fun K x qual st f fd) (S : FnScope N ps (defScope st)) (len : ∀ vs H Q E, sp vs H Q E -> vs.length = ps.length)
    (hbody : ∀ (cdv : Value) (A : Around) (outer : List Env) (s : Shared) (H : Hp) (vs : List V) (Q : VK) (E : XK), Room k (A.deeper (envOfC qual (defScope st) s.heap.objs.size f cdv)) -> sp vs H Q E ->
      ∃ t, PSs (cxOf (CXe P w) P w K mg base N qual (defScope st) f cdv A outer s H E) (defBody st) t /\ t { nx := fun _ H' => Q .non H', rt := Q } (start N vs) H) : FnOk P w K mg base (CXe P w) (k + 1) f fd ps sp := by
  obtain ⟨oc, od, kV, doc, pm, an, cdv, ct, osl, rfl, lk, hcd⟩ := F.ex
  exact fn_of lk hcd S len fun A outer s H vs Q E hr hsp => hbody cdv A outer s H vs Q E hr hsp
theorem passNev {X : Cx} : Passes (CXe P w) X E0 := fun _ _ _ _ _ _ _ h => by
  obtain ⟨_, _, _, _, _, _, _, _, _, _, q⟩ := h
  exact q.elim
end
section
variable {te ta tb : TE} {A : TA} {D : Ends} {σ : St} {H : Hp} {Q : VK} {K : PySem.W.Frag} {tbd ts : TS}
theorem r_extend {x : V} {vs : List V} : rExtend x vs H Q = ∃ l b xs zs, x = .ref l /\ vs = [.ref b] /\ H l = some (.lst xs) /\ H b = some (.lst zs) /\ xs.length + zs.length <= sizeLine /\ Q .non (upd H l (.lst (xs ++ zs))) := rfl
theorem r_cat {x y : V} : rCat x y H Q = ∃ l b xs zs, x = .ref l /\ y = .ref b /\ H l = some (.lst xs) /\ H b = some (.lst zs) /\ xs.length + zs.length <= sizeLine /\ ∀ p, H p = none -> Q (.ref p) (upd H p (.lst (xs ++ zs))) := rfl
theorem r_raise {C : Addr} {E : XK} : tRaise C E A D σ H = A σ H fun vs H1 => vs.length <= sizeLine /\ E (.ref C) none H1 := rfl
theorem r_try {Ca : Addr} {i : Nat} {E : St -> XK} : tTry K Ca i E tbd ts D σ H = (tbd D σ H /\ ∀ σ' cls H', E σ' cls none H' ->
  ∃ C, cls = .ref C /\ PySem.W.exmOne K (.ref C) (.ref Ca) = some true /\ ∀ ea, H' ea = none -> ts (D.un i) (σ'.set i (some (.ref ea))) (upd H' ea (excO ea C))) := rfl
theorem r_unnx {i : Nat} : (Ends.un D i).nx σ H = D.nx (σ.set i none) H := rfl
theorem r_unrt {i : Nat} {v : V} : (Ends.un D i).rt v H = D.rt v H := rfl
end
section
variable {X : Cx} {tg : Expr}
theorem items_rev {xs : List V} {its : List Value} {acc : Array Value} (rv : Vals xs its) (h : ItemsOf (fun i v => its.toArray[its.toArray.size - 1 - i]? = some v) acc its.toArray.size) : Vals xs.reverse acc.toList := by
  have hl := rv.length
  have e : acc.toList = its.reverse := by
    apply List.ext_getElem?
    intro i
    by_cases hi : i < its.length
    . have hs : acc.size = its.length := by rw [h.1, List.size_toArray]
      have := h.2 i acc[i] (by simp [hs, hi])
      rw [List.size_toArray] at this
      rw [List.getElem?_reverse hi]
      have z : its[its.length - 1 - i]? = some acc[i] := by simpa using this
      rw [z]; simp [hs, hi]
    . have hs : acc.size = its.length := by rw [h.1, List.size_toArray]
      rw [List.getElem?_eq_none (by simp; omega), List.getElem?_eq_none (by simp; omega)]
  rw [e]
  exact rv.reverse
end
end L2
namespace L2
open PySem PySem.Spec PyProof.Rows
theorem eqV_int (x y : Int) : eqV (.int x) (.int y) = decide (V.int x = V.int y) := by
  by_cases h : x = y
  . subst h; simp [eqV]
  . rw [decide_eq_false (fun z => h (by injection z))]; simp [eqV, h]
theorem EqD.ints {K : PySem.W.Frag} {H : Hp} {a c : Addr} {xs ys : List Int} (hq : (SqL K H a (xs.map V.int) /\ SqL K H c (ys.map V.int)) \/ (SqT K H a (xs.map V.int) /\ SqT K H c (ys.map V.int))) (n : Nat) : EqD K H (n + 1) (.ref a) (.ref c) (decide (xs = ys)) := by
  have := EqD.flat hq (fun x hx => by obtain ⟨_, _, rfl⟩ := mem_mapI hx; rfl) (fun x hx => by obtain ⟨_, _, rfl⟩ := mem_mapI hx; rfl) (fun x hx y hy => by obtain ⟨_, _, rfl⟩ := mem_mapI hx; obtain ⟨_, _, rfl⟩ := mem_mapI hy; exact eqV_int _ _) n
  have e : decide (xs.map V.int = ys.map V.int) = decide (xs = ys) := by
    rw [Bool.eq_iff_iff]
    simp only [decide_eq_true_eq]
    constructor
    . intro h
      exact (List.map_inj_right (fun a b h => by injection h)).mp h
    . intro h; rw [h]
  rw [e] at this
  exact this
end L2
namespace GW
end GW
namespace GW
end GW
namespace L2
open PySem PySem.Spec PyProof.Rows
def iSeq (K : PySem.W.Frag) (tl : TE) : TI := fun σ H R => tl σ H fun x H1 => ∃ a, x = .ref a /\ (((∃ xs, SqL K H1 a xs) /\ R (Itl K a) H1) \/ ((∃ xs, SqT K H1 a xs) /\ R (Itt K a) H1))
theorem r_iSeq {K : PySem.W.Frag} {te : TE} {σ : St} {H : Hp} {Z : It -> Hp -> Prop} : iSeq K te σ H Z = te σ H fun x H1 => ∃ a, x = .ref a /\ (((∃ xs, SqL K H1 a xs) /\ Z (Itl K a) H1) \/ ((∃ xs, SqT K H1 a xs) /\ Z (Itt K a) H1)) := rfl
theorem pi_seq {X : Cx} {tg l : Expr} {tl : TE} (hl : PE X l tl) : PI X tg l (iSeq X.K tl) := by
  intro pins s σ H R I h
  refine thn (hl pins s σ H _ I h) fun v s1 ⟨x, H1, I1, r1, q1⟩ => ?_
  obtain ⟨a, e, q⟩ := q1
  subst e
  cases r1
  rcases q with ⟨⟨xs, hq⟩, q⟩ | ⟨⟨xs, hq⟩, q⟩
  . obtain ⟨its, rv, p, hz⟩ := I1.list hq
    refine wpAny_pyIter_list p.isList ?_
    refine ⟨s1.heap.objs.size, [s1.heap.objs.size], _, _, H1, rfl, I1.kept (t' := s1.toks) fun b o e => Heap.get?_push_of_some _ e, turn_list a _, ⟨_, Heap.get?_push_size _ rfl, rfl, rfl⟩, fun b hb => ?_, q⟩
    have e : b = s1.heap.objs.size := by simpa using hb
    subst e
    exact I1.fpOk (Nat.le_refl _) (I1.hok.fresh (Nat.le_refl _))
  . obtain ⟨its, rv, p, hz⟩ := I1.tuple hq
    refine wpAny_pyIter_tuple (show s1.heap.IsTuple a its.toArray from p) ?_
    refine ⟨s1.heap.objs.size, [s1.heap.objs.size], _, _, H1, rfl, I1.kept (t' := s1.toks) fun b o e => Heap.get?_push_of_some _ e, turn_tuple a _, ⟨_, Heap.get?_push_size _ rfl, rfl, rfl⟩, fun b hb => ?_, q⟩
    have e : b = s1.heap.objs.size := by simpa using hb
    subst e
    exact I1.fpOk (Nat.le_refl _) (I1.hok.fresh (Nat.le_refl _))
end L2
namespace GW
end GW
namespace L2
open PySem PySem.Spec PyProof.Rows
end L2
namespace L2
open PySem PySem.Spec PyProof.Rows
theorem call_isinstK {X : Cx} {K : PySem.W.Frag} (hK : X.K = K) : CallR X (.builtin "isinstance") (fun xs H Q => ∃ x c cv t b, xs = [x, c] /\ TyW K H x t /\ (∀ u, RelV c u -> u = cv) /\ PySem.W.kitOne K t cv = some b /\ Q (.bl b) H) := by
  subst hK
  exact call_isinstW
end L2
namespace L2
open PySem PySem.Spec PyProof.Rows
section
variable {X : Cx} {K : PySem.W.Frag}
theorem ix_tupK (h : X.K = K) : IxR X (rIxT K) := by subst h; exact ix_tup
theorem ix_listK (h : X.K = K) : IxR X (rIxL K) := by subst h; exact ix_list
theorem call_len_seqK (h : X.K = K) : CallR X (.builtin "len") (fun xs H Q => ∃ p ys, xs = [.ref p] /\ (SqL K H p ys \/ SqT K H p ys) /\ Q (.int ys.length) H) := by subst h; exact call_len_seq
end
end L2
set_option Elab.async false
set_option linter.all false
set_option maxRecDepth 100000
set_option maxHeartbeats 4000000
namespace GW
def stepW (ways : List (List Int)) (r x : Int) : Int := (ways.getD r.toNat []).getD x.toNat 0
end GW
namespace L2
open PySem PySem.Spec PyProof.Rows GW
theorem atI_end {α : Type} {xs : List α} {v : α} (h : xs[xs.length - 1]? = some v) : atI xs (-1) = some v := by
  have hlt := (List.getElem?_eq_some_iff.mp h).1
  unfold atI ixN
  rw [if_neg (by omega), if_pos (by omega)]
  show xs[(-1 + (xs.length : Int)).toNat]? = some v
  rw [show (-1 + (xs.length : Int)).toNat = xs.length - 1 by omega]
  exact h
theorem atI_int {ns : List Int} {i : Int} {v : Int} (h0 : 0 <= i) (h : ns[i.toNat]? = some v) : atI (ns.map V.int) i = some (V.int v) := atI_of h0 (by rw [List.getElem?_map, h]; rfl)
end L2
namespace L2
open PySem PySem.Spec PyProof.Rows GW
theorem seqT_off {K : PySem.W.Frag} {H : Hp} {p t : Addr} {xs ys zs : List V} (hp : H p = some (.lst zs)) (h : SqT K H t xs) : SqT K (upd H p (.lst ys)) t xs := by
  rcases h with (q | ⟨o, q⟩) | q
  . refine .inl (.inl ?_)
    rw [upd_ne (fun z => by rw [z, hp] at q; cases q)]; exact q
  . refine .inl (.inr ⟨o, ?_⟩)
    rw [upd_ne (fun z => by rw [z, hp] at q; cases q)]; exact q
  . exact .inr q
end L2
set_option Elab.async false
set_option linter.all false
set_option maxRecDepth 100000
set_option maxHeartbeats 4000000
namespace PySem
open Sem (wp)
open AutoSeq1 (wpAny_loadPart')
section
variable {prog : Program} {w : World} {A : Around} {E : Value -> Shared -> Prop} {s : Shared}
theorem newT {l : List Value} {Q : Value -> Shared -> Prop} (hl : l.length <= sizeLine) (h : ∀ h', s.heap.push { cls := .type "tuple", data := .seq l.toArray } = h' -> Q (.ref s.heap.objs.size) { s with heap := h' }) : wpAny (model prog w) A (newTuple l) Q E s := wpAny_newTuple (h _ rfl)
theorem psh {h h' : Heap} {o : Obj} (q : h.push o = h') (ho : o.isFreed = false) : (∀ c u, h.get? c = some u -> h'.get? c = some u) /\ h'.get? h.objs.size = some o /\ h'.objs.size = h.objs.size + 1 := by
  subst q
  exact ⟨fun c u x => Heap.get?_push_of_some _ x, Heap.get?_push_size _ ho, Heap.size_push ..⟩
theorem nextOf_tup {it l : Addr} {i : Nat} {items : Array Value} {Q : Value -> Shared -> Prop} (hit : s.heap.IsTupleIter it l i) (hl : s.heap.IsTuple l items)
    (hQ : ∀ x h', items[i]? = some x -> h'.IsTupleIter it l (i + 1) -> Heap.SameBut it s.heap h' -> Q x { s with heap := h' })
    (hE : items[i]? = none -> A.handled = none /\ ∀ h' e, Heap.ExtBut it s.heap h' -> (∃ o, h'.get? e = some o /\ o.cls = .type "StopIteration") -> E (.ref e) { s with heap := h' }) : wpAny (model prog w) A (Builtin.SmallTypes.nextOf (.ref it)) Q E s := by
  obtain ⟨⟨c, dc, da, sl⟩, ho, hc, hd⟩ := id hit
  obtain ⟨⟨c', dc', da', sl'⟩, hol, hc', nl, hdl⟩ := hl
  replace hc : c = _ := hc; replace hd : da = _ := hd; replace hc' : c' = _ := hc'; replace hdl : da' = _ := hdl
  subst hc hd hc' hdl
  have e1 := F.slot_tuple_iterator_next
  unfold Builtin.SmallTypes.nextOf
  refine wpAny_bind (wpAny_callSpecial?_slot hit.typeIs e1 (wpAny_call_entry e1 hit.typeIs F.entry_tuple_iterator_next ?_ (F.args_tuple_iterator_next_1 _)))
  wp_walk
  cases hx : items[i]? with
  | some x =>
    simp only [Int.toNat_natCast, hx]
    wp_walk
    exact ⟨x, rfl, wpAny_pure (hQ x _ hx ⟨_, Heap.get?_update_self _ ho (by simp [Obj.mapFields, Obj.isFreed]), rfl, by simp [Obj.mapFields, rawInt]⟩ (Heap.SameBut.update ..))⟩
  | none =>
    obtain ⟨hh, hE⟩ := hE hx
    have h1 : A.in1.handled = none := hh
    simp only [Int.toNat_natCast, hx]
    wp_walk
    unfold raiseNew
    wp_walk
    exact hE _ _ (((Heap.SameBut.update ..).extBut.push _).push _) ⟨_, Heap.get?_push_size _ rfl, rfl⟩
end
end PySem
namespace L2
open PySem PySem.Spec PyProof.Rows
section
variable {X : Cx} {pins : List (Addr × Obj)} {σ : St} {H : Hp} {s : Shared}
theorem FpOk.ch {b : Addr} (f : FpOk X pins H b) : (b ∈ X.ex \/ X.s₀.heap.objs.size <= b) /\ b ≠ X.env.locals /\ (∀ x c, X.env.cells.lookup x = some c -> c ≠ b) /\ ∀ p ∈ X.pn ++ pins, p.1 ≠ b := ⟨f.2.2.2.1, f.2.1, f.2.2.2.2.1, f.2.2.2.2.2⟩
end
theorem r_gTup {K : PySem.W.Frag} {n : Nat} {t : TGs} {v : V} {σ : St} {H : Hp} {N : St -> Hp -> Prop} : gTup K n t v σ H N = ∃ a xs, v = .ref a /\ SqT K H a xs /\ xs.length = n /\ t xs σ H N := rfl
theorem r_gCons {t : TG} {u : TGs} {vs : List V} {σ : St} {H : Hp} {N : St -> Hp -> Prop} : gCons t u vs σ H N = ∃ v r, vs = v :: r /\ t v σ H fun σ' H' => u r σ' H' N := rfl
theorem r_gNil {vs : List V} {σ : St} {H : Hp} {N : St -> Hp -> Prop} : gNil vs σ H N = (vs = [] /\ N σ H) := rfl
section
variable {td ty tv tx : TE} {D : Ends} {σ : St} {H : Hp} {Q : VK}
end
end L2
namespace HT
open PySem PySem.Spec PyProof.Rows
section
open PySem.SeqAt PySem.MeetsSeq PySem.MeetsSeq2 PySem.MeetsSeq3
open PySem.AutoSeq1 (wpAny_loadPart')
end
end HT
namespace L2
open PySem PySem.Spec PyProof.Rows
end L2
set_option Elab.async false
set_option linter.all false
set_option maxRecDepth 100000
set_option maxHeartbeats 4000000
namespace GW
def addRow (w : List Int) : List (Int × List Int) -> Nat -> List Int -> List (Int × List Int)
  | ents, _, [] => ents
  | ents, x, g :: r => addRow w (if g ∈ ents.map (·.1) then ents else ents ++ [(g, w ++ [(x : Int)])]) (x + 1) r
def bfs (ways : List (List Int)) : Nat -> List (Int × List Int) -> Nat -> List (Int × List Int)
  | 0, ents, _ => ents
  | f + 1, ents, i => match ents[i]? with
    | none => ents
    | some e => bfs ways f (addRow e.2 ents 0 (ways.getD e.1.toNat [])) (i + 1)
def wordsIn (ways : List (List Int)) : List (Int × List Int) := bfs ways (ways.length + 1) [(0, [])] 0
end GW
namespace L2
open PySem PySem.Spec PyProof.Rows GW
end L2
namespace L2
end L2
namespace L2
open PySem PySem.Spec PyProof.Rows
def ups (n : Nat) : List Int := (List.range n).map fun i : Nat => (i : Int)
end L2
namespace L2
open PySem PySem.Spec PyProof.Rows
def rNeD (K : PySem.W.Frag) (n : Nat) : R2 := fun x y H Q => ∃ a c b, x = .ref a /\ y = .ref c /\ EqD K H n x y b /\ Q (.bl (!b)) H
theorem r_neD {K : PySem.W.Frag} {n : Nat} {x y : V} {H : Hp} {Q : VK} : rNeD K n x y H Q = ∃ a c b, x = .ref a /\ y = .ref c /\ EqD K H n x y b /\ Q (.bl (!b)) H := rfl
theorem op_neD {X : Cx} (n : Nat) (hu : X.A.units + n < cLine) : OpR X (compareOp .NotEq) (rNeD X.K n) := by
  intro pins s σ H x y v u Q I rx ry h
  obtain ⟨a, c, b, rfl, rfl, h, q⟩ := h
  cases rx
  cases ry
  cases n with
  | zero => exact absurd (show false = true from h.1) Bool.false_ne_true
  | succ n =>
    rcases h with ⟨fx, _⟩ | ⟨a', c', xs, ys, e1, e2, hq, e, he, rfl⟩
    . exact absurd (show false = true from fx) Bool.false_ne_true
    . cases e1
      cases e2
      have key : ∀ (its its2 : List Value), Vals xs its -> Vals ys its2 -> ∀ j (h1 : j < its.toArray.size) (h2 : j < its2.toArray.size), SeqAt.EqAt X.A.in1 s its.toArray[j] its2.toArray[j] (e j) := fun its its2 r1 r2 j h1 h2 => by
        have l1 := r1.length
        have l2 := r2.length
        rw [List.size_toArray] at h1 h2
        obtain ⟨u1, g1, q1⟩ := r1.get (i := j) (x := xs[j]'(by omega)) (by simp [show j < xs.length by omega])
        obtain ⟨u2, g2, q2⟩ := r2.get (i := j) (x := ys[j]'(by omega)) (by simp [show j < ys.length by omega])
        have k1 : its.toArray[j]'(by rw [List.size_toArray]; exact h1) = u1 := by
          have := (List.getElem?_eq_some_iff.mp g1).2
          simpa using this
        have k2 : its2.toArray[j]'(by rw [List.size_toArray]; exact h2) = u2 := by
          have := (List.getElem?_eq_some_iff.mp g2).2
          simpa using this
        rw [k1, k2]
        exact (EqD.at I n X.A.in1 (by rw [in1_units]; omega) q1 q2 (he j _ _ (by simp [show j < xs.length by omega]) (by simp [show j < ys.length by omega]))).1
      have fin : EP X pins σ Q (.bool (!(decide (xs.length = ys.length) && (List.range (min xs.length ys.length)).all e))) s := ⟨.bl _, H, I, rfl, q⟩
      rcases hq with ⟨h1, h2⟩ | ⟨h1, h2⟩
      . obtain ⟨its, r1, p1, _⟩ := I.list h1
        obtain ⟨its2, r2, p2, _⟩ := I.list h2
        have l1 := r1.length
        have l2 := r2.length
        by_cases hl : xs.length = ys.length
        . have := SeqAt.RcNeAt.lists (e := e) p1.isList p2.isList (by rw [List.size_toArray, List.size_toArray]; omega) (by omega) (key its its2 r1 r2)
          rw [List.size_toArray, <- l1] at this
          rw [decide_eq_true hl, Bool.true_and, <- hl, Nat.min_self] at fin
          exact this _ _ _ _ fin
        . have := SeqAt.RcNeAt.lists_lengths (A := X.A) p1.isList p2.isList (by rw [List.size_toArray, List.size_toArray]; simp; omega) (by omega)
          rw [decide_eq_false hl, Bool.false_and] at fin
          exact this _ _ _ _ fin
      . obtain ⟨its, r1, p1, _⟩ := I.tuple h1
        obtain ⟨its2, r2, p2, _⟩ := I.tuple h2
        have l1 := r1.length
        have l2 := r2.length
        have := SeqAt.RcNeAt.tuples (e := e) (show s.heap.IsTuple a its.toArray from p1) (show s.heap.IsTuple c its2.toArray from p2) (by omega) (key its its2 r1 r2)
        rw [List.size_toArray, List.size_toArray, <- l1, <- l2, all_and] at this
        exact this _ _ _ _ fin
end L2
namespace L2
open PySem PySem.Spec PyProof.Rows
end L2
namespace L2
open PySem PySem.Spec PyProof.Rows
end L2
namespace GW
end GW
namespace L2
end L2
namespace L2
open PySem GW
end L2
namespace GW
end GW
namespace L2
open PySem GW
end L2
namespace GW
end GW
set_option Elab.async false
set_option linter.all false
set_option maxRecDepth 100000
set_option maxHeartbeats 4000000
namespace L2
open PySem PySem.Spec PyProof.Rows
end L2
namespace HT
open PySem PyProof.Rows
section
open PySem.SeqAt
open PySem.AutoSeq1 (wpAny_loadPart')
open PySem.MeetsSeq PySem.MeetsSeq2 PySem.MeetsSeq3
end
end HT
namespace L2
open PySem PySem.Spec PyProof.Rows
end L2
namespace L2
end L2
namespace GW
end GW
set_option Elab.async false
set_option linter.all false
set_option maxRecDepth 100000
set_option maxHeartbeats 4000000
namespace L2
open PySem PySem.Spec PyProof.Rows
end L2
namespace L2
open PySem PySem.Spec PyProof.Rows
def rng (i j : Int) : List Int := (List.range (j - i).toNat).map fun k : Nat => i + (k : Int)
end L2
namespace GW
open L2
end GW
namespace GW
end GW
namespace GW
open L2
end GW
namespace L2
open PySem PySem.Spec PyProof.Rows GW
end L2
namespace L2
end L2
namespace L2
end L2
namespace L2
open PySem PySem.Spec PyProof.Rows GW
end L2
namespace GW
end GW
namespace GW
open L2
end GW
set_option Elab.async false
set_option linter.all false
set_option maxRecDepth 100000
set_option maxHeartbeats 4000000
namespace GW
open L2
end GW
set_option Elab.async false
set_option linter.all false
set_option maxRecDepth 100000
set_option maxHeartbeats 4000000
namespace PySem
open Sem (wp)
section
variable {prog : Program} {w : World} {A : Around} {E : Value -> Shared -> Prop} {s : Shared} {d it : Addr} {es : Array DictEntry} {i ep : Nat}
end
end PySem
namespace L2
open PySem PySem.Spec PyProof.Rows
section
variable {X : Cx} {pins : List (Addr × Obj)} {σ : St} {H : Hp} {s : Shared} {a : Addr}
end
end L2
namespace HT
open PySem PyProof.Rows
section
open PySem.SeqAt
open PySem.AutoSeq1 (wpAny_loadPart')
open PySem.MeetsSeq PySem.MeetsSeq2 PySem.MeetsSeq3
end
end HT
namespace L2
open PySem PySem.Spec PyProof.Rows
end L2
set_option Elab.async false
set_option linter.all false
set_option maxRecDepth 100000
set_option maxHeartbeats 4000000
namespace GB
open GW
variable {α : Type} [DecidableEq α]
def walkF (step : α -> Int -> α) (a : α) (ws : List Int) : α := ws.foldl step a
structure B (L : Int) (step : α -> Int -> α) (st : α) (ok : α -> Prop) (ents : List (α × List Int)) (i : Nat) (top : Int) : Prop where
  hd : ents[0]? = some (st, [])
  il : i <= ents.length
  sh : ∀ (j : Nat) (e : α × List Int), ents[j]? = some e -> e.2.length <= j
  nod : (ents.map (·.1)).Nodup
  rng : ∀ e ∈ ents, ok e.1
  wd : ∀ e ∈ ents, isW L e.2 = true /\ walkF step st e.2 = e.1
  inc : ∀ (j k : Nat) (a b : α × List Int), j < k -> ents[j]? = some a -> ents[k]? = some b -> place L a.2 < place L b.2
  bnd : ∀ e ∈ ents, place L e.2 < top
  don : ∀ j, j < i -> ∀ e, ents[j]? = some e -> ∀ x : Int, 0 <= x -> x < L -> ∃ e' ∈ ents, e'.1 = step e.1 x /\ place L e'.2 <= place L (e.2 ++ [x])
variable {L : Int} {step : α -> Int -> α} {st : α} {ok : α -> Prop} {ents : List (α × List Int)} {i : Nat} {top : Int}
def walkR (ways : List (List Int)) (r : Int) (ws : List Int) : Int := ws.foldl (stepW ways) r
end GB
namespace L2
open PySem PySem.Spec PyProof.Rows GW GB
end L2
namespace L2
end L2
namespace GB
open GW
end GB
set_option Elab.async false
set_option linter.all false
set_option maxRecDepth 100000
set_option maxHeartbeats 4000000
namespace GB
open GW
end GB
namespace L2
open GW
end L2
namespace L2
open PySem PySem.Spec PyProof.Rows GW
end L2
namespace GW
end GW
namespace L2
open PySem GW
end L2
set_option Elab.async false
set_option linter.all false
set_option maxRecDepth 100000
set_option maxHeartbeats 4000000
namespace L2
open PySem PySem.Spec PyProof.Rows
theorem cf_cell : ∀ (names : List (Str × NameKind)) (h : Heap) (acc : List (Str × Addr)) (x : Str) (c : Addr), (cellsFrom h.objs.size names acc).lookup x = some c -> ((pushCells h names).IsCell c none /\ h.objs.size <= c) \/ acc.lookup x = some c
  | [], _, _, _, _, e => .inr e
  | (y, k) :: r, h, acc, x, c, e => by
    unfold cellsFrom at e
    unfold pushCells
    by_cases hk : (k == .cell) = true
    . rw [if_pos hk] at e ⊢
      have e' : (cellsFrom (h.push { cls := .type "cell", data := .cell none }).objs.size r ((y, h.objs.size) :: acc)).lookup x = some c := by rw [Heap.size_push]; exact e
      rcases cf_cell r _ _ x c e' with ⟨a, b⟩ | q
      . rw [Heap.size_push] at b
        exact .inl ⟨a, Nat.le_of_succ_le b⟩
      . rw [List.lookup_cons] at q
        cases hx : x == y with
        | true =>
          rw [hx] at q
          have : h.objs.size = c := Option.some.inj q
          subst this
          exact .inl ⟨⟨_, pushCells_keeps _ _ _ _ (Heap.get?_push_size _ rfl), rfl⟩, Nat.le_refl _⟩
        | false => rw [hx] at q; exact .inr q
    . rw [if_neg hk] at e ⊢
      exact cf_cell r h acc x c e
theorem cf_cases : ∀ (names : List (Str × NameKind)) (n : Nat) (acc : List (Str × Addr)) (x : Str) (c : Addr), (cellsFrom n names acc).lookup x = some c -> n <= c \/ acc.lookup x = some c
  | [], _, _, _, _, e => .inr e
  | (y, k) :: r, n, acc, x, c, e => by
    unfold cellsFrom at e
    by_cases hk : (k == .cell) = true
    . rw [if_pos hk] at e
      rcases cf_cases r _ _ x c e with b | q
      . exact .inl (Nat.le_of_succ_le b)
      . rw [List.lookup_cons] at q
        cases hx : x == y with
        | true => rw [hx] at q; have : n = c := Option.some.inj q; exact .inl (Nat.le_of_eq this)
        | false => rw [hx] at q; exact .inr q
    . rw [if_neg hk] at e
      exact cf_cases r n acc x c e
theorem cf_inj : ∀ (names : List (Str × NameKind)) (n : Nat) (acc : List (Str × Addr)), (∀ x y c, acc.lookup x = some c -> acc.lookup y = some c -> x = y) -> (∀ x c, acc.lookup x = some c -> c < n) -> ∀ x y c, (cellsFrom n names acc).lookup x = some c -> (cellsFrom n names acc).lookup y = some c -> x = y
  | [], _, _, hi, _, x, y, c, e1, e2 => hi x y c e1 e2
  | (z, k) :: r, n, acc, hi, hb, x, y, c, e1, e2 => by
    unfold cellsFrom at e1 e2
    by_cases hk : (k == .cell) = true
    . rw [if_pos hk] at e1 e2
      refine cf_inj r (n + 1) ((z, n) :: acc) (fun x y c h1 h2 => ?_) (fun x c h => ?_) x y c e1 e2
      . rw [List.lookup_cons] at h1 h2
        cases hx : x == z with
        | true =>
          cases hy : y == z with
          | true => rw [beq_iff_eq.mp hx, beq_iff_eq.mp hy]
          | false =>
            rw [hx] at h1; rw [hy] at h2
            have e : n = c := Option.some.inj h1
            exact absurd (hb y c h2) (by rw [<- e]; exact Nat.lt_irrefl _)
        | false =>
          cases hy : y == z with
          | true =>
            rw [hx] at h1; rw [hy] at h2
            have e : n = c := Option.some.inj h2
            exact absurd (hb x c h1) (by rw [<- e]; exact Nat.lt_irrefl _)
          | false => rw [hx] at h1; rw [hy] at h2; exact hi x y c h1 h2
      . rw [List.lookup_cons] at h
        cases hx : x == z with
        | true => rw [hx] at h; have e : n = c := Option.some.inj h; rw [<- e]; exact Nat.lt_succ_self _
        | false => rw [hx] at h; exact Nat.lt_succ_of_lt (hb x c h)
    . rw [if_neg hk] at e1 e2
      exact cf_inj r n acc hi hb x y c e1 e2
theorem cf_keep : ∀ (names : List (Str × NameKind)) (n : Nat) (acc : List (Str × Addr)) (x : Str), (∀ p ∈ names, p.1 = x -> p.2 ≠ .cell) -> (cellsFrom n names acc).lookup x = acc.lookup x
  | [], _, _, _, _ => rfl
  | (y, k) :: r, n, acc, x, h => by
    unfold cellsFrom
    by_cases hk : (k == .cell) = true
    . rw [if_pos hk, cf_keep r _ _ x fun p hp => h p (List.mem_cons_of_mem _ hp), List.lookup_cons]
      cases hx : x == y with
      | true => exact absurd (beq_iff_eq.mp hk) (h (y, k) List.mem_cons_self (beq_iff_eq.mp hx).symm)
      | false => rfl
    . rw [if_neg hk]
      exact cf_keep r n acc x fun p hp => h p (List.mem_cons_of_mem _ hp)
theorem newEnv_cells {M : Model} {A : Around} {E : Value -> Shared -> Prop} {s : Shared} {sc : Scope} {globals : Addr} {cl : List (Str × Addr)} {qual : Str} {outer : Env} {Q : Env -> Shared -> Prop}
    (hQ : Q { scope := sc, locals := s.heap.objs.size, globals, cells := cellsFrom (s.heap.objs.size + 1) sc.names cl, qual, func := none, code := outer.code, frame := outer.frame, builtins := outer.builtins } { s with heap := pushCells (s.heap.push { cls := .type "dict", data := .dict #[] }) sc.names }) :
    wpAny M A (newFunctionEnv sc globals cl [] qual none .none (some outer)) Q E s := by
  simp only [newFunctionEnv, Option.isSome_some, if_true]
  refine wpAny_bind (wpAny_alloc (wpAny_bind (wpAny_layCells _ (fun name kind cells => by cases hkc : kind == NameKind.cell <;> simp [hkc]) _ _ _ _ ?_)))
  rw [show ({ s with heap := s.heap.push { cls := .type "dict", data := .dict #[] } } : Shared).heap.objs.size = s.heap.objs.size + 1 from Heap.size_push ..]
  refine wpAny_bind ?_
  rw [List.forIn_nil]
  exact wpAny_pure (wpAny_pure hQ)
abbrev ownC (X : Cx) (sc : Scope) (C : Addr) : List (Str × Addr) := cellsFrom (C + 1) sc.names (clOf X.env sc.names [])
abbrev Cx.blkC (X : Cx) (N : List Str) (sc : Scope) (C : Addr) (s₀ : Shared) (H₀ : Hp) (ex : List Addr) : Cx :=
  { X with N := N, env := compEnvC sc (ownC X sc C) C X.env, outer := X.stack, s₀ := s₀, H₀ := H₀, ex := ex, fn := fun x => sc.names.lookup x == some .cell, pn := [], xe := fun _ _ => False }
theorem clOf_free {env : Env} : ∀ (l : List (Str × NameKind)) (acc : List (Str × Addr)) (x : Str) (c : Addr), (x, c) ∈ clOf env l acc -> (x, NameKind.free) ∈ l \/ (x, c) ∈ acc
  | [], _, _, _, h => .inr h
  | (n, k) :: r, acc, x, c, h => by
    unfold clOf at h
    by_cases hk : (k == .free) = true
    . rw [if_pos hk] at h
      rcases clOf_free r _ x c h with q | q
      . exact .inl (List.mem_cons_of_mem _ q)
      . rcases List.mem_cons.mp q with q | q
        . cases q
          rw [beq_iff_eq.mp hk]
          exact .inl List.mem_cons_self
        . exact .inr q
    . rw [if_neg hk] at h
      rcases clOf_free r _ x c h with q | q
      . exact .inl (List.mem_cons_of_mem _ q)
      . exact .inr q
structure BlkScC (X : Cx) (sc : Scope) : Prop where
  kind : sc.kind = .function
  one : ∀ y ∈ sc.names, ∀ z ∈ sc.names, y.1 = z.1 -> y.2 = z.2
  loc : ∀ y ∈ sc.names, y.2 = .local -> sc.names.lookup y.1 = some .local
  free : ∀ y ∈ sc.names, y.2 = .free -> X.env.kindOf y.1 = some .cell \/ X.env.kindOf y.1 = some .free
section
variable {X : Cx} {pins : List (Addr × Obj)} {σ : St} {H : Hp} {s : Shared} {sc : Scope} {fp : List Addr}
theorem blkC_cells (I : Inv X pins σ H s) (S : BlkScC X sc) : ∀ p ∈ sc.names, p.2 = .free -> ∃ c, X.env.cells.lookup p.1 = some c := fun p hp e => I.ok.has p.1 (S.free p hp e)
theorem blkC_old (I : Inv X pins σ H s) (S : BlkScC X sc) {x : Str} {c : Addr} (h : (clOf X.env sc.names []).lookup x = some c) : X.env.cells.lookup x = some c :=
  clOf_mem sc.names [] (blkC_cells I S) (fun q hq => by cases hq) (x, c) (PySem.mem_of_lookup h)
theorem blkC_cases {C : Addr} (I : Inv X pins σ H s) (S : BlkScC X sc) {x : Str} {c : Addr} (h : (ownC X sc C).lookup x = some c) : C + 1 <= c \/ X.env.cells.lookup x = some c := by
  rcases cf_cases _ _ _ _ _ h with q | q
  . exact .inl q
  . exact .inr (blkC_old I S q)
theorem relabel_kindC {env : Env} : ∀ {names : List (Str × NameKind)} {x : Str} {k : NameKind}, (names.map (relF env)).lookup x = some k -> (k = .cell \/ k = .free) -> (x, NameKind.free) ∈ names \/ names.lookup x = some .cell
  | [], _, _, h, _ => by simp at h
  | (n, k') :: r, x, k, h, hk => by
    have ih := @relabel_kindC env r x k
    rw [List.map_cons] at h
    rw [List.lookup_cons]
    by_cases hb : (k' == NameKind.free && env.scope.kind == .function && env.kindOf n == some .cell) = true
    . rw [relF_yes hb, List.lookup_cons] at h
      cases hx : x == n with
      | true =>
        have e : x = n := by simpa using hx
        subst e
        have e2 : k' = .free := by
          simp only [Bool.and_eq_true] at hb
          simpa using hb.1.1
        subst e2
        exact .inl List.mem_cons_self
      | false =>
        rw [hx] at h
        rcases ih h hk with q | q
        . exact .inl (List.mem_cons_of_mem _ q)
        . exact .inr q
    . rw [relF_no hb, List.lookup_cons] at h
      cases hx : x == n with
      | true =>
        rw [hx] at h
        have e : x = n := by simpa using hx
        subst e
        have e2 : k' = k := Option.some.inj h
        subst e2
        rcases hk with rfl | rfl
        . exact .inr rfl
        . exact .inl List.mem_cons_self
      | false =>
        rw [hx] at h
        rcases ih h hk with q | q
        . exact .inl (List.mem_cons_of_mem _ q)
        . exact .inr q
theorem blkC_ok {N : List Str} {C : Addr} (I : Inv X pins σ H s) (S : BlkScC X sc) (hC : s.heap.objs.size <= C) (hf : ∀ b ∈ fp, FpOk X pins H b) (ho : ∀ b ∈ fp, ∃ o, s.heap.get? b = some o) : (X.blkC N sc C s H fp).Ok where
  mod := I.ok.mod
  kind := S.kind
  glob := I.ok.glob
  blt := I.ok.blt
  above := hC
  inj := fun x y c h1 h2 => by
    refine cf_inj sc.names (C + 1) (clOf X.env sc.names []) (fun x y c h1 h2 => I.ok.inj x y c (blkC_old I S h1) (blkC_old I S h2)) (fun x c h => ?_) x y c h1 h2
    obtain ⟨v, q⟩ := I.cell x c (blkC_old I S h)
    exact Nat.lt_succ_of_lt (Nat.lt_of_lt_of_le q.lt hC)
  has := fun x hx => by
    have hx' : (x, NameKind.free) ∈ sc.names \/ sc.names.lookup x = some .cell := by
      rcases hx with hx | hx
      . exact relabel_kindC (env := X.env) hx (.inl rfl)
      . exact relabel_kindC (env := X.env) hx (.inr rfl)
    refine Option.isSome_iff_exists.mp (PySem.W.cellsFrom_some sc.names (C + 1) (clOf X.env sc.names []) ?_)
    rcases hx' with q | q
    . obtain ⟨c, hc⟩ := clOf_has (env := X.env) sc.names [] x (.inl q)
      obtain ⟨c', e⟩ := lookup_some_of_mem hc
      exact .inr (by rw [e]; rfl)
    . exact .inl q
  cab := fun x c h e => by
    have hx : sc.names.lookup x = some .cell := by simpa using h
    rcases cf_cases _ _ _ _ _ e with q | q
    . exact Nat.le_trans hC (Nat.le_of_succ_le q)
    . rcases clOf_free _ _ _ _ (PySem.mem_of_lookup q) with z | z
      . have := S.one _ (PySem.mem_of_lookup hx) _ z rfl
        cases this
      . cases z
  hd := I.ok.hd
  frames := I.ok.frames
  stk := .inl rfl
  exf := fun b hb => by
    obtain ⟨o, ho⟩ := ho b hb
    refine ⟨Nat.ne_of_lt (Nat.lt_of_lt_of_le (Heap.lt_size ho) hC), fun x c h => ?_⟩
    rcases blkC_cases I S h with q | q
    . intro z; rw [z] at q; exact absurd (Nat.lt_of_lt_of_le (Heap.lt_size ho) hC) (Nat.not_lt_of_le (Nat.le_of_succ_le q))
    . exact (hf b hb).2.2.2.2.1 x c q
  bs := I.bs
  bsz := Nat.le_trans I.ok.bsz I.sz
  noex := fun b o e hb => by
    rcases (hf b hb).2.2.2.1 with z | z
    . exact I.ok.noex b o e z
    . exact absurd (Nat.lt_of_lt_of_le (Heap.lt_size (I.ok.bs b o e).1) z) (Nat.lt_irrefl _)
  exfs := fun b hb z => by
    rcases List.mem_cons.mp (I.stkSub b z) with e | e
    . exact (hf b hb).2.1 e
    . exact (hf b hb).2.2.1 e
  funs := I.stack
  frf := I.stkFree
theorem blkC_start {c : Caps} {C : Addr} {s4 : Shared} {m : Str -> Option Value} (I : Inv X pins σ H s) (S : BlkScC X sc) (hc : CapsOk X.N sc c) (hC : s.heap.objs.size <= C) (hf : ∀ b ∈ fp, FpOk X pins H b) (ho : ∀ b ∈ fp, ∃ o, s.heap.get? b = some o)
    (hos : s4.os = s.os) (hb : s4.gens = s.gens) (hk : ∀ b o, s.heap.get? b = some o -> s4.heap.get? b = some o) (hn : s4.heap.Ns C m)
    (hcl : ∀ x c, (ownC X sc C).lookup x = some c -> (s4.heap.IsCell c none /\ C + 1 <= c) \/ (clOf X.env sc.names []).lookup x = some c) : Inv (X.blkC c.names sc C s H fp) [] (c.st σ) H s4 where
  ok := blkC_ok I S hC hf ho
  os := hos
  bare := by rw [hb]; exact I.bare
  base := Un.kept hk
  loc := by
    refine ⟨m, hn, fun i x v h1 h2 hv => ?_⟩
    have h1' : (c.map (·.1))[i]? = some x := h1
    have h2' : (c.map fun p => p.2.bind fun j => (σ[j]?).join)[i]? = some (some v) := h2
    rw [List.getElem?_map] at h1' h2'
    cases e : c[i]? with
    | none => rw [e] at h1'; cases h1'
    | some p =>
      obtain ⟨y, oj⟩ := p
      rw [e] at h1' h2'
      have e1 : y = x := Option.some.inj h1'
      subst e1
      have e2 : (oj.bind fun j => (σ[j]?).join) = some v := Option.some.inj h2'
      cases oj with
      | none => cases e2
      | some j =>
        have e3 : (σ[j]?).join = some v := e2
        have e4 : σ[j]? = some (some v) := by
          cases q : σ[j]? with
          | none => rw [q] at e3; cases e3
          | some z => rw [q] at e3; exact congrArg some e3
        obtain ⟨k1, k2⟩ := CapsOk.get hc e
        have kmem := PySem.mem_of_lookup k2
        have k3 : X.env.kindOf y = some .cell \/ X.env.kindOf y = some .free := S.free (y, .free) kmem rfl
        have vis : Vis X.env.scope y := by
          rcases k3 with k | k
          . exact .inr (.inl k)
          . exact .inr (.inr k)
        obtain ⟨mX, hnX, hl⟩ := I.loc
        obtain ⟨u, r, l⟩ := hl j y v k1 e4 vis
        refine ⟨u, r, ?_⟩
        rcases l with ⟨k, _⟩ | ⟨_, ca, hca, z⟩
        . rcases k3 with k' | k' <;> (rw [k] at k'; cases k')
        . obtain ⟨kd, hkd, ek⟩ := relabel_free (env := X.env) k2
          have hk2 : (compEnvC sc (ownC X sc C) C X.env).kindOf y = some kd := ek
          obtain ⟨c', hc'⟩ := clOf_has (env := X.env) sc.names [] y (.inl kmem)
          obtain ⟨c2, hc2⟩ := lookup_some_of_mem hc'
          have e5 := blkC_old I S hc2
          rw [hca] at e5
          have e6 : ca = c2 := Option.some.inj e5
          subst e6
          have e7 : (ownC X sc C).lookup y = some ca := by
            rw [cf_keep sc.names (C + 1) _ y fun p hp ep z => ?_]
            . exact hc2
            . have := S.one p hp (y, .free) kmem ep
              rw [z] at this; cases this
          refine .inr ⟨?_, ca, e7, ?_⟩
          . rcases hkd with rfl | rfl
            . exact .inl hk2
            . exact .inr hk2
          . obtain ⟨oc, hoc, hd⟩ := z
            exact ⟨oc, hk _ _ hoc, hd⟩
  cell := fun x ca h => by
    rcases hcl x ca h with ⟨q, _⟩ | q
    . exact ⟨_, q⟩
    . obtain ⟨v, oc, hoc, hd⟩ := I.cell x ca (blkC_old I S q)
      exact ⟨v, oc, hk _ _ hoc, hd⟩
  free := I.hok.fresh hC
  freeC := fun x ca h => by
    rcases hcl x ca h with ⟨_, q⟩ | q
    . exact I.hok.fresh (Nat.le_trans hC (Nat.le_of_succ_le q))
    . exact I.freeC x ca (blkC_old I S q)
  pin := fun p hp => absurd (show p ∈ ([] : List (Addr × Obj)) from hp) (by simp)
  hok := I.hok.kept hk
  len := by show (c.map _).length = (c.map _).length; rw [List.length_map, List.length_map]
theorem blkC_end {c : Caps} {C D : Addr} {s' : Shared} {σ' : St} {H' : Hp} {o : HO} (I : Inv X pins σ H s) (J : Inv (X.blkC c.names sc C s H fp) [] σ' H' s') (hf : ∀ b ∈ fp, FpOk X pins H b) (hD : s.heap.objs.size <= D) (hn : H' D = none)
    (new : ObjOk X.prog X.w (upd H' D o) s'.heap D o) : Inv X pins σ (upd H' D o) s' := by
  have u : Un (frs X.stack) fp H H' s.heap s'.heap := J.base
  exact I.call' J.os (u.track hD hn) (J.hok.track hn new) J.bare fun b hb => ⟨(hf b hb).2.2.2.1, (hf b hb).2.1, (hf b hb).2.2.2.2.1, (hf b hb).2.2.2.2.2⟩
end
section
variable {X : Cx} {tg iter elt : Expr} {ifs : List Expr} {sc : Scope} {pos : Pos} {wi : TI} {cp : Caps} {g : TG} {tc : TT} {te : TE}
theorem comp_coreC (hc : X.calm = true) (S : BlkScC X sc) (hcp : CapsOk X.N sc cp)
    (hg : ∀ C s₀ H₀ ex, PG (X.blkC cp.names sc C s₀ H₀ ex) tg g) (hf : ∀ C s₀ H₀ ex, PF (X.blkC cp.names sc C s₀ H₀ ex) ifs tc) (he : ∀ C s₀ H₀ ex, PE (X.blkC cp.names sc C s₀ H₀ ex) elt te)
    {pins : List (Addr × Obj)} {σ : St} {H : Hp} {s : Shared} {J : It} {it : Addr} {fp : List Addr} {tn : Nat -> Heap -> Prop} {Q : VK} {RR : Value -> Addr -> Result -> Shared -> Prop} {E : Value -> Shared -> Prop}
    (I : Inv X pins σ H s) (T : Turn X.prog X.w X.K tg J fp it tn) (st : tn 0 s.heap) (fpo : ∀ b ∈ fp, FpOk X pins H b)
    (hw : ∃ W : Nat -> Nat -> List V -> St -> Hp -> Prop, (∃ m, W 0 m [] (cp.st σ) H) /\ ∀ i m ys σ' H', W i m ys σ' H' ->
      ys.length < sizeLine /\ ((J.stop i H' /\ ∀ D, H' D = none -> Q (.ref D) (upd H' D (.lst ys))) \/ (J.go i H' /\ ∃ N : List V -> St -> Hp -> Prop, (∀ zs σ2 H2, N zs σ2 H2 -> ∃ m', m' < m /\ W (i + 1) m' zs σ2 H2) /\ ∀ x H2, J.yld i H' x H2 -> g x σ' H2 fun σ2 H3 => tc σ2 H3 fun b H4 =>
        if b = true then te σ2 H4 fun v H5 => N (ys ++ [v]) σ2 H5 else N ys σ2 H4)))
    (hR : ∀ D C s' H' (m : Str -> Option Value), Inv X pins σ H' s' -> Q (.ref D) H' -> s'.heap.Ns C m -> H' C = none -> C ≠ X.env.locals -> X.s₀.heap.objs.size <= C -> (∀ x c, X.env.cells.lookup x = some c -> c ≠ C) -> (∀ p ∈ X.pn ++ pins, p.1 ≠ C) -> RR (.ref D) C (.ok .next) s') :
    wpAny (model X.prog X.w) X.A (newList []) (fun acc s₃ => wpAny (model X.prog X.w) X.A (newFunctionEnv sc X.env.globals (clOf X.env sc.names []) [] X.env.qual none .none (some X.env)) (fun cenv s₄ =>
      codeAny (model X.prog X.w) X.A (.compStart (.ListComp elt [⟨tg, iter, ifs, 0⟩] sc pos) 0 (.ref it) acc { cenv with scope := relabel sc X.env }) (RR acc cenv.locals) s₄) E s₃) E s := by
  obtain ⟨W, ⟨m0, w0⟩, turn⟩ := hw
  refine wpAny_newObj_type (newEnv_cells ?_)
  dsimp only
  generalize hH2 : s.heap.push { cls := .type "list", dict := none, data := .seq ([] : List Value).toArray } = H2
  obtain ⟨h₁, hh₁⟩ : ∃ h₁, h₁ = pushCells (H2.push { cls := .type "dict", data := .dict #[] }) sc.names := ⟨_, rfl⟩
  rw [<- hh₁]
  have hcells : ∀ x c, (ownC X sc H2.objs.size).lookup x = some c -> (h₁.IsCell c none /\ H2.objs.size + 1 <= c) \/ (clOf X.env sc.names []).lookup x = some c := fun x c e => by
    have := cf_cell sc.names (H2.push { cls := .type "dict", data := .dict #[] }) (clOf X.env sc.names []) x c (by rw [Heap.size_push]; exact e)
    rw [Heap.size_push] at this
    rw [hh₁]; exact this
  have hns₁ : h₁.Ns H2.objs.size (fun _ => none) := by rw [hh₁]; exact (Heap.Ns.new H2 (.type "dict")).keeps (pushCells_keeps _ _)
  have keep₁ : ∀ b o, H2.get? b = some o -> h₁.get? b = some o := fun b o e => by rw [hh₁]; exact pushCells_keeps _ _ b o (Heap.get?_push_of_some _ e)
  have hC : H2.objs.size = s.heap.objs.size + 1 := by rw [<- hH2, Heap.size_push]
  have hDC : s.heap.objs.size ≠ H2.objs.size := by rw [hC]; exact Nat.ne_of_lt (Nat.lt_succ_self _)
  have hCle : s.heap.objs.size <= H2.objs.size := by rw [hC]; exact Nat.le_succ _
  have below : ∀ b, b < s.heap.objs.size -> b ≠ H2.objs.size := fun b hb => by rw [hC]; exact Nat.ne_of_lt (Nat.lt_succ_of_lt hb)
  have old : ∀ b o, s.heap.get? b = some o -> h₁.get? b = some o := fun b o e => keep₁ b o (hH2 ▸ Heap.get?_push_of_some _ e)
  have hacc : h₁.get? s.heap.objs.size = some { cls := .type "list", data := .seq ([] : List Value).toArray 0 } := keep₁ _ _ (hH2 ▸ Heap.get?_push_size _ rfl)
  have hst₁ : tn 0 h₁ := T.keep 0 _ _ st fun b _ o e => old b o e
  have hobj : ∀ b ∈ fp, ∃ o, s.heap.get? b = some o := fun b hb => let ⟨o, e, _⟩ := T.obj 0 _ st b hb; ⟨o, e⟩
  have J0 : Inv (X.blkC cp.names sc H2.objs.size s H fp) [] (cp.st σ) H { s with heap := h₁ } := blkC_start I S hcp hCle fpo hobj rfl rfl old hns₁ hcells
  have nfs : ∀ b, s.heap.objs.size <= b -> b ∉ frs X.stack := fun b hb z => by
    rcases List.mem_cons.mp (I.stkSub b z) with e | e
    . exact absurd (Nat.lt_of_lt_of_le I.lt (by rw [<- e]; exact hb)) (Nat.lt_irrefl _)
    . exact I.nofs hb e
  have ncell : ∀ b, s.heap.objs.size <= b -> ∀ x c, X.env.cells.lookup x = some c -> c ≠ b := fun b hb x c e z => by
    obtain ⟨v, q⟩ := I.cell x c e
    exact absurd (Nat.lt_of_lt_of_le q.lt (by rw [z]; exact hb)) (Nat.lt_irrefl _)
  have fpb : ∀ {pins' : List (Addr × Obj)} {H' : Hp}, (∀ b ∈ fp, H' b = none) -> (∀ p ∈ pins', p.1 ∉ fp) -> ∀ b ∈ fp, FpOk (X.blkC cp.names sc H2.objs.size s H fp) pins' H' b := fun {pins' H'} hn hp b hb => by
    obtain ⟨o, e⟩ := hobj b hb
    refine ⟨hn b hb, below b (Heap.lt_size e), fun z => ?_, .inl hb, fun x c h => (by
      rcases blkC_cases I S h with q | q
      . intro z; rw [z] at q; exact absurd (Heap.lt_size e) (Nat.not_lt_of_le (Nat.le_trans hCle (Nat.le_of_succ_le q)))
      . exact (fpo b hb).2.2.2.2.1 x c q), fun p hp' z => ?_⟩
    . rcases List.mem_cons.mp (I.stkSub b z) with e | e
      . exact (fpo b hb).2.1 e
      . exact (fpo b hb).2.2.1 e
    . have hp'' : p ∈ pins' := by simpa using hp'
      exact hp p hp'' (by rw [z]; exact hb)
  have loop : ∀ s₃ : Shared, s₃ = { s with heap := h₁ } ->
      codeAny (model X.prog X.w) X.A (.compLoop (.ListComp elt [⟨tg, iter, ifs, 0⟩] sc pos) 0 (.ref it) (.ref s.heap.objs.size) (compEnvC sc (ownC X sc H2.objs.size) H2.objs.size X.env))
        (RR (.ref s.heap.objs.size) H2.objs.size) s₃ := by
    rintro s₃ rfl
    refine compLoop_gen (fun n s' => ∃ i σ' H' ys its k, Inv (X.blkC cp.names sc H2.objs.size s H fp) [] σ' H' s' /\ tn i s'.heap /\ (∀ b ∈ fp, H' b = none) /\ H' s.heap.objs.size = none /\
      s'.heap.get? s.heap.objs.size = some { cls := .type "list", data := .seq its.toArray k } /\ Vals ys its /\ W i n ys σ' H') ?_ m0
      ⟨0, _, H, [], [], 0, J0, hst₁, fun b hb => (fpo b hb).1, I.hok.fresh (Nat.le_refl _), hacc, .nil, w0⟩
    rintro n s3 ⟨i, σ3, H3, ys, its, k, I3, st3, fr3, hD3, e3, rv, w3⟩
    obtain ⟨hz, tr⟩ := turn i n ys σ3 H3 w3
    have hlen := rv.length
    -- the accumulator stands still while anything else runs
    have dpin : ∀ p ∈ [(s.heap.objs.size, ({ cls := .type "list", data := .seq its.toArray k } : Obj))], p.1 ∉ fp := fun p hp z => by
      have e : p = _ := List.mem_singleton.mp hp
      subst e
      obtain ⟨o, e⟩ := hobj _ z
      exact absurd (Heap.lt_size e) (Nat.lt_irrefl _)
    have I3' : Inv (X.blkC cp.names sc H2.objs.size s H fp) [(s.heap.objs.size, ({ cls := .type "list", data := .seq its.toArray k } : Obj))] σ3 H3 s3 := I3.pins_of fun p hp => by
      have e : p = _ := List.mem_singleton.mp hp
      subst e
      exact ⟨e3, hD3, hDC, nfs _ (Nat.le_refl _), fun v z => by cases z⟩
    have stat : ∀ b ∈ fp, FpOk (X.blkC cp.names sc H2.objs.size s H fp) [(s.heap.objs.size, ({ cls := .type "list", data := .seq its.toArray k } : Obj))] H3 b := fpb fr3 dpin
    rcases tr with ⟨stop, qn⟩ | ⟨go, N, hN, step⟩
    . refine thn (T.done (X.blkC cp.names sc H2.objs.size s H fp) rfl rfl rfl hc i _ s3 σ3 H3 _ I3' stat st3 stop) fun r s4 ⟨hr, I4⟩ => ?_
      subst hr
      obtain ⟨e4, n4, _⟩ := I4.pin (s.heap.objs.size, ({ cls := .type "list", data := .seq its.toArray k } : Obj)) (by simp)
      have new : ObjOk X.prog X.w (upd H3 s.heap.objs.size (.lst ys)) s4.heap s.heap.objs.size (.lst ys) := ⟨Nat.le_of_lt hz, its, k, rv, e4⟩
      obtain ⟨mC, hnC, _⟩ := I4.loc
      have I4' : Inv (X.blkC cp.names sc H2.objs.size s H fp) [] σ3 H3 s4 := I4.pins_of fun p hp => by cases hp
      have I5 := blkC_end I I4' fpo (Nat.le_refl _) n4 new
      refine hR _ _ s4 _ mC I5 (qn _ n4) hnC ?_ (Nat.ne_of_gt (Nat.lt_of_lt_of_le I.lt hCle)) (Nat.le_trans I.sz hCle) (ncell _ hCle) fun p hp z => ?_
      . rw [upd_ne (Ne.symm hDC)]; exact I4.free
      . exact absurd (Nat.lt_of_lt_of_le (Heap.lt_size (I.pin p hp).1) (by rw [z]; exact hCle)) (Nat.lt_irrefl _)
    . refine thn (T.item (X.blkC cp.names sc H2.objs.size s H fp) rfl rfl rfl hc i _ s3 σ3 H3 _ I3' stat st3 go) fun r s4 ⟨u, hr, h4⟩ => ?_
      subst hr
      refine thn h4 fun _ s5 ⟨x, H5, I5, r5, y5, st5, fr5⟩ => ?_
      have I5' := I5.pinned (fpb fr5 dpin) (T.obj _ _ st5)
      have fin : ∀ {σ7 : St} {H7 : Hp} {s7 : Shared}, Inv (X.blkC cp.names sc H2.objs.size s H fp) ([(s.heap.objs.size, ({ cls := .type "list", data := .seq its.toArray k } : Obj))] ++ pinsAt fp s5.heap) σ7 H7 s7 ->
          s7.heap.get? s.heap.objs.size = some { cls := .type "list", data := .seq its.toArray k } /\ H7 s.heap.objs.size = none /\ (∀ b ∈ fp, H7 b = none) /\ ∀ b ∈ fp, ∀ o, s5.heap.get? b = some o -> s7.heap.get? b = some o := fun {σ7 H7 s7} I7 => by
        obtain ⟨e7, n7, _⟩ := I7.pin (s.heap.objs.size, ({ cls := .type "list", data := .seq its.toArray k } : Obj)) (by simp)
        refine ⟨e7, n7, fun b hb => ?_, fun b hb o e => ?_⟩
        . obtain ⟨o, e, _⟩ := T.obj _ _ st5 b hb
          exact (I7.pin (b, o) (List.mem_append_right _ (List.mem_append_right _ (mem_pinsAt hb e)))).2.1
        . exact (I7.pin (b, o) (List.mem_append_right _ (List.mem_append_right _ (mem_pinsAt hb e)))).1
      refine wpAny_mono (hg _ _ _ _ _ s5 σ3 H5 x u _ I5' r5 (step x H5 y5)) (fun _ s6 ⟨σ6, H6, I6, q6⟩ => ?_) fun _ _ z => False.elim z
      refine wpAny_mono (hf _ _ _ _ _ s6 σ6 H6 _ I6 q6) (fun ok s7 ⟨H7, I7, q7⟩ => ?_) fun _ _ z => False.elim z
      cases ok with
      | false =>
        rw [if_neg Bool.false_ne_true]
        rw [if_neg Bool.false_ne_true] at q7
        obtain ⟨m', hm, w7⟩ := hN _ _ _ q7
        obtain ⟨e7, n7, fr7, k7⟩ := fin I7
        exact ⟨m', hm, i + 1, σ6, H7, ys, its, k, I7.pins_of (fun p hp => by cases hp), T.keep _ _ _ st5 k7, fr7, n7, e7, rv, w7⟩
      | true =>
        rw [if_pos rfl]
        rw [if_pos rfl] at q7
        refine wpAny_mono (he _ _ _ _ _ s7 σ6 H7 _ I7 q7) (fun v s8 ⟨y, H8, I8, r8, q8⟩ => ?_) fun _ _ z => False.elim z
        obtain ⟨m', hm, w8⟩ := hN _ _ _ q8
        obtain ⟨e8, n8, fr8, k8⟩ := fin I8
        refine call_meets F.slot_list_append ⟨_, e8, rfl⟩ F.entry_list_append (F.args_list_append_2 _ _) (PySem.list_append s.heap.objs.size its.toArray k v (by rw [List.size_toArray]; omega)) ⟨e8, ?_⟩
        obtain ⟨k', q⟩ : ∃ k', (s8.heap.update s.heap.objs.size (Obj.mapSeq fun x => x.push v)).get? s.heap.objs.size = some { cls := .type "list", data := .seq (its ++ [v]).toArray k' } := ⟨_, by
          have q := PySem.IsL.update e8 fun x => x.push v
          have e : (its ++ [v]).toArray = its.toArray.push v := by simp
          rw [e]
          exact q⟩
        have I8' : Inv (X.blkC cp.names sc H2.objs.size s H fp) [] σ6 H8 s8 := I8.pins_of fun p hp => by cases hp
        have I9 : Inv (X.blkC cp.names sc H2.objs.size s H fp) [] σ6 H8 { s8 with heap := s8.heap.update s.heap.objs.size (Obj.mapSeq fun x => x.push v), toks := s8.toks } :=
          I8'.turned (it := s.heap.objs.size) (fun b o hb e => (Heap.get?_update_other _ _ (Ne.symm hb)).trans e) n8 hDC (.inr (Nat.le_refl _)) (fun x c e => by
            rcases blkC_cases I S e with q | q
            . intro z; rw [z] at q; exact absurd (Nat.le_trans q hCle) (Nat.not_succ_le_self _)
            . exact ncell _ (Nat.le_refl _) x c q) (fun p hp => by cases hp)
        refine ⟨m', hm, i + 1, σ6, H8, ys ++ [y], its ++ [v], k', I9, T.keep (i + 1) s5.heap _ st5 (fun b hb o e => ?_), fr8, n8, q, rv.append (.cons r8 .nil), w8⟩
        . refine (Heap.get?_update_other _ _ ?_).trans (k8 b hb o e)
          intro z
          obtain ⟨ob, eb⟩ := hobj b hb
          exact absurd (Heap.lt_size eb) (by rw [<- z]; exact Nat.lt_irrefl _)
  exact codeAny_compStart_list (loop _ rfl) (T.self _ 0 _ _ _ hst₁ (loop _ rfl))
theorem pe_compC (hc : X.calm = true) (S : BlkScC X sc) (hcp : CapsOk X.N sc cp) (hi : PI X tg iter wi)
    (hg : ∀ C s₀ H₀ ex, PG (X.blkC cp.names sc C s₀ H₀ ex) tg g) (hf : ∀ C s₀ H₀ ex, PF (X.blkC cp.names sc C s₀ H₀ ex) ifs tc) (he : ∀ C s₀ H₀ ex, PE (X.blkC cp.names sc C s₀ H₀ ex) elt te)
    (hs : ∀ x, foldedSetIterable iter X.env x = pure x := by intro _; rfl) : PE X (.ListComp elt [⟨tg, iter, ifs, 0⟩] sc pos) (tComp wi cp g tc te) := by
  intro pins s σ H Q I h
  rw [eval_ListComp]
  refine wpAny_comprehension_free (use := none) rfl hs (closure_eq (blkC_cells I S)) S.kind S.loc (thn (hi pins s σ H _ I h) fun xv s₁ h₁ => thn h₁ fun itv s₂ h₂ => ?_)
  obtain ⟨it, fp, tn, J, H2, e, I2, T, st2, f2, hw⟩ := h₂
  subst e
  refine comp_coreC (RR := fun acc C => compPost (model X.prog X.w) X.A X.xe none (EP X pins σ Q) acc C) hc S hcp hg hf he I2 T st2 f2 hw ?_
  intro D C s' H' m I' q hn hC hL hz hcl hp
  exact ⟨m, hn, fun h' hs' => ⟨.ref D, H', I'.turned (t' := s'.toks) (it := C) (fun b o hb e => hs'.extBut b o hb e) hC hL (.inr hz) hcl hp, rfl, q⟩⟩
end
def blkOkC (outer : List (Str × NameKind)) (sc : Scope) : Bool :=
  sc.kind == .function && sc.names.all (fun y => (y.2 != .local || sc.names.lookup y.1 == some .local) && (y.2 != .free || outer.lookup y.1 == some .cell || outer.lookup y.1 == some .free) && sc.names.all fun z => y.1 != z.1 || y.2 == z.2)
theorem blkC_mk {X : Cx} {sc : Scope} (h : blkOkC X.env.scope.names sc = true) : BlkScC X sc := by
  unfold blkOkC at h
  rw [Bool.and_eq_true, List.all_eq_true] at h
  obtain ⟨h1, h2⟩ := h
  refine ⟨by simpa using h1, fun y hy z hz e => ?_, fun y hy z => ?_, fun y hy z => ?_⟩
  . have := h2 y hy
    simp only [Bool.and_eq_true, List.all_eq_true] at this
    have := this.2 z hz
    rw [e] at this
    simpa using this
  . have := h2 y hy
    simp only [Bool.and_eq_true] at this
    have := this.1.1
    rw [z] at this
    simpa using this
  . have := h2 y hy
    simp only [Bool.and_eq_true] at this
    have := this.1.2
    rw [z] at this
    have t : (X.env.scope.names.lookup y.1 == some .cell || X.env.scope.names.lookup y.1 == some .free) = true := by simpa using this
    rw [Bool.or_eq_true] at t
    rcases t with t | t
    . exact .inl (by show X.env.scope.names.lookup y.1 = some .cell; simpa using t)
    . exact .inr (by show X.env.scope.names.lookup y.1 = some .free; simpa using t)
end L2
namespace L2
open PySem PySem.Spec PyProof.Rows GW GB
end L2
namespace GB
open GW
end GB
set_option Elab.async false
set_option linter.all false
set_option maxRecDepth 100000
set_option maxHeartbeats 4000000
namespace L2
open PySem PySem.Spec PyProof.Rows GW
end L2
namespace L2
open PySem PySem.Spec PyProof.Rows GW
theorem Inv.unL {X : Cx} {pins : List (Addr × Obj)} {σ : St} {H : Hp} {s : Shared} {h' : Heap} {fp : List Addr} (I : Inv X pins σ H s) (k : ∀ b o, b ∉ fp -> s.heap.get? b = some o -> h'.get? b = some o) (f : ∀ b ∈ fp, FpOk X pins H b) : Un (frs X.stack) fp H H s.heap h' /\ HOk X.prog X.w H h' := by
  have ne : ∀ b u, H b = some u -> b ∉ fp := fun b u q hb => by rw [(f b hb).1] at q; cases q
  refine ⟨⟨fun b o q _ _ hb => k b o hb q, fun b o q _ _ hb => ⟨o.slots, k b o hb q⟩, fun _ _ _ n _ => n, fun b o q hb => ⟨o, k b o hb q⟩, fun _ _ q => q, fun _ _ _ q => q, fun b ps q => ⟨#[], by rw [q]; simp⟩⟩, fun b u q => ?_⟩
  refine (I.hok b u q).stay (fun c v hc qv => ?_) (fun _ q => q) fun _ _ q => q
  have hne : c ∉ fp := by
    rcases hc with rfl | hc
    . exact ne _ _ q
    . exact ne _ _ hc
  exact k c v hne qv
end L2
namespace GW
def ins (s : List (List Int)) (w : List Int) : List (List Int) := if w ∈ s then s else s ++ [w]
end GW
namespace L2
open PySem PySem.Spec PyProof.Rows GW
def wkey (w : List Int) : List Key := w.map Sum.inl
end L2
set_option Elab.async false
set_option linter.all false
set_option maxRecDepth 100000
set_option maxHeartbeats 4000000
namespace L2
open PySem PySem.Spec PyProof.Rows
section
variable {M : Model} {A : Around} {E : Value -> Shared -> Prop} {s : Shared}
end
section
variable {X : Cx} {N : List Str} {sc : Scope} {C : Addr} {s₀ : Shared} {H₀ : Hp} {ex : List Addr} {xe : Value -> Shared -> Prop} {pins : List (Addr × Obj)} {σ : St} {H : Hp} {s : Shared}
end
section
variable {X : Cx} {tg iter elt : Expr} {ifs : List Expr} {sc : Scope} {pos : Pos} {wi : TI} {cp : Caps} {g : TG} {tc : TT} {te : TE}
end
end L2
set_option Elab.async false
set_option linter.all false
set_option maxRecDepth 100000
set_option maxHeartbeats 4000000
namespace PySem.W
open PySem PySem.Calls PyProof.Rows PyProof.V PySem.Spec
section
variable {prog : Program} {w : World} {A : Around} {E : Value -> Shared -> Prop} {s : Shared}
end
section
variable {prog : Program} {w : World} {A : Around} {E : Value -> Shared -> Prop} {s : Shared} {r d : Addr} {es : Array DictEntry} {ep : Nat} {od : Obj}
end
end PySem.W
set_option Elab.async false
set_option linter.all false
set_option maxRecDepth 100000
set_option maxHeartbeats 4000000
namespace L2
open PySem PySem.Spec PyProof.Rows
end L2
set_option Elab.async false
set_option linter.all false
set_option maxRecDepth 100000
set_option maxHeartbeats 4000000
namespace L2
open PySem PySem.Spec PyProof.Rows
theorem pe_gc {X : Cx} {x : Str} {n : Int} {pos : Pos} (hg : Gl X x) (hm : ∃ t, X.mg x = some (.int n t)) (hd : (x == ("__debug__" : Str)) = false := by decide) : PE X (.Name x pos) (tC (.int n)) := by
  obtain ⟨t, hm⟩ := hm
  exact pe_glob hg hm ⟨_, rfl⟩ hd
section
variable {K : PySem.W.Frag} {ta tv td ty tx : TE} {t : TA} {f m : Str} {σ : St} {H : Hp} {Q : VK} {D : Ends} {C : Addr} {sp : Sp} {dvs : List V} {E : XK}
end
def ents (es : List (List Int × Int)) : List (List Key × V) := es.map fun e => (wkey e.1, V.int e.2)
end L2
set_option Elab.async false
set_option linter.all false
set_option maxRecDepth 100000
set_option maxHeartbeats 4000000
namespace L2
open PySem PySem.Spec PyProof.Rows
theorem call_sum {X : Cx} (hc : X.calm = true) : CallR X (.builtin "sum") (fun xs H Q => ∃ (p : Addr) (ns : List Int), xs = [.ref p] /\ SqL X.K H p (ns.map V.int) /\ Q (.int ns.sum) H) := by
  intro pins s σ H xs us Q I r h
  obtain ⟨p, ns, rfl, hq, q⟩ := h
  obtain ⟨u, rfl, rx⟩ := vals1 r
  cases rx
  obtain ⟨its, r', pl, _⟩ := I.list hq
  have i1 : IntsAre its ns := by simpa using intsAre_of r'
  obtain ⟨ys, e⟩ := i1.allInts.items
  have e2 := i1.numsOf
  rw [show its = its.toArray.toList from rfl, e, nums_intItems] at e2
  have hl := pl.isList
  rw [e] at hl
  refine sum_intListG (I.ok.hd hc) hl fun h' tk t' hk => ?_
  rw [preSum_eq, List.take_of_length_le (by simp), e2]
  exact ⟨.int ns.sum, H, I.kept hk, ⟨_, rfl⟩, q⟩
end L2
set_option Elab.async false
set_option linter.all false
set_option maxRecDepth 100000
set_option maxHeartbeats 4000000
namespace L2
open PySem PySem.W PySem.Spec PySem.Calls PyProof.Rows
def tTryN (K : PySem.W.Frag) (Ca : Addr) (E : St -> XK) (tb ts : TS) : TS := fun D σ H => tb D σ H /\ ∀ σ' cls H', E σ' cls none H' -> ∃ C, cls = .ref C /\ PySem.W.exmOne K (.ref C) (.ref Ca) = some true /\ ts D σ' H'
theorem r_tryN {K : PySem.W.Frag} {Ca : Addr} {E : St -> XK} {tb ts : TS} {D : Ends} {σ : St} {H : Hp} : tTryN K Ca E tb ts D σ H = (tb D σ H /\ ∀ σ' cls H', E σ' cls none H' -> ∃ C, cls = .ref C /\ PySem.W.exmOne K (.ref C) (.ref Ca) = some true /\ ts D σ' H') := rfl
theorem ps_tryN {X : Cx} {body : List Stmt} {c : Str} {Ca : Addr} {np hpos pos : Pos} {b₀ : Stmt} {suite : List Stmt} {E : St -> XK} {tb ts : TS} (hg : Gl X c) (hm : X.mg c = some (.ref Ca)) (hst : X.stack = X.env :: X.outer) (hL : X.env.frame = some X.env.locals) (hex : X.ex = [])
    (hb : ∀ xe pn, (∀ σ, PassesAt (CXe X.prog X.w) (X.body xe pn) σ (E σ)) -> PSs (X.body xe pn) body tb) (hs : ∀ ea pn, PSs (X.suite ea pn) (b₀ :: suite) ts) (hd : (c == ("__debug__" : Str)) = false := by decide) :
    PS X (.Try body [.ExceptHandler (some (.Name c np)) none (b₀ :: suite) hpos] [] [] pos) (tTryN X.K Ca E tb ts) := by
  intro pins s σ H D I h
  obtain ⟨hbody, hhand⟩ := h
  have hB := hb (fun e s' => ∃ pins' σ' H1 s1, Inv (X.body (fun _ _ => True) (X.pn ++ pins)) pins' σ' H1 s1 /\ CXe X.prog X.w X.stack H1 s1 (E σ') e s') (X.pn ++ pins) (fun σ pins' H s e s' I' hcx => ⟨pins', σ, H, s, I'.reBody, hcx⟩) [] s σ H D I.toBody hbody
  refine wpAny_Try_except (wpAny_mono hB (fun f s1 q => ?_) fun e s1 q => ?_)
  . cases f with
    | next => obtain ⟨σ1, H1, I1, q1⟩ := q; exact wpAny_execs_nil ⟨σ1, H1, I1.ofBody, q1⟩
    | brk => obtain ⟨σ1, H1, I1, q1⟩ := q; exact ⟨σ1, H1, I1.ofBody, q1⟩
    | cont => obtain ⟨σ1, H1, I1, q1⟩ := q; exact ⟨σ1, H1, I1.ofBody, q1⟩
    | ret v => obtain ⟨x1, σ1, H1, I1, r1, q1⟩ := q; exact ⟨x1, σ1, H1, I1.ofBody, r1, q1⟩
  . obtain ⟨pins', σ', H1, s2, I2, ea, cls, a0, H', B, rfl, os, bare, fl, fw, hE⟩ := q
    obtain ⟨C, rfl, hexm, hts⟩ := hhand σ' cls H' hE
    have I2' : Inv X pins σ' H1 s2 := I2.ofBody
    have fr : X.A.frames = some (X.env :: X.outer) := by rw [I.ok.frames, hst]
    have frees := fly_frees I2' fl
    have fw0 := fw
    rw [hst] at fw
    have invAt : ∀ h', Heap.FlyingW B (X.env :: X.outer) ea (.ref C) a0 h' -> s1.heap.UpToSlots h' -> Inv X pins σ' H' { s1 with heap := h' } := fun h' fw' ups => by
      have fl2 := fl.move frees fw'.1 (fun b hb o e => by
        obtain ⟨_, o', ho', nf⟩ := fw0.2.2.1.mem hb
        rw [e] at ho'; cases ho'
        exact ups b o e nf)
      exact I2'.call' (s' := { s1 with heap := h' }) os fl2.un fl2.hok bare (fun b hb => by cases hb)
    refine wpAny_looks_onW fr hL fw fun h4 held4 up4 => ?_
    refine wpAny_landsW held4 fun h5 fw5 up5 => ?_
    have I5 := invAt h5 fw5 (up4.trans up5)
    have I5m : Inv (X.suite ea (X.pn ++ pins)) [] σ' H' { s1 with heap := h5 } := I5.toSuite
    refine wpAny_handleBy_cons (codeAny_handlers_test (ld_glob (X := X.suite ea (X.pn ++ pins)) I5m hg hm ?_ hd)) (by intro q; cases q)
    have LT : PySem.W.Looks (model X.prog X.w) h5 (typeOf (.ref ea)) (.ref C) := by
      obtain ⟨ob, hob, hoc⟩ := fw5.there
      exact hoc ▸ (PySem.W.Looks.ld hob).andThen .now
    refine (PySem.W.exm_one (K := X.K) (M := model X.prog X.w) I5.kIn LT hexm) _ _ _ _ (fun b o e => e) ?_
    refine codeAny_handlers_suite ?_
    refine lands_againW fw5 fun h6 fw6 up6 => ?_
    have I6 := invAt h6 fw6 ((up4.trans up5).trans up6)
    refine wpAny_mono (hs ea (X.pn ++ pins) [] _ _ _ D I6.toSuite hts) (fun f s8 q8 => ?_) (fun _ _ z => False.elim z)
    cases f with
    | next => obtain ⟨σ8, H8, I8, q⟩ := q8; exact ⟨σ8, H8, I8.ofSuite I.ok.hd, q⟩
    | brk => obtain ⟨σ8, H8, I8, q⟩ := q8; exact ⟨σ8, H8, I8.ofSuite I.ok.hd, q⟩
    | cont => obtain ⟨σ8, H8, I8, q⟩ := q8; exact ⟨σ8, H8, I8.ofSuite I.ok.hd, q⟩
    | ret v => obtain ⟨x8, σ8, H8, I8, r8, q⟩ := q8; exact ⟨x8, σ8, H8, I8.ofSuite I.ok.hd, r8, q⟩
end L2
set_option linter.all false
namespace PrimeO
def NoDiv (p : Nat) : Prop := ∀ d, 2 <= d -> d < p -> p % d ≠ 0
theorem NoDiv.small {p k : Nat} (hp : 2 <= p) (hk : p < k * k) (h : ∀ d, 2 <= d -> d < k -> d < p -> p % d ≠ 0) : NoDiv p := by
  intro d h1 h2 h3
  by_cases hd : d < k
  . exact h d h1 hd h2 h3
  . have e : d * (p / d) = p := by have := Nat.div_add_mod p d; omega
    generalize p / d = q at e
    have hq0 : q ≠ 0 := fun z => by rw [z] at e; omega
    have hq1 : q ≠ 1 := fun z => by rw [z] at e; omega
    have hqk : q < k := by
      refine Nat.lt_of_not_le fun z => ?_
      have := Nat.mul_le_mul (Nat.le_of_not_lt hd) z
      omega
    refine h q (by omega) hqk ?_ (by rw [<- e]; exact Nat.mul_mod_left d q)
    have : 2 * q <= d * q := Nat.mul_le_mul_right q h1
    omega
def chk (p lo : Nat) : Nat -> Bool
  | 0 => (Nat.beq (Nat.mod p lo) 0).not
  | n + 1 => (chk p lo n).and (chk p (Nat.add lo (Nat.pow 2 n)) n)
theorem chk_spec (p : Nat) : ∀ (n lo : Nat), chk p lo n = true -> ∀ d, lo <= d -> d < lo + 2 ^ n -> p % d ≠ 0
  | 0, lo, h, d, h1, h2 => by
    have : d = lo := by simp at h2; omega
    subst this
    intro z
    have z' : Nat.mod p d = 0 := z
    unfold chk at h
    rw [z'] at h
    simp at h
  | n + 1, lo, h, d, h1, h2 => by
    unfold chk at h
    have h' := Bool.and_eq_true_iff.mp h
    by_cases hd : d < lo + 2 ^ n
    . exact chk_spec p n lo h'.1 d h1 hd
    . have e : lo + 2 ^ n + 2 ^ n = lo + 2 ^ (n + 1) := by rw [Nat.pow_succ]; omega
      exact chk_spec p n (lo + 2 ^ n) h'.2 d (by omega) (by omega)
theorem noDiv_chk {p n : Nat} (hp : 2 <= p) (h : chk p 2 n = true) (hk : p < (2 + 2 ^ n) * (2 + 2 ^ n)) : NoDiv p :=
  NoDiv.small hp hk fun d h1 h2 _ => chk_spec p n 2 h d h1 h2
theorem nd2 : NoDiv 2 := fun d h1 h2 => by omega
theorem nd3 : NoDiv 3 := fun d h1 h2 => by
  have : d = 2 := by omega
  subst this; decide
theorem nd5 : NoDiv 5 := noDiv_chk (n := 0) (by decide) (by decide) (by decide)
theorem nd7 : NoDiv 7 := noDiv_chk (n := 0) (by decide) (by decide) (by decide)
theorem nd65537 : NoDiv 65537 := noDiv_chk (n := 8) (by decide) (by decide +kernel) (by decide +kernel)
theorem nd998 : NoDiv 998244353 := noDiv_chk (n := 15) (by decide) (by decide +kernel) (by decide +kernel)
theorem nd2147 : NoDiv 2147483647 := noDiv_chk (n := 16) (by decide) (by decide +kernel) (by decide +kernel)
theorem pigeon : ∀ (m n : Nat) (f : Nat -> Nat), (∀ i, i < n -> f i < m) -> (∀ i j, i < j -> j < n -> f i ≠ f j) -> n <= m
  | 0, n, f, h, _ => by
    refine Nat.le_of_not_lt fun z => ?_
    exact absurd (h 0 z) (Nat.not_lt_zero _)
  | m + 1, 0, f, _, _ => Nat.zero_le _
  | m + 1, n + 1, f, h, g => by
    -- the last value is taken out: whoever has the value m takes the value of the last one
    let f' : Nat -> Nat := fun i => if f i = m then f n else f i
    refine Nat.succ_le_succ (pigeon m n f' (fun i hi => ?_) (fun i j hij hj => ?_))
    . show (if f i = m then f n else f i) < m
      by_cases e : f i = m
      . rw [if_pos e]
        have h1 := h n (by omega)
        have h2 := g i n hi (by omega)
        omega
      . rw [if_neg e]
        have := h i (by omega)
        omega
    . show (if f i = m then f n else f i) ≠ (if f j = m then f n else f j)
      have a := g i j hij (by omega)
      have b := g i n (by omega) (by omega)
      have c := g j n (by omega) (by omega)
      by_cases e : f i = m
      . rw [if_pos e]
        by_cases e' : f j = m
        . omega
        . rw [if_neg e']; omega
      . rw [if_neg e]
        by_cases e' : f j = m
        . rw [if_pos e']; exact b
        . rw [if_neg e']; exact a
theorem pow_one {q x : Int} (h : q ∣ x - 1) : ∀ n : Nat, q ∣ x ^ n - 1
  | 0 => by simp
  | n + 1 => by
    have e : x ^ (n + 1) - 1 = x ^ n * (x - 1) + (x ^ n - 1) := by
      rw [Int.pow_succ, Int.mul_sub]; omega
    rw [e]
    exact Int.dvd_add (Int.dvd_mul_of_dvd_right h) (pow_one h n)
theorem pow_odd {q x : Int} (h : q ∣ x + 1) : ∀ n : Nat, q ∣ x ^ (2 * n + 1) + 1
  | 0 => by rw [show 2 * 0 + 1 = 1 from rfl, Int.pow_succ, Int.pow_zero, Int.one_mul]; exact h
  | n + 1 => by
    have e : x ^ (2 * (n + 1) + 1) + 1 = x * x * (x ^ (2 * n + 1) + 1) - (x - 1) * (x + 1) := by
      have : x ^ (2 * (n + 1) + 1) = x * x * x ^ (2 * n + 1) := by
        rw [show 2 * (n + 1) + 1 = 2 * n + 1 + 1 + 1 from by omega, Int.pow_succ, Int.pow_succ, Int.mul_assoc, Int.mul_comm]
      rw [this, Int.mul_add, Int.mul_add, Int.sub_mul, Int.mul_one, Int.mul_one, Int.one_mul]; omega
    rw [e]
    exact Int.dvd_sub (Int.dvd_mul_of_dvd_right (pow_odd h n)) (Int.dvd_mul_of_dvd_right h)
theorem two_part : ∀ (d : Nat), 0 < d -> ∃ k m, d = 2 ^ k * (2 * m + 1) := by
  intro d
  induction d using Nat.strongRecOn with
  | ind d ih =>
    intro hd
    by_cases h : d % 2 = 0
    . obtain ⟨k, m, e⟩ := ih (d / 2) (by omega) (by omega)
      refine ⟨k + 1, m, ?_⟩
      rw [Nat.pow_succ, Nat.mul_right_comm, <- e]; omega
    . exact ⟨0, d / 2, by simp; omega⟩
theorem order {q b : Nat} {e : Nat} (hq : 3 <= q) (h : (q : Int) ∣ (b : Int) ^ (2 ^ e) + 1) : 2 ^ (e + 1) <= q := by
  have hb : Int.gcd (b : Int) q = 1 := by
    have h1 : ((Int.gcd (b : Int) q : Nat) : Int) ∣ (b : Int) := Int.gcd_dvd_left ..
    have h2 : ((Int.gcd (b : Int) q : Nat) : Int) ∣ (q : Int) := Int.gcd_dvd_right ..
    have h3 := Int.dvd_trans h2 h
    have h4 : ((Int.gcd (b : Int) q : Nat) : Int) ∣ (b : Int) ^ (2 ^ e) := by
      obtain ⟨c, hc⟩ : ∃ c, 2 ^ e = c + 1 := ⟨2 ^ e - 1, by have := Nat.two_pow_pos e; omega⟩
      rw [hc, Int.pow_succ]
      exact Int.dvd_mul_of_dvd_right h1
    have h5 : ((Int.gcd (b : Int) q : Nat) : Int) ∣ 1 := by
      have := Int.dvd_sub h3 h4
      rwa [show (b : Int) ^ (2 ^ e) + 1 - (b : Int) ^ (2 ^ e) = 1 from by omega] at this
    have := Int.le_of_dvd (by decide) h5
    have h6 : Int.gcd (b : Int) q ≠ 0 := fun z => by
      have := Int.gcd_eq_zero_iff.mp z
      omega
    omega
  refine pigeon q (2 ^ (e + 1)) (fun i => b ^ i % q) (fun i _ => Nat.mod_lt _ (by omega)) (fun i j hij hj hm => ?_)
  -- q divides b ^ (j - i) - 1
  have hm : b ^ i % q = b ^ j % q := hm
  have d1 : (q : Int) ∣ (b : Int) ^ i * ((b : Int) ^ (j - i) - 1) := by
    have e1 : (b : Int) ^ i * ((b : Int) ^ (j - i) - 1) = ((b ^ j : Nat) : Int) - ((b ^ i : Nat) : Int) := by
      rw [Int.mul_sub, <- Int.pow_add, show i + (j - i) = j from by omega, Int.mul_one, Int.natCast_pow, Int.natCast_pow]
    rw [e1]
    refine Int.dvd_of_emod_eq_zero ?_
    have : ((b ^ i : Nat) : Int) % q = ((b ^ j : Nat) : Int) % q := by exact_mod_cast hm
    exact Int.emod_eq_emod_iff_emod_sub_eq_zero.mp this.symm
  have cop : ∀ n : Nat, (Int.gcd ((b : Int) ^ n) q) = 1 := fun n => by
    induction n with
    | zero => simp
    | succ n ih => rw [Int.pow_succ, Int.gcd_mul_right_left_of_gcd_eq_one ih]; exact hb
  have d2 : (q : Int) ∣ (b : Int) ^ (j - i) - 1 := by
    refine Int.natAbs_dvd_natAbs.mp ?_
    have := Int.natAbs_dvd_natAbs.mpr d1
    rw [Int.natAbs_mul] at this
    exact Nat.Coprime.dvd_of_dvd_mul_left (show Nat.Coprime _ _ from by have := cop i; rw [Int.gcd_comm] at this; exact this) this
  obtain ⟨k, m, hd⟩ := two_part (j - i) (by omega)
  have hk : k <= e := by
    refine Nat.le_of_not_lt fun z => ?_
    have h1 : 2 ^ (e + 1) <= 2 ^ k := Nat.pow_le_pow_right (by decide) z
    have h2 : 2 ^ k * 1 <= 2 ^ k * (2 * m + 1) := Nat.mul_le_mul_left _ (by omega)
    omega
  have d3 := pow_one d2 (2 ^ (e - k))
  rw [<- Int.pow_mul, hd, show 2 ^ k * (2 * m + 1) * 2 ^ (e - k) = 2 ^ e * (2 * m + 1) from by
    rw [Nat.mul_right_comm, <- Nat.pow_add, show k + (e - k) = e from by omega], Int.pow_mul] at d3
  have d4 := pow_odd h m
  have d5 := Int.dvd_sub d4 d3
  rw [show ((b : Int) ^ 2 ^ e) ^ (2 * m + 1) + 1 - (((b : Int) ^ 2 ^ e) ^ (2 * m + 1) - 1) = 2 from by omega] at d5
  have := Int.le_of_dvd (by decide) d5
  omega
def chain (p : Nat) : List Nat -> Bool
  | [] => true
  | a :: l => match l with
    | [] => true
    | b :: _ => (Nat.beq (Nat.mod (Nat.mul a a) p) b).and (chain p l)
theorem chain_spec {p : Nat} : ∀ (l : List Nat) (a z : Nat), chain p (a :: l) = true -> (a :: l).getLast? = some z -> z < p -> a < p -> a ^ (2 ^ l.length) % p = z
  | [], a, z, _, h, _, ha => by simp at h; subst h; simp [Nat.mod_eq_of_lt ha]
  | b :: l, a, z, hc, h, hz, ha => by
    unfold chain at hc
    have hc := Bool.and_eq_true_iff.mp hc
    have e1 : a * a % p = b := Nat.eq_of_beq_eq_true hc.1
    have hb : b < p := by rw [<- e1]; exact Nat.mod_lt _ (by omega)
    have := chain_spec l b z hc.2 (by simpa using h) hz hb
    rw [List.length_cons, Nat.pow_succ, Nat.mul_comm, Nat.pow_mul, Nat.pow_two, Nat.pow_mod, e1]
    exact this
theorem proth {p b : Nat} {l : List Nat} (hc : chain p (b :: l) = true) (hl : (b :: l).getLast? = some (p - 1)) (hp : 2 <= p) (hb : b < p) (q : Nat) (hq : 3 <= q) (h : p % q = 0) : 2 ^ (l.length + 1) <= q := by
  have hs := chain_spec l b (p - 1) hc hl (by omega) hb
  generalize l.length = e at hs
  generalize hB : b ^ (2 ^ e) = B at hs
  have hd : (p : Int) ∣ (b : Int) ^ (2 ^ e) + 1 := by
    rw [<- Int.natCast_pow, hB]
    have e1 : (B + 1) % p = 0 := by
      rw [Nat.add_mod, hs]
      by_cases h1 : p = 1
      . omega
      . rw [Nat.mod_eq_of_lt (show 1 < p by omega), show p - 1 + 1 = p from by omega, Nat.mod_self]
    have := Nat.dvd_of_mod_eq_zero e1
    exact_mod_cast this
  exact order hq (Int.dvd_trans (Int.natCast_dvd_natCast.mpr (Nat.dvd_of_mod_eq_zero h)) hd)
theorem noDiv_big {p m : Nat} (big : ∀ q, 2 <= q -> p % q = 0 -> m <= q) (hm : p < m * m) : NoDiv p := by
  intro d h1 h2 h3
  have e : d * (p / d) = p := by have := Nat.div_add_mod p d; omega
  generalize p / d = q at e
  have hq0 : q ≠ 0 := fun z => by rw [z] at e; omega
  have hq1 : q ≠ 1 := fun z => by rw [z] at e; omega
  have a := big d h1 h3
  have b := big q (by omega) (by rw [<- e]; exact Nat.mul_mod_left d q)
  have := Nat.mul_le_mul a b
  omega
def tl180 : List Nat := [59049, 3486784401, 88018457703999454, 45929738478236762, 40666034766347230, 7693334418966794, 176686083274693707, 64249661930383583, 109385274370896747, 125617409189584062, 109468562634608601, 122701423696867897, 35622580771213151, 82435950289412150, 18627153503673630, 120469760524761789, 172035590580311624, 13190307153726193, 3107064753164151, 70140624860640424, 166009780229527061, 23535563731210449, 68090728368441414, 150068836334812601, 160932145882353616, 92767654578329832, 20253417367123262, 76076963643055978, 116396373174297913, 124091118791727052, 120512899165957516, 106587366619394153, 174473325657852776, 42422798089771761, 51278126999645464, 27655269229009543, 75436749302249212, 127846334706536764, 179803962838676295, 39860844515238771, 117110086334503012, 28926655053941789, 99636062047316279, 57472177291655405, 45590227996605173, 164322947671277915, 78463280652552016, 5197029465238183, 37154148892138879, 155338536803674377, 66159313984295070, 171458397805620753, 174530742592475567, 180143985094819840]
theorem nd180 : NoDiv 180143985094819841 := noDiv_big (m := 36028797018963968) (fun q hq h => by
    have h2 : q ≠ 2 := fun z => by subst z; exact absurd h (by decide +kernel)
    have := proth (p := 180143985094819841) (b := 243) (l := tl180) (by decide +kernel) (by decide +kernel) (by decide +kernel) (by decide +kernel) q (by omega) h
    rwa [show 2 ^ (tl180.length + 1) = 36028797018963968 from by decide +kernel] at this) (by decide +kernel)
def Pr (p : Int) : Prop := 2 <= p /\ p < 1000000000000000000 /\ NoDiv p.toNat
theorem pr_some : ∀ p ∈ [(2 : Int), 3, 5, 7, 65537, 998244353, 2147483647, 180143985094819841], Pr p := by
  intro p hp
  simp at hp
  rcases hp with rfl | rfl | rfl | rfl | rfl | rfl | rfl | rfl
  . exact ⟨by decide, by decide, nd2⟩
  . exact ⟨by decide, by decide, nd3⟩
  . exact ⟨by decide, by decide, nd5⟩
  . exact ⟨by decide, by decide, nd7⟩
  . exact ⟨by decide, by decide, nd65537⟩
  . exact ⟨by decide, by decide, nd998⟩
  . exact ⟨by decide, by decide, nd2147⟩
  . exact ⟨by decide, by decide, nd180⟩
end PrimeO
set_option Elab.async false
set_option linter.all false
set_option maxRecDepth 100000
set_option maxHeartbeats 4000000
namespace L2
open PySem PySem.Spec PyProof.Rows
def tCallVE2 (i : Nat) (f f' : Addr) (sp sp' : Sp) (dvs dvs' : List V) (E : St -> XK) (t : TA) : TE := fun σ H Q => tVar i σ H fun v H1 => (v = .ref f /\ t σ H1 fun vs H2 => sp (vs ++ dvs) H2 Q (E σ)) \/ (v = .ref f' /\ t σ H1 fun vs H2 => sp' (vs ++ dvs') H2 Q (E σ))
theorem r_callVE2 {i : Nat} {f f' : Addr} {sp sp' : Sp} {dvs dvs' : List V} {E : St -> XK} {t : TA} {σ : St} {H : Hp} {Q : VK} : tCallVE2 i f f' sp sp' dvs dvs' E t σ H Q = tVar i σ H fun v H1 => (v = .ref f /\ t σ H1 fun vs H2 => sp (vs ++ dvs) H2 Q (E σ)) \/ (v = .ref f' /\ t σ H1 fun vs H2 => sp' (vs ++ dvs') H2 Q (E σ)) := rfl
theorem r_iRng2 {A : TA} {σ : St} {H : Hp} {Z : It -> Hp -> Prop} : iRng2 A σ H Z = A σ H fun vs H1 => ∃ i j : Int, vs = [.int i, .int j] /\ (-(2 ^ 62) <= i /\ i < 2 ^ 62 /\ -(2 ^ 62) <= j /\ j < 2 ^ 62) /\ Z (Itr i (j - i).toNat) H1 := rfl
section
variable {X : Cx} {CX CX' : CXT} {k k' : Nat} {f f' : Addr} {fd fd' : FuncData} {ps ps' : List Str} {sp sp' : Sp} {dvs dvs' : List V} {ds ds' : List Value} {x : Str} {p pos : Pos} {e : Expr} {es : List Expr} {t : TA}
theorem pe_callVE2 {E : St -> XK} (i : Nat) (F : FnOk X.prog X.w X.K X.mg X.base CX k f fd ps sp) (hr : Room k X.A) (hk : PySem.W.keepIn X.K (.ref f) = true) (hb : Binds X.K fd ps ds) (hd : Vals dvs ds) (hx : ∀ σ, PassesAt CX X σ (E σ))
    (F' : FnOk X.prog X.w X.K X.mg X.base CX' k' f' fd' ps' sp') (hr' : Room k' X.A) (hk' : PySem.W.keepIn X.K (.ref f') = true) (hb' : Binds X.K fd' ps' ds') (hd' : Vals dvs' ds') (hx' : ∀ σ, PassesAt CX' X σ (E σ)) (ha : PA X (e :: es) t)
    (hN : X.N[i]? = some x := by rfl) (hv : Vis X.env.scope x := by first | exact Or.inl rfl | exact Or.inr (Or.inl rfl) | exact Or.inr (Or.inr rfl)) (hdb : (x == ("__debug__" : Str)) = false := by decide) (hcd : (x == ("__classdict__" : Str)) = false := by decide)
    (he : starEach (e :: es) X.env = (false, eval e X.env) :: starEach es X.env := by rfl) (hpl : (backTo pos (starEach es X.env)).any (·.1) = false := by rfl) :
    PE X (.Call (.Name x p) (e :: es) [] pos) (tCallVE2 i f f' sp sp' dvs dvs' E t) := by
  intro pins s σ H Q I h
  refine wpAny_Call_Name_kw (thn (pv i hN hv hdb hcd pins s σ H _ I h) fun u s1 ⟨v, H1, I1, rv, ev⟩ => ?_)
  rcases ev with ⟨ev, q⟩ | ⟨ev, q⟩
  . subst ev
    obtain rfl : u = Value.ref f := rv
    refine PySem.W.callWith_K (h₀ := X.base) I.ok.mod.kin hk (thn (ha pos pins s1 σ H1 _ I1 q) fun us s2 ⟨vs, H2, I2, r, q2⟩ => ⟨I2.kIn, ?_⟩) he hpl
    exact run_fnE F hr hb hd (hx σ) I2 r q2
  . subst ev
    obtain rfl : u = Value.ref f' := rv
    refine PySem.W.callWith_K (h₀ := X.base) I.ok.mod.kin hk' (thn (ha pos pins s1 σ H1 _ I1 q) fun us s2 ⟨vs, H2, I2, r, q2⟩ => ⟨I2.kIn, ?_⟩) he hpl
    exact run_fnE F' hr' hb' hd' (hx' σ) I2 r q2
end
end L2
set_option Elab.async false
set_option linter.all false
set_option maxRecDepth 100000
set_option maxHeartbeats 4000000
namespace PySem
open Sem (wp)
open PySem.F
def SqAny (t : Bool) (h : Heap) (l : Addr) (xs : Array Value) : Prop := match t with | false => h.IsList l xs | true => h.IsTuple l xs
def ItAny (t : Bool) (h : Heap) (i l : Addr) (k : Nat) : Prop := match t with | false => h.IsListIter i l k | true => h.IsTupleIter i l k
theorem SqAny.extBut {t : Bool} {h h' : Heap} {a b items} (x : SqAny t h a items) (hs : Heap.ExtBut b h h') (hab : a ≠ b) : SqAny t h' a items := by
  cases t
  . exact Heap.IsList.extBut x hs hab
  . exact Heap.IsTuple.extBut x hs hab
theorem SqAny.push {t : Bool} {h : Heap} {a items} (x : SqAny t h a items) (o : Obj) : SqAny t (h.push o) a items := by
  cases t
  . exact Heap.IsList.push x o
  . exact Heap.IsTuple.push x o
theorem SqAny.lt {t : Bool} {h : Heap} {a items} (x : SqAny t h a items) : a < h.objs.size := by
  cases t
  . obtain ⟨_, e, _⟩ := x; exact Heap.lt_size e
  . obtain ⟨_, e, _⟩ := x; exact Heap.lt_size e
theorem ItAny.extBut {t : Bool} {h h' : Heap} {a b l i} (x : ItAny t h a l i) (hs : Heap.ExtBut b h h') (hab : a ≠ b) : ItAny t h' a l i := by
  cases t
  . exact Heap.IsListIter.extBut x hs hab
  . exact Heap.IsTupleIter.extBut x hs hab
theorem ItAny.at {t : Bool} {h h' : Heap} {a l i} (x : ItAny t h a l i) (e : ∀ o, h.get? a = some o -> h'.get? a = some o) : ItAny t h' a l i := by
  cases t
  . exact Heap.IsListIter.at x e
  . exact Heap.IsTupleIter.at x e
theorem ItAny.ob {t : Bool} {h : Heap} {a l i} (x : ItAny t h a l i) : ∃ o, h.get? a = some o /\ o.data = .fields #[.ref l, .int i 0] := by
  cases t
  . obtain ⟨o, e, _, d⟩ := x; exact ⟨o, e, d⟩
  . obtain ⟨o, e, _, d⟩ := x; exact ⟨o, e, d⟩
section
variable {prog : Program} {w : World} {A : Around} {E : Value -> Shared -> Prop} {s : Shared}
theorem nextAny {t : Bool} {it l : Addr} {i : Nat} {items : Array Value} {Q : Value -> Shared -> Prop} (hit : ItAny t s.heap it l i) (hl : SqAny t s.heap l items)
    (hQ : ∀ x h', items[i]? = some x -> ItAny t h' it l (i + 1) -> Heap.SameBut it s.heap h' -> Q x { s with heap := h' })
    (hE : items[i]? = none -> A.handled = none /\ ∀ h' e, Heap.ExtBut it s.heap h' -> (∃ o, h'.get? e = some o /\ o.cls = .type "StopIteration") -> E (.ref e) { s with heap := h' }) : wpAny (model prog w) A (Builtin.SmallTypes.nextOf (.ref it)) Q E s := by
  cases t
  . cases hx : items[i]? with
    | some x => exact wpAny_nextOf_list_item hit hl hx fun h' => hQ x h' hx
    | none => exact wpAny_nextOf_list_end (hE hx).1 hit hl hx (hE hx).2
  . exact nextOf_tup hit hl hQ hE
def itCls (t : Bool) : Value := match t with | false => .type "list_iterator" | true => .type "tuple_iterator"
theorem ItAny.mk {t : Bool} {h : Heap} {a l : Addr} (g : h.get? a = some { cls := itCls t, data := .fields #[.ref l, .int 0 0] }) : ItAny t h a l 0 := by
  cases t
  . exact ⟨_, g, rfl, rfl⟩
  . exact ⟨_, g, rfl, rfl⟩
theorem wpAny_pyIter_any {t : Bool} {l : Addr} {items} {Q : Value -> Shared -> Prop} (hl : SqAny t s.heap l items)
    (hQ : Q (.ref s.heap.objs.size) { s with heap := s.heap.push { cls := itCls t, data := .fields #[.ref l, .int 0 0] } }) : wpAny (model prog w) A (pyIter (.ref l)) Q E s := by
  cases t
  . exact wpAny_pyIter_list hl hQ
  . exact wpAny_pyIter_tuple hl hQ
end
section
variable {prog : Program} {w : World} {A : Around} {E : Value -> Shared -> Prop} {s : Shared}
theorem pyIterA {t : Bool} {l : Addr} {items} {Q : Value -> Shared -> Prop} (hl : SqAny t s.heap l items) (h : ∀ h', s.heap.push { cls := itCls t, data := .fields #[.ref l, .int 0 0] } = h' -> Q (.ref s.heap.objs.size) { s with heap := h' }) : wpAny (model prog w) A (pyIter (.ref l)) Q E s := wpAny_pyIter_any hl (h _ rfl)
theorem zipN {t1 t2 : Bool} {z TI TO i1 i2 l1 l2 : Addr} {k1 k2 : Nat} {xs ys : Array Value} {a b : Value} {Q : Option Value -> Shared -> Prop} (D : ZipApart z TI TO i1 i2 l1 l2) (hz : IsZip s.heap z TI TO .none) (hTI : IsPair s.heap TI (.ref i1) (.ref i2)) (hTO : IsPair s.heap TO a b)
    (h1 : ItAny t1 s.heap i1 l1 k1) (h2 : ItAny t2 s.heap i2 l2 k2) (hl1 : SqAny t1 s.heap l1 xs) (hl2 : SqAny t2 s.heap l2 ys)
    (hQ : ∀ x y h', xs[k1]? = some x -> ys[k2]? = some y -> IsZip h' z TI TO (rawInt s.heap.objs.size) -> IsPair h' TO x y -> ItAny t1 h' i1 l1 (k1 + 1) -> ItAny t2 h' i2 l2 (k2 + 1) -> IsPair h' s.heap.objs.size x y -> h'.objs.size = s.heap.objs.size + 1 -> (∀ c o, c ≠ z -> c ≠ TO -> c ≠ i1 -> c ≠ i2 -> s.heap.get? c = some o -> h'.get? c = some o) -> Q (some (.ref s.heap.objs.size)) { s with heap := h' })
    (hN : xs[k1]? = none \/ ys[k2]? = none -> A.handled = none /\ ∀ h', (∀ c o, c ≠ z -> c ≠ TO -> c ≠ i1 -> c ≠ i2 -> s.heap.get? c = some o -> h'.get? c = some o) -> Q none { s with heap := h' }) : wpAny (model prog w) A (pyNext (.ref z)) Q E s := by
  have hT : s.TypeIs (.ref z) "zip" := ⟨_, hz, rfl⟩
  have e1 := F.slot_zip_next
  unfold pyNext
  refine wpAny_bind (wpAny_attempt (wpAny_callSpecial?_slot hT e1 (wpAny_call_entry e1 hT F.entry_zip_next ?_ (F.args_zip_next_1 _))))
  wp_walk using wpAny_setField_rec hz
  . exact Nat.lt_of_sub_eq_succ rfl
  intro u0 g0 k0
  replace g0 : IsZip u0 z TI TO .ellipsis := g0
  have m1 : ItAny t1 u0 i1 l1 k1 := h1.extBut k0.extBut D.i1z
  have m2 : SqAny t1 u0 l1 xs := hl1.extBut k0.extBut D.l1z
  simp only [List.zipIdx_cons, List.zipIdx_nil, List.forIn_cons, List.forIn_nil]
  have stop : ∀ h' (e : Addr), (∀ c o, c ≠ z -> c ≠ TO -> c ≠ i1 -> c ≠ i2 -> s.heap.get? c = some o -> h'.get? c = some o) -> IsZip h' z TI TO .ellipsis -> (∃ o, h'.get? e = some o /\ o.cls = .type "StopIteration") -> xs[k1]? = none \/ ys[k2]? = none ->
      wpAny (model prog w) A.in1 (setField (.ref z) 0 .none) (fun _ s'' => wpAny (model prog w) A (do if <- isInstance (.ref e) (.type "StopIteration") then pure none else throw (.ref e)) Q E s'') (fun e s' => wpAny (model prog w) A (do if <- isInstance e (.type "StopIteration") then pure none else throw e) Q E s') { s with heap := h' } := fun h' e kk hz' he hx => by
    obtain ⟨o, e2, e3⟩ := he
    have n : e ≠ z := fun x => by subst x; rw [hz'] at e2; cases e2; simp at e3
    refine wpAny_setField_rec hz' (Nat.lt_of_sub_eq_succ rfl) fun h2 _ k2 => wpAny_bind (wpAny_isInstance (T := "StopIteration") (b := true) ⟨o, k2.extBut e o n e2, e3⟩ isSubtype_stop (wpAny_pure ((hN hx).2 h2 fun c o n1 n2 n3 n4 q => k2.extBut c o n1 (kk c o n1 n2 n3 n4 q))))
  wp_walk using wpAny_onRaise, nextAny (A := A.in1) (s := { s with heap := u0 }) m1 m2
  . intro x u1 hx m3 k3
    have y0 : IsPair u1 TO a b := k3.extBut TO _ D.TOi1 (k0.extBut TO _ D.TOz hTO)
    wp_walk using wpAny_updateSeq_pair y0
    intro u2 y2 k4
    replace y2 : IsPair u2 TO x b := y2
    have kk : ∀ c o, c ≠ z -> c ≠ TO -> c ≠ i1 -> s.heap.get? c = some o -> u2.get? c = some o := fun c o n1 n2 n3 q => k4.extBut c o n2 (k3.extBut c o n3 (k0.extBut c o n1 q))
    have g2 : IsZip u2 z TI TO .ellipsis := k4.extBut _ _ D.TOz.symm (k3.extBut _ _ D.i1z.symm g0)
    have m4 : ItAny t2 u2 i2 l2 k2 := h2.at fun o q => kk _ o D.i2z D.TOi2.symm D.i12.symm q
    have m5 : SqAny t2 u2 l2 ys := ((hl2.extBut k0.extBut D.l2z).extBut k3.extBut D.l2i1).extBut k4.extBut D.l2TO
    wp_walk using wpAny_onRaise, nextAny (A := A.in1) (s := { s with heap := u2 }) m4 m5
    . intro y u3 hy m6 k5
      have y3 : IsPair u3 TO x b := k5.extBut TO _ D.TOi2 y2
      wp_walk using wpAny_updateSeq_pair y3
      intro u4 y4 k6
      replace y4 : IsPair u4 TO x y := y4
      have g4 : IsZip u4 z TI TO .ellipsis := k6.extBut _ _ D.TOz.symm (k5.extBut _ _ D.i2z.symm g2)
      have zz : u4.objs.size = s.heap.objs.size := k6.1.trans (k5.1.trans (k4.1.trans (k3.1.trans k0.1)))
      wp_walk using newT
      . exact (show 2 <= sizeLine from by decide)
      intro u5 q5
      have kp : ∀ c o, u4.get? c = some o -> u5.get? c = some o := fun c o q => by rw [<- q5]; exact Heap.get?_push_of_some _ q
      have g5 := kp z _ g4
      have y5 : IsPair u5 u4.objs.size x y := by rw [<- q5]; exact Heap.get?_push_size _ rfl
      have z5 : u5.objs.size = u4.objs.size + 1 := by rw [<- q5]; exact Heap.size_push ..
      wp_walk using wpAny_setField_rec g5
      . exact Nat.lt_of_sub_eq_succ rfl
      intro u6 g6 k7
      replace g6 : IsZip u6 z TI TO (rawInt u4.objs.size) := g6
      wp_walk using wpAny_setField_rec g6
      . exact Nat.lt_of_sub_eq_succ rfl
      intro u7 g7 k8
      replace g7 : IsZip u7 z TI TO (rawInt u4.objs.size) := g7
      refine wpAny_pure ⟨_, rfl, wpAny_pure ?_⟩
      show Q (some (Value.ref u4.objs.size)) _
      have up : ∀ c o, c ≠ z -> u4.get? c = some o -> u7.get? c = some o := fun c o n q => k8.extBut c o n (k7.extBut c o n (kp c o q))
      have nz : u4.objs.size ≠ z := Nat.ne_of_gt (Heap.lt_size g4)
      have y7 := k8.extBut _ _ nz (k7.extBut _ _ nz y5)
      rw [zz] at g7 y7 z5 ⊢
      exact hQ x y u7 hx hy g7 (up _ _ D.TOz y4) ((m3.at fun o q => k6.extBut _ o D.TOi1.symm (k5.extBut _ o D.i12 (k4.extBut _ o D.TOi1.symm q))).at fun o q => up _ o D.i1z q) ((m6.at fun o q => k6.extBut _ o D.TOi2.symm q).at fun o q => up _ o D.i2z q) y7 ((k8.1.trans k7.1).trans z5)
        fun c o n1 n2 n3 n4 q => up c o n1 (k6.extBut c o n2 (k5.extBut c o n4 (kk c o n1 n2 n3 q)))
    . refine fun hy => ⟨(hN (.inr hy)).1, fun u3 e k5 he => ?_⟩
      exact stop u3 e (fun c o n1 n2 n3 n4 q => k5 c o n4 (kk c o n1 n2 n3 q)) (k5 z _ D.i2z.symm g2) he (.inr hy)
  . refine fun hx => ⟨(hN (.inl hx)).1, fun u1 e k3 he => ?_⟩
    exact stop u1 e (fun c o n1 n2 n3 n4 q => k3 c o n3 (k0.extBut c o n1 q)) (k3 z _ D.i1z.symm g0) he (.inl hx)
theorem call_zip_2G {t1 t2 : Bool} {l1 l2 : Addr} {xs ys : Array Value} {Q : Value -> Shared -> Prop} (hl1 : SqAny t1 s.heap l1 xs) (hl2 : SqAny t2 s.heap l2 ys)
    (h : ∀ h', IsZip h' (s.heap.objs.size + 4) (s.heap.objs.size + 2) (s.heap.objs.size + 3) .none -> IsPair h' (s.heap.objs.size + 2) (.ref s.heap.objs.size) (.ref (s.heap.objs.size + 1)) -> IsPair h' (s.heap.objs.size + 3) .none .none -> ItAny t1 h' s.heap.objs.size l1 0 -> ItAny t2 h' (s.heap.objs.size + 1) l2 0 -> h'.objs.size = s.heap.objs.size + 5 -> (∀ c o, s.heap.get? c = some o -> h'.get? c = some o) -> Q (.ref (s.heap.objs.size + 4)) { s with heap := h' }) :
    wpAny (model prog w) A (call (.type "zip") [.ref l1, .ref l2]) Q E s := by
  have M : Meets (Builtin.«zip.__new__» ⟨[.type "zip", .ref l1, .ref l2], []⟩) fun _ R t => t = s /\ ∀ h', IsZip h' (s.heap.objs.size + 4) (s.heap.objs.size + 2) (s.heap.objs.size + 3) .none -> IsPair h' (s.heap.objs.size + 2) (.ref s.heap.objs.size) (.ref (s.heap.objs.size + 1)) -> IsPair h' (s.heap.objs.size + 3) .none .none -> ItAny t1 h' s.heap.objs.size l1 0 -> ItAny t2 h' (s.heap.objs.size + 1) l2 0 -> h'.objs.size = s.heap.objs.size + 5 -> (∀ c o, s.heap.get? c = some o -> h'.get? c = some o) -> R (.ok (.ret (.ref (s.heap.objs.size + 4)))) { s with heap := h' } := .of_wp fun prog w A R t ⟨e, q⟩ => by
    subst e
    obtain ⟨hp, g, d, tk, os⟩ := t
    have hsub := sub_zip
    wp_walk using pyIterA hl1
    intro u1 q1
    obtain ⟨a1, b1, c1⟩ := psh q1 rfl
    have hl2' : SqAny t2 u1 l2 ys := by rw [<- q1]; exact SqAny.push hl2 _
    wp_walk using pyIterA (s := ⟨u1, g, d, tk, os⟩) hl2'
    intro u2 q2
    obtain ⟨a2, b2, c2⟩ := psh q2 rfl
    wp_walk using newT
    . exact (show 2 <= sizeLine from by decide)
    intro u3 q3
    obtain ⟨a3, b3, c3⟩ := psh q3 rfl
    wp_walk using newT
    . exact (show 2 <= sizeLine from by decide)
    intro u4 q4
    obtain ⟨a4, b4, c4⟩ := psh q4 rfl
    wp_walk
    refine ⟨_, rfl, ?_⟩
    have Z1 : u1.objs.size = hp.objs.size + 1 := c1
    have Z2 : u2.objs.size = hp.objs.size + 2 := (show u2.objs.size = u1.objs.size + 1 from c2).trans (by rw [Z1])
    have Z3 : u3.objs.size = hp.objs.size + 3 := (show u3.objs.size = u2.objs.size + 1 from c3).trans (by rw [Z2])
    have Z4 : u4.objs.size = hp.objs.size + 4 := (show u4.objs.size = u3.objs.size + 1 from c4).trans (by rw [Z3])
    obtain ⟨a5, b5, c5⟩ := psh (rfl : u4.push { cls := .type "zip", data := .fields #[.none, .bool false, .bool false, .ref u2.objs.size, .ref u3.objs.size] } = _) rfl
    replace b1 : u1.get? hp.objs.size = _ := b1
    replace b2 : u2.get? u1.objs.size = _ := b2
    replace b3 : IsPair u3 u2.objs.size (.ref hp.objs.size) (.ref u1.objs.size) := b3
    replace b4 : IsPair u4 u3.objs.size .none .none := b4
    show R (.ok (.ret (.ref u4.objs.size))) ⟨u4.push { cls := .type "zip", data := .fields #[.none, .bool false, .bool false, .ref u2.objs.size, .ref u3.objs.size] }, g, d, tk, os⟩
    rw [Z1, Z2] at b3
    rw [Z1] at b2
    rw [Z3] at b4
    rw [Z2, Z3, Z4] at b5
    rw [Z2, Z3] at a5 c5 ⊢
    rw [Z4] at c5 ⊢
    exact q _ b5 (a5 _ _ (a4 _ _ b3)) (a5 _ _ b4) (ItAny.mk (a5 _ _ (a4 _ _ (a3 _ _ (a2 _ _ b1))))) (ItAny.mk (a5 _ _ (a4 _ _ (a3 _ _ b2)))) c5 fun c o x => a5 _ _ (a4 _ _ (a3 _ _ (a2 _ _ (a1 _ _ x))))
  exact callType_new F.called_zip (by decide) (F.typeCall_zip_2 _ _) (F.newCall_zip_2 _ _) (fun obj => F.args_object_init_3 obj _ _) F.entry_zip_new M ⟨rfl, fun h' a b c d e f g => ⟨⟨_, a, rfl⟩, h h' a b c d e f g⟩⟩
end
end PySem
set_option Elab.async false
set_option linter.all false
set_option maxRecDepth 100000
set_option maxHeartbeats 4000000
namespace PySem
section
variable {prog : Program} {w : World} {A : Around} {E : Value -> Shared -> Prop} {s : Shared}
end
section
variable {prog : Program} {w : World} {s : Shared}
end
end PySem
set_option Elab.async false
set_option linter.all false
set_option maxRecDepth 100000
set_option maxHeartbeats 4000000
namespace L2
open PySem PySem.Spec PyProof.Rows GW
def SqB (K : PySem.W.Frag) (H : Hp) (t : Bool) (a : Addr) (xs : List V) : Prop := match t with | false => SqL K H a xs | true => SqT K H a xs
theorem SqB.mono {K : PySem.W.Frag} {H H' : Hp} {t : Bool} {a : Addr} {xs : List V} (h : SqB K H t a xs) (s : Same H H') : SqB K H' t a xs := by
  cases t
  . exact s.seq h
  . exact s.seqT h
theorem Inv.seqB {X : Cx} {pins : List (Addr × Obj)} {σ : St} {H : Hp} {s : Shared} {t : Bool} {a : Addr} {xs : List V} (I : Inv X pins σ H s) (h : SqB X.K H t a xs) : ∃ its : List Value, Vals xs its /\ SqAny t s.heap a its.toArray := by
  cases t
  . obtain ⟨its, r, p, _⟩ := I.list h
    exact ⟨its, r, p.isList⟩
  . obtain ⟨its, r, p, _⟩ := I.tuple h
    exact ⟨its, r, p⟩
def Itz2 (K : PySem.W.Frag) (t1 t2 : Bool) (a b : Addr) (xs ys : List V) : It := ⟨fun i H => i < xs.length /\ i < ys.length /\ SqB K H t1 a xs /\ SqB K H t2 b ys, fun i H x H' => ∃ t u v, H t = none /\ xs[i]? = some u /\ ys[i]? = some v /\ x = .ref t /\ H' = upd H t (.tup [u, v]), fun i H => (xs.length <= i \/ ys.length <= i) /\ SqB K H t1 a xs /\ SqB K H t2 b ys⟩
theorem turn_zip2 {P : Program} {w : World} {K : PySem.W.Frag} {elts : List Expr} {x1} {tpos : Pos} {t1 t2 : Bool} {a b z TI TO i1 i2 : Addr} (D : ZipApart z TI TO i1 i2 a b) (xs ys : List V) : Turn P w K (.Tuple elts x1 tpos) (Itz2 K t1 t2 a b xs ys) [z, TI, TO, i1, i2] z
    (fun i h => IsZip h z TI TO .none /\ IsPair h TI (.ref i1) (.ref i2) /\ (∃ c d, IsPair h TO c d) /\ ItAny t1 h i1 a i /\ ItAny t2 h i2 b i) where
  mem := by simp
  obj := fun i h st c hc => by
    obtain ⟨h1, h2, ⟨u, v, h3⟩, h4', h5'⟩ := st
    obtain ⟨o4, h4, d4⟩ := h4'.ob
    obtain ⟨o5, h5, d5⟩ := h5'.ob
    simp only [List.mem_cons, List.not_mem_nil, or_false] at hc
    rcases hc with rfl | rfl | rfl | rfl | rfl
    . exact ⟨_, h1, fun v z => by cases z⟩
    . exact ⟨_, h2, fun v z => by cases z⟩
    . exact ⟨_, h3, fun v z => by cases z⟩
    . exact ⟨o4, h4, fun v z => by rw [d4] at z; cases z⟩
    . exact ⟨o5, h5, fun v z => by rw [d5] at z; cases z⟩
  keep := fun i h h' st k => by
    obtain ⟨h1, h2, ⟨u, v, h3⟩, h4, h5⟩ := st
    exact ⟨k z (by simp) _ h1, k TI (by simp) _ h2, ⟨u, v, k TO (by simp) _ h3⟩, h4.at fun o q => k i1 (by simp) o q, h5.at fun o q => k i2 (by simp) o q⟩
  item := by
    intro X hP hw hK hc i pins s σ H E I hf st hg
    subst hP hw hK
    obtain ⟨hi, hj, hq, hq2⟩ := hg
    obtain ⟨hz, hTI, ⟨c, d, hTO⟩, h1, h2⟩ := st
    obtain ⟨its, rv, p⟩ := I.seqB hq
    obtain ⟨its2, rv2, p2⟩ := I.seqB hq2
    obtain ⟨u, hu, ru⟩ := rv.get (i := i) (x := xs[i]) (by simp [hi])
    obtain ⟨v, hv, rv'⟩ := rv2.get (i := i) (x := ys[i]) (by simp [hj])
    have l1 := rv.length
    have l2 := rv2.length
    refine zipN D hz hTI hTO h1 h2 p p2 (fun u' v' h' eu ev g1 g2 g3 g4 g5 gs gk => ?_) fun y => by simp at y; omega
    obtain rfl : u = u' := by simpa [hu] using eu
    obtain rfl : v = v' := by simpa [hv] using ev
    have hTz : s.heap.objs.size ≠ z := Nat.ne_of_gt (Heap.lt_size hz)
    refine ⟨_, rfl, wpAny_letOwnedTupleGo_zip g1 fun h2' e1 hs2 => ?_⟩
    have hk2 : ∀ b o, b ∉ [z, TI, TO, i1, i2] -> s.heap.get? b = some o -> h2'.get? b = some o := fun b o hb q => by
      simp only [List.mem_cons, List.not_mem_nil, or_false, not_or] at hb
      exact (hs2.2 b hb.1).trans (gk b o hb.1 hb.2.2.1 hb.2.2.2.1 hb.2.2.2.2 q)
    obtain ⟨un, hok⟩ := I.unL hk2 hf
    have hn : H s.heap.objs.size = none := I.hok.fresh (Nat.le_refl _)
    have new : ObjOk X.prog X.w (upd H s.heap.objs.size (.tup [xs[i], ys[i]])) h2' s.heap.objs.size (.tup [xs[i], ys[i]]) := ⟨by have := line1000; simp; omega, [u, v], .cons ru (.cons rv' .nil), _, (hs2.2 _ hTz).trans g5, rfl, _, rfl⟩
    refine ⟨.ref s.heap.objs.size, upd H s.heap.objs.size (.tup [xs[i], ys[i]]), I.call' (s' := { s with heap := h2' }) (ch := [z, TI, TO, i1, i2]) rfl (un.track (Nat.le_refl _) hn) (hok.track hn new) I.bare (fun b hb => ?_), rfl, ⟨_, _, _, hn, by simp [hi], by simp [hj], rfl, rfl⟩, ?_, fun b hb => ?_⟩
    . exact (hf b hb).ch
    . refine ⟨e1, (hs2.2 TI D.TIz).trans (gk TI _ D.TIz D.TITO D.TIi1 D.TIi2 hTI), ⟨u, v, (hs2.2 TO D.TOz).trans g2⟩, g3.at fun o q => (hs2.2 i1 D.i1z).trans q, g4.at fun o q => (hs2.2 i2 D.i2z).trans q⟩
    . have hb' := hf b hb
      have : ∃ o, s.heap.get? b = some o := by
        simp only [List.mem_cons, List.not_mem_nil, or_false] at hb
        rcases hb with rfl | rfl | rfl | rfl | rfl
        . exact ⟨_, hz⟩
        . exact ⟨_, hTI⟩
        . exact ⟨_, hTO⟩
        . obtain ⟨o, ho, _⟩ := h1.ob; exact ⟨o, ho⟩
        . obtain ⟨o, ho, _⟩ := h2.ob; exact ⟨o, ho⟩
      obtain ⟨o, ho⟩ := this
      rw [upd_ne (Nat.ne_of_lt (Heap.lt_size ho))]
      exact hb'.1
  done := by
    intro X hP hw hK hc i pins s σ H E I hf st hg
    subst hP hw hK
    obtain ⟨hi, hq, hq2⟩ := hg
    obtain ⟨hz, hTI, ⟨c, d, hTO⟩, h1, h2⟩ := st
    obtain ⟨its, rv, p⟩ := I.seqB hq
    obtain ⟨its2, rv2, p2⟩ := I.seqB hq2
    have l1 := rv.length
    have l2 := rv2.length
    refine zipN D hz hTI hTO h1 h2 p p2 (fun u v h' eu ev => by have a := (Array.getElem?_eq_some_iff.mp eu).1; have b := (Array.getElem?_eq_some_iff.mp ev).1; simp at a b; omega) fun _ => ⟨I.ok.hd hc, fun h' gk => ⟨rfl, ?_⟩⟩
    obtain ⟨un, hok⟩ := I.unL (h' := h') (fun b o hb q => by
      simp only [List.mem_cons, List.not_mem_nil, or_false, not_or] at hb
      exact gk b o hb.1 hb.2.2.1 hb.2.2.2.1 hb.2.2.2.2 q) hf
    exact I.call' (s' := { s with heap := h' }) (ch := [z, TI, TO, i1, i2]) rfl un hok I.bare fun b hb => (hf b hb).ch
  self := fun A i s Q E st h => wpAny_pyIter_zip st.1 h
def iZip2 (K : PySem.W.Frag) (ta : TA) : TI := fun σ H R => ta σ H fun vs H1 => ∃ a b xs ys t1 t2, vs = [.ref a, .ref b] /\ SqB K H1 t1 a xs /\ SqB K H1 t2 b ys /\ R (Itz2 K t1 t2 a b xs ys) H1
theorem r_iZip2 {K : PySem.W.Frag} {ta : TA} {σ : St} {H : Hp} {Z : It -> Hp -> Prop} : iZip2 K ta σ H Z = ta σ H fun vs H1 => ∃ a b xs ys t1 t2, vs = [.ref a, .ref b] /\ SqB K H1 t1 a xs /\ SqB K H1 t2 b ys /\ Z (Itz2 K t1 t2 a b xs ys) H1 := rfl
theorem pi_zip2 {X : Cx} {elts : List Expr} {x1} {tpos : Pos} {e f : Expr} {ta : TA} {p pos : Pos} (hg : Gl X "zip") (hm : X.mg "zip" = none) (ha : PA X [e, f] ta) (hs : starEach [e, f] X.env = [(false, eval e X.env), (false, eval f X.env)] := by rfl) (hs2 : starEach [f] X.env = [(false, eval f X.env)] := by rfl) : PI X (.Tuple elts x1 tpos) (.Call (.Name "zip" p) [e, f] [] pos) (iZip2 X.K ta) := by
  intro pins s σ H R I h
  refine Call_ (ld_blt I hg hm boot_zip (PyProof.Rows.callWith_type1 (thn (ha pos pins s σ H _ I h) fun us s1 ⟨vs, H1, I1, r1, q1⟩ => ?_) (by rw [hs, hs2]) (by rw [hs2]; rfl)))
  obtain ⟨a, b, xs, ys, t1, t2, ev, hq, hq2, q⟩ := q1
  subst ev
  cases r1 with
  | cons r rr => cases rr with
    | cons r' rr =>
      cases rr
      cases r
      cases r'
      obtain ⟨its, rv, pl⟩ := I1.seqB hq
      obtain ⟨its2, rv2, pl2⟩ := I1.seqB hq2
      refine call_zip_2G pl pl2 fun h' hz hTI hTO hi1 hi2 hsz hk => ?_
      refine wpAny_pyIter_zip (s := { s1 with heap := h' }) hz ?_
      have I2 : Inv X pins σ H1 { s1 with heap := h' } := I1.kept (t' := s1.toks) hk
      refine ⟨_, _, _, _, H1, rfl, I2, turn_zip2 (zipApart_new pl.lt pl2.lt) xs ys, ⟨hz, hTI, ⟨_, _, hTO⟩, hi1, hi2⟩, fun c hc => ?_, q⟩
      have hle : s1.heap.objs.size <= c := by
        simp only [List.mem_cons, List.not_mem_nil, or_false] at hc
        rcases hc with rfl | rfl | rfl | rfl | rfl
        . exact Nat.le_add_right _ 4
        . exact Nat.le_add_right _ 2
        . exact Nat.le_add_right _ 3
        . exact Nat.le_refl _
        . exact Nat.le_add_right _ 1
      exact I1.fpOk hle (I1.hok.fresh hle)
theorem compZ2 {K : PySem.W.Frag} {cp : Caps} {t1 t2 : Bool} {a b : Addr} {xs ys : List V} {g : TG} {tc : TT} {te : TE} {Q : VK} {σ : St} {H : Hp} (n : Nat) (hn1 : n <= xs.length) (hn2 : n <= ys.length) (hn3 : xs.length = n \/ ys.length = n) (Pv : Nat -> List V -> St -> Hp -> Prop) (h0 : Pv 0 [] (cp.st σ) H) (hz : n < sizeLine)
    (hl : ∀ i zs σ H, i <= n -> Pv i zs σ H -> SqB K H t1 a xs /\ SqB K H t2 b ys /\ zs.length <= i)
    (hs : ∀ i u v zs σ H t, i < n -> xs[i]? = some u -> ys[i]? = some v -> Pv i zs σ H -> H t = none -> g (.ref t) σ (upd H t (.tup [u, v])) fun σ2 H2 => tc σ2 H2 fun b H3 => if b = true then te σ2 H3 fun v H4 => Pv (i + 1) (zs ++ [v]) σ2 H4 else Pv (i + 1) zs σ2 H3)
    (hd : ∀ zs σ H, Pv n zs σ H -> ∀ D, H D = none -> Q (.ref D) (upd H D (.lst zs))) : CompW (Itz2 K t1 t2 a b xs ys) cp g tc te σ H Q := by
  refine ⟨fun i m zs σ H => m = n - i /\ i <= n /\ Pv i zs σ H, ⟨n, by simp, Nat.zero_le _, h0⟩, ?_⟩
  rintro i m zs σ H ⟨rfl, hi, p⟩
  obtain ⟨q1, q2, ly⟩ := hl i zs σ H hi p
  refine ⟨by omega, ?_⟩
  by_cases hlt : i < n
  . refine .inr ⟨⟨by omega, by omega, q1, q2⟩, Pv (i + 1), fun zs' σ' H' p' => ⟨n - (i + 1), by omega, rfl, hlt, p'⟩, fun x H' y => ?_⟩
    obtain ⟨t, u, v, e1, e2, e3, rfl, rfl⟩ := y
    exact hs i u v zs σ H t hlt e2 e3 p e1
  . have e : i = n := by omega
    subst e
    exact .inl ⟨⟨by omega, q1, q2⟩, hd zs σ H p⟩
theorem meets_extendT (l : Addr) (its : Array Value) (n : Nat) (b : Addr) (its2 : Array Value) (hz : its.size + its2.size <= sizeLine) :
    Meets (Builtin.«list.extend» ⟨[.ref l, .ref b], []⟩) (fun _ R s => s.heap.get? l = some { cls := .type "list", dict := none, data := .seq its n, slots := #[] } /\ (∃ o m, s.heap.get? b = some o /\ o.cls = .type "tuple" /\ o.data = .seq its2 m) /\ R (.ok (.ret Value.none)) { s with heap := s.heap.update l (Obj.mapSeq fun x => x ++ its2) }) :=
  .of_wp fun prog w A R s h => by
    obtain ⟨hS, ⟨o, m, ho, hc, hd⟩, h⟩ := h
    show wpAny _ A.in1 (Builtin.List.listExtendWith (.ref l) (.ref b) .none) _ _ s
    unfold Builtin.List.listExtendWith
    refine wpAny_bind (wpAny_typeOf ⟨o, ho, hc⟩ ?_)
    have h1 : (Builtin.List.listSameRef (.ref l) (.ref b) || Value.type "tuple" == Value.type "list" || Value.type "tuple" == Value.type "tuple") = true := by simp
    simp only [h1, if_true]
    refine wpAny_bind ?_
    unfold Builtin.List.listItems
    refine wpAny_bind (wpAny_seqItems ho hd (wpAny_pure ?_))
    refine wpAny_bind ?_
    refine wpAny_bind (wpAny_seqItems hS rfl (wpAny_pure ?_))
    have hlong : (!its.isEmpty && Builtin.List.listTooLong (its.size + its2.size)) = false := by rw [notLongL hz, Bool.and_false]
    rw [hlong]
    show wpAny _ A.in1 (updateSeq l (· ++ its2) >>= fun _ => ret .none) _ _ s
    refine wpAny_bind (wpAny_updateSeq hS rfl ?_ (hz := by omega) (_hz' := by rw [Array.size_append]; omega))
    exact wpAny_pure ⟨_, rfl, h⟩
def rExtendT (K : PySem.W.Frag) : V -> List V -> Hp -> VK -> Prop := fun x vs H Q => ∃ l b xs zs, x = .ref l /\ vs = [.ref b] /\ H l = some (.lst xs) /\ SqT K H b zs /\ xs.length + zs.length <= sizeLine /\ Q .non (upd H l (.lst (xs ++ zs)))
theorem r_extendT {K : PySem.W.Frag} {x : V} {vs : List V} {H : Hp} {Q : VK} : rExtendT K x vs H Q = ∃ l b xs zs, x = .ref l /\ vs = [.ref b] /\ H l = some (.lst xs) /\ SqT K H b zs /\ xs.length + zs.length <= sizeLine /\ Q .non (upd H l (.lst (xs ++ zs))) := rfl
theorem mt_extendT {X : Cx} : MtM X "list.extend" (rExtendT X.K) := by
  intro pins s σ H x vs v us Q I rx rv h
  obtain ⟨l, b, xs, zs, rfl, rfl, hH, hB, hz, q⟩ := h
  cases rx
  obtain ⟨u, rfl, ru⟩ := rv.one
  cases ru
  obtain ⟨z, its, n, r, hl, e⟩ := I.lstM hH
  obtain ⟨its2, r2, ⟨o2, e2, c2, n2, d2⟩, _⟩ := I.tuple hB
  have l2 := r2.length
  have hsz : its.toArray.size + its2.toArray.size <= sizeLine := by rw [List.size_toArray, List.size_toArray]; omega
  refine call_meets F.slot_list_extend ⟨_, e, rfl⟩ F.entry_list_extend (F.args_list_extend_2 _ _)
    (meets_extendT l its.toArray n b its2.toArray hsz) ⟨e, ⟨o2, n2, e2, c2, d2⟩, ?_⟩
  refine ⟨.non, _, I.lset (its' := its ++ its2) hH e (by simp) (r.append r2) ?_, rfl, q⟩
  rw [List.length_append]
  omega
theorem compMapB {K : PySem.W.Frag} {cp : Caps} {te : TE} {Q : VK} {σ : St} {H : Hp} {t : Bool} {a : Addr} {xs : List V} {σ' : St} (f : V -> V) (e : cp.st σ = none :: σ') (hl : SqB K H t a xs) (hz : xs.length < sizeLine) (hs : ∀ x ∈ xs, ∀ R : VK, R (f x) H -> te (some x :: σ') H R) (hd : ∀ D, H D = none -> Q (.ref D) (upd H D (.lst (xs.map f)))) :
    ((∃ xs, SqL K H a xs) /\ CompW (Itl K a) cp (gName 0) tTrue te σ H Q) \/ ((∃ xs, SqT K H a xs) /\ CompW (Itt K a) cp (gName 0) tTrue te σ H Q) := by
  cases t
  . exact .inl ⟨⟨_, hl⟩, compMapL f e hl hz hs hd⟩
  . exact .inr ⟨⟨_, hl⟩, compMapT f e hl hz hs hd⟩
theorem compMapZ {K : PySem.W.Frag} {cp : Caps} {g : TG} {te : TE} {Q : VK} {σ : St} {H : Hp} {t1 t2 : Bool} {a b : Addr} {xs ys : List Int} {σ' : St} (f : Int -> Int -> Int) (e : cp.st σ = none :: none :: σ') (h1 : SqB K H t1 a (xs.map V.int)) (h2 : SqB K H t2 b (ys.map V.int)) (hlen : xs.length = ys.length) (hz : xs.length < sizeLine)
    (hg : ∀ t u v o1 o2 H N, H t = some (.tup [u, v]) -> N (some u :: some v :: σ') H -> g (.ref t) (o1 :: o2 :: σ') H N)
    (hs : ∀ x y H', x ∈ xs -> y ∈ ys -> Same H H' -> ∀ R : VK, R (.int (f x y)) H' -> te (some (.int x) :: some (.int y) :: σ') H' R)
    (hd : ∀ H' D, Same H H' -> H' D = none -> Q (.ref D) (upd H' D (.lst ((List.zipWith f xs ys).map V.int)))) : CompW (Itz2 K t1 t2 a b (xs.map V.int) (ys.map V.int)) cp g tTrue te σ H Q := by
  refine compZ2 xs.length (by rw [List.length_map]; omega) (by rw [List.length_map]; omega) (by rw [List.length_map]; exact .inl rfl) (fun i zs σ2 H2 => Same H H2 /\ zs = ((List.zipWith f xs ys).take i).map V.int /\ ∃ o1 o2, σ2 = o1 :: o2 :: σ') ⟨Same.refl _, by simp, none, none, e⟩ hz (fun i zs σ2 H2 hi h => ?_) (fun i u v zs σ2 H2 t hi hu hv h ht => ?_) (fun zs σ2 H2 h D hD => ?_)
  . obtain ⟨s2, rfl, _⟩ := h
    exact ⟨h1.mono s2, h2.mono s2, by rw [List.length_map, List.length_take]; omega⟩
  . obtain ⟨s2, rfl, o1, o2, rfl⟩ := h
    obtain ⟨x, hx, rfl⟩ := get_mapI hu
    obtain ⟨y, hy, rfl⟩ := get_mapI hv
    refine hg t _ _ o1 o2 _ _ upd_same ?_
    rw [r_true, if_pos rfl]
    refine hs x y _ (List.mem_of_getElem? hx) (List.mem_of_getElem? hy) (s2.newT ht) _ ⟨s2.newT ht, ?_, _, _, rfl⟩
    rw [List.take_add_one, List.getElem?_zipWith, hx, hy]; simp
  . obtain ⟨s2, rfl, _⟩ := h
    have := hd H2 D s2 hD
    rwa [List.take_of_length_le (by rw [List.length_zipWith]; omega)]
end L2
set_option linter.all false
namespace Nest
def sl (row : List Int) (b i : Nat) : List Int := (row.take i).drop b
def dl (p e x : Int) : Int := if x = e then -1 else if p <= x then 1 else 0
def outF (p e : Int) (s : List Int × Int) (x : Int) : List Int × Int := if x = e then (s.1, s.2 - 1) else (if s.2 = 0 then s.1 ++ [x] else s.1, if p <= x then s.2 + 1 else s.2)
def outS (p e : Int) (l : List Int) : List Int × Int := l.foldl (outF p e) ([], 0)
def outW (p e : Int) (l : List Int) : List Int := (outS p e l).1
def wd (p e : Int) (row : List Int) (i a : Nat) : List Int := outW p e (sl row (a + 1) i)
end Nest
set_option Elab.async false
set_option linter.all false
set_option maxRecDepth 100000
set_option maxHeartbeats 4000000
namespace L2
open PySem PySem.Spec PyProof.Rows GW
theorem pg_tupK {X : Cx} {K : PySem.W.Frag} {es : List Expr} {k : Nat} {t : TGs} {n : Nat} {pos : Pos} (hK : X.K = K) (hc : X.calm = true) (h : PGs X es t)
    (hn : (assignEach es X.env).length = n := by rfl) (hst : (assignEach es X.env).findIdx? (·.1) = none := by rfl) : PG X (.Tuple es k pos) (gTup K n t) := by
  subst hK
  exact pg_tup hc h hn hst
end L2
namespace HT
open PySem PySem.Spec PyProof.Rows L2
section
variable {prog : Program} {w : World} {A : Around} {E : Value -> Shared -> Prop} {s : Shared}
theorem getItem_tuple_whole {t sl : Addr} {items : Array Value} {vl vu : Value} {lo hi : Option Int} {Q : Value -> Shared -> Prop} (ht : IsTup s.heap t items) (hs : s.heap.IsSliceOf sl vl vu .none) (pl : IsPart vl lo) (pu : IsPart vu hi)
    (hw : sIx items.size 0 lo = 0 /\ sIx items.size items.size hi = items.size) (h : Q (.ref t) s) : wpAny (model prog w) A (getItem (.ref t) (.ref sl)) Q E s := by
  obtain ⟨os, hos, hcs, hds⟩ := id hs
  have hTs : s.TypeIs (.ref sl) "slice" := ⟨os, hos, hcs⟩
  unfold getItem
  try with_reducible refine wpAny_holding ?_
  first | refine wpAny_bind (wpAny_pure ?_) | skip
  refine wpAny_bind (wpAny_sequenceKey ht.typeIs (by decide) ?_)
  refine wpAny_bind (wpAny_callSpecial?_slot (name := Str.ofString "__getitem__") ht.typeIs PyProof.Rows.slot_tuple_getitem
    (wpAny_call_entry PyProof.Rows.slot_tuple_getitem ht.typeIs entry_tuple_getitem ?_ (args_tuple_getitem _ _)))
  show wpAny _ _ (Builtin.Tuple.tupleItemsOf (.ref t) >>= _) _ _ s
  refine wpAny_bind (tupleItemsOf_ ht ?_)
  refine wpAny_bind (wpAny_typeOf hTs ?_)
  rw [if_pos (by decide)]
  refine wpAny_bind (sliceApplied_gen hs pl pu ?_)
  rw [hw.1, hw.2]
  show wpAny _ _ (if ((((0 : Nat) : Int) == 0 && (1 : Int) == 1 && (items.size - 0) == items.size) = true) then _ else _) _ _ s
  rw [if_pos (by simp)]
  refine wpAny_bind ?_
  unfold Builtin.Tuple.tupleIsExact
  refine wpAny_bind (wpAny_typeOf ht.typeIs (wpAny_pure ?_))
  rw [if_pos (by decide)]
  refine wpAny_bind (wpAny_rule ?_)
  exact wpAny_pure ⟨_, rfl, wpAny_pure h⟩
end
end HT
namespace L2
open PySem PySem.Spec PyProof.Rows GW
def rSlT2 (K : PySem.W.Frag) : V -> Option Int -> Option Int -> Hp -> VK -> Prop := fun x lo hi H Q => ∃ a xs, x = .ref a /\ SqT K H a xs /\ ∀ p H', Same H H' -> SqT K H' p (cutV xs lo hi) -> Q (.ref p) H'
theorem r_slT2 {K : PySem.W.Frag} {x : V} {lo hi : Option Int} {H : Hp} {Q : VK} : rSlT2 K x lo hi H Q = ∃ a xs, x = .ref a /\ SqT K H a xs /\ ∀ p H', Same H H' -> SqT K H' p (cutV xs lo hi) -> Q (.ref p) H' := rfl
theorem sl_tup2 {X : Cx} : SlR X (rSlT2 X.K) := by
  intro pins s σ H x v vl vu lo hi sl Q I rx hs pl pu h
  obtain ⟨a, xs, rfl, hx, q⟩ := h
  by_cases hw : HT.sIx xs.length 0 lo = 0 /\ HT.sIx xs.length xs.length hi = xs.length
  . cases rx
    obtain ⟨its, r, ht, hz⟩ := I.tuple hx
    have hlen : its.toArray.size = xs.length := by rw [List.size_toArray]; exact r.length.symm
    refine ⟨"tuple", _, PyProof.Rows.slot_tuple_getitem.lookup, ht.typeIs, ?_⟩
    refine HT.getItem_tuple_whole ht hs pl pu (by rw [hlen]; exact hw) ⟨.ref a, H, I, rfl, q a H (Same.refl _) ?_⟩
    unfold cutV
    rw [hw.1, hw.2, List.drop_zero, Nat.sub_zero, List.take_length]
    exact hx
  . exact sl_tup pins s σ H (.ref a) v vl vu lo hi sl Q I rx hs pl pu ⟨a, xs, rfl, hx, hw, fun p hp => q p _ (Same.new hp) (SqT.of upd_same)⟩
theorem pi_seqK {X : Cx} {K : PySem.W.Frag} {tg l : Expr} {tl : TE} (hK : X.K = K) (hl : PE X l tl) : PI X tg l (iSeq K tl) := by subst hK; exact pi_seq hl
theorem pi_tupK {X : Cx} {K : PySem.W.Frag} {tg l : Expr} {tl : TE} (hK : X.K = K) (hl : PE X l tl) : PI X tg l (iTup K tl) := by subst hK; exact pi_tup hl
theorem compRowsB {K : PySem.W.Frag} {cp : Caps} {te : TE} {Q : VK} {σ : St} {H : Hp} {t : Bool} {a : Addr} {xs : List V} {σ' : St} (g : Nat -> V) (e : cp.st σ = none :: σ') (hl : SqB K H t a xs) (hz : xs.length < sizeLine) (hs : ∀ i x, xs[i]? = some x -> ∀ R : VK, R (g i) H -> te (some x :: σ') H R) (hd : ∀ D, H D = none -> Q (.ref D) (upd H D (.lst ((List.range xs.length).map g)))) :
    ((∃ xs, SqL K H a xs) /\ CompW (Itl K a) cp (gName 0) tTrue te σ H Q) \/ ((∃ xs, SqT K H a xs) /\ CompW (Itt K a) cp (gName 0) tTrue te σ H Q) := by
  cases t
  . refine .inl ⟨⟨_, hl⟩, compL (xs := xs) (fun i ys σ2 H2 => H2 = H /\ ys = (List.range i).map g /\ ∃ o, σ2 = o :: σ') ⟨rfl, rfl, none, e⟩ hz (fun i ys σ2 H2 hi h => ?_) (fun i x ys σ2 H2 hx h => ?_) (fun ys σ2 H2 h => ?_)⟩
    . obtain ⟨rfl, rfl, _⟩ := h
      exact ⟨hl, by rw [List.length_map, List.length_range]; exact Nat.le_refl _⟩
    . obtain ⟨rfl, rfl, o, rfl⟩ := h
      refine hs i x hx _ ⟨rfl, ?_, some x, rfl⟩
      rw [List.range_succ, List.map_append]; rfl
    . obtain ⟨rfl, rfl, _⟩ := h
      exact hd
  . refine .inr ⟨⟨_, hl⟩, compT (xs := xs) (fun i ys σ2 H2 => H2 = H /\ ys = (List.range i).map g /\ ∃ o, σ2 = o :: σ') ⟨rfl, rfl, none, e⟩ hz (fun i ys σ2 H2 hi h => ?_) (fun i x ys σ2 H2 hx h => ?_) (fun ys σ2 H2 h => ?_)⟩
    . obtain ⟨rfl, rfl, _⟩ := h
      exact ⟨hl, by rw [List.length_map, List.length_range]; exact Nat.le_refl _⟩
    . obtain ⟨rfl, rfl, o, rfl⟩ := h
      refine hs i x hx _ ⟨rfl, ?_, some x, rfl⟩
      rw [List.range_succ, List.map_append]; rfl
    . obtain ⟨rfl, rfl, _⟩ := h
      exact hd
end L2
namespace Nest
end Nest
set_option linter.all false
namespace Nest
end Nest
namespace L2
open PySem PySem.Spec PyProof.Rows
theorem op_repTK {X : Cx} {K : PySem.W.Frag} (h : X.K = K) : OpR X (binaryOp .Mult) (rRepT K) := by subst h; exact op_repT
theorem op_catT2K {X : Cx} {K : PySem.W.Frag} (h : X.K = K) : OpR X (binaryOp .Add) (rCatT2 K) := by subst h; exact op_catT2
end L2
set_option Elab.async false
set_option linter.all false
set_option maxRecDepth 100000
set_option maxHeartbeats 4000000
namespace L2
open PySem PySem.W PySem.Spec PySem.Calls PyProof.Rows
end L2
set_option Elab.async false
set_option linter.all false
set_option maxRecDepth 100000
set_option maxHeartbeats 1000000
namespace L2
open PySem PySem.Spec PyProof.Rows
section
variable {K : PySem.W.Frag} {x : V} {xs : List V} {lo hi : Option Int} {H : Hp} {Q : VK}
end
end L2
set_option Elab.async false
set_option linter.all false
set_option maxRecDepth 100000
set_option maxHeartbeats 4000000
namespace L2
open PySem PySem.W PySem.Spec PySem.Calls PyProof.Rows
end L2
namespace L2
open PySem PySem.W PySem.Spec PySem.Calls PyProof.Rows
end L2
namespace L2
open PySem
section
variable {prog : Program} {w : World} {κ : Type} [DecidableEq κ] {knd : HeapKind prog w κ} {A : Around} {E : Value -> Shared -> Prop} {s : Shared}
end
end L2
namespace L2
open PySem PySem.W PySem.Spec PySem.Calls PyProof.Rows
end L2
set_option Elab.async false
set_option linter.all false
set_option maxRecDepth 100000
namespace L2
section
variable {α : Type} [DecidableEq α]
def ins1 (acc : List α) (x : α) : List α := if x ∈ acc then acc else acc ++ [x]
def firstsA (acc row : List α) : List α := row.foldl ins1 acc
def firsts (row : List α) : List α := firstsA [] row
def num (row : List α) : List Int := row.map fun x => ((firsts row).idxOf x : Int)
def ncl (row : List α) : Nat := (firsts row).length
end
def rowB (n : Nat) (b : List Int -> Nat -> Int) (w : List Int) : List Int := (List.range n).map (b w)
section
variable {L : Int} {n : Nat} {b : List Int -> Nat -> Int} {words : List (List Int)} {c : List Int} {w : List Int} {x : Int}
end
abbrev StC := List (List Int) × List Int
def stepC (n : Nat) (b : List Int -> Nat -> Int) (w : List Int) (st : StC) (x : Nat) : StC := if ncl st.2 < ncl (st.2.zip (rowB n b ((x : Int) :: w))) then (st.1 ++ [(x : Int) :: w], num (st.2.zip (rowB n b ((x : Int) :: w)))) else st
def innerC (n : Nat) (b : List Int -> Nat -> Int) (w : List Int) (L : Nat) (st : StC) : StC := (List.range L).foldl (stepC n b w) st
def outerC (n : Nat) (b : List Int -> Nat -> Int) (L : Nat) : Nat -> Nat -> StC -> StC
  | 0, _, st => st
  | f + 1, k, st => if k < st.1.length then outerC n b L f (k + 1) (innerC n b (st.1.getD k []) L st) else st
section
variable {n L : Nat} {b : List Int -> Nat -> Int} {w : List Int} {st : StC}
def wcOf (n L : Nat) (b : List Int -> Nat -> Int) : StC := outerC n b L 41 0 ([[]], num (rowB n b []))
end
end L2
set_option Elab.async false
set_option linter.all false
set_option maxRecDepth 100000
set_option maxHeartbeats 4000000
namespace L2
open PySem PySem.W PySem.Spec PySem.Calls PyProof.Rows
end L2
set_option Elab.async false
set_option linter.all false
set_option maxRecDepth 100000
namespace L2
open GW GB
def bW (marks : List Int) (ways : List (List Int)) (w : List Int) (r : Nat) : Int := marks.getD (walkR ways (r : Int) w).toNat 0
def cf (c : List Int) (r : Int) : Int := c.getD r.toNat 0
def hm (c R : List Int) (r : Int) : Int := (((firsts (R.map (cf c))).idxOf (cf c r) : Nat) : Int)
def frstep (c acc : List Int) (r : Int) : List Int := if cf c r ∈ acc.map (cf c) then acc else acc ++ [r]
def FR (c R : List Int) : List Int := R.foldl (frstep c) []
section
variable {L : Nat} {marks : List Int} {ways : List (List Int)}
end
def cOf (L : Nat) (marks : List Int) (ways : List (List Int)) : List Int := (wcOf marks.length L (bW marks ways)).2
def rOf (ways : List (List Int)) : List Int := (wordsIn ways).map (·.1)
def sF (L : Nat) (marks : List Int) (ways : List (List Int)) : List Int := FR (cOf L marks ways) (rOf ways)
def hO (L : Nat) (marks : List Int) (ways : List (List Int)) (r : Int) : Int := hm (cOf L marks ways) (rOf ways) r
section
variable {L : Nat} {marks : List Int} {ways : List (List Int)}
def wi (ways : List (List Int)) (r : Int) : List Int := (((wordsIn ways).find? fun e => decide (e.1 = r)).map (·.2)).getD []
end
section
variable {L : Nat} {m1 m2 : List Int} {w1 w2 : List (List Int)}
end
end L2
set_option Elab.async false
set_option linter.all false
set_option maxRecDepth 100000
set_option maxHeartbeats 4000000
namespace L2
open PySem PySem.Spec PyProof.Rows GW GB
end L2
set_option Elab.async false
set_option linter.all false
set_option maxRecDepth 100000
set_option maxHeartbeats 1000000
namespace L2
open PySem PySem.Spec PyProof.Rows
def nt (n : Int) : Str := Str.ofString (toString n)
end L2
set_option Elab.async false
set_option linter.all false
set_option maxRecDepth 100000
set_option maxHeartbeats 1000000
namespace L2
open PySem PySem.Spec PyProof.Rows
end L2
set_option Elab.async false
set_option linter.all false
set_option maxRecDepth 100000
set_option maxHeartbeats 4000000
namespace PySem
open Sem (wp)
namespace F
theorem owner_rvt : Manifest.owners.lookup (String.ofList ['d', 'e', 's', 'r', 'e', 'v', 'e', 'r'].reverse) = some Manifest.sig_reversed := by kernel_rfl
theorem slot_rvt_next : Slot "reversed" "__next__" "reversed.__next__" :=
  .of (owner := "reversed") (n := "__next__") (by rw [typeLookup_type, builtinLookup_eq_fast]; kernel_rfl) (by decide +kernel) (by decide +kernel) (by decide +kernel)
    (by first | exact .inl (by decide +kernel) | exact .inr (by decide +kernel)) (by rw [isSubtype_type]; kernel_rfl)
theorem entry_rvt_next : entryFor table "reversed.__next__" = some Builtin.«reversed.__next__» := entryFor_of_tree (by kernel_rfl)
theorem args_rvt_next_1 (a : Value) : argsOk "reversed.__next__" ⟨[a], []⟩ := by
  unfold argsOk; rw [signature?_of (id := "reversed.__next__") (n := ['_', '_', 't', 'x', 'e', 'n', '_', '_']) (o := ['d', 'e', 's', 'r', 'e', 'v', 'e', 'r']) (by kernel_rfl) owner_rvt]; kernel_rfl
theorem slot_rvt_iter : Slot "reversed" "__iter__" "reversed.__iter__" :=
  .of (owner := "reversed") (n := "__iter__") (by rw [typeLookup_type, builtinLookup_eq_fast]; kernel_rfl) (by decide +kernel) (by decide +kernel) (by decide +kernel)
    (by first | exact .inl (by decide +kernel) | exact .inr (by decide +kernel)) (by rw [isSubtype_type]; kernel_rfl)
theorem args_rvt_iter_1 (a : Value) : argsOk "reversed.__iter__" ⟨[a], []⟩ := by
  unfold argsOk; rw [signature?_of (id := "reversed.__iter__") (n := ['_', '_', 'r', 'e', 't', 'i', '_', '_']) (o := ['d', 'e', 's', 'r', 'e', 'v', 'e', 'r']) (by kernel_rfl) owner_rvt]; kernel_rfl
theorem entry_rvt_iter : entryFor table "reversed.__iter__" = some Builtin.«dict_keyiterator.__iter__» :=
  entryFor_alias (id' := "dict_keyiterator.__iter__") (by kernel_rfl) (by first | rfl | decide +kernel | (unfold String.splitOn; simp +decide [String.splitOnAux])) (by decide +kernel) (by kernel_rfl)
theorem slot_rvt_hint : Slot "reversed" "__length_hint__" "reversed.__length_hint__" :=
  .of (owner := "reversed") (n := "__length_hint__") (by rw [typeLookup_type, builtinLookup_eq_fast]; kernel_rfl) (by decide +kernel) (by decide +kernel) (by decide +kernel)
    (by first | exact .inl (by decide +kernel) | exact .inr (by decide +kernel)) (by rw [isSubtype_type]; kernel_rfl)
theorem entry_rvt_hint : entryFor table "reversed.__length_hint__" = some Builtin.«reversed.__length_hint__» := entryFor_of_tree (by kernel_rfl)
theorem args_rvt_hint_1 (a : Value) : argsOk "reversed.__length_hint__" ⟨[a], []⟩ := by
  unfold argsOk; rw [signature?_of (id := "reversed.__length_hint__") (n := ['_', '_', 't', 'n', 'i', 'h', '_', 'h', 't', 'g', 'n', 'e', 'l', '_', '_']) (o := ['d', 'e', 's', 'r', 'e', 'v', 'e', 'r']) (by kernel_rfl) owner_rvt]; kernel_rfl
theorem rvt_no_len : typeLookup (.type "reversed") "__len__" = pure none := by rw [typeLookup_type, builtinLookup_eq_fast]; kernel_rfl
theorem tup_no_rev : typeLookup (.type "tuple") "__reversed__" = pure none := by rw [typeLookup_type, builtinLookup_eq_fast]; kernel_rfl
theorem slot_rvt_init : Slot "reversed" "__init__" "object.__init__" :=
  .of (owner := "object") (n := "__init__") (by rw [typeLookup_type, builtinLookup_eq_fast]; kernel_rfl) (by decide +kernel) (by decide +kernel) (by decide +kernel)
    (by first | exact .inl (by decide +kernel) | exact .inr (by decide +kernel)) (by rw [isSubtype_type]; kernel_rfl)
theorem called_reversed : TypeCalled "reversed" "reversed.__new__" "object.__init__" :=
  ⟨by decide +kernel, by decide +kernel, ⟨_, _, mro_reversed⟩, made_reversed, plain_reversed_new, sub_reversed_self, slot_rvt_init⟩
theorem tup_no_dict : isSubtype (.type "tuple") (.type "dict") = pure false := by rw [isSubtype_type]; kernel_rfl
end F
section
variable {prog : Program} {w : World} {A : Around} {E : Value -> Shared -> Prop} {s : Shared}
def rvtObj (l : Addr) (i : Int) : Obj := { cls := .type "reversed", data := .fields #[.ref l, rawInt i] }
def Heap.IsRvt (h : Heap) (a l : Addr) (i : Int) : Prop := ∃ o, h.get? a = some o /\ o.cls = .type "reversed" /\ o.data = .fields #[.ref l, rawInt i]
theorem Heap.IsRvt.typeIs {a l : Addr} {i : Int} (x : s.heap.IsRvt a l i) : s.TypeIs (.ref a) "reversed" := let ⟨o, ho, hc, _⟩ := x; ⟨o, ho, hc⟩
theorem Heap.IsRvt.at {h h' : Heap} {a l : Addr} {i : Int} (x : h.IsRvt a l i) (e : ∀ o, h.get? a = some o -> h'.get? a = some o) : h'.IsRvt a l i := let ⟨o, ho, r⟩ := x; ⟨o, e _ ho, r⟩
open PyProof.Rows in
theorem code_rvt_new {l : Addr} {items : Array Value} {Q₁ : Value -> Shared -> Prop} (hl : IsTup s.heap l items) (hfit : (items.size : Int) < 2 ^ 63) (h : ∀ tk, Q₁ (.ref s.heap.objs.size) { s with heap := s.heap.push (rvtObj l ((items.size : Int) - 1)), toks := tk }) :
    codeAny (model prog w) A (.call (.builtin "reversed.__new__") ⟨[.type "reversed", .ref l], []⟩) (wants Q₁ E) s := by
  have T := hl.typeIs
  have nc := newClass_reversed (.ref l)
  refine codeAny_of_tree (wpAny_bind (wpAny_of_eq (F.newCall_reversed_1 _) (wpAny_pure ⟨plainId_quiet F.plain_reversed_new _, codeAny_builtin F.entry_reversed_new ?_⟩)))
  rw [Around.under_plainId F.plain_reversed_new _]
  wp_walk using wpAny_specialOf T F.tup_no_rev, wpAny_specialOf T F.slot_tuple_getitem.lookup, wpAny_isInstance T F.tup_no_dict, len_tuple (A := A.in1) hl hfit
  exact h _
open PyProof.Rows in
theorem call_rvt {l : Addr} {items : Array Value} {Q : Value -> Shared -> Prop} (hl : IsTup s.heap l items) (hfit : (items.size : Int) < 2 ^ 63)
    (h : ∀ tk, Q (.ref s.heap.objs.size) { s with heap := s.heap.push (rvtObj l ((items.size : Int) - 1)), toks := tk }) : wpAny (model prog w) A (call (.type "reversed") [.ref l]) Q E s := by
  refine callType_codes (Q₁ := fun obj s₁ => s₁.TypeIs obj "reversed" /\ Q obj s₁) F.called_reversed (F.typeCall_reversed_1 _) F.entry_object_init
    (code_rvt_new hl hfit fun tk => ⟨⟨_, Heap.get?_push_size _ rfl, rfl⟩, h tk⟩) fun obj s₁ h₁ => ?_
  exact ⟨h₁.1, F.args_object_init_2 obj _, object_init_meets F.called_reversed.init.lookup F.called_reversed.made (by decide) prog w A.in1 _ s₁ ⟨h₁.1, rfl, h₁.2⟩⟩
open PyProof.Rows in
theorem rvt_item {it l : Addr} {i : Nat} {items : Array Value} {x : Value} {Q : Option Value -> Shared -> Prop} (hit : s.heap.IsRvt it l (i : Int)) (hl : IsTup s.heap l items) (hx : items[i]? = some x) (hfit : (items.size : Int) < 2 ^ 63)
    (hQ : ∀ h' tk, h'.IsRvt it l ((i : Int) - 1) -> Heap.SameBut it s.heap h' -> Q (some x) { s with heap := h', toks := tk }) : wpAny (model prog w) A (pyNext (.ref it)) Q E s := by
  obtain ⟨⟨c, dc, da, sl⟩, ho, hc, hd⟩ := id hit
  obtain rfl : da = _ := hd
  have hi : i < items.size := (Array.getElem?_eq_some_iff.mp hx).1
  have nn : ¬ ((i : Int) < 0) := by omega
  have e1 := F.slot_rvt_next
  have T := hl.typeIs
  unfold pyNext
  refine wpAny_bind (wpAny_attempt (wpAny_callSpecial?_slot hit.typeIs e1 (wpAny_call_entry e1 hit.typeIs F.entry_rvt_next ?_ (F.args_rvt_next_1 _))))
  have f0 : (#[Value.ref l, rawInt (i : Int)] : Array Value)[0]? = some (.ref l) := rfl
  have f1 : (#[Value.ref l, rawInt (i : Int)] : Array Value)[1]? = some (rawInt (i : Int)) := rfl
  have dd : (⟨c, dc, .fields #[.ref l, rawInt (i : Int)], sl⟩ : Obj).data = .fields #[.ref l, rawInt (i : Int)] := rfl
  have gi : ∀ (A : Around) (Q : Value -> Shared -> Prop) (E : Value -> Shared -> Prop), Q x { s with toks := s.toks + 1 } -> wpAny (model prog w) A (getItem (.ref l) (.int (i : Int) s.toks)) Q E { s with toks := s.toks + 1 } := fun A Q E q => getItem_tuple (s := { s with toks := s.toks + 1 }) hl (by omega) (by omega) (j := i) (by unfold seqIndex?; simp; omega) hx q
  wp_walk using wpAny_field ho dd f0, wpAny_field ho dd f1, wpAny_specialOf T F.slot_tuple_getitem.lookup, gi A.in1
  exact ⟨x, rfl, wpAny_pure (hQ _ _ ⟨_, Heap.get?_update_self _ ho (by simp [Obj.mapFields, Obj.isFreed]), hc, by simp [Obj.mapFields, rawInt]⟩ (Heap.SameBut.update ..))⟩
theorem rvt_end {it l : Addr} {Q : Option Value -> Shared -> Prop} (hh : A.handled = none) (hit : s.heap.IsRvt it l (-1)) (hQ : ∀ h', Heap.ExtBut it s.heap h' -> Q none { s with heap := h' }) : wpAny (model prog w) A (pyNext (.ref it)) Q E s := by
  obtain ⟨⟨c, dc, da, sl⟩, ho, hc, hd⟩ := id hit
  obtain rfl : da = _ := hd
  have e1 := F.slot_rvt_next
  unfold pyNext
  refine wpAny_bind (wpAny_attempt (wpAny_callSpecial?_slot hit.typeIs e1 (wpAny_call_entry e1 hit.typeIs F.entry_rvt_next ?_ (F.args_rvt_next_1 _))))
  wp_walk
  exact wpAny_raiseNew_none hh (wpAny_bind (wpAny_isInstance (T := "StopIteration") (b := true) ⟨_, Heap.get?_push_size _ rfl, rfl⟩ isSubtype_stop (wpAny_pure (hQ _ ((((Heap.SameBut.update ..).extBut.trans (Heap.SameBut.update ..).extBut).push _).push _)))))
theorem rvt_iter {it l : Addr} {i : Int} {Q : Value -> Shared -> Prop} (hit : s.heap.IsRvt it l i) (h : Q (.ref it) s) : wpAny (model prog w) A (pyIter (.ref it)) Q E s := by
  refine wpAny_pyIter_slot hit.typeIs F.slot_rvt_iter (wpAny_call_entry F.slot_rvt_iter hit.typeIs F.entry_rvt_iter ?_ (F.args_rvt_iter_1 _))
  show wpAny _ _ (ret (.ref it)) _ _ s
  exact wpAny_pure ⟨_, rfl, "reversed", _, hit.typeIs, F.slot_rvt_next.lookup, h⟩
open PyProof.Rows in
theorem rvt_hint {I l : Addr} {items : Array Value} {Q : Bool -> Shared -> Prop} (hit : s.heap.IsRvt I l ((items.size : Int) - 1)) (hl : IsTup s.heap l items) (hfit : items.size <= sizeLine) (h : ∀ b tk, Q b { s with toks := tk }) : wpAny (model prog w) A (Builtin.List.listLengthHint (.ref I)) Q E s := by
  obtain ⟨o, ho, hc, hd⟩ := id hit
  unfold Builtin.List.listLengthHint
  refine wpAny_bind (wpAny_specialOf hit.typeIs F.rvt_no_len ?_)
  show wpAny _ A (specialOf (Value.ref I) (Str.ofString "__length_hint__") >>= _) _ _ _
  refine wpAny_bind (wpAny_specialOf hit.typeIs F.slot_rvt_hint.lookup ?_)
  generalize hid : ("reversed.__length_hint__" : String) = id0
  wp_delta
  rw [show splitId id0 = some ("reversed", "__length_hint__") from by subst hid; decide +kernel]
  subst hid
  refine wpAny_bind (wpAny_isInstance (T := "reversed") (b := true) hit.typeIs (by rw [isSubtype_type]; kernel_rfl) ?_)
  refine wpAny_ite_split (fun hab => absurd hab (by decide)) (fun _ => ?_)
  refine wpAny_ite_split (fun hab => absurd hab (by decide +kernel)) (fun _ => ?_)
  refine wpAny_bind (wpAny_rule ?_)
  refine wpAny_bind (wpAny_of_eq (F.slot_rvt_hint.bind _) ?_)
  try dsimp only
  refine wpAny_bind (wpAny_attempt (wpAny_call_entry F.slot_rvt_hint hit.typeIs F.entry_rvt_hint ?_ (F.args_rvt_hint_1 _)))
  have hz24 : items.size <= 16777216 := hfit
  unfold Builtin.«reversed.__length_hint__»
  refine wpAny_bind (wpAny_of_eq (a := Value.ref I) rfl ?_)
  refine wpAny_bind (wpAny_field ho hd (x := .ref l) rfl ?_)
  refine wpAny_ite_split (fun hab => absurd hab (by simp [BEq.beq])) (fun _ => ?_)
  refine wpAny_bind (len_tuple hl (by omega) ?_)
  refine wpAny_bind (wpAny_of_eq (a := some ((items.size : Nat) : Int)) rfl ?_)
  try dsimp only
  refine wpAny_bind (wpAny_field ho hd (x := rawInt ((items.size : Int) - 1)) rfl ?_)
  show wpAny _ _ (if ((items.size : Nat) : Int) < (items.size : Int) - 1 + 1 then _ else _) _ _ _
  rw [if_neg (by omega)]
  refine wpAny_bind (wpAny_mkInt (wpAny_pure ⟨_, rfl, ?_⟩))
  refine wpAny_bind (wpAny_of_eq (a := some ((items.size : Int) - 1 + 1)) rfl ?_)
  try dsimp only
  rw [if_neg (by unfold Builtin.List.listFitsIndex; simp; omega), if_neg (by omega), if_neg (by unfold Builtin.List.listTooLong; simp; show _ <= 16777216; omega)]
  exact wpAny_pure (h _ _)
end
open PyProof.Rows in
theorem rvt_tup {h h' : Heap} {a : Addr} {items : Array Value} (x : IsTup h a items) (e : ∀ o, h.get? a = some o -> h'.get? a = some o) : IsTup h' a items := by obtain ⟨o, ho, r⟩ := x; exact ⟨o, e o ho, r⟩
open PyProof.Rows in
theorem Walks.rvt {prog : Program} {w : World} {A : Around} (hh : A.handled = none) (I l : Addr) (hne : l ≠ I) (items : Array Value) (hfit : items.size <= sizeLine) :
    Walks prog w A I [I, l] [I] items.size (fun i v => items[items.size - 1 - i]? = some v) (fun i h => ∃ k : Nat, i + k = items.size /\ h.IsRvt I l ((k : Int) - 1) /\ IsTup h l items) where
  sub := fun _ m => List.mem_cons.mpr (.inl (List.mem_singleton.mp m))
  frame := fun _ _ _ ⟨k, e, r, t⟩ q => ⟨k, e, r.at (q I List.mem_cons_self), rvt_tup t (q l (List.mem_cons_of_mem _ List.mem_cons_self))⟩
  item := fun i s Q E lt ⟨k, e, r, t⟩ next => by
    obtain _ | k := k
    . omega
    have z : items.size <= 16777216 := hfit
    have p : items[k]? = some (items[k]'(by omega)) := Array.getElem?_eq_getElem _
    rw [show ((k + 1 : Nat) : Int) - 1 = (k : Int) by omega] at r
    exact rvt_item r t p (by omega) fun u tk r' same => next _ u tk (by rw [show items.size - 1 - i = k by omega]; exact p) ⟨k, by omega, r', rvt_tup t fun o g => (same.2 l hne).trans g⟩ fun b o n g => same.extBut b o (fun y => n (y ▸ List.mem_cons_self)) g
  done := fun s Q E ⟨k, e, r, t⟩ next => by
    obtain rfl : k = 0 := by omega
    exact rvt_end hh r fun u x => next u s.toks fun b o n g => x b o (fun y => n (y ▸ List.mem_cons_self)) g
  self := fun _ _ _ _ ⟨_, _, r, _⟩ q => rvt_iter r q
section
open PyProof.Rows
variable {prog : Program} {w : World} {A : Around} {E : Value -> Shared -> Prop} {s : Shared}
theorem call_tuple_rvt {Q : Value -> Shared -> Prop} {I l : Addr} {items : Array Value} (hh : A.handled = none) (hit : s.heap.IsRvt I l ((items.size : Int) - 1)) (hl : IsTup s.heap l items) (hz : items.size <= sizeLine)
    (hQ : ∀ (h' : Heap) (tk : Nat) (acc' : Array Value), (∀ b o, b ≠ I -> s.heap.get? b = some o -> h'.get? b = some o) -> ItemsOf (fun i v => items[items.size - 1 - i]? = some v) acc' items.size -> Q (.ref h'.objs.size) { s with heap := h'.push { cls := .type "tuple", data := .seq acc' }, toks := tk }) :
    wpAny (model prog w) A (call (.type "tuple") [.ref I]) Q E s := by
  obtain ⟨oi, e1, e2, e3⟩ := id hit
  obtain ⟨ol, f1, f2, f3⟩ := id hl
  have ne : l ≠ I := fun z => by
    subst z
    rw [e1] at f1
    cases f1
    rw [e2] at f2
    exact absurd f2 (by decide)
  have G := Gat.ofWalks (s := s) (r := I) (T := "reversed") (fun A h => Walks.rvt (prog := prog) (w := w) (A := A) h I l ne items hz) hh (fun m => by
    rcases List.mem_cons.mp m with z | z
    . exact absurd (Heap.lt_size e1) (by rw [<- z]; exact Nat.lt_irrefl _)
    . exact absurd (Heap.lt_size f1) (by rw [<- List.mem_singleton.mp z]; exact Nat.lt_irrefl _)) hit.typeIs (by decide) (by decide) hz (fun A t Q E k q => rvt_hint (items := items) (hit.at fun o z => k _ o z) (rvt_tup hl fun o z => k _ o z) hz q) fun A h1 Q E k _ q => rvt_iter (hit.at (h' := h1) fun o z => k _ o z) (q h1 ⟨items.size, Nat.zero_add _, hit.at (h' := h1) fun o z => k _ o z, rvt_tup hl fun o z => k _ o z⟩ fun b o z => z)
  exact G.tuple hh fun h' tk acc f le k4 => hQ h' tk acc.toArray (fun b o n q => k4 b o (fun z => n (List.mem_singleton.mp z)) q) (rev_items le f)
end
end PySem
namespace L2
open PySem PySem.Spec PyProof.Rows
def tTupRevT (K : PySem.W.Frag) (te : TE) : TE := fun σ H Q => te σ H fun x H1 => ∃ a xs, x = .ref a /\ SqT K H1 a xs /\ ∀ p, H1 p = none -> Q (.ref p) (upd H1 p (.tup xs.reverse))
theorem r_tupRevT {K : PySem.W.Frag} {te : TE} {σ : St} {H : Hp} {Q : VK} : tTupRevT K te σ H Q = te σ H fun x H1 => ∃ a xs, x = .ref a /\ SqT K H1 a xs /\ ∀ p, H1 p = none -> Q (.ref p) (upd H1 p (.tup xs.reverse)) := rfl
section
variable {X : Cx}
theorem rvt_arg {e : Expr} {te : TE} {p pos pos1 : Pos} {pins : List (Addr × Obj)} {σ : St} {H : Hp} {s : Shared} {W : Hp -> Addr -> List V -> Prop} {QQ : List Value -> Shared -> Prop} (hg : Gl X "reversed") (hm : X.mg "reversed" = none) (he : PE X e te) (I : Inv X pins σ H s)
    (h : te σ H fun x H1 => ∃ a xs, x = .ref a /\ SqT X.K H1 a xs /\ W H1 a xs) (hs1 : starEach [.Call (.Name "reversed" p) [e] [] pos] X.env = [(false, eval (.Call (.Name "reversed" p) [e] [] pos) X.env)]) (hs : starEach [e] X.env = [(false, eval e X.env)])
    (k : ∀ s1 H1 a xs its tk, Inv X pins σ H1 s1 -> Vals xs its -> IsTup s1.heap a its.toArray -> xs.length <= sizeLine -> H1 a ≠ none \/ True -> W H1 a xs -> QQ [.ref s1.heap.objs.size] { s1 with heap := s1.heap.push (rvtObj a ((its.toArray.size : Int) - 1)), toks := tk }) :
    wpAny (model X.prog X.w) X.A (spliced (backTo pos1 (starEach [.Call (.Name "reversed" p) [e] [] pos] X.env))) QQ X.xe s := by
  rw [hs1]
  refine Calls.spliced_cons ?_
  refine Call_ (ld_blt I hg hm boot_reversed (PyProof.Rows.callWith_type1 (thn (pa_cons he pa_nil hs pos pins s σ H (fun vs H1 => ∃ a xs, vs = [.ref a] /\ SqT X.K H1 a xs /\ W H1 a xs) I ?_) fun us s1 ⟨vs, H1, I1, r1, q1⟩ => ?_) hs rfl))
  . show te σ H _
    have : (fun x H1 => ∃ a xs, x = V.ref a /\ SqT X.K H1 a xs /\ W H1 a xs) = (fun x H1 => tNil σ H1 fun xs H2 => ∃ a ys, x :: xs = [V.ref a] /\ SqT X.K H2 a ys /\ W H2 a ys) := by
      funext x H1
      simp [tNil]
    rw [<- this]
    exact h
  . obtain ⟨a, xs, rfl, hq, q⟩ := q1
    cases r1 with
    | cons r rr =>
      cases rr
      cases r
      obtain ⟨its, rv, p, hz⟩ := I1.tuple hq
      have hl := rv.length
      have hz24 : xs.length <= 16777216 := hz
      refine call_rvt p (by rw [List.size_toArray]; omega) fun tk => ?_
      exact Calls.spliced_nil (k s1 H1 a xs its tk I1 rv p hz (.inr trivial) q)
theorem pe_tupleRevT {e : Expr} {te : TE} {p p2 pos pos2 : Pos} (hc : X.calm = true) (hg : Gl X "tuple") (hm : X.mg "tuple" = none) (hg2 : Gl X "reversed") (hm2 : X.mg "reversed" = none) (he : PE X e te)
    (hs1 : starEach [.Call (.Name "reversed" p2) [e] [] pos2] X.env = [(false, eval (.Call (.Name "reversed" p2) [e] [] pos2) X.env)] := by rfl) (hs : starEach [e] X.env = [(false, eval e X.env)] := by rfl) :
    PE X (.Call (.Name "tuple" p) [.Call (.Name "reversed" p2) [e] [] pos2] [] pos) (tTupRevT X.K te) := by
  intro pins s σ H Q I h
  refine wpAny_Call_Name_kw (ld_blt I hg hm boot_tuple ?_)
  refine PyProof.Rows.callWith_type1 (rvt_arg (W := fun H1 a xs => ∀ p, H1 p = none -> Q (.ref p) (upd H1 p (.tup xs.reverse))) hg2 hm2 he I h hs1 hs fun s1 H1 a xs its tk0 I1 rv pl hz _ q => ?_) hs1 rfl
  have hl := rv.length
  refine call_tuple_rvt (items := its.toArray) (I.ok.hd hc) ⟨_, Heap.get?_push_size _ rfl, rfl, rfl⟩ (rvt_tup pl fun o e => Heap.get?_push_of_some _ e) (by rw [List.size_toArray, <- hl]; exact hz) fun h' tk acc' hk hacc => ?_
  have kp : ∀ b o, s1.heap.get? b = some o -> h'.get? b = some o := fun b o e => hk b o (Nat.ne_of_lt (Heap.lt_size e)) (Heap.get?_push_of_some _ e)
  have I2 : Inv X pins σ H1 { s1 with heap := h', toks := tk } := I1.kept kp
  refine ⟨.ref h'.objs.size, _, I2.laid (t' := tk) (fun b o e => Heap.get?_push_of_some _ e) (Nat.le_refl _) (show ObjOk X.prog X.w _ _ _ (.tup xs.reverse) from ⟨by rw [List.length_reverse]; exact hz, acc'.toList, items_rev rv hacc, by simpa using IsTup.new _ _⟩), rfl, q _ (I2.hok.fresh (Nat.le_refl _))⟩
end
end L2
set_option Elab.async false
set_option linter.all false
set_option maxRecDepth 100000
set_option maxHeartbeats 4000000
namespace PySem
section
variable {prog : Program} {w : World} {A : Around} {R : Result -> Shared -> Prop} {I : Addr} {fp wr : List Addr} {n : Nat} {P : Nat -> Value -> Prop} {St : Nat -> Heap -> Prop} {d : Int} {td : Tok}
end
end PySem
set_option Elab.async false
set_option linter.all false
set_option maxRecDepth 100000
set_option maxHeartbeats 4000000
namespace L2
open PySem PySem.Spec PyProof.Rows
section
variable {X : Cx} {pins : List (Addr × Obj)} {σ : St} {H : Hp} {s : Shared} {a : Addr}
end
theorem call_tuple_L {X : Cx} : CallR X (.type "tuple") (fun xs H Q => ∃ p ys, xs = [.ref p] /\ ((SqL X.K H p ys /\ ∀ l, H l = none -> Q (.ref l) (upd H l (.tup ys))) \/ False)) := fun pins s σ H xs us Q I r h => by
  obtain ⟨p, ys, e, h | h⟩ := h
  . exact call_tuple_of pins s σ H xs us Q I r ⟨p, ys, e, .inl h⟩
  . exact h.elim
theorem call_tuple_LK {X : Cx} {K : PySem.W.Frag} (h : X.K = K) : CallR X (.type "tuple") (fun xs H Q => ∃ p ys, xs = [.ref p] /\ ((SqL K H p ys /\ ∀ l, H l = none -> Q (.ref l) (upd H l (.tup ys))) \/ False)) := by subst h; exact call_tuple_L
theorem len1 {α : Type} {us : List α} (h : us.length = 1) : ∃ a, us = [a] := by match us, h with | [a], _ => exact ⟨a, rfl⟩
theorem len2 {α : Type} {us : List α} (h : us.length = 2) : ∃ a b, us = [a, b] := by match us, h with | [a, b], _ => exact ⟨a, b, rfl⟩
theorem len3 {α : Type} {us : List α} (h : us.length = 3) : ∃ a b c, us = [a, b, c] := by match us, h with | [a, b, c], _ => exact ⟨a, b, c, rfl⟩
theorem len4 {α : Type} {us : List α} (h : us.length = 4) : ∃ a b c d, us = [a, b, c, d] := by match us, h with | [a, b, c, d], _ => exact ⟨a, b, c, d, rfl⟩
theorem len5 {α : Type} {us : List α} (h : us.length = 5) : ∃ a b c d e, us = [a, b, c, d, e] := by match us, h with | [a, b, c, d, e], _ => exact ⟨a, b, c, d, e, rfl⟩
section
variable {σ : St} {H : Hp} {Q : VK} {K : PySem.W.Frag}
end
section
variable {a : Addr} {n : Int} {b : Bool}
end
def tLater (u : TS) (D : Ends) : St -> Hp -> Prop := u D
def tLazy (t u : TS) : TS := fun D σ H => t { D with nx := tLater u D } σ H
theorem r_lazy {t u : TS} {D : Ends} {σ : St} {H : Hp} : tLazy t u D σ H = t { D with nx := tLater u D } σ H := rfl
theorem later_of {u : TS} {D : Ends} {σ : St} {H : Hp} (h : u D σ H) : tLater u D σ H := h
theorem pss_lazy {X : Cx} {st : Stmt} {rest : List Stmt} {t u : TS} (h1 : PS X st t) (h2 : PSs X rest u) : PSs X (st :: rest) (tLazy t u) := pss_cons h1 h2
end L2
set_option Elab.async false
set_option linter.all false
set_option maxRecDepth 100000
set_option maxHeartbeats 4000000
namespace L2
open PySem PySem.Spec PyProof.Rows
end L2
set_option Elab.async false
set_option linter.all false
set_option maxRecDepth 100000
set_option maxHeartbeats 1000000
namespace L2
open PySem PySem.W PySem.Spec PySem.Calls PyProof.Rows
section
variable {X : Cx} {es : List Expr} {t : TA}
end
end L2
set_option Elab.async false
set_option linter.all false
set_option maxRecDepth 100000
set_option maxHeartbeats 4000000
namespace Mine
open PySem L2 GW GB PrimeO
local macro_rules | `(tactic| walk_at "rd") => `(tactic| (try dsimp only [↓r_seq, ↓r_next, ↓r_asg, ↓r_gname, ↓r_var, ↓r_c, ↓r_op, ↓r_un, ↓r_I, ↓r_I0, ↓r_U, ↓r_call, ↓r_cons, ↓r_nil, ↓r_ret, ↓r_drop, ↓r_if, ↓r_B, ↓r_test, ↓r_or, ↓r_not, ↓r_andV, ↓r_notV, ↓r_chain, ↓r_CB, ↓r_lst, ↓r_tup, ↓r_ixL, ↓r_ixT, ↓r_sl, ↓r_part, ↓r_nopart, ↓r_slT, ↓r_BM, ↓r_append, ↓r_Eq, ↓r_Ne, ↓r_iTup, ↓r_iRng1, ↓r_true, ↓r_comp, ↓r_for, ↓r_extend, ↓r_cat, ↓r_raise, ↓r_try, ↓r_unnx, ↓r_unrt, ↓r_neD, ↓r_gTup, ↓r_gCons, ↓r_gNil, ↓r_iSeq, ↓r_tupRevT, ↓r_lazy, ↓r_tryN, ↓r_iRng2, ↓r_iZip2, ↓r_extendT, ↓r_slT2, ↓r_callVE2, r_cxK, L2.start, List.map_cons, List.map_nil, List.length_cons, List.length_nil, List.cons_append, List.nil_append, List.replicate, List.getElem?_cons_zero, List.getElem?_cons_succ, List.set_cons_zero, List.set_cons_succ, scal]) <;> (try simp only [↓r_seq, ↓r_next, ↓r_asg, ↓r_gname, ↓r_var, ↓r_c, ↓r_op, ↓r_un, ↓r_I, ↓r_I0, ↓r_U, ↓r_call, ↓r_cons, ↓r_nil, ↓r_ret, ↓r_drop, ↓r_if, ↓r_B, ↓r_test, ↓r_or, ↓r_not, ↓r_andV, ↓r_notV, ↓r_chain, ↓r_CB, ↓r_lst, ↓r_tup, ↓r_ixL, ↓r_ixT, ↓r_sl, ↓r_part, ↓r_nopart, ↓r_slT, ↓r_BM, ↓r_append, ↓r_Eq, ↓r_Ne, ↓r_iTup, ↓r_iRng1, ↓r_true, ↓r_comp, ↓r_for, ↓r_extend, ↓r_cat, ↓r_raise, ↓r_try, ↓r_unnx, ↓r_unrt, ↓r_neD, ↓r_gTup, ↓r_gCons, ↓r_gNil, ↓r_iSeq, ↓r_tupRevT, ↓r_lazy, ↓r_tryN, ↓r_iRng2, ↓r_iZip2, ↓r_extendT, ↓r_slT2, ↓r_callVE2, r_cxK, L2.start, List.map_cons, List.map_nil, List.length_cons, List.length_nil, List.cons_append, List.nil_append, List.append_nil, List.replicate, List.getElem?_cons_zero, List.getElem?_cons_succ, List.set_cons_zero, List.set_cons_succ, Option.some.injEq, V.int.injEq, V.str.injEq, V.ref.injEq, V.bl.injEq, List.cons.injEq, and_true, true_and, and_assoc, exists_and_left, exists_eq_left', exists_eq_left, exists_eq_right, exists_eq, if_true, if_false, Bool.false_eq_true, decide_eq_true_eq, scal, Nat.reduceAdd, Nat.reduceSub, reduceCtorEq, Bool.not_true, Bool.not_false]))
def top (i : Nat) : Stmt := PySem.Challenge.pw_guessroom_k66_less_times_back.main.body.getD i (.Pass ⟨0, 0, 0, 0⟩)
abbrev s_scaled : Stmt := top 5
theorem sc_scaled : FnScope ["p", "factor", "row"] ["p", "factor", "row"] (defScope s_scaled) := ⟨rfl, rfl, rfl, by decide +kernel, rfl, by decide +kernel, by decide +kernel⟩
abbrev s_product : Stmt := top 6
theorem sc_product : FnScope ["p", "row", "other"] ["p", "row", "other"] (defScope s_product) := ⟨rfl, rfl, rfl, by decide +kernel, rfl, by decide +kernel, by decide +kernel⟩
abbrev s_is_word : Stmt := top 8
theorem sc_is_word : FnScope ["letters", "word"] ["letters", "word"] (defScope s_is_word) := ⟨rfl, rfl, rfl, by decide +kernel, rfl, by decide +kernel, by decide +kernel⟩
abbrev s_check_word : Stmt := top 9
theorem sc_check_word : FnScope ["letters", "word"] ["letters", "word"] (defScope s_check_word) := ⟨rfl, rfl, rfl, by decide +kernel, rfl, by decide +kernel, by decide +kernel⟩
abbrev s_made_of : Stmt := top 11
theorem sc_made_of : FnScope ["p", "rows", "parts", "size"] ["p", "rows", "parts", "size"] (defScope s_made_of) := ⟨rfl, rfl, rfl, by decide +kernel, rfl, by decide +kernel, by decide +kernel⟩
abbrev s_check_size : Stmt := top 14
theorem sc_check_size : FnScope ["size"] ["size"] (defScope s_check_size) := ⟨rfl, rfl, rfl, by decide +kernel, rfl, by decide +kernel, by decide +kernel⟩
abbrev s_stepped : Stmt := top 15
theorem sc_stepped : FnScope ["house", "row", "letter"] ["house", "row", "letter"] (defScope s_stepped) := ⟨rfl, rfl, rfl, by decide +kernel, rfl, by decide +kernel, by decide +kernel⟩
abbrev s_rows_along : Stmt := top 16
theorem sc_rows_along : FnScope ["house", "word", "rows", "letter"] ["house", "word"] (defScope s_rows_along) := ⟨rfl, rfl, rfl, by decide +kernel, rfl, by decide +kernel, by decide +kernel⟩
abbrev s_row_behind : Stmt := top 17
theorem sc_row_behind : FnScope ["house", "word"] ["house", "word"] (defScope s_row_behind) := ⟨rfl, rfl, rfl, by decide +kernel, rfl, by decide +kernel, by decide +kernel⟩
abbrev s_worth : Stmt := top 18
theorem sc_worth : FnScope ["house", "word"] ["house", "word"] (defScope s_worth) := ⟨rfl, rfl, rfl, by decide +kernel, rfl, by decide +kernel, by decide +kernel⟩
abbrev s_check_as_many : Stmt := top 19
theorem sc_check_as_many : FnScope ["house", "other"] ["house", "other"] (defScope s_check_as_many) := ⟨rfl, rfl, rfl, by decide +kernel, rfl, by decide +kernel, by decide +kernel⟩
abbrev s_table_less : Stmt := top 20
theorem sc_table_less : FnScope ["table", "other", "left", "right"] ["table", "other"] (defScope s_table_less) := ⟨rfl, rfl, rfl, by decide +kernel, rfl, by decide +kernel, by decide +kernel⟩
abbrev s_less_of : Stmt := top 21
theorem sc_less_of : FnScope ["house", "other", "tables", "last"] ["house", "other"] (defScope s_less_of) := ⟨rfl, rfl, rfl, by decide +kernel, rfl, by decide +kernel, by decide +kernel⟩
abbrev s_sums_less : Stmt := top 22
theorem sc_sums_less : FnScope ["house", "other"] ["house", "other"] (defScope s_sums_less) := ⟨rfl, rfl, rfl, by decide +kernel, rfl, by decide +kernel, by decide +kernel⟩
abbrev s_row_times : Stmt := top 23
theorem sc_row_times : FnScope ["p", "row", "other", "numbers", "number"] ["p", "row", "other"] (defScope s_row_times) := ⟨rfl, rfl, rfl, by decide +kernel, rfl, by decide +kernel, by decide +kernel⟩
abbrev s_table_times : Stmt := top 24
theorem sc_table_times : FnScope ["p", "table", "other", "rows", "row"] ["p", "table", "other"] (defScope s_table_times) := ⟨rfl, rfl, rfl, by decide +kernel, rfl, by decide +kernel, by decide +kernel⟩
abbrev s_sums_times : Stmt := top 25
theorem sc_sums_times : FnScope ["house", "other", "p", "tables"] ["house", "other"] (defScope s_sums_times) := ⟨rfl, rfl, rfl, by decide +kernel, rfl, by decide +kernel, by decide +kernel⟩
abbrev s_table_back : Stmt := top 26
theorem sc_table_back : FnScope ["table"] ["table"] (defScope s_table_back) := ⟨rfl, rfl, rfl, by decide +kernel, rfl, by decide +kernel, by decide +kernel⟩
abbrev s_sums_back : Stmt := top 27
theorem sc_sums_back : FnScope ["house", "tables"] ["house"] (defScope s_sums_back) := ⟨rfl, rfl, rfl, by decide +kernel, rfl, by decide +kernel, by decide +kernel⟩
abbrev s__law_cell : Stmt := top 29
theorem sc__law_cell : FnScope ["script", "k"] ["script", "k"] (defScope s__law_cell) := ⟨rfl, rfl, rfl, by decide +kernel, rfl, by decide +kernel, by decide +kernel⟩
abbrev s__law_is_prime : Stmt := top 30
theorem sc__law_is_prime : FnScope ["number", "part"] ["number"] (defScope s__law_is_prime) := ⟨rfl, rfl, rfl, by decide +kernel, rfl, by decide +kernel, by decide +kernel⟩
abbrev s__law_prime : Stmt := top 31
theorem sc__law_prime : FnScope ["cell", "some", "number"] ["cell"] (defScope s__law_prime) := ⟨rfl, rfl, rfl, by decide +kernel, rfl, by decide +kernel, by decide +kernel⟩
abbrev s__law_whole : Stmt := top 32
theorem sc__law_whole : FnScope ["found"] ["found"] (defScope s__law_whole) := ⟨rfl, rfl, rfl, by decide +kernel, rfl, by decide +kernel, by decide +kernel⟩
abbrev s__law_number : Stmt := top 33
theorem sc__law_number : FnScope ["script", "k", "p", "many"] ["script", "k", "p"] (defScope s__law_number) := ⟨rfl, rfl, rfl, by decide +kernel, rfl, by decide +kernel, by decide +kernel⟩
abbrev s__law_row : Stmt := top 34
theorem sc__law_row : FnScope ["script", "at", "many", "p"] ["script", "at", "many", "p"] (defScope s__law_row) := ⟨rfl, rfl, rfl, by decide +kernel, rfl, by decide +kernel, by decide +kernel⟩
abbrev s__law_row_is : Stmt := top 35
theorem sc__law_row_is : FnScope ["found", "due", "k"] ["found", "due"] (defScope s__law_row_is) := ⟨rfl, rfl, rfl, by decide +kernel, rfl, by decide +kernel, by decide +kernel⟩
abbrev s__law_house : Stmt := top 36
theorem sc__law_house : FnScope ["script", "at", "p", "letters", "many", "tables", "letter", "base", "first"] ["script", "at", "p", "letters", "many"] (defScope s__law_house) := ⟨rfl, rfl, rfl, by decide +kernel, rfl, by decide +kernel, by decide +kernel⟩
abbrev s__law_step : Stmt := top 37
theorem sc__law_step : FnScope ["p", "row", "table", "told", "c"] ["p", "row", "table"] (defScope s__law_step) := ⟨rfl, rfl, rfl, by decide +kernel, rfl, by decide +kernel, by decide +kernel⟩
abbrev s__law_times : Stmt := top 38
theorem sc__law_times : FnScope ["p", "one", "two"] ["p", "one", "two"] (defScope s__law_times) := ⟨rfl, rfl, rfl, by decide +kernel, rfl, by decide +kernel, by decide +kernel⟩
abbrev s__law_behind : Stmt := top 39
theorem sc__law_behind : FnScope ["house", "word", "row", "letter"] ["house", "word"] (defScope s__law_behind) := ⟨rfl, rfl, rfl, by decide +kernel, rfl, by decide +kernel, by decide +kernel⟩
abbrev s__law_word : Stmt := top 40
theorem sc__law_word : FnScope ["script", "letters", "most", "many"] ["script", "letters", "most"] (defScope s__law_word) := ⟨rfl, rfl, rfl, by decide +kernel, rfl, by decide +kernel, by decide +kernel⟩
abbrev s__law_house_is : Stmt := top 41
theorem sc__law_house_is : FnScope ["found", "due", "letter", "k"] ["found", "due"] (defScope s__law_house_is) := ⟨rfl, rfl, rfl, by decide +kernel, rfl, by decide +kernel, by decide +kernel⟩
abbrev s__law_less : Stmt := top 42
theorem sc__law_less : FnScope ["one", "two", "p", "tables", "letter", "table"] ["one", "two"] (defScope s__law_less) := ⟨rfl, rfl, rfl, by decide +kernel, rfl, by decide +kernel, by decide +kernel⟩
abbrev s__law_cross : Stmt := top 43
theorem sc__law_cross : FnScope ["p", "one", "two", "many"] ["p", "one", "two"] (defScope s__law_cross) := ⟨rfl, rfl, rfl, by decide +kernel, rfl, by decide +kernel, by decide +kernel⟩
abbrev s__law_times_of : Stmt := top 44
theorem sc__law_times_of : FnScope ["one", "two", "p", "many", "tables", "letter", "table", "k"] ["one", "two"] (defScope s__law_times_of) := ⟨rfl, rfl, rfl, by decide +kernel, rfl, by decide +kernel, by decide +kernel⟩
abbrev s__law_back : Stmt := top 45
theorem sc__law_back : FnScope ["house", "tables", "table", "turned_rows", "c"] ["house"] (defScope s__law_back) := ⟨rfl, rfl, rfl, by decide +kernel, rfl, by decide +kernel, by decide +kernel⟩
abbrev s__law_blank : Stmt := top 46
theorem sc__law_blank : FnScope ["p", "many", "table"] ["p", "many"] (defScope s__law_blank) := ⟨rfl, rfl, rfl, by decide +kernel, rfl, by decide +kernel, by decide +kernel⟩
abbrev s__law_refused : Stmt := top 47
theorem sc__law_refused : FnScope ["deed", "one", "two", "refused"] ["deed", "one", "two"] (defScope s__law_refused) := ⟨rfl, rfl, rfl, by decide +kernel, rfl, by decide +kernel, by decide +kernel⟩
abbrev s__law_refused_by_any : Stmt := top 48
theorem sc__law_refused_by_any : FnScope ["deed", "one", "two", "told", "e"] ["deed", "one", "two"] (defScope s__law_refused_by_any) := ⟨rfl, rfl, rfl, by decide +kernel, rfl, by decide +kernel, by decide +kernel⟩
abbrev s__law_edges : Stmt := top 49
theorem sc__law_edges : FnScope ["p", "cell", "many", "fit"] ["p", "cell"] (defScope s__law_edges) := ⟨rfl, rfl, rfl, by decide +kernel, rfl, by decide +kernel, by decide +kernel⟩
abbrev s__law_worth : Stmt := top 50
theorem sc__law_worth : FnScope ["house", "word"] ["house", "word"] (defScope s__law_worth) := ⟨rfl, rfl, rfl, by decide +kernel, rfl, by decide +kernel, by decide +kernel⟩
abbrev s__law_values : Stmt := top 51
theorem sc__law_values : FnScope ["one", "two", "word", "p", "mine", "other"] ["one", "two", "word"] (defScope s__law_values) := ⟨rfl, rfl, rfl, by decide +kernel, rfl, by decide +kernel, by decide +kernel⟩
abbrev s__law_unlike : Stmt := top 52
theorem sc__law_unlike : FnScope ["deed", "one", "two", "cell", "beside", "blank_table", "letters"] ["deed", "one", "two", "cell"] (defScope s__law_unlike) := ⟨rfl, rfl, rfl, by decide +kernel, rfl, by decide +kernel, by decide +kernel⟩
abbrev s_law : Stmt := top 53
theorem sc_law : FnScope ["script", "p", "letters", "many", "one", "at", "two", "cell"] ["script"] (defScope s_law) := ⟨rfl, rfl, rfl, by decide +kernel, rfl, by decide +kernel, by decide +kernel⟩
def c_scaled_3 : Caps := [("number", none), ("p", some 0), ("factor", some 1)]
theorem nd_c_scaled_3 : (Caps.names c_scaled_3).Nodup := by decide +kernel
def c_product_0 : Caps := [("one", none), ("two", none)]
theorem nd_c_product_0 : (Caps.names c_product_0).Nodup := by decide +kernel
def c_is_word_0 : Caps := [("letter", none), ("letters", some 0)]
theorem nd_c_is_word_0 : (Caps.names c_is_word_0).Nodup := by decide +kernel
def c_made_of_6 : Caps := [("place", none), ("p", some 0), ("parts", some 2), ("rows", some 1)]
theorem nd_c_made_of_6 : (Caps.names c_made_of_6).Nodup := by decide +kernel
def c_made_of_7 : Caps := [("row", none), ("place", some 0)]
theorem nd_c_made_of_7 : (Caps.names c_made_of_7).Nodup := by decide +kernel
def c_table_less_6 : Caps := [("row", none), ("right", some 3)]
theorem nd_c_table_less_6 : (Caps.names c_table_less_6).Nodup := by decide +kernel
def c_table_less_7 : Caps := [("row", none), ("left", some 2)]
theorem nd_c_table_less_7 : (Caps.names c_table_less_7).Nodup := by decide +kernel
def c_less_of_3 : Caps := [("one", none), ("two", none)]
theorem nd_c_less_of_3 : (Caps.names c_less_of_3).Nodup := by decide +kernel
def c_table_times_0 : Caps := [("two", none), ("p", some 0), ("row", some 4)]
theorem nd_c_table_times_0 : (Caps.names c_table_times_0).Nodup := by decide +kernel
def c_sums_times_3 : Caps := [("one", none), ("two", none), ("p", some 2)]
theorem nd_c_sums_times_3 : (Caps.names c_sums_times_3).Nodup := by decide +kernel
def c_table_back_18 : Caps := [("place", none), ("table", some 0)]
theorem nd_c_table_back_18 : (Caps.names c_table_back_18).Nodup := by decide +kernel
def c_table_back_22 : Caps := [("row", none), ("place", some 0)]
theorem nd_c_table_back_22 : (Caps.names c_table_back_22).Nodup := by decide +kernel
def c_sums_back_3 : Caps := [("table", none)]
theorem nd_c_sums_back_3 : (Caps.names c_sums_back_3).Nodup := by decide +kernel
def c__law_row_3 : Caps := [("k", none), ("script", some 0), ("p", some 3), ("at", some 1)]
theorem nd_c__law_row_3 : (Caps.names c__law_row_3).Nodup := by decide +kernel
def c__law_house_3 : Caps := [("k", none), ("script", some 0), ("many", some 4), ("p", some 2), ("base", some 7)]
theorem nd_c__law_house_3 : (Caps.names c__law_house_3).Nodup := by decide +kernel
def c__law_step_0 : Caps := [("k", none), ("row", some 1), ("c", some 4), ("table", some 2)]
theorem nd_c__law_step_0 : (Caps.names c__law_step_0).Nodup := by decide +kernel
def c__law_times_0 : Caps := [("k", none), ("one", some 1), ("two", some 2)]
theorem nd_c__law_times_0 : (Caps.names c__law_times_0).Nodup := by decide +kernel
def c__law_word_3 : Caps := [("k", none), ("letters", some 1), ("script", some 0)]
theorem nd_c__law_word_3 : (Caps.names c__law_word_3).Nodup := by decide +kernel
def c__law_less_0 : Caps := [("row", none), ("two", some 1)]
theorem nd_c__law_less_0 : (Caps.names c__law_less_0).Nodup := by decide +kernel
def c__law_less_4 : Caps := [("row", none), ("one", some 0)]
theorem nd_c__law_less_4 : (Caps.names c__law_less_4).Nodup := by decide +kernel
def c__law_less_9 : Caps := [("number", none), ("p", some 2)]
theorem nd_c__law_less_9 : (Caps.names c__law_less_9).Nodup := by decide +kernel
def c__law_cross_3 : Caps := [("k", none), ("p", some 0), ("one", some 1), ("two", some 2), ("many", some 3)]
theorem nd_c__law_cross_3 : (Caps.names c__law_cross_3).Nodup := by decide +kernel
def c__law_back_3 : Caps := [("row", none), ("c", some 4)]
theorem nd_c__law_back_3 : (Caps.names c__law_back_3).Nodup := by decide +kernel
def c__law_blank_3 : Caps := [("k", none), ("many", some 1)]
theorem nd_c__law_blank_3 : (Caps.names c__law_blank_3).Nodup := by decide +kernel
def c__law_unlike_3 : Caps := [("k", none), ("two", some 2)]
theorem nd_c__law_unlike_3 : (Caps.names c__law_unlike_3).Nodup := by decide +kernel
structure Txt (mg : Str -> Option Value) : Prop where
  ValueError : mg "ValueError" = none
  all : mg "all" = none
  bool : mg "bool" = none
  int : mg "int" = none
  isinstance : mg "isinstance" = none
  len : mg "len" = none
  max : mg "max" = none
  min : mg "min" = none
  range : mg "range" = none
  reversed : mg "reversed" = none
  sum : mg "sum" = none
  tuple : mg "tuple" = none
  zip : mg "zip" = none
structure Own (K : PySem.W.Frag) (mg : Str -> Option Value) : Prop where
  q_MOST_NUMBERS : ∃ t, mg "MOST_NUMBERS" = some (.int 16 t)
structure Exs (K : PySem.W.Frag) (mg : Str -> Option Value) (C_AskError C_BadHouse C_BadWord : Addr) : Prop where
  m_AskError : mg "AskError" = some (.ref C_AskError)
  m_BadHouse : mg "BadHouse" = some (.ref C_BadHouse)
  m_BadWord : mg "BadWord" = some (.ref C_BadWord)
  x_BadWord : PySem.W.excIn K C_BadWord bmV "ValueError.__new__" = true
  c_BadWord : ExcCls K C_BadWord
  e_BadWord : PySem.W.exmOne K (.ref C_BadWord) (.ref C_AskError) = some true
  v_BadWord : PySem.W.kitOne K (.ref C_BadWord) (.type "ValueError") = some true
  ee_BadWord : PySem.W.exmOne K (.ref C_BadWord) (.ref C_BadWord) = some true
  k_BadWord_AskError : PySem.W.kitOne K (.ref C_BadWord) (.ref C_AskError) = some true
  k_BadWord_BadHouse : PySem.W.kitOne K (.ref C_BadWord) (.ref C_BadHouse) = some false
  k_BadWord_BadWord : PySem.W.kitOne K (.ref C_BadWord) (.ref C_BadWord) = some true
  x_BadHouse : PySem.W.excIn K C_BadHouse bmV "ValueError.__new__" = true
  c_BadHouse : ExcCls K C_BadHouse
  e_BadHouse : PySem.W.exmOne K (.ref C_BadHouse) (.ref C_AskError) = some true
  v_BadHouse : PySem.W.kitOne K (.ref C_BadHouse) (.type "ValueError") = some true
  ee_BadHouse : PySem.W.exmOne K (.ref C_BadHouse) (.ref C_BadHouse) = some true
  k_BadHouse_AskError : PySem.W.kitOne K (.ref C_BadHouse) (.ref C_AskError) = some true
  k_BadHouse_BadHouse : PySem.W.kitOne K (.ref C_BadHouse) (.ref C_BadHouse) = some true
  k_BadHouse_BadWord : PySem.W.kitOne K (.ref C_BadHouse) (.ref C_BadWord) = some false
section
variable {P : Program} {w : World} {K : PySem.W.Frag} {mg : Str -> Option Value} {base : Heap}
variable {C_AskError C_BadHouse C_BadWord : Addr}
def sp_scaled (K : PySem.W.Frag) : Sp := fun vs H Q _ => ∃ (p f : Int) (t : Bool) (a : Addr) (xs : List Int), vs = [.int p, .int f, .ref a] /\ 0 < p /\ (-(2 ^ 64) < f /\ f < 2 ^ 64) /\ SqB K H t a (xs.map V.int) /\ xs.length <= 900 /\ ∀ q H', Same H H' -> H' q = some (.tup ((xs.map fun x => f * x % p).map V.int)) -> Q (.ref q) H'
theorem ok_scaled {f : Addr} {fd : FuncData} (F : Fun K "scaled" "scaled" s_scaled f fd) (T : Txt mg)
    (W : Own K mg)
    (Z : Exs K mg C_AskError C_BadHouse C_BadWord)
    : FnOk P w K mg base CX0 1 f fd ["p", "factor", "row"] (sp_scaled K) := by
  refine F.ok sc_scaled (fun vs H Q E h => ?_) (fun cdv A outer s H vs Q E hr h => ?_)
  . obtain ⟨p, f, t, a, xs, rfl, _⟩ := h; rfl
  . obtain ⟨p, f, t, a, xs, rfl, hp, hf, ha, hz, k⟩ := h
    have hl := line1000
    refine ⟨_, (pss_one (ps_ret (pe_callTy call_tuple_L rfl T.tuple PyProof.Rows.boot_tuple (pa_cons (pe_comp rfl (blk_mk rfl) (cp := c_scaled_3) ⟨⟨rfl, rfl⟩, ⟨⟨rfl, rfl⟩, True.intro⟩⟩ (pi_seq (pv 2)) (fun _ _ _ _ => (pg_name (i := 0) nd_c_scaled_3 rfl (Or.inl rfl))) (fun _ _ _ _ => pf_nil) (fun _ _ _ _ => (pe_op op_mod (pe_op op_mul (pv 2) (pv 0)) (pv 1)))) pa_nil)))), ?_⟩
    walk_at "rd"
    obtain ⟨g, hg⟩ : ∃ g : V -> V, ∀ n : Int, g (V.int n) = .int (f * n % p) := ⟨fun x => match x with | .int n => .int (f * n % p) | _ => .non, fun _ => rfl⟩
    refine compMapB (σ' := [some (.int p), some (.int f)]) g rfl ha (by rw [List.length_map]; omega) (fun x hx R hR => ?_) (fun D hD => ?_)
    . obtain ⟨n, hn, rfl⟩ := List.mem_map.mp hx
      rw [hg] at hR
      walk_at "rd"
      exact ⟨.inl hf, hp, hR⟩
    . have em : (xs.map V.int).map g = (xs.map fun x => f * x % p).map V.int := by
        rw [List.map_map, List.map_map]
        exact List.map_congr_left fun n _ => hg n
      rw [em]
      refine ⟨D, rfl, _, .inl ⟨SqL.of upd_same, fun q hq => k q _ ((Same.new hD).newT hq) upd_same⟩⟩
def sp_chz (BH : Addr) : Sp := fun vs H Q E => ∃ n : Nat, vs = [.int n] /\ (decide (n <= 16) = true -> Q .non H) /\ (decide (n <= 16) = false -> E (.ref BH) none H)
theorem ok_check_size {f : Addr} {fd : FuncData} (F : Fun K "check_size" "check_size" s_check_size f fd) (T : Txt mg)
    (W : Own K mg)
    (Z : Exs K mg C_AskError C_BadHouse C_BadWord)
    : FnOk P w K mg base (CXe P w) 1 f fd ["size"] (sp_chz C_BadHouse) := by
  refine F.okE sc_check_size (fun vs H Q E h => ?_) (fun cdv A outer s H vs Q E hr h => ?_)
  . obtain ⟨n, rfl, _⟩ := h; rfl
  . obtain ⟨n, rfl, k, kE⟩ := h
    have hl := line1000
    refine ⟨_, (pss_one (ps_if (pt_cmpR op_gt (pv 0) (pe_gc rfl W.q_MOST_NUMBERS) (nomark _))
      (pss_one (ps_raise Z.m_BadHouse Z.x_BadHouse rfl rfl (pa_cons pe_str pa_nil)))
      pss_nil)), ?_⟩
    walk_at "rd"
    by_cases h1 : n <= 16
    . rw [if_neg (by omega)]; exact k (by simp [h1])
    . rw [if_pos (by omega)]; exact ⟨by omega, kE (by simp [h1])⟩
def dotW (xs ys : List Int) : Int := (List.zipWith (fun x y => x * y) xs ys).sum
def sp_product (K : PySem.W.Frag) : Sp := fun vs H Q _ => ∃ (p : Int) (t1 t2 : Bool) (a b : Addr) (xs ys : List Int), vs = [.int p, .ref a, .ref b] /\ 0 < p /\ SqB K H t1 a (xs.map V.int) /\ SqB K H t2 b (ys.map V.int) /\ xs.length = ys.length /\ xs.length <= 900 /\ (∀ x ∈ xs, -(2 ^ 64) < x /\ x < 2 ^ 64) /\ ∀ H', Same H H' -> Q (.int (dotW xs ys % p)) H'
theorem ok_product {f : Addr} {fd : FuncData} (F : Fun K "product" "product" s_product f fd) (T : Txt mg)
    (W : Own K mg)
    (Z : Exs K mg C_AskError C_BadHouse C_BadWord)
    : FnOk P w K mg base CX0 1 f fd ["p", "row", "other"] (sp_product K) := by
  refine F.ok sc_product (fun vs H Q E h => ?_) (fun cdv A outer s H vs Q E hr h => ?_)
  . obtain ⟨p, t1, t2, a, b, xs, ys, rfl, _⟩ := h; rfl
  . obtain ⟨p, t1, t2, a, b, xs, ys, rfl, hp, ha, hb, hlen, hz, hx64, k⟩ := h
    have hl := line1000
    refine ⟨_, (pss_one (ps_ret (pe_op op_mod (pe_callB (call_sum rfl) rfl T.sum PyProof.Rows.boot_sum (pa_cons (pe_comp rfl (blk_mk rfl) (cp := c_product_0) True.intro (pi_zip2 rfl T.zip (pa_cons (pv 1) (pa_cons (pv 2) pa_nil))) (fun _ _ _ _ => (pg_tupK (K := K) (n := 2) rfl rfl (pgs_cons (pg_name (i := 0) nd_c_product_0 rfl (Or.inl rfl)) (pgs_cons (pg_name (i := 1) nd_c_product_0 rfl (Or.inl rfl)) pgs_nil)))) (fun _ _ _ _ => pf_nil) (fun _ _ _ _ => (pe_op op_mul (pv 0) (pv 1)))) pa_nil)) (pv 0)))), ?_⟩
    walk_at "rd"
    refine ⟨_, _, t1, ha, t2, hb, compMapZ (σ' := []) (fun x y => x * y) rfl ha hb hlen (by omega) (fun t u v o1 o2 H1 N ht hN => ?_) (fun x y H1 hx hy s1 R hR => ?_) (fun H1 D s1 hD => ?_)⟩
    . walk_at "rd"
      exact ⟨_, SqT.of ht, rfl, _, _, rfl, _, _, rfl, rfl, hN⟩
    . walk_at "rd"
      exact ⟨.inl (hx64 x hx), hR⟩
    . exact ⟨D, rfl, _, SqL.of upd_same, hp, k _ (s1.newT hD)⟩
def sp_is_word (K : PySem.W.Frag) : Sp := fun vs H Q _ => ∃ (L : Int) (a : Addr) (ws : List Int), vs = [.int L, .ref a] /\ SqT K H a (ws.map V.int) /\ ws.length <= 1000 /\ ∀ H', Same H H' -> Q (.bl (isW L ws)) H'
theorem ok_is_word {f : Addr} {fd : FuncData} (F : Fun K "is_word" "is_word" s_is_word f fd) (T : Txt mg)
    (W : Own K mg)
    (Z : Exs K mg C_AskError C_BadHouse C_BadWord)
    : FnOk P w K mg base CX0 1 f fd ["letters", "word"] (sp_is_word K) := by
  refine F.ok sc_is_word (fun vs H Q E h => ?_) (fun cdv A outer s H vs Q E hr h => ?_)
  . obtain ⟨L, a, ws, rfl, _⟩ := h; rfl
  . obtain ⟨L, a, ws, rfl, hw, hz, k⟩ := h
    have hl := line1000
    refine ⟨_, (pss_one (ps_ret (pe_callB (call_all rfl) rfl T.all PyProof.Rows.boot_all (pa_cons (pe_comp rfl (blk_mk rfl) (cp := c_is_word_0) ⟨⟨rfl, rfl⟩, True.intro⟩ (pi_tup (pv 1)) (fun _ _ _ _ => (pg_name (i := 0) nd_c_is_word_0 rfl (Or.inl rfl))) (fun _ _ _ _ => pf_nil) (fun _ _ _ _ => (pe_chain op_le op_lt pe_int (pv 0) (pv 1)))) pa_nil)))), ?_⟩
    walk_at "rd"
    refine ⟨⟨_, hw⟩, compMapT (σ' := [some (.int L)]) (fun x => match x with | .int n => .bl (inW L n) | _ => .non) rfl hw (by rw [List.length_map]; omega) (fun x hx R hR => ?_) (fun D hD => ?_)⟩
    . obtain ⟨n, _, rfl⟩ := mem_mapI hx
      walk_at "rd"
      by_cases h0 : 0 <= n
      . simp only [h0, if_true]
        simpa [inW, h0] using hR
      . simp only [h0, if_false]
        simpa [inW, h0] using hR
    . refine ⟨D, rfl, ws.map (inW L), .inl (.inl ?_), ?_⟩
      . rw [upd_same, List.map_map, List.map_map]; rfl
      . have := k _ (Same.new hD (o := .lst ((ws.map V.int).map fun x => match x with | .int n => .bl (inW L n) | _ => .non)))
        simpa [isW, List.all_map] using this
def sp_check (K : PySem.W.Frag) (BW : Addr) : Sp := fun vs H Q E => ∃ (L : Int) (a : Addr) (ws : List Int), vs = [.int L, .ref a] /\ SqT K H a (ws.map V.int) /\ ws.length <= 1000 /\ (isW L ws = true -> ∀ H', Same H H' -> Q .non H') /\ (isW L ws = false -> ∀ H', Same H H' -> E (.ref BW) none H')
theorem ok_check_word {f : Addr} {fd : FuncData} (F : Fun K "check_word" "check_word" s_check_word f fd) (T : Txt mg)
    (W : Own K mg)
    (Z : Exs K mg C_AskError C_BadHouse C_BadWord)
    {f_is_word : Addr} {fd_is_word : FuncData} (g_is_word : FnOk P w K mg base CX0 1 f_is_word fd_is_word ["letters", "word"] (sp_is_word K)) (F_is_word : Fun K "is_word" "is_word" s_is_word f_is_word fd_is_word) (b_is_word : Binds K fd_is_word ["letters", "word"] []) (m_is_word : mg "is_word" = some (.ref f_is_word))
    : FnOk P w K mg base (CXe P w) 2 f fd ["letters", "word"] (sp_check K C_BadWord) := by
  refine F.okE sc_check_word (fun vs H Q E h => ?_) (fun cdv A outer s H vs Q E hr h => ?_)
  . obtain ⟨L, a, ws, rfl, _⟩ := h; rfl
  . obtain ⟨L, a, ws, rfl, hw, hz, k, kE⟩ := h
    have hl := line1000
    refine ⟨_, (pss_one (ps_if (pt_not (pt_val (pe_call g_is_word (hr.mono (by decide)) rfl m_is_word F_is_word.kp b_is_word .nil pass0 (pa_cons (pv 0) (pa_cons (pv 1) pa_nil)))))
      (pss_one (ps_raise Z.m_BadWord Z.x_BadWord rfl rfl (pa_cons pe_str pa_nil)))
      pss_nil)), ?_⟩
    walk_at "rd"
    refine ⟨L, a, ws, rfl, hw, hz, fun H' s' => ?_⟩
    walk_at "rd"
    cases hv : isW L ws with
    | true =>
      simp only [Bool.not_true, Bool.false_eq_true, if_false]
      exact k hv H' s'
    | false =>
      simp only [Bool.not_false, if_true]
      exact ⟨by omega, kE hv H' s'⟩
def RowsN (K : PySem.W.Frag) (H : Hp) (xs : List V) (rows : List (List Int)) : Prop := xs.length = rows.length /\ ∀ (i : Nat) (r : List Int), rows[i]? = some r -> ∃ t, xs[i]? = some (.ref t) /\ SqT K H t (r.map V.int)
theorem RowsN.mono {K : PySem.W.Frag} {H H' : Hp} {xs : List V} {rows : List (List Int)} (h : RowsN K H xs rows) (s : Same H H') : RowsN K H' xs rows := by
  refine ⟨h.1, fun i r hi => ?_⟩
  obtain ⟨t, a, b⟩ := h.2 i r hi
  exact ⟨t, a, s.seqT b⟩
theorem RowsN.nil {K : PySem.W.Frag} {H : Hp} : RowsN K H [] [] := ⟨rfl, fun i r h => by simp at h⟩
theorem RowsN.snoc {K : PySem.W.Frag} {H : Hp} {xs : List V} {rows : List (List Int)} {t : Addr} {r : List Int} (h : RowsN K H xs rows) (g : SqT K H t (r.map V.int)) : RowsN K H (xs ++ [.ref t]) (rows ++ [r]) := by
  refine ⟨by simp [h.1], fun i v hi => ?_⟩
  by_cases hl : i < rows.length
  . rw [List.getElem?_append_left hl] at hi
    rw [List.getElem?_append_left (by rw [h.1]; exact hl)]
    exact h.2 i v hi
  . have := (List.getElem?_eq_some_iff.mp hi).1
    rw [List.length_append, List.length_singleton] at this
    have e : i = rows.length := by omega
    subst e
    rw [List.getElem?_append_right (Nat.le_refl _), Nat.sub_self] at hi
    simp at hi
    subst hi
    exact ⟨t, by rw [<- h.1]; simp, g⟩
def colW (rows : List (List Int)) (c : Nat) : List Int := rows.map fun r => r.getD c 0
def madeW (p : Int) (rows : List (List Int)) (am : List Int) (n : Nat) : List Int := (List.range n).map fun c => dotW am (colW rows c) % p
theorem col_eq (rows : List (List Int)) (c : Nat) : (List.range rows.length).map (fun i => V.int ((rows.getD i []).getD c 0)) = (colW rows c).map V.int := by
  refine List.ext_getElem (by simp [colW]) fun i h1 h2 => ?_
  have hi : i < rows.length := by simpa using h1
  simp [colW, List.getD_eq_getElem?_getD, hi]
theorem dot_eq (am : List Int) (rows : List (List Int)) (c : Nat) (h : am.length = rows.length) : (List.range rows.length).map (fun k => am.getD k 0 * (rows.getD k []).getD c 0) = List.zipWith (fun x y => x * y) am (colW rows c) := by
  refine List.ext_getElem (by simp [colW, h]) fun i h1 h2 => ?_
  have hi : i < rows.length := by simpa using h1
  have hi' : i < am.length := by omega
  simp [colW, List.getD_eq_getElem?_getD, hi, hi']
def sp_made_of (K : PySem.W.Frag) : Sp := fun vs H Q _ => ∃ (p : Int) (t1 t2 : Bool) (a b : Addr) (xs : List V) (rows : List (List Int)) (am : List Int) (n : Nat), vs = [.int p, .ref a, .ref b, .int n] /\ 0 < p /\ SqB K H t1 a xs /\ RowsN K H xs rows /\ (∀ r ∈ rows, r.length = n) /\ SqB K H t2 b (am.map V.int) /\ am.length = rows.length /\ rows.length <= 900 /\ n <= 900 /\ (∀ x ∈ am, -(2 ^ 64) < x /\ x < 2 ^ 64) /\ ∀ q H', Same H H' -> H' q = some (.tup ((madeW p rows am n).map V.int)) -> Q (.ref q) H'
theorem ok_made_of {f : Addr} {fd : FuncData} (F : Fun K "made_of" "made_of" s_made_of f fd) (T : Txt mg)
    (W : Own K mg)
    (Z : Exs K mg C_AskError C_BadHouse C_BadWord)
    {f_product : Addr} {fd_product : FuncData} (g_product : FnOk P w K mg base CX0 1 f_product fd_product ["p", "row", "other"] (sp_product K)) (F_product : Fun K "product" "product" s_product f_product fd_product) (b_product : Binds K fd_product ["p", "row", "other"] []) (m_product : mg "product" = some (.ref f_product))
    : FnOk P w K mg base CX0 2 f fd ["p", "rows", "parts", "size"] (sp_made_of K) := by
  refine F.ok sc_made_of (fun vs H Q E h => ?_) (fun cdv A outer s H vs Q E hr h => ?_)
  . obtain ⟨p, t1, t2, a, b, xs, rows, am, n, rfl, _⟩ := h; rfl
  . obtain ⟨p, t1, t2, a, b, xs, rows, am, n, rfl, hp, ha, hrw, hrn, hb, hlen, hz, hn, h64, k⟩ := h
    have hl := line1000
    refine ⟨_, (pss_one (ps_ret (pe_callTy call_tuple_L rfl T.tuple PyProof.Rows.boot_tuple (pa_cons (pe_compC rfl (blkC_mk rfl) (cp := c_made_of_6) ⟨⟨rfl, rfl⟩, ⟨⟨rfl, rfl⟩, ⟨⟨rfl, rfl⟩, True.intro⟩⟩⟩ (pi_range1 rfl T.range (pa_cons (pv 3) pa_nil)) (fun _ _ _ _ => (pg_name (i := 0) nd_c_made_of_6 rfl (Or.inr rfl))) (fun _ _ _ _ => pf_nil) (fun _ _ _ _ => (pe_call g_product (hr.mono (by decide)) rfl m_product F_product.kp b_product .nil pass0 (pa_cons (pv 1) (pa_cons (pv 2) (pa_cons (pe_comp rfl (blk_mk rfl) (cp := c_made_of_7) ⟨⟨rfl, rfl⟩, True.intro⟩ (pi_seqK (K := K) rfl (pv 3)) (fun _ _ _ _ => (pg_name (i := 0) nd_c_made_of_7 rfl (Or.inl rfl))) (fun _ _ _ _ => pf_nil) (fun _ _ _ _ => (pe_ix (ix_tupK (K := K) rfl) (pv 0) (pv 1) (fun _ _ => rfl)))) pa_nil)))))) pa_nil)))), ?_⟩
    walk_at "rd"
    refine ⟨by omega, by omega, ?_⟩
    rw [Int.toNat_natCast]
    obtain ⟨Pc, hPc⟩ : ∃ Pc : Nat -> List V -> St -> Hp -> Prop, ∀ c ys σ4 H4, Pc c ys σ4 H4 ↔ (Same H H4 /\ ys = ((List.range c).map fun c => dotW am (colW rows c) % p).map V.int /\ ∃ o, σ4 = [o, some (.int p), some (.ref b), some (.ref a)]) := ⟨_, fun _ _ _ _ => Iff.rfl⟩
    refine compR Pc ((hPc _ _ _ _).mpr ⟨Same.refl _, rfl, none, rfl⟩) (by omega) (fun c ys σ4 H4 _ h4 => ?_) (fun c ys σ4 H4 hc h4 => ?_) (fun ys σ4 H4 h4 D hD => ?_)
    . obtain ⟨_, rfl, _⟩ := (hPc _ _ _ _).mp h4
      rw [List.length_map, List.length_map, List.length_range]; exact Nat.le_refl _
    . obtain ⟨s4, rfl, o, rfl⟩ := (hPc _ _ _ _).mp h4
      rw [Int.zero_add]
      walk_at "rd"
      refine compRowsB (σ' := [some (.int c)]) (fun i => V.int ((rows.getD i []).getD c 0)) rfl (ha.mono s4) (by rw [hrw.1]; omega) (fun i x hx R hR => ?_) (fun D hD => ?_)
      . have hi : i < rows.length := by rw [<- hrw.1]; exact (List.getElem?_eq_some_iff.mp hx).1
        obtain ⟨t, e1, e2⟩ := hrw.2 i rows[i] (by simp [hi])
        rw [hx] at e1
        cases e1
        have hcl : c < (rows[i]).length := by rw [hrn _ (List.getElem_mem hi)]; exact hc
        have er : rows.getD i [] = rows[i] := by rw [List.getD_eq_getElem?_getD, List.getElem?_eq_getElem hi]; rfl
        rw [er, List.getD_eq_getElem?_getD, List.getElem?_eq_getElem hcl] at hR
        walk_at "rd"
        exact ⟨_, s4.seqT e2, _, atI_int (by omega) (v := (rows[i])[c]) (by simp [hcl]), hR⟩
      . rw [hrw.1, col_eq] at *
        have sD := Same.new hD (o := .lst ((colW rows c).map V.int))
        walk_at "rd"
        refine ⟨p, t2, false, b, D, am, colW rows c, rfl, hp, hb.mono (s4.trans sD), SqL.of upd_same, by unfold colW; rw [List.length_map]; exact hlen, by omega, h64, fun H5 s5 => (hPc _ _ _ _).mpr ⟨(s4.trans sD).trans s5, ?_, _, rfl⟩⟩
        rw [List.range_succ, List.map_append, List.map_append]; rfl
    . obtain ⟨s4, rfl, o, rfl⟩ := (hPc _ _ _ _).mp h4
      exact ⟨D, rfl, _, .inl ⟨SqL.of upd_same, fun q hq => k q _ ((s4.newT hD).newT hq) upd_same⟩⟩
def Tabs (K : PySem.W.Frag) (H : Hp) (tt : Addr) (tables : List (List (List Int))) : Prop := ∃ us : List Addr, SqT K H tt (us.map V.ref) /\ us.length = tables.length /\ ∀ (i : Nat) (u : Addr) (tb : List (List Int)), us[i]? = some u -> tables[i]? = some tb -> ∃ xs, SqT K H u xs /\ RowsN K H xs tb
theorem Tabs.mono {K : PySem.W.Frag} {H H' : Hp} {tt : Addr} {tables : List (List (List Int))} (h : Tabs K H tt tables) (s : Same H H') : Tabs K H' tt tables := by
  obtain ⟨us, a, b, c⟩ := h
  refine ⟨us, s.seqT a, b, fun i u tb h1 h2 => ?_⟩
  obtain ⟨xs, d, e⟩ := c i u tb h1 h2
  exact ⟨xs, s.seqT d, e.mono s⟩
def SumH (K : PySem.W.Frag) (H : Hp) (h : Addr) (p : Int) (L : Int) (first : List Int) (tables : List (List (List Int))) (last : List Int) : Prop := ∃ tf tt tl : Addr, SqT K H h [.int p, .int L, .ref tf, .ref tt, .ref tl] /\ SqT K H tf (first.map V.int) /\ SqT K H tl (last.map V.int) /\ Tabs K H tt tables
theorem SumH.mono {K : PySem.W.Frag} {H H' : Hp} {h : Addr} {p L : Int} {first last : List Int} {tables : List (List (List Int))} (x : SumH K H h p L first tables last) (s : Same H H') : SumH K H' h p L first tables last := by
  obtain ⟨tf, tt, tl, a, b, c, d⟩ := x
  exact ⟨tf, tt, tl, s.seqT a, s.seqT b, s.seqT c, d.mono s⟩
structure WfSum (p L : Int) (d : Nat) (first : List Int) (tables : List (List (List Int))) (last : List Int) : Prop where
  p2 : 2 <= p
  p18 : p < 1000000000000000000
  dl : d <= 16
  f : first.length = d /\ ∀ x ∈ first, 0 <= x /\ x < p
  l : last.length = d /\ ∀ x ∈ last, 0 <= x /\ x < p
  t : (tables.length : Int) = L
  tt : ∀ tb ∈ tables, tb.length = d /\ ∀ r ∈ tb, r.length = d
def stepS (p : Int) (d : Nat) (tables : List (List (List Int))) (row : List Int) (x : Int) : List Int := madeW p (tables.getD x.toNat []) row d
def rowS (p : Int) (d : Nat) (tables : List (List (List Int))) (first ws : List Int) : List Int := ws.foldl (stepS p d tables) first
theorem madeW_in {p : Int} (hp : 0 < p) {rows : List (List Int)} {am : List Int} {n : Nat} : ∀ x ∈ madeW p rows am n, 0 <= x /\ x < p := fun x hx => by
  obtain ⟨c, _, rfl⟩ := List.mem_map.mp hx
  exact ⟨Int.emod_nonneg _ (by omega), Int.emod_lt_of_pos _ hp⟩
theorem madeW_len (p : Int) (rows : List (List Int)) (am : List Int) (n : Nat) : (madeW p rows am n).length = n := by unfold madeW; rw [List.length_map, List.length_range]
theorem WfSum.row {p L : Int} {d : Nat} {first last : List Int} {tables : List (List (List Int))} (wf : WfSum p L d first tables last) (ws : List Int) : (rowS p d tables first ws).length = d /\ ∀ x ∈ rowS p d tables first ws, 0 <= x /\ x < p := by
  have h2 := wf.p2
  have key : ∀ (ws r : List Int), (r.length = d /\ ∀ x ∈ r, 0 <= x /\ x < p) -> ((ws.foldl (stepS p d tables) r).length = d /\ ∀ x ∈ ws.foldl (stepS p d tables) r, 0 <= x /\ x < p) := fun ws => by
    induction ws with
    | nil => exact fun r h => h
    | cons y ws ih => exact fun r _ => ih _ ⟨madeW_len _ _ _ _, madeW_in (by omega)⟩
  exact key ws first wf.f
theorem rowS_take {p : Int} {d : Nat} {tables : List (List (List Int))} {first ws : List Int} {i : Nat} {x : Int} (h : ws[i]? = some x) : rowS p d tables first (ws.take (i + 1)) = stepS p d tables (rowS p d tables first (ws.take i)) x := by
  unfold rowS
  rw [List.take_add_one, h, Option.toList_some, List.foldl_append]; rfl
theorem WfSum.table {p L : Int} {d : Nat} {first last : List Int} {tables : List (List (List Int))} (wf : WfSum p L d first tables last) {x : Int} (x0 : 0 <= x) (x1 : x < L) : tables[x.toNat]? = some (tables.getD x.toNat []) /\ (tables.getD x.toNat []).length = d /\ ∀ r ∈ tables.getD x.toNat [], r.length = d := by
  have hx : x.toNat < tables.length := by have := wf.t; omega
  have e : tables.getD x.toNat [] = tables[x.toNat] := by rw [List.getD_eq_getElem?_getD, List.getElem?_eq_getElem hx]; rfl
  rw [e]
  exact ⟨by rw [List.getElem?_eq_getElem hx], wf.tt _ (List.getElem_mem hx)⟩
theorem Tabs.at {K : PySem.W.Frag} {H : Hp} {tt : Addr} {tables : List (List (List Int))} (h : Tabs K H tt tables) {i : Nat} {tb : List (List Int)} (ht : tables[i]? = some tb) : ∃ zs u xs, SqT K H tt zs /\ atI zs (i : Int) = some (V.ref u) /\ SqT K H u xs /\ RowsN K H xs tb := by
  obtain ⟨us, a, b, c⟩ := h
  have hi : i < us.length := by rw [b]; exact (List.getElem?_eq_some_iff.mp ht).1
  have hu : us[i]? = some us[i] := by simp [hi]
  obtain ⟨xs, d, e⟩ := c i _ tb hu ht
  exact ⟨_, us[i], xs, a, atI_nat (by rw [List.getElem?_map, hu]; rfl), d, e⟩
def sp_stepped (K : PySem.W.Frag) : Sp := fun vs H Q _ => ∃ (h r : Addr) (p L x : Int) (d : Nat) (first last row : List Int) (tables : List (List (List Int))), vs = [.ref h, .ref r, .int x] /\ SumH K H h p L first tables last /\ WfSum p L d first tables last /\ SqT K H r (row.map V.int) /\ row.length = d /\ (∀ y ∈ row, 0 <= y /\ y < p) /\ 0 <= x /\ x < L /\ ∀ q H', Same H H' -> H' q = some (.tup ((stepS p d tables row x).map V.int)) -> Q (.ref q) H'
theorem ok_stepped {f : Addr} {fd : FuncData} (F : Fun K "stepped" "stepped" s_stepped f fd) (T : Txt mg)
    (W : Own K mg)
    (Z : Exs K mg C_AskError C_BadHouse C_BadWord)
    {f_made_of : Addr} {fd_made_of : FuncData} (g_made_of : FnOk P w K mg base CX0 2 f_made_of fd_made_of ["p", "rows", "parts", "size"] (sp_made_of K)) (F_made_of : Fun K "made_of" "made_of" s_made_of f_made_of fd_made_of) (b_made_of : Binds K fd_made_of ["p", "rows", "parts", "size"] []) (m_made_of : mg "made_of" = some (.ref f_made_of))
    : FnOk P w K mg base CX0 3 f fd ["house", "row", "letter"] (sp_stepped K) := by
  refine F.ok sc_stepped (fun vs H Q E h => ?_) (fun cdv A outer s H vs Q E hr h => ?_)
  . obtain ⟨h, r, p, L, x, d, first, last, row, tables, rfl, _⟩ := h; rfl
  . obtain ⟨h, r, p, L, x, d, first, last, row, tables, rfl, hh, wf, hrr, hrl, hri, x0, x1, k⟩ := h
    have h2 := wf.p2
    have h18 := wf.p18
    have hd := wf.dl
    refine ⟨_, (pss_one (ps_ret (pe_call g_made_of (hr.mono (by decide)) rfl m_made_of F_made_of.kp b_made_of .nil pass0 (pa_cons (pe_ix ix_tup (pv 0) pe_int (fun _ _ => rfl)) (pa_cons (pe_ix ix_tup (pe_ix ix_tup (pv 0) pe_int (fun _ _ => rfl)) (pv 2) (fun _ _ => rfl)) (pa_cons (pv 1) (pa_cons (pe_callB call_len_seq (by rfl) T.len PySem.boot_len (pa_cons (pv 1) pa_nil)) pa_nil))))))), ?_⟩
    obtain ⟨tf, tt, tl, e1, e2, e3, e4⟩ := id hh
    obtain ⟨t1, t2, t3⟩ := wf.table x0 x1
    obtain ⟨zs, u, xs, z1, z2, z3, z4⟩ := e4.at t1
    rw [Int.toNat_of_nonneg x0] at z2
    walk_at "rd"
    refine ⟨_, e1, _, rfl, _, e1, _, rfl, ?_⟩
    walk_at "rd"
    exact ⟨_, z1, _, z2, _, .inr hrr, p, true, true, u, r, xs, tables.getD x.toNat [], row, d, by rw [List.length_map, hrl], by omega, z3, z4, t3, hrr, by rw [t2]; exact hrl, by omega, by omega, (fun y hy => by have := hri y hy; omega), fun q H' s' hq => k q H' s' hq⟩
def sp_rows_along (K : PySem.W.Frag) (BW : Addr) : Sp := fun vs H Q E => ∃ (h a : Addr) (p L : Int) (d : Nat) (first last ws : List Int) (tables : List (List (List Int))), vs = [.ref h, .ref a] /\ SumH K H h p L first tables last /\ WfSum p L d first tables last /\ SqT K H a (ws.map V.int) /\ ws.length <= 600 /\ (isW L ws = true -> ∀ (q t : Addr) (xs : List V) (H' : Hp), Same H H' -> H' q = some (.lst (xs ++ [V.ref t])) -> SqT K H' t ((rowS p d tables first ws).map V.int) -> Q (.ref q) H') /\ (isW L ws = false -> ∀ H', Same H H' -> E (.ref BW) none H')
theorem ok_rows_along {f : Addr} {fd : FuncData} (F : Fun K "rows_along" "rows_along" s_rows_along f fd) (T : Txt mg)
    (W : Own K mg)
    (Z : Exs K mg C_AskError C_BadHouse C_BadWord)
    {f_check_word : Addr} {fd_check_word : FuncData} (g_check_word : FnOk P w K mg base (CXe P w) 2 f_check_word fd_check_word ["letters", "word"] (sp_check K C_BadWord)) (F_check_word : Fun K "check_word" "check_word" s_check_word f_check_word fd_check_word) (b_check_word : Binds K fd_check_word ["letters", "word"] []) (m_check_word : mg "check_word" = some (.ref f_check_word))
    {f_stepped : Addr} {fd_stepped : FuncData} (g_stepped : FnOk P w K mg base CX0 3 f_stepped fd_stepped ["house", "row", "letter"] (sp_stepped K)) (F_stepped : Fun K "stepped" "stepped" s_stepped f_stepped fd_stepped) (b_stepped : Binds K fd_stepped ["house", "row", "letter"] []) (m_stepped : mg "stepped" = some (.ref f_stepped))
    : FnOk P w K mg base (CXe P w) 4 f fd ["house", "word"] (sp_rows_along K C_BadWord) := by
  refine F.okE sc_rows_along (fun vs H Q E h => ?_) (fun cdv A outer s H vs Q E hr h => ?_)
  . obtain ⟨h, a, p, L, d, first, last, ws, tables, rfl, _⟩ := h; rfl
  . obtain ⟨h, a, p, L, d, first, last, ws, tables, rfl, hh, wf, hw, hz, k, kE⟩ := h
    have hl := line1000
    refine ⟨_, (pss_cons (ps_expr (pe_call g_check_word (hr.mono (by decide)) rfl m_check_word F_check_word.kp b_check_word .nil (passE fun _ _ _ h => h) (pa_cons (pe_ix ix_tup (pv 0) pe_int (fun _ _ => rfl)) (pa_cons (pv 1) pa_nil))))
      (PSs.nox (pss_cons (ps_set (i := 2) sc_rows_along.nd rfl (Or.inl rfl) (pe_lst (pa_cons (pe_ix ix_tup (pv 0) pe_int (fun _ _ => rfl)) pa_nil)))
      (pss_cons (ps_for PassesOwn.never rfl (pi_tup (pv 1)) (pg_name (i := 3) sc_rows_along.nd rfl (Or.inl rfl))
      (pss_one (ps_expr (pe_bm PySem.F.plainAttrs_list PySem.F.slot_list_append PySem.F.type_list_append mt_append (pv 2) (pa_cons (pe_call g_stepped (hr.mono (by decide)) rfl m_stepped F_stepped.kp b_stepped .nil pass0 (pa_cons (pv 0) (pa_cons (pe_ix ix_list (pv 2) (pe_un un_neg pe_int) (fun _ _ => rfl)) (pa_cons (pv 3) pa_nil)))) pa_nil)))))
      (pss_one (ps_ret (pv 2))))))), ?_⟩
    obtain ⟨tf, tt, tl, e1, e2, e3, e4⟩ := id hh
    walk_at "rd"
    refine ⟨_, e1, _, rfl, L, a, ws, rfl, hw, by omega, fun hv H1 s1 => ?_, kE⟩
    walk_at "rd"
    refine ⟨_, s1.seqT e1, _, rfl, by omega, fun q hq => ?_⟩
    have s0 := Same.new hq (o := .lst [V.ref tf])
    refine ⟨⟨_, (s1.trans s0).seqT hw⟩, ?_⟩
    obtain ⟨Pv, hPv⟩ : ∃ Pv : Nat -> St -> Hp -> Prop, ∀ i σ' H', Pv i σ' H' ↔ (∃ (xs : List V) (t : Addr) (o : Option V), Same H1 H' /\ H' q = some (.lst (xs ++ [V.ref t])) /\ xs.length = i /\ SqT K H' t ((rowS p d tables first (ws.take i)).map V.int) /\ σ' = [some (.ref h), some (.ref a), some (.ref q), o]) := ⟨_, fun _ _ _ => Iff.rfl⟩
    refine forT (xs := ws.map V.int) Pv ((hPv _ _ _).mpr ⟨[], tf, none, s0, upd_same, rfl, (s1.trans s0).seqT e2, rfl⟩) (fun i σ' H' _ h' => by obtain ⟨_, _, _, s', _⟩ := (hPv _ _ _).mp h'; exact (s1.trans s').seqT hw) (fun i x σ' H' hx h' => ?_) (fun σ' H' h' => ?_)
    . obtain ⟨xs, t, o, s2, hq2, hxl, ht, rfl⟩ := (hPv _ _ _).mp h'
      obtain ⟨n, hn, rfl⟩ := get_mapI hx
      have hi := (List.getElem?_eq_some_iff.mp hn).1
      have hnr := isW_iff.mp hv n (List.mem_of_getElem? hn)
      obtain ⟨r1, r2⟩ := wf.row (ws.take i)
      walk_at "rd"
      refine ⟨.inl ⟨rfl, _, SqL.of hq2⟩, _, SqL.of hq2, _, atI_end (v := V.ref t) (by simp), h, t, p, L, n, d, first, last, _, tables, rfl, hh.mono (s1.trans s2), wf, ht, r1, r2, hnr.1, hnr.2, fun q3 H3 s3 hq3 => ?_⟩
      refine ⟨_, s3 _ _ hq2, by simp; omega, (hPv _ _ _).mpr ⟨xs ++ [V.ref t], q3, _, (s2.trans s3).over hq, upd_same, by simp [hxl], ?_, rfl⟩⟩
      rw [rowS_take hn]
      exact seqT_off (s3 _ _ hq2) (SqT.of hq3)
    . obtain ⟨xs, t, o, s2, hq2, hxl, ht, rfl⟩ := (hPv _ _ _).mp h'
      rw [List.length_map, List.take_length] at ht
      walk_at "rd"
      exact k hv q t xs _ (s1.trans s2) hq2 ht
def sp_row_behind (K : PySem.W.Frag) (BW : Addr) : Sp := fun vs H Q E => ∃ (h a : Addr) (p L : Int) (d : Nat) (first last ws : List Int) (tables : List (List (List Int))), vs = [.ref h, .ref a] /\ SumH K H h p L first tables last /\ WfSum p L d first tables last /\ SqT K H a (ws.map V.int) /\ ws.length <= 600 /\ (isW L ws = true -> ∀ (t : Addr) (H' : Hp), Same H H' -> SqT K H' t ((rowS p d tables first ws).map V.int) -> Q (.ref t) H') /\ (isW L ws = false -> ∀ H', Same H H' -> E (.ref BW) none H')
theorem ok_row_behind {f : Addr} {fd : FuncData} (F : Fun K "row_behind" "row_behind" s_row_behind f fd) (T : Txt mg)
    (W : Own K mg)
    (Z : Exs K mg C_AskError C_BadHouse C_BadWord)
    {f_rows_along : Addr} {fd_rows_along : FuncData} (g_rows_along : FnOk P w K mg base (CXe P w) 4 f_rows_along fd_rows_along ["house", "word"] (sp_rows_along K C_BadWord)) (F_rows_along : Fun K "rows_along" "rows_along" s_rows_along f_rows_along fd_rows_along) (b_rows_along : Binds K fd_rows_along ["house", "word"] []) (m_rows_along : mg "rows_along" = some (.ref f_rows_along))
    : FnOk P w K mg base (CXe P w) 5 f fd ["house", "word"] (sp_row_behind K C_BadWord) := by
  refine F.okE sc_row_behind (fun vs H Q E h => ?_) (fun cdv A outer s H vs Q E hr h => ?_)
  . obtain ⟨h, a, p, L, d, first, last, ws, tables, rfl, _⟩ := h; rfl
  . obtain ⟨h, a, p, L, d, first, last, ws, tables, rfl, hh, wf, hw, hz, k, kE⟩ := h
    refine ⟨_, (pss_one (ps_ret (pe_ix ix_list (pe_call g_rows_along (hr.mono (by decide)) rfl m_rows_along F_rows_along.kp b_rows_along .nil (passE fun _ _ _ h => h) (pa_cons (pv 0) (pa_cons (pv 1) pa_nil))) (pe_un un_neg pe_int) (fun _ _ => rfl)))), ?_⟩
    walk_at "rd"
    refine ⟨h, a, p, L, d, first, last, ws, tables, rfl, hh, wf, hw, hz, fun hv q t xs H1 s1 hq ht => ?_, kE⟩
    walk_at "rd"
    exact ⟨_, SqL.of hq, _, atI_end (v := V.ref t) (by simp), k hv t _ s1 ht⟩
def sp_worth (K : PySem.W.Frag) (BW : Addr) : Sp := fun vs H Q E => ∃ (h a : Addr) (p L : Int) (d : Nat) (first last ws : List Int) (tables : List (List (List Int))), vs = [.ref h, .ref a] /\ SumH K H h p L first tables last /\ WfSum p L d first tables last /\ SqT K H a (ws.map V.int) /\ ws.length <= 600 /\ (isW L ws = true -> ∀ H', Same H H' -> Q (.int (dotW last (rowS p d tables first ws) % p)) H') /\ (isW L ws = false -> ∀ H', Same H H' -> E (.ref BW) none H')
theorem ok_worth {f : Addr} {fd : FuncData} (F : Fun K "worth" "worth" s_worth f fd) (T : Txt mg)
    (W : Own K mg)
    (Z : Exs K mg C_AskError C_BadHouse C_BadWord)
    {f_product : Addr} {fd_product : FuncData} (g_product : FnOk P w K mg base CX0 1 f_product fd_product ["p", "row", "other"] (sp_product K)) (F_product : Fun K "product" "product" s_product f_product fd_product) (b_product : Binds K fd_product ["p", "row", "other"] []) (m_product : mg "product" = some (.ref f_product))
    {f_row_behind : Addr} {fd_row_behind : FuncData} (g_row_behind : FnOk P w K mg base (CXe P w) 5 f_row_behind fd_row_behind ["house", "word"] (sp_row_behind K C_BadWord)) (F_row_behind : Fun K "row_behind" "row_behind" s_row_behind f_row_behind fd_row_behind) (b_row_behind : Binds K fd_row_behind ["house", "word"] []) (m_row_behind : mg "row_behind" = some (.ref f_row_behind))
    : FnOk P w K mg base (CXe P w) 6 f fd ["house", "word"] (sp_worth K C_BadWord) := by
  refine F.okE sc_worth (fun vs H Q E h => ?_) (fun cdv A outer s H vs Q E hr h => ?_)
  . obtain ⟨h, a, p, L, d, first, last, ws, tables, rfl, _⟩ := h; rfl
  . obtain ⟨h, a, p, L, d, first, last, ws, tables, rfl, hh, wf, hw, hz, k, kE⟩ := h
    have h2 := wf.p2
    have h18 := wf.p18
    have hd := wf.dl
    have hl' := wf.l
    refine ⟨_, (pss_one (ps_ret (pe_call g_product (hr.mono (by decide)) rfl m_product F_product.kp b_product .nil pass0 (pa_cons (pe_ix ix_tup (pv 0) pe_int (fun _ _ => rfl)) (pa_cons (pe_ix ix_tup (pv 0) pe_int (fun _ _ => rfl)) (pa_cons (pe_call g_row_behind (hr.mono (by decide)) rfl m_row_behind F_row_behind.kp b_row_behind .nil (passE fun _ _ _ h => h) (pa_cons (pv 0) (pa_cons (pv 1) pa_nil))) pa_nil)))))), ?_⟩
    obtain ⟨tf, tt, tl, e1, e2, e3, e4⟩ := id hh
    obtain ⟨r1, r2⟩ := wf.row ws
    walk_at "rd"
    refine ⟨_, e1, _, rfl, _, e1, _, rfl, h, a, p, L, d, first, last, ws, tables, rfl, hh, wf, hw, hz, fun hv t H1 s1 ht => ?_, kE⟩
    walk_at "rd"
    exact ⟨p, true, true, tl, t, last, _, rfl, by omega, s1.seqT e3, ht, by rw [r1]; exact hl'.1, by omega, (fun x hx => by have := hl'.2 x hx; omega), fun H2 s2 => k hv _ (s1.trans s2)⟩
theorem dot_nil (ys : List Int) : dotW [] ys = 0 := by unfold dotW; simp
theorem dot_nil' (xs : List Int) : dotW xs [] = 0 := by unfold dotW; simp
theorem dot_cons (x y : Int) (xs ys : List Int) : dotW (x :: xs) (y :: ys) = x * y + dotW xs ys := by unfold dotW; simp
theorem dot_comm : ∀ xs ys : List Int, dotW xs ys = dotW ys xs
  | [], ys => by rw [dot_nil, dot_nil']
  | x :: xs, [] => by rw [dot_nil, dot_nil']
  | x :: xs, y :: ys => by rw [dot_cons, dot_cons, dot_comm xs ys, Int.mul_comm]
theorem dot_app : ∀ (xs ys us vs : List Int), xs.length = us.length -> dotW (xs ++ ys) (us ++ vs) = dotW xs us + dotW ys vs
  | [], ys, us, vs, h => by
    have : us = [] := List.length_eq_zero_iff.mp (by simpa using h.symm)
    subst this
    simp [dot_nil]
  | x :: xs, ys, u :: us, vs, h => by
    rw [List.cons_append, List.cons_append, dot_cons, dot_cons, dot_app xs ys us vs (by simpa using h)]
    omega
  | x :: xs, ys, [], vs, h => by simp at h
theorem dot_zero (n : Nat) : ∀ xs : List Int, dotW xs (List.replicate n 0) = 0 := by
  induction n with
  | zero => intro xs; rw [List.replicate_zero, dot_nil']
  | succ n ih =>
    intro xs
    cases xs with
    | nil => rw [dot_nil]
    | cons x xs => rw [List.replicate_succ, dot_cons, ih]; omega
theorem dot_scale (a : Int) : ∀ xs ys : List Int, dotW (xs.map (a * ·)) ys = a * dotW xs ys
  | [], ys => by rw [List.map_nil, dot_nil]; omega
  | x :: xs, [] => by rw [dot_nil', dot_nil']; omega
  | x :: xs, y :: ys => by rw [List.map_cons, dot_cons, dot_cons, dot_scale a xs ys, Int.mul_add, Int.mul_assoc]
def cg (p : Int) (xs ys : List Int) : Prop := xs.map (· % p) = ys.map (· % p)
theorem cg.len {p : Int} {xs ys : List Int} (h : cg p xs ys) : xs.length = ys.length := by
  have := congrArg List.length h
  simpa using this
theorem cg.refl (p : Int) (xs : List Int) : cg p xs xs := rfl
theorem cg.app {p : Int} {xs ys us vs : List Int} (h : cg p xs us) (g : cg p ys vs) : cg p (xs ++ ys) (us ++ vs) := by
  unfold cg at *
  rw [List.map_append, List.map_append, h, g]
theorem cg.dot {p : Int} : ∀ {xs xs' ys ys' : List Int}, cg p xs xs' -> cg p ys ys' -> dotW xs ys % p = dotW xs' ys' % p
  | [], [], ys, ys', _, _ => by rw [dot_nil, dot_nil]
  | [], x :: xs', ys, ys', h, _ => by have := h.len; simp at this
  | x :: xs, [], ys, ys', h, _ => by have := h.len; simp at this
  | x :: xs, x' :: xs', [], [], _, _ => by rw [dot_nil', dot_nil']
  | x :: xs, x' :: xs', [], y :: ys', _, h => by have := h.len; simp at this
  | x :: xs, x' :: xs', y :: ys, [], _, h => by have := h.len; simp at this
  | x :: xs, x' :: xs', y :: ys, y' :: ys', h, g => by
    obtain ⟨h1, h2⟩ := List.cons.inj h
    obtain ⟨g1, g2⟩ := List.cons.inj g
    have h1 : x % p = x' % p := h1
    have g1 : y % p = y' % p := g1
    rw [dot_cons, dot_cons, Int.add_emod, Int.mul_emod, h1, g1, cg.dot (xs := xs) (ys := ys) h2 g2, <- Int.mul_emod, <- Int.add_emod]
theorem cg.map {p : Int} {α : Type} {f g : α -> Int} {l : List α} (h : ∀ a ∈ l, f a % p = g a % p) : cg p (l.map f) (l.map g) := by
  unfold cg
  rw [List.map_map, List.map_map]
  exact List.map_congr_left h
theorem cg.getD {p : Int} {xs ys : List Int} (h : cg p xs ys) (c : Nat) : xs.getD c 0 % p = ys.getD c 0 % p := by
  have hl := h.len
  by_cases hc : c < xs.length
  . have e := congrArg (fun l : List Int => l[c]?) h
    rw [List.getElem?_map, List.getElem?_map, List.getElem?_eq_getElem hc, List.getElem?_eq_getElem (by omega)] at e
    rw [List.getD_eq_getElem?_getD, List.getD_eq_getElem?_getD, List.getElem?_eq_getElem hc, List.getElem?_eq_getElem (by omega)]
    exact Option.some.inj e
  . rw [List.getD_eq_getElem?_getD, List.getD_eq_getElem?_getD, List.getElem?_eq_none (by omega), List.getElem?_eq_none (by omega)]
def cgT (p : Int) (a b : List (List Int)) : Prop := a.length = b.length /\ ∀ i, cg p (a.getD i []) (b.getD i [])
theorem cgT.refl (p : Int) (a : List (List Int)) : cgT p a a := ⟨rfl, fun _ => rfl⟩
theorem cgT.col {p : Int} {a b : List (List Int)} (h : cgT p a b) (c : Nat) : cg p (colW a c) (colW b c) := by
  unfold cg colW
  rw [List.map_map, List.map_map]
  refine List.ext_getElem? fun i => ?_
  rw [List.getElem?_map, List.getElem?_map]
  have hl := h.1
  by_cases hi : i < a.length
  . rw [List.getElem?_eq_getElem hi, List.getElem?_eq_getElem (show i < b.length by omega)]
    have := (h.2 i).getD c
    rw [List.getD_eq_getElem?_getD (l := a), List.getD_eq_getElem?_getD (l := b), List.getElem?_eq_getElem hi, List.getElem?_eq_getElem (show i < b.length by omega)] at this
    exact congrArg some this
  . rw [List.getElem?_eq_none (by omega), List.getElem?_eq_none (by omega)]
def stepI (d : Nat) (tables : List (List (List Int))) (row : List Int) (x : Int) : List Int := (List.range d).map fun c => dotW row (colW (tables.getD x.toNat []) c)
def rowI (d : Nat) (tables : List (List (List Int))) (first ws : List Int) : List Int := ws.foldl (stepI d tables) first
theorem stepS_cg {p : Int} {d : Nat} {t t' : List (List (List Int))} {r r' : List Int} {x : Int} (ht : cgT p (t.getD x.toNat []) (t'.getD x.toNat [])) (hr : cg p r r') : cg p (stepS p d t r x) (stepI d t' r' x) := by
  unfold stepS madeW stepI
  refine cg.map fun c _ => ?_
  rw [Int.emod_emod_of_dvd _ (Int.dvd_refl p)]
  exact hr.dot (ht.col c)
theorem rowS_cg {p : Int} {d : Nat} {t t' : List (List (List Int))} (ht : ∀ i : Nat, cgT p (t.getD i []) (t'.getD i [])) : ∀ (ws : List Int) {r r' : List Int}, cg p r r' -> cg p (rowS p d t r ws) (rowI d t' r' ws)
  | [], r, r', h => h
  | x :: ws, r, r', h => rowS_cg ht ws (stepS_cg (ht _) h)
theorem stepI_len {d : Nat} {t : List (List (List Int))} {r : List Int} {x : Int} : (stepI d t r x).length = d := by unfold stepI; simp
theorem rowI_len {d : Nat} {t : List (List (List Int))} : ∀ (ws : List Int) {r : List Int}, r.length = d -> (rowI d t r ws).length = d
  | [], r, h => h
  | x :: ws, r, h => rowI_len ws stepI_len
def lessT (d1 d2 : Nat) (a b : List (List Int)) : List (List Int) := a.map (· ++ List.replicate d2 0) ++ b.map (List.replicate d1 0 ++ ·)
theorem less_col1 {d1 d2 c : Nat} {a b : List (List Int)} (ha : ∀ r ∈ a, r.length = d1) (hc : c < d1) : colW (lessT d1 d2 a b) c = colW a c ++ List.replicate b.length 0 := by
  unfold colW lessT
  rw [List.map_append, List.map_map, List.map_map]
  congr 1
  . refine List.map_congr_left fun r hr => ?_
    show (r ++ List.replicate d2 0).getD c 0 = r.getD c 0
    rw [List.getD_eq_getElem?_getD, List.getElem?_append_left (by rw [ha r hr]; exact hc), <- List.getD_eq_getElem?_getD]
  . refine List.ext_getElem? fun i => ?_
    by_cases hi : i < b.length
    . rw [List.getElem?_map, List.getElem?_eq_getElem hi, List.getElem?_replicate, if_pos hi]
      show some ((List.replicate d1 0 ++ b[i]).getD c 0) = some 0
      rw [List.getD_eq_getElem?_getD, List.getElem?_append_left (by simpa using hc), List.getElem?_replicate, if_pos hc]; rfl
    . rw [List.getElem?_eq_none (by simp; omega), List.getElem?_eq_none (by simp; omega)]
theorem less_col2 {d1 d2 c : Nat} {a b : List (List Int)} (ha : ∀ r ∈ a, r.length = d1) : colW (lessT d1 d2 a b) (d1 + c) = List.replicate a.length 0 ++ colW b c := by
  unfold colW lessT
  rw [List.map_append, List.map_map, List.map_map]
  congr 1
  . refine List.ext_getElem? fun i => ?_
    by_cases hi : i < a.length
    . rw [List.getElem?_map, List.getElem?_eq_getElem hi, List.getElem?_replicate, if_pos hi]
      show some ((a[i] ++ List.replicate d2 0).getD (d1 + c) 0) = some 0
      rw [List.getD_eq_getElem?_getD, List.getElem?_append_right (by rw [ha _ (List.getElem_mem hi)]; omega), List.getElem?_replicate]
      split <;> rfl
    . rw [List.getElem?_eq_none (by simp; omega), List.getElem?_eq_none (by simp; omega)]
  . refine List.map_congr_left fun r hr => ?_
    show (List.replicate d1 0 ++ r).getD (d1 + c) 0 = r.getD c 0
    rw [List.getD_eq_getElem?_getD, List.getElem?_append_right (by simp), List.length_replicate, Nat.add_sub_cancel_left, <- List.getD_eq_getElem?_getD]
theorem range_add (a b : Nat) (f : Nat -> Int) : (List.range (a + b)).map f = (List.range a).map f ++ (List.range b).map (fun c => f (a + c)) := by
  rw [List.range_add, List.map_append, List.map_map]; rfl
structure Dim (d : Nat) (tb : List (List Int)) : Prop where
  n : tb.length = d
  r : ∀ r ∈ tb, r.length = d
theorem less_step {d1 d2 : Nat} {T t1 t2 : List (List (List Int))} {x : Int} (hT : T.getD x.toNat [] = lessT d1 d2 (t1.getD x.toNat []) (t2.getD x.toNat [])) (h1 : Dim d1 (t1.getD x.toNat [])) (h2 : Dim d2 (t2.getD x.toNat [])) {r1 r2 : List Int} (l1 : r1.length = d1) (l2 : r2.length = d2) :
    stepI (d1 + d2) T (r1 ++ r2) x = stepI d1 t1 r1 x ++ stepI d2 t2 r2 x := by
  unfold stepI
  rw [range_add, hT]
  congr 1
  . refine List.map_congr_left fun c hc => ?_
    rw [less_col1 h1.r (List.mem_range.mp hc), dot_app _ _ _ _ (by unfold colW; rw [List.length_map, l1, h1.n]), dot_zero]; omega
  . refine List.map_congr_left fun c hc => ?_
    rw [less_col2 h1.r, dot_app _ _ _ _ (by rw [List.length_replicate, l1, h1.n]), dot_zero]; omega
theorem less_row {L d1 d2 : Nat} {T t1 t2 : List (List (List Int))} (hT : ∀ i : Nat, i < L -> T.getD i [] = lessT d1 d2 (t1.getD i []) (t2.getD i [])) (h1 : ∀ i : Nat, i < L -> Dim d1 (t1.getD i [])) (h2 : ∀ i : Nat, i < L -> Dim d2 (t2.getD i [])) :
    ∀ (ws : List Int) {r1 r2 : List Int}, (∀ x ∈ ws, 0 <= x /\ x < L) -> r1.length = d1 -> r2.length = d2 -> rowI (d1 + d2) T (r1 ++ r2) ws = rowI d1 t1 r1 ws ++ rowI d2 t2 r2 ws
  | [], r1, r2, _, _, _ => rfl
  | x :: ws, r1, r2, hw, l1, l2 => by
    have hx := hw x (List.mem_cons_self ..)
    show rowI (d1 + d2) T (stepI (d1 + d2) T (r1 ++ r2) x) ws = _
    rw [less_step (hT _ (by omega)) (h1 _ (by omega)) (h2 _ (by omega)) l1 l2]
    exact less_row hT h1 h2 ws (fun y hy => hw y (List.mem_cons_of_mem _ hy)) stepI_len stepI_len
def crossI (r s : List Int) : List Int := r.flatMap fun x => s.map (x * ·)
def crossR (p : Int) (r s : List Int) : List Int := r.flatMap fun x => s.map fun y => x * y % p
def crossT (p : Int) (a b : List (List Int)) : List (List Int) := a.flatMap fun r => b.map fun s => crossR p r s
theorem crossI_nil (s : List Int) : crossI [] s = [] := rfl
theorem crossI_cons (x : Int) (r s : List Int) : crossI (x :: r) s = s.map (x * ·) ++ crossI r s := by unfold crossI; rw [List.flatMap_cons]
theorem crossR_len (p : Int) (r s : List Int) : (crossR p r s).length = r.length * s.length := by
  induction r with
  | nil => simp [crossR]
  | cons x r ih =>
    unfold crossR at ih ⊢
    rw [List.flatMap_cons, List.length_append, List.length_map, ih, List.length_cons, Nat.succ_mul]; omega
theorem cross_cg (p : Int) (r s : List Int) : cg p (crossR p r s) (crossI r s) := by
  induction r with
  | nil => rfl
  | cons x r ih =>
    unfold crossR crossI at ih ⊢
    rw [List.flatMap_cons, List.flatMap_cons]
    exact cg.app (cg.map fun y _ => Int.emod_emod_of_dvd _ (Int.dvd_refl p)) ih
theorem cross_dot : ∀ (a u b v : List Int), a.length = u.length -> b.length = v.length -> dotW (crossI a b) (crossI u v) = dotW a u * dotW b v
  | [], u, b, v, h, _ => by
    have : u = [] := List.length_eq_zero_iff.mp (by simpa using h.symm)
    subst this
    rw [crossI_nil, dot_nil, dot_nil]; omega
  | x :: a, [], b, v, h, _ => by simp at h
  | x :: a, y :: u, b, v, h, g => by
    rw [crossI_cons, crossI_cons, dot_app _ _ _ _ (by rw [List.length_map, List.length_map, g]), cross_dot a u b v (by simpa using h) g, dot_cons, dot_scale, dot_comm, dot_scale, dot_comm v b, Int.add_mul, Int.mul_assoc]
theorem range_mul (f : Nat -> Int) (b : Nat) : ∀ a : Nat, (List.range (a * b)).map f = (List.range a).flatMap fun i => (List.range b).map fun j => f (i * b + j)
  | 0 => by simp
  | a + 1 => by
    rw [Nat.succ_mul, range_add, range_mul f b a, List.range_succ, List.flatMap_append]
    simp
theorem cross_at {r s : List Int} {i j : Nat} (hj : j < s.length) : (crossI r s).getD (i * s.length + j) 0 = r.getD i 0 * s.getD j 0 := by
  induction r generalizing i with
  | nil => simp [crossI]
  | cons x r ih =>
    rw [crossI_cons]
    cases i with
    | zero =>
      rw [Nat.zero_mul, Nat.zero_add, List.getD_eq_getElem?_getD, List.getElem?_append_left (by simpa using hj), List.getElem?_map, List.getElem?_eq_getElem hj]
      simp [List.getD_eq_getElem?_getD, hj]
    | succ i =>
      rw [List.getD_eq_getElem?_getD, List.getElem?_append_right (by rw [List.length_map, Nat.succ_mul]; omega), List.length_map, show (i + 1) * s.length + j - s.length = i * s.length + j by rw [Nat.succ_mul]; omega, <- List.getD_eq_getElem?_getD, ih]
      simp
def crossTI (a b : List (List Int)) : List (List Int) := a.flatMap fun r => b.map fun s => crossI r s
theorem crossT_cg (p : Int) (a b : List (List Int)) : cgT p (crossT p a b) (crossTI a b) := by
  have key : ∀ (a : List (List Int)), (crossT p a b).length = (crossTI a b).length /\ ∀ i : Nat, cg p ((crossT p a b).getD i []) ((crossTI a b).getD i []) := fun a => by
    induction a with
    | nil => exact ⟨rfl, fun i => rfl⟩
    | cons r a ih =>
      unfold crossT crossTI at ih ⊢
      rw [List.flatMap_cons, List.flatMap_cons]
      refine ⟨by rw [List.length_append, List.length_append, ih.1, List.length_map, List.length_map], fun i => ?_⟩
      by_cases hi : i < b.length
      . rw [List.getD_eq_getElem?_getD, List.getD_eq_getElem?_getD, List.getElem?_append_left (by simpa using hi), List.getElem?_append_left (by simpa using hi), List.getElem?_map, List.getElem?_map, List.getElem?_eq_getElem hi]
        exact cross_cg p r _
      . rw [List.getD_eq_getElem?_getD, List.getD_eq_getElem?_getD, List.getElem?_append_right (by simp; omega), List.getElem?_append_right (by simp; omega), List.length_map, List.length_map, <- List.getD_eq_getElem?_getD, <- List.getD_eq_getElem?_getD]
        exact ih.2 _
  exact key a
theorem cross_col {d2 i j : Nat} (hj : j < d2) {a b : List (List Int)} (hb : ∀ s ∈ b, s.length = d2) : colW (crossTI a b) (i * d2 + j) = crossI (colW a i) (colW b j) := by
  unfold colW crossTI
  induction a with
  | nil => rfl
  | cons r a ih =>
    rw [List.flatMap_cons, List.map_append, ih, List.map_cons, crossI_cons, List.map_map, List.map_map]
    congr 1
    refine List.map_congr_left fun s hs => ?_
    have := hb s hs
    subst this
    exact cross_at hj
theorem cross_step {d1 d2 : Nat} {T t1 t2 : List (List (List Int))} {x : Int} (hT : T.getD x.toNat [] = crossTI (t1.getD x.toNat []) (t2.getD x.toNat [])) (h1 : Dim d1 (t1.getD x.toNat [])) (h2 : Dim d2 (t2.getD x.toNat [])) {r1 r2 : List Int} (l1 : r1.length = d1) (l2 : r2.length = d2) :
    stepI (d1 * d2) T (crossI r1 r2) x = crossI (stepI d1 t1 r1 x) (stepI d2 t2 r2 x) := by
  unfold stepI
  rw [range_mul, hT]
  unfold crossI
  rw [List.flatMap_map]
  refine congrArg List.flatten (List.map_congr_left fun i hi => ?_)
  rw [List.map_map]
  refine List.map_congr_left fun j hj => ?_
  show dotW _ _ = dotW r1 (colW (t1.getD x.toNat []) i) * dotW r2 (colW (t2.getD x.toNat []) j)
  rw [cross_col (List.mem_range.mp hj) h2.r]
  exact cross_dot r1 _ r2 _ (by unfold colW; rw [List.length_map, l1, h1.n]) (by unfold colW; rw [List.length_map, l2, h2.n])
theorem cross_row {L d1 d2 : Nat} {T t1 t2 : List (List (List Int))} (hT : ∀ i : Nat, i < L -> T.getD i [] = crossTI (t1.getD i []) (t2.getD i [])) (h1 : ∀ i : Nat, i < L -> Dim d1 (t1.getD i [])) (h2 : ∀ i : Nat, i < L -> Dim d2 (t2.getD i [])) :
    ∀ (ws : List Int) {r1 r2 : List Int}, (∀ x ∈ ws, 0 <= x /\ x < L) -> r1.length = d1 -> r2.length = d2 -> rowI (d1 * d2) T (crossI r1 r2) ws = crossI (rowI d1 t1 r1 ws) (rowI d2 t2 r2 ws)
  | [], r1, r2, _, _, _ => rfl
  | x :: ws, r1, r2, hw, l1, l2 => by
    have hx := hw x (List.mem_cons_self ..)
    show rowI (d1 * d2) T (stepI (d1 * d2) T (crossI r1 r2) x) ws = _
    rw [cross_step (hT _ (by omega)) (h1 _ (by omega)) (h2 _ (by omega)) l1 l2]
    exact cross_row hT h1 h2 ws (fun y hy => hw y (List.mem_cons_of_mem _ hy)) stepI_len stepI_len
def backT (d : Nat) (tb : List (List Int)) : List (List Int) := (List.range d).map fun c => colW tb c
theorem dot_add : ∀ (u v w : List Int), u.length = v.length -> dotW (List.zipWith (· + ·) u v) w = dotW u w + dotW v w
  | [], [], w, _ => by simp [dot_nil]
  | [], y :: v, w, h => by simp at h
  | x :: u, [], w, h => by simp at h
  | x :: u, y :: v, [], _ => by simp [dot_nil']
  | x :: u, y :: v, z :: w, h => by
    rw [List.zipWith_cons_cons, dot_cons, dot_cons, dot_cons, dot_add u v w (by simpa using h), Int.add_mul]; omega
theorem exchange {d : Nat} {col : List Int} (hc : col.length = d) : ∀ (tb : List (List Int)) (row : List Int), (∀ r ∈ tb, r.length = d) -> row.length = tb.length -> dotW ((List.range d).map fun c => dotW row (colW tb c)) col = dotW row (tb.map fun r => dotW col r)
  | [], row, _, h => by
    have : row = [] := List.length_eq_zero_iff.mp (by simpa using h)
    subst this
    rw [dot_nil]
    have e : ((List.range d).map fun c => dotW [] (colW [] c)) = List.replicate d 0 := by
      refine List.ext_getElem? fun i => ?_
      by_cases hi : i < d
      . rw [List.getElem?_map, List.getElem?_range hi, List.getElem?_replicate, if_pos hi]; rfl
      . rw [List.getElem?_eq_none (by simp; omega), List.getElem?_eq_none (by simp; omega)]
    rw [e, dot_comm, dot_zero]
  | r :: tb, [], _, h => by simp at h
  | r :: tb, x :: row, hd, h => by
    have ih := exchange hc tb row (fun s hs => hd s (List.mem_cons_of_mem _ hs)) (by simpa using h)
    have hr := hd r (List.mem_cons_self ..)
    have e : ((List.range d).map fun c => dotW (x :: row) (colW (r :: tb) c)) = List.zipWith (· + ·) (r.map (x * ·)) ((List.range d).map fun c => dotW row (colW tb c)) := by
      refine List.ext_getElem? fun i => ?_
      rw [List.getElem?_zipWith]
      by_cases hi : i < d
      . rw [List.getElem?_map, List.getElem?_range hi, List.getElem?_map, List.getElem?_map, List.getElem?_range hi, List.getElem?_eq_getElem (show i < r.length by omega)]
        show some (dotW (x :: row) (r.getD i 0 :: colW tb i)) = some (x * r[i] + dotW row (colW tb i))
        rw [dot_cons, List.getD_eq_getElem?_getD, List.getElem?_eq_getElem (show i < r.length by omega)]; rfl
      . rw [List.getElem?_eq_none (by simp; omega), List.getElem?_eq_none (show (r.map (x * ·)).length <= i by simp; omega)]
    rw [e, dot_add _ _ _ (by simp [hr]), dot_scale, ih, List.map_cons, dot_cons, dot_comm r col]
theorem back_col {d k : Nat} {tb : List (List Int)} (h : Dim d tb) (hk : k < d) : colW (backT d tb) k = tb.getD k [] := by
  have hkl : k < tb.length := by rw [h.n]; exact hk
  have e : tb.getD k [] = tb[k] := by rw [List.getD_eq_getElem?_getD, List.getElem?_eq_getElem hkl]; rfl
  have hl := h.r _ (List.getElem_mem hkl)
  rw [e]
  unfold colW backT
  rw [List.map_map]
  refine List.ext_getElem? fun i => ?_
  by_cases hi : i < d
  . rw [List.getElem?_map, List.getElem?_range hi, List.getElem?_eq_getElem (show i < tb[k].length by omega)]
    show some ((colW tb i).getD k 0) = _
    congr 1
    unfold colW
    rw [List.getD_eq_getElem?_getD, List.getElem?_map, List.getElem?_eq_getElem hkl]
    show tb[k].getD i 0 = _
    rw [List.getD_eq_getElem?_getD, List.getElem?_eq_getElem (show i < tb[k].length by omega)]; rfl
  . rw [List.getElem?_eq_none (by simp; omega), List.getElem?_eq_none (by omega)]
theorem back_step {d : Nat} {T t : List (List (List Int))} {x : Int} (hT : T.getD x.toNat [] = backT d (t.getD x.toNat [])) (h : Dim d (t.getD x.toNat [])) {row col : List Int} (l1 : row.length = d) (l2 : col.length = d) : dotW (stepI d t row x) col = dotW row (stepI d T col x) := by
  unfold stepI
  rw [exchange l2 _ row h.r (by rw [h.n]; exact l1), hT]
  congr 1
  refine List.ext_getElem? fun k => ?_
  by_cases hk : k < d
  . have hkl : k < (t.getD x.toNat []).length := by rw [h.n]; exact hk
    rw [List.getElem?_map, List.getElem?_map, List.getElem?_range hk, List.getElem?_eq_getElem hkl]
    show some (dotW col (t.getD x.toNat [])[k]) = some (dotW col (colW (backT d (t.getD x.toNat [])) k))
    rw [back_col h hk]
    congr 2
    rw [List.getD_eq_getElem?_getD (l := t.getD x.toNat []), List.getElem?_eq_getElem hkl]; rfl
  . rw [List.getElem?_eq_none (by rw [List.length_map, h.n]; omega), List.getElem?_eq_none (by simp; omega)]
theorem back_row {L d : Nat} {T t : List (List (List Int))} (hT : ∀ i : Nat, i < L -> T.getD i [] = backT d (t.getD i [])) (h : ∀ i : Nat, i < L -> Dim d (t.getD i [])) : ∀ (ws : List Int) {row col : List Int}, (∀ x ∈ ws, 0 <= x /\ x < L) -> row.length = d -> col.length = d -> dotW (rowI d t row ws) col = dotW row (rowI d T col ws.reverse)
  | [], row, col, _, _, _ => rfl
  | x :: ws, row, col, hw, l1, l2 => by
    have hx := hw x (List.mem_cons_self ..)
    show dotW (rowI d t (stepI d t row x) ws) col = _
    rw [back_row hT h ws (fun y hy => hw y (List.mem_cons_of_mem _ hy)) stepI_len l2, back_step (hT _ (by omega)) (h _ (by omega)) l1 (rowI_len _ l2), List.reverse_cons]
    unfold rowI
    rw [List.foldl_append]; rfl
theorem backT_dim {d : Nat} {tb : List (List Int)} (h : Dim d tb) : Dim d (backT d tb) := ⟨by unfold backT; simp, fun r hr => by
  obtain ⟨c, _, rfl⟩ := List.mem_map.mp hr
  unfold colW; rw [List.length_map]; exact h.n⟩
theorem backT_back {d : Nat} {tb : List (List Int)} (h : Dim d tb) : backT d (backT d tb) = tb := by
  refine List.ext_getElem? fun k => ?_
  by_cases hk : k < d
  . have hkl : k < tb.length := by rw [h.n]; exact hk
    show ((List.range d).map fun c => colW (backT d tb) c)[k]? = _
    rw [List.getElem?_map, List.getElem?_range hk, List.getElem?_eq_getElem hkl]
    show some (colW (backT d tb) k) = _
    rw [back_col h hk, List.getD_eq_getElem?_getD, List.getElem?_eq_getElem hkl]; rfl
  . rw [List.getElem?_eq_none (by unfold backT; simp; omega), List.getElem?_eq_none (by rw [h.n]; omega)]
theorem rowsN_comp {K : PySem.W.Frag} {u : Addr} {xs : List V} {a : List (List Int)} {cp : Caps} {te : TE} {Q : VK} {σ σ' : St} {H : Hp} (f : List Int -> List Int) (e : cp.st σ = none :: σ') (hu : SqT K H u xs) (hX : RowsN K H xs a) (hz : a.length <= 1000)
    (hs : ∀ r ∈ a, ∀ t H2 (R : VK), Same H H2 -> SqT K H2 t (r.map V.int) -> (∀ q H3, Same H2 H3 -> SqT K H3 q ((f r).map V.int) -> R (.ref q) H3) -> te (some (.ref t) :: σ') H2 R)
    (hd : ∀ zs H2 D, Same H H2 -> H2 D = none -> RowsN K H2 zs (a.map f) -> Q (.ref D) (upd H2 D (.lst zs))) : (∃ xs, SqT K H u xs) /\ CompW (Itt K u) cp (gName 0) tTrue te σ H Q := by
  have hl := line1000
  have hxl := hX.1
  refine ⟨⟨_, hu⟩, compT (xs := xs) (fun i ys σ2 H2 => Same H H2 /\ RowsN K H2 ys ((a.take i).map f) /\ ∃ o, σ2 = o :: σ') ⟨Same.refl _, by rw [List.take_zero]; exact RowsN.nil, none, e⟩ (by omega) (fun i ys σ2 H2 hi h => ⟨h.1.seqT hu, by rw [h.2.1.1, List.length_map, List.length_take]; omega⟩) (fun i x ys σ2 H2 hx h => ?_) (fun ys σ2 H2 h D hD => ?_)⟩
  . obtain ⟨s, hY, o, rfl⟩ := h
    have hi : i < a.length := by rw [<- hxl]; exact (List.getElem?_eq_some_iff.mp hx).1
    have hai : a[i]? = some a[i] := by simp [hi]
    obtain ⟨t, e1, e2⟩ := hX.2 i _ hai
    rw [hx] at e1
    cases e1
    refine hs a[i] (List.getElem_mem hi) t H2 _ s (s.seqT e2) fun q H3 s3 hq => ⟨s.trans s3, ?_, _, rfl⟩
    rw [List.take_add_one, hai, List.map_append]
    exact (hY.mono s3).snoc hq
  . obtain ⟨s, hY, _⟩ := h
    rw [hxl, List.take_length] at hY
    exact hd ys H2 D s hD hY
def sp_many (K : PySem.W.Frag) (BH : Addr) : Sp := fun vs H Q E => ∃ (h g : Addr) (p q L M : Int) (f1 f2 l1 l2 : List Int) (t1 t2 : List (List (List Int))), vs = [.ref h, .ref g] /\ SumH K H h p L f1 t1 l1 /\ SumH K H g q M f2 t2 l2 /\ (p = q /\ L = M -> ∀ H', Same H H' -> Q .non H') /\ (¬ (p = q /\ L = M) -> ∀ H', Same H H' -> E (.ref BH) none H')
theorem ok_check_as_many {f : Addr} {fd : FuncData} (F : Fun K "check_as_many" "check_as_many" s_check_as_many f fd) (T : Txt mg)
    (W : Own K mg)
    (Z : Exs K mg C_AskError C_BadHouse C_BadWord)
    : FnOk P w K mg base (CXe P w) 1 f fd ["house", "other"] (sp_many K C_BadHouse) := by
  refine F.okE sc_check_as_many (fun vs H Q E h => ?_) (fun cdv A outer s H vs Q E hr h => ?_)
  . obtain ⟨h, g, p, q, L, M, f1, f2, l1, l2, t1, t2, rfl, _⟩ := h; rfl
  . obtain ⟨h, g, p, q, L, M, f1, f2, l1, l2, t1, t2, rfl, ⟨a1, a2, a3, x1, x2, x3, x4⟩, ⟨b1, b2, b3, y1, y2, y3, y4⟩, k, kE⟩ := h
    have hl := line1000
    refine ⟨_, (pss_one (ps_if (pt_cmpR (op_neD 8 (hu9 hr)) (pe_slice sl_tup2 (pv 0) po_none (po_some pe_int)) (pe_slice sl_tup2 (pv 1) po_none (po_some pe_int)) (nomark _))
      (pss_one (ps_raise Z.m_BadHouse Z.x_BadHouse rfl rfl (pa_cons pe_str pa_nil)))
      pss_nil)), ?_⟩
    walk_at "rd"
    have cut2 : ∀ (a b c d e : V), cutV [a, b, c, d, e] none (some 2) = [a, b] := fun _ _ _ _ _ => rfl
    refine ⟨_, x1, fun c1 H1 s1 hc1 => ⟨_, s1.seqT y1, fun c2 H2 s2 hc2 => ?_⟩⟩
    rw [cut2] at hc1 hc2
    refine ⟨_, EqD.ints (xs := [p, L]) (ys := [q, M]) (.inr ⟨s2.seqT hc1, hc2⟩) 7, ?_⟩
    by_cases hq : p = q /\ L = M
    . rw [decide_eq_true (by rw [hq.1, hq.2]), if_neg (by decide)]
      exact k hq _ (s1.trans s2)
    . rw [decide_eq_false (fun z => hq (by injection z with z1 z2; injection z2 with z2 _; exact ⟨z1, z2⟩)), if_pos (by decide)]
      exact ⟨by omega, kE hq _ (s1.trans s2)⟩
theorem RowsN.app66 {K : PySem.W.Frag} {H : Hp} {xs ys : List V} {a b : List (List Int)} (h : RowsN K H xs a) (g : RowsN K H ys b) : RowsN K H (xs ++ ys) (a ++ b) := by
  refine ⟨by rw [List.length_append, List.length_append, h.1, g.1], fun i r hi => ?_⟩
  by_cases hl : i < a.length
  . rw [List.getElem?_append_left hl] at hi
    rw [List.getElem?_append_left (by rw [h.1]; exact hl)]
    exact h.2 i r hi
  . rw [List.getElem?_append_right (by omega)] at hi
    rw [List.getElem?_append_right (by rw [h.1]; omega), h.1]
    exact g.2 _ r hi
theorem rep_ints (n : Nat) : (List.replicate n [V.int 0]).flatten = (List.replicate n (0 : Int)).map V.int := by
  induction n with
  | zero => rfl
  | succ n ih => rw [List.replicate_succ, List.flatten_cons, ih, List.replicate_succ]; rfl
def sp_tless (K : PySem.W.Frag) : Sp := fun vs H Q _ => ∃ (u v : Addr) (xs ys : List V) (a b : List (List Int)) (d e : Nat), vs = [.ref u, .ref v] /\ SqT K H u xs /\ RowsN K H xs a /\ SqT K H v ys /\ RowsN K H ys b /\ Dim d a /\ Dim e b /\ d <= 16 /\ e <= 16 /\ ∀ q zs H', Same H H' -> H' q = some (.tup zs) -> RowsN K H' zs (lessT d e a b) -> Q (.ref q) H'
theorem ok_table_less {f : Addr} {fd : FuncData} (F : Fun K "table_less" "table_less" s_table_less f fd) (T : Txt mg)
    (W : Own K mg)
    (Z : Exs K mg C_AskError C_BadHouse C_BadWord)
    : FnOk P w K mg base CX0 1 f fd ["table", "other"] (sp_tless K) := by
  refine F.ok sc_table_less (fun vs H Q E h => ?_) (fun cdv A outer s H vs Q E hr h => ?_)
  . obtain ⟨u, v, xs, ys, a, b, d, e, rfl, _⟩ := h; rfl
  . obtain ⟨u, v, xs, ys, a, b, d, e, rfl, hu, hX, hv, hY, da, db, hd, he, k⟩ := h
    have hl := line1000
    have hxl := hX.1
    have hyl := hY.1
    have hdn := da.n
    have hen := db.n
    refine ⟨_, (pss_cons (ps_set (i := 2) sc_table_less.nd rfl (Or.inr rfl) (pe_op op_repT (pe_tup (pa_cons pe_int pa_nil)) (pe_callB call_len_seq (by rfl) T.len PySem.boot_len (pa_cons (pv 0) pa_nil))))
      (pss_cons (ps_set (i := 3) sc_table_less.nd rfl (Or.inr rfl) (pe_op op_repT (pe_tup (pa_cons pe_int pa_nil)) (pe_callB call_len_seq (by rfl) T.len PySem.boot_len (pa_cons (pv 1) pa_nil))))
      (pss_one (ps_ret (pe_callTy call_tuple_L rfl T.tuple PyProof.Rows.boot_tuple (pa_cons (pe_op op_cat (pe_comp rfl (blk_mk rfl) (cp := c_table_less_6) ⟨⟨rfl, rfl⟩, True.intro⟩ (pi_tup (pv 0)) (fun _ _ _ _ => (pg_name (i := 0) nd_c_table_less_6 rfl (Or.inl rfl))) (fun _ _ _ _ => pf_nil) (fun _ _ _ _ => (pe_op (op_catT2K (K := K) rfl) (pv 0) (pv 1)))) (pe_comp rfl (blk_mk rfl) (cp := c_table_less_7) ⟨⟨rfl, rfl⟩, True.intro⟩ (pi_tup (pv 1)) (fun _ _ _ _ => (pg_name (i := 0) nd_c_table_less_7 rfl (Or.inl rfl))) (fun _ _ _ _ => pf_nil) (fun _ _ _ _ => (pe_op (op_catT2K (K := K) rfl) (pv 1) (pv 0))))) pa_nil)))))), ?_⟩
    walk_at "rd"
    refine ⟨by omega, fun p0 hp0 => ?_⟩
    have sp := Same.new hp0 (o := .tup [V.int 0])
    refine ⟨_, .inr (sp.seqT hu), rRepT.of (SqT.of upd_same) (by simp) (by omega) (by omega) (by simp; omega) fun pl H1 s1 hl1 => ⟨by omega, fun p1 hp1 => ?_⟩⟩
    rw [hxl, hdn, Int.toNat_natCast, rep_ints] at hl1
    have s01 := sp.trans s1
    have sp1 := Same.new hp1 (o := .tup [V.int 0])
    refine ⟨_, .inr ((s01.trans sp1).seqT hv), rRepT.of (SqT.of upd_same) (by simp) (by omega) (by omega) (by simp; omega) fun pr H2 s2 hr2 => ?_⟩
    rw [hyl, hen, Int.toNat_natCast, rep_ints] at hr2
    have s12 := sp1.trans s2
    have s02 := s01.trans s12
    have hl2 := s12.seqT hl1
    refine rowsN_comp (σ' := [some (.ref pr)]) (fun r => r ++ List.replicate e 0) rfl (s02.seqT hu) (hX.mono s02) (by omega) (fun r hr t H3 R s3 ht hR => ?_) (fun zs H3 D s3 hD hZ => ?_)
    . walk_at "rd"
      have := da.r r hr
      refine rCatT2.of ht (s3.seqT hr2) (by simp; omega) fun q H4 s4 hq => hR q H4 s4 ?_
      rw [List.map_append]; exact hq
    have sD := s3.newT hD (o := .lst zs)
    have hDD : upd H3 D (.lst zs) D = some (.lst zs) := upd_same
    have hZD := hZ.mono (Same.new hD (o := .lst zs))
    generalize upd H3 D (.lst zs) = H4 at sD hDD hZD ⊢
    have s04 := s02.trans sD
    refine rowsN_comp (σ' := [some (.ref pl)]) (fun r => List.replicate d 0 ++ r) rfl (s04.seqT hv) (hY.mono s04) (by omega) (fun r hr t H5 R s5 ht hR => ?_) (fun us H5 D5 s5 hD5 hU => ?_)
    . walk_at "rd"
      have := db.r r hr
      refine rCatT2.of ((sD.trans s5).seqT hl2) ht (by simp; omega) fun q H6 s6 hq => hR q H6 s6 ?_
      rw [List.map_append]; exact hq
    have hzl := hZD.1
    have hul := hU.1
    rw [List.length_map] at hzl hul
    refine ⟨D, rfl, D5, rfl, _, Same.new hD5 _ _ (s5 _ _ hDD), _, upd_same, by omega, fun pz hpz => ⟨_, .inl ⟨SqL.of upd_same, fun q hq => ?_⟩⟩⟩
    have sE := ((Same.new hD5 (o := .lst us)).newT hpz (o := .lst (zs ++ us))).newT hq (o := .tup (zs ++ us))
    refine k q _ _ (s04.trans (s5.trans sE)) upd_same ?_
    unfold lessT
    exact RowsN.app66 (hZD.mono (s5.trans sE)) (hU.mono sE)
def TabsL (K : PySem.W.Frag) (H : Hp) (zs : List V) (tabs : List (List (List Int))) : Prop := zs.length = tabs.length /\ ∀ (i : Nat) (tb : List (List Int)), tabs[i]? = some tb -> ∃ (u : Addr) (xs : List V), zs[i]? = some (.ref u) /\ SqT K H u xs /\ RowsN K H xs tb
theorem TabsL.mono {K : PySem.W.Frag} {H H' : Hp} {zs : List V} {tabs : List (List (List Int))} (h : TabsL K H zs tabs) (s : Same H H') : TabsL K H' zs tabs := ⟨h.1, fun i tb hi => by
  obtain ⟨u, xs, a, b, c⟩ := h.2 i tb hi
  exact ⟨u, xs, a, s.seqT b, c.mono s⟩⟩
theorem TabsL.nil {K : PySem.W.Frag} {H : Hp} : TabsL K H [] [] := ⟨rfl, fun i tb h => by simp at h⟩
theorem TabsL.snoc {K : PySem.W.Frag} {H : Hp} {zs : List V} {tabs : List (List (List Int))} (h : TabsL K H zs tabs) {u : Addr} {xs : List V} {tb : List (List Int)} (h1 : SqT K H u xs) (h2 : RowsN K H xs tb) : TabsL K H (zs ++ [.ref u]) (tabs ++ [tb]) := by
  refine ⟨by rw [List.length_append, List.length_append, h.1]; rfl, fun i r hi => ?_⟩
  by_cases hl : i < tabs.length
  . rw [List.getElem?_append_left hl] at hi
    rw [List.getElem?_append_left (by rw [h.1]; exact hl)]
    exact h.2 i r hi
  . have := (List.getElem?_eq_some_iff.mp hi).1
    rw [List.length_append, List.length_singleton] at this
    have e : i = tabs.length := by omega
    subst e
    rw [List.getElem?_append_right (Nat.le_refl _), Nat.sub_self] at hi
    simp at hi
    subst hi
    exact ⟨u, xs, by rw [<- h.1]; simp, h1, h2⟩
theorem TabsL.tabs {K : PySem.W.Frag} {H : Hp} {tt : Addr} {zs : List V} {tabs : List (List (List Int))} (h : TabsL K H zs tabs) (ht : SqT K H tt zs) : Tabs K H tt tabs := by
  refine ⟨zs.map (fun v => match v with | .ref t => t | _ => 0), ?_, by rw [List.length_map]; exact h.1, fun i u tb hi hr => ?_⟩
  . have e : (zs.map (fun v => match v with | .ref t => t | _ => 0)).map V.ref = zs := by
      rw [List.map_map]
      refine List.ext_getElem? fun i => ?_
      rw [List.getElem?_map]
      by_cases hi : i < tabs.length
      . obtain ⟨t, _, a, _⟩ := h.2 i tabs[i] (by simp [hi])
        rw [a]; rfl
      . rw [List.getElem?_eq_none (by rw [h.1]; omega)]; rfl
    rw [e]; exact ht
  . obtain ⟨t', xs, a, b, c⟩ := h.2 i tb hr
    rw [List.getElem?_map, a] at hi
    cases hi
    exact ⟨xs, b, c⟩
theorem zipWith_take {α : Type} (F : α -> α -> α) {xs ys : List α} {i : Nat} {x y : α} (hx : xs[i]? = some x) (hy : ys[i]? = some y) : (List.zipWith F xs ys).take (i + 1) = (List.zipWith F xs ys).take i ++ [F x y] := by
  rw [List.take_add_one, List.getElem?_zipWith, hx, hy]; rfl
theorem tabs_zip {K : PySem.W.Frag} {a b : Addr} {us vs : List Addr} {t1 t2 : List (List (List Int))} {cp : Caps} {te : TE} {Q : VK} {σ σ' : St} {H : Hp} (F : List (List Int) -> List (List Int) -> List (List Int)) (e : cp.st σ = none :: none :: σ')
    (x4 : SqT K H a (us.map V.ref)) (x5 : us.length = t1.length) (x6 : ∀ (i : Nat) (u : Addr) (tb : List (List Int)), us[i]? = some u -> t1[i]? = some tb -> ∃ xs, SqT K H u xs /\ RowsN K H xs tb)
    (y4 : SqT K H b (vs.map V.ref)) (y5 : vs.length = t2.length) (y6 : ∀ (i : Nat) (u : Addr) (tb : List (List Int)), vs[i]? = some u -> t2[i]? = some tb -> ∃ xs, SqT K H u xs /\ RowsN K H xs tb) (hn : t1.length = t2.length) (hz : t1.length <= 1000)
    (hs : ∀ tb1 ∈ t1, ∀ tb2 ∈ t2, ∀ u v xs ys H2 (R : VK), Same H H2 -> SqT K H2 u xs -> RowsN K H2 xs tb1 -> SqT K H2 v ys -> RowsN K H2 ys tb2 -> (∀ q zs H3, Same H2 H3 -> SqT K H3 q zs -> RowsN K H3 zs (F tb1 tb2) -> R (.ref q) H3) -> te (some (.ref u) :: some (.ref v) :: σ') H2 R)
    (hd : ∀ zs H2 D, Same H H2 -> H2 D = none -> TabsL K H2 zs (List.zipWith F t1 t2) -> Q (.ref D) (upd H2 D (.lst zs))) : CompW (Itz2 K true true a b (us.map V.ref) (vs.map V.ref)) cp (gTup K 2 (gCons (gName 0) (gCons (gName 1) gNil))) tTrue te σ H Q := by
  have hl := line1000
  refine compZ2 t1.length (by rw [List.length_map]; omega) (by rw [List.length_map]; omega) (.inl (by rw [List.length_map]; omega)) (fun i zs σ2 H2 => Same H H2 /\ TabsL K H2 zs ((List.zipWith F t1 t2).take i) /\ ∃ o1 o2, σ2 = o1 :: o2 :: σ') ⟨Same.refl _, TabsL.nil, none, none, e⟩ (by omega) (fun i zs σ2 H2 hi h => ⟨h.1.seqT x4, h.1.seqT y4, by rw [h.2.1.1, List.length_take]; omega⟩) (fun i u v zs σ2 H2 t hi hu hv h ht => ?_) (fun zs σ2 H2 h D hD => ?_)
  . obtain ⟨s, hZ, o1, o2, rfl⟩ := h
    rw [List.getElem?_map] at hu hv
    cases h1 : us[i]? with
    | none => rw [h1] at hu; cases hu
    | some a1 =>
      cases h2 : vs[i]? with
      | none => rw [h2] at hv; cases hv
      | some b1 =>
        rw [h1] at hu
        rw [h2] at hv
        cases hu
        cases hv
        have e1 : t1[i]? = some t1[i] := by simp [hi]
        have e2 : t2[i]? = some (t2[i]'(by omega)) := by simp [show i < t2.length by omega]
        obtain ⟨xs, g1, g2⟩ := x6 i a1 _ h1 e1
        obtain ⟨ys, k1, k2⟩ := y6 i b1 _ h2 e2
        have sT := s.newT ht (o := .tup [V.ref a1, V.ref b1])
        have hZT := hZ.mono (Same.new ht (o := .tup [V.ref a1, V.ref b1]))
        show gTup K 2 (gCons (gName 0) (gCons (gName 1) gNil)) (.ref t) _ _ _
        refine ⟨t, _, rfl, SqT.of upd_same, rfl, ?_⟩
        walk_at "rd"
        refine hs _ (List.mem_of_getElem? e1) _ (List.mem_of_getElem? e2) a1 b1 xs ys _ _ sT (sT.seqT g1) (g2.mono sT) (sT.seqT k1) (k2.mono sT) fun q us' H3 s3 hq hr => ⟨sT.trans s3, ?_, by first | exact ⟨_, _, rfl⟩ | exact ⟨_, rfl⟩ | rfl | simp⟩
        rw [zipWith_take F e1 e2]
        exact (hZT.mono s3).snoc hq hr
  . obtain ⟨s, hZ, _⟩ := h
    rw [List.take_of_length_le (by rw [List.length_zipWith]; omega)] at hZ
    exact hd zs H2 D s hD hZ
def lessTs (d e : Nat) (t1 t2 : List (List (List Int))) : List (List (List Int)) := List.zipWith (lessT d e) t1 t2
def sp_lessof (K : PySem.W.Frag) : Sp := fun vs H Q _ => ∃ (h g : Addr) (p L : Int) (d e : Nat) (f1 f2 l1 l2 : List Int) (t1 t2 : List (List (List Int))), vs = [.ref h, .ref g] /\ SumH K H h p L f1 t1 l1 /\ SumH K H g p L f2 t2 l2 /\ WfSum p L d f1 t1 l1 /\ WfSum p L e f2 t2 l2 /\ L <= 6 /\ ∀ q H', Same H H' -> SumH K H' q p L (f1 ++ f2) (lessTs d e t1 t2) (l1 ++ l2.map fun x => -1 * x % p) -> Q (.ref q) H'
theorem ok_less_of {f : Addr} {fd : FuncData} (F : Fun K "less_of" "less_of" s_less_of f fd) (T : Txt mg)
    (W : Own K mg)
    (Z : Exs K mg C_AskError C_BadHouse C_BadWord)
    {f_scaled : Addr} {fd_scaled : FuncData} (g_scaled : FnOk P w K mg base CX0 1 f_scaled fd_scaled ["p", "factor", "row"] (sp_scaled K)) (F_scaled : Fun K "scaled" "scaled" s_scaled f_scaled fd_scaled) (b_scaled : Binds K fd_scaled ["p", "factor", "row"] []) (m_scaled : mg "scaled" = some (.ref f_scaled))
    {f_table_less : Addr} {fd_table_less : FuncData} (g_table_less : FnOk P w K mg base CX0 1 f_table_less fd_table_less ["table", "other"] (sp_tless K)) (F_table_less : Fun K "table_less" "table_less" s_table_less f_table_less fd_table_less) (b_table_less : Binds K fd_table_less ["table", "other"] []) (m_table_less : mg "table_less" = some (.ref f_table_less))
    : FnOk P w K mg base CX0 2 f fd ["house", "other"] (sp_lessof K) := by
  refine F.ok sc_less_of (fun vs H Q E h => ?_) (fun cdv A outer s H vs Q E hr h => ?_)
  . obtain ⟨h, g, p, L, d, e, f1, f2, l1, l2, t1, t2, rfl, _⟩ := h; rfl
  . obtain ⟨h, g, p, L, d, e, f1, f2, l1, l2, t1, t2, rfl, ⟨a1, a2, a3, x1, x2, x3, us, x4, x5, x6⟩, ⟨b1, b2, b3, y1, y2, y3, vs, y4, y5, y6⟩, wf, wg, hL6, k⟩ := h
    have hl := line1000
    have hd := wf.dl
    have he := wg.dl
    have hp2 := wf.p2
    have ht := wf.t
    have ht' := wg.t
    refine ⟨_, (pss_cons (ps_set (i := 2) sc_less_of.nd rfl (Or.inl rfl) (pe_callTy call_tuple_L rfl T.tuple PyProof.Rows.boot_tuple (pa_cons (pe_comp rfl (blk_mk rfl) (cp := c_less_of_3) True.intro (pi_zip2 rfl T.zip (pa_cons (pe_ix ix_tup (pv 0) pe_int (fun _ _ => rfl)) (pa_cons (pe_ix ix_tup (pv 1) pe_int (fun _ _ => rfl)) pa_nil))) (fun _ _ _ _ => (pg_tupK (K := K) (n := 2) rfl rfl (pgs_cons (pg_name (i := 0) nd_c_less_of_3 rfl (Or.inl rfl)) (pgs_cons (pg_name (i := 1) nd_c_less_of_3 rfl (Or.inl rfl)) pgs_nil)))) (fun _ _ _ _ => pf_nil) (fun _ _ _ _ => (pe_call g_table_less (hr.mono (by decide)) rfl m_table_less F_table_less.kp b_table_less .nil pass0 (pa_cons (pv 0) (pa_cons (pv 1) pa_nil))))) pa_nil)))
      (pss_cons (ps_set (i := 3) sc_less_of.nd rfl (Or.inl rfl) (pe_op op_catT2 (pe_ix ix_tup (pv 0) pe_int (fun _ _ => rfl)) (pe_call g_scaled (hr.mono (by decide)) rfl m_scaled F_scaled.kp b_scaled .nil pass0 (pa_cons (pe_ix ix_tup (pv 0) pe_int (fun _ _ => rfl)) (pa_cons (pe_un un_neg pe_int) (pa_cons (pe_ix ix_tup (pv 1) pe_int (fun _ _ => rfl)) pa_nil))))))
      (pss_one (ps_ret (pe_tup (pa_cons (pe_ix ix_tup (pv 0) pe_int (fun _ _ => rfl)) (pa_cons (pe_ix ix_tup (pv 0) pe_int (fun _ _ => rfl)) (pa_cons (pe_op op_catT2 (pe_ix ix_tup (pv 0) pe_int (fun _ _ => rfl)) (pe_ix ix_tup (pv 1) pe_int (fun _ _ => rfl))) (pa_cons (pv 2) (pa_cons (pv 3) pa_nil)))))))))), ?_⟩
    walk_at "rd"
    refine ⟨_, x1, _, rfl, _, y1, _, rfl, ?_⟩
    refine ⟨a2, rfl, b2, rfl, _, _, true, x4, true, y4, tabs_zip (σ' := []) (lessT d e) rfl x4 x5 x6 y4 y5 y6 (by omega) (by omega) (fun tb1 h1 tb2 h2 u v xs ys H2 R s2 hu hX hv hY hR => ?_) (fun zs H2 D s2 hD hZ => ?_)⟩
    . walk_at "rd"
      have hw1 := wf.tt tb1 h1
      have hw2 := wg.tt tb2 h2
      exact ⟨u, v, xs, ys, tb1, tb2, d, e, rfl, hu, hX, hv, hY, ⟨hw1.1, hw1.2⟩, ⟨hw2.1, hw2.2⟩, hd, he, fun q zs H3 s3 hq hr => hR q zs H3 s3 (SqT.of hq) hr⟩
    . refine ⟨D, rfl, _, .inl ⟨SqL.of upd_same, fun q hq => ?_⟩⟩
      have sD := (Same.new hD (o := .lst zs)).newT hq (o := .tup zs)
      have s3 := s2.trans sD
      have hq3 : upd (upd H2 D (.lst zs)) q (.tup zs) q = some (.tup zs) := upd_same
      have hZ3 := hZ.mono sD
      generalize upd (upd H2 D (.lst zs)) q (.tup zs) = H3 at sD s3 hq3 hZ3 ⊢
      refine ⟨_, s3.seqT x1, _, rfl, _, s3.seqT x1, _, rfl, _, s3.seqT y1, _, rfl, p, -1, true, b3, l2, rfl, by omega, ⟨by decide, by decide⟩, s3.seqT y3, by have := wg.l.1; omega, fun ql H4 s4 hql => ?_⟩
      have s34 := s3.trans s4
      have h1l := wf.l.1
      have h2l := wg.l.1
      refine rCatT2.of (s34.seqT x3) (SqT.of hql) (by simp; omega) fun qc H5 s5 hqc => ?_
      have s35 := s34.trans s5
      refine ⟨_, s35.seqT x1, _, rfl, _, s35.seqT x1, _, rfl, _, s35.seqT x1, _, rfl, _, s35.seqT y1, _, rfl, ?_⟩
      have h1f := wf.f.1
      have h2f := wg.f.1
      refine rCatT2.of (s35.seqT x2) (s35.seqT y2) (by simp; omega) fun qf H6 s6 hqf => ⟨by omega, fun qz hqz => ?_⟩
      have s6z := Same.new hqz (o := .tup [V.int p, V.int L, V.ref qf, V.ref q, V.ref qc])
      have s36 := (s4.trans s5).trans (s6.trans s6z)
      refine k qz _ (s3.trans s36) ⟨qf, q, qc, SqT.of upd_same, ?_, ?_, ?_⟩
      . rw [List.map_append]; exact s6z.seqT hqf
      . rw [List.map_append]; exact (s6.trans s6z).seqT hqc
      . exact (hZ3.mono s36).tabs (s36.seqT (SqT.of hq3))
theorem zip_getD {d e : Nat} {t1 t2 : List (List (List Int))} (F : List (List Int) -> List (List Int) -> List (List Int)) {i : Nat} (h1 : i < t1.length) (h2 : i < t2.length) : (List.zipWith F t1 t2).getD i [] = F (t1.getD i []) (t2.getD i []) := by
  rw [List.getD_eq_getElem?_getD, List.getElem?_zipWith, List.getD_eq_getElem?_getD, List.getD_eq_getElem?_getD, List.getElem?_eq_getElem h1, List.getElem?_eq_getElem h2]; rfl
theorem lessT_dim {d e : Nat} {a b : List (List Int)} (ha : Dim d a) (hb : Dim e b) : Dim (d + e) (lessT d e a b) := by
  refine ⟨by unfold lessT; rw [List.length_append, List.length_map, List.length_map, ha.n, hb.n], fun r hr => ?_⟩
  unfold lessT at hr
  rcases List.mem_append.mp hr with hr | hr
  . obtain ⟨s, hs, rfl⟩ := List.mem_map.mp hr
    rw [List.length_append, List.length_replicate, ha.r s hs]
  . obtain ⟨s, hs, rfl⟩ := List.mem_map.mp hr
    rw [List.length_append, List.length_replicate, hb.r s hs]
theorem WfSum.dim {p L : Int} {d : Nat} {first last : List Int} {tables : List (List (List Int))} (wf : WfSum p L d first tables last) {i : Nat} (hi : i < tables.length) : Dim d (tables.getD i []) := by
  have e : tables.getD i [] = tables[i] := by rw [List.getD_eq_getElem?_getD, List.getElem?_eq_getElem hi]; rfl
  rw [e]
  have := wf.tt _ (List.getElem_mem hi)
  exact ⟨this.1, this.2⟩
theorem mem_zipWith {α : Type} {F : α -> α -> α} {xs ys : List α} {z : α} (h : z ∈ List.zipWith F xs ys) : ∃ x ∈ xs, ∃ y ∈ ys, z = F x y := by
  obtain ⟨i, hi⟩ := List.mem_iff_getElem?.mp h
  rw [List.getElem?_zipWith] at hi
  cases hx : xs[i]? with
  | none => rw [hx] at hi; cases hi
  | some x =>
    cases hy : ys[i]? with
    | none => rw [hx, hy] at hi; cases hi
    | some y =>
      rw [hx, hy] at hi
      cases hi
      exact ⟨x, List.mem_of_getElem? hx, y, List.mem_of_getElem? hy, rfl⟩
theorem less_wf {p L : Int} {d e : Nat} {f1 f2 l1 l2 : List Int} {t1 t2 : List (List (List Int))} (wf : WfSum p L d f1 t1 l1) (wg : WfSum p L e f2 t2 l2) (h16 : d + e <= 16) : WfSum p L (d + e) (f1 ++ f2) (lessTs d e t1 t2) (l1 ++ l2.map fun x => -1 * x % p) := by
  have hp := wf.p2
  refine ⟨wf.p2, wf.p18, h16, ⟨by rw [List.length_append, wf.f.1, wg.f.1], fun x hx => ?_⟩, ⟨by rw [List.length_append, List.length_map, wf.l.1, wg.l.1], fun x hx => ?_⟩, ?_, fun tb htb => ?_⟩
  . rcases List.mem_append.mp hx with hx | hx
    . exact wf.f.2 x hx
    . exact wg.f.2 x hx
  . rcases List.mem_append.mp hx with hx | hx
    . exact wf.l.2 x hx
    . obtain ⟨y, _, rfl⟩ := List.mem_map.mp hx
      exact ⟨Int.emod_nonneg _ (by omega), Int.emod_lt_of_pos _ (by omega)⟩
  . unfold lessTs
    rw [List.length_zipWith]
    have := wf.t
    have := wg.t
    omega
  . obtain ⟨x, hx, y, hy, rfl⟩ := mem_zipWith htb
    have h1 := wf.tt x hx
    have h2 := wg.tt y hy
    have := lessT_dim ⟨h1.1, h1.2⟩ ⟨h2.1, h2.2⟩
    exact ⟨this.n, this.r⟩
def sp_sless (K : PySem.W.Frag) (BH : Addr) : Sp := fun vs H Q E => ∃ (h g : Addr) (p q L M : Int) (d e : Nat) (f1 f2 l1 l2 : List Int) (t1 t2 : List (List (List Int))), vs = [.ref h, .ref g] /\ SumH K H h p L f1 t1 l1 /\ SumH K H g q M f2 t2 l2 /\ WfSum p L d f1 t1 l1 /\ WfSum q M e f2 t2 l2 /\ L <= 6 /\ (p = q /\ L = M /\ d + e <= 16 -> ∀ r H', Same H H' -> SumH K H' r p L (f1 ++ f2) (lessTs d e t1 t2) (l1 ++ l2.map fun x => -1 * x % p) -> Q (.ref r) H') /\ (¬ (p = q /\ L = M /\ d + e <= 16) -> ∀ H', Same H H' -> E (.ref BH) none H')
theorem ok_sums_less {f : Addr} {fd : FuncData} (F : Fun K "sums_less" "sums_less" s_sums_less f fd) (T : Txt mg)
    (W : Own K mg)
    (Z : Exs K mg C_AskError C_BadHouse C_BadWord)
    {f_check_size : Addr} {fd_check_size : FuncData} (g_check_size : FnOk P w K mg base (CXe P w) 1 f_check_size fd_check_size ["size"] (sp_chz C_BadHouse)) (F_check_size : Fun K "check_size" "check_size" s_check_size f_check_size fd_check_size) (b_check_size : Binds K fd_check_size ["size"] []) (m_check_size : mg "check_size" = some (.ref f_check_size))
    {f_check_as_many : Addr} {fd_check_as_many : FuncData} (g_check_as_many : FnOk P w K mg base (CXe P w) 1 f_check_as_many fd_check_as_many ["house", "other"] (sp_many K C_BadHouse)) (F_check_as_many : Fun K "check_as_many" "check_as_many" s_check_as_many f_check_as_many fd_check_as_many) (b_check_as_many : Binds K fd_check_as_many ["house", "other"] []) (m_check_as_many : mg "check_as_many" = some (.ref f_check_as_many))
    {f_less_of : Addr} {fd_less_of : FuncData} (g_less_of : FnOk P w K mg base CX0 2 f_less_of fd_less_of ["house", "other"] (sp_lessof K)) (F_less_of : Fun K "less_of" "less_of" s_less_of f_less_of fd_less_of) (b_less_of : Binds K fd_less_of ["house", "other"] []) (m_less_of : mg "less_of" = some (.ref f_less_of))
    : FnOk P w K mg base (CXe P w) 3 f fd ["house", "other"] (sp_sless K C_BadHouse) := by
  refine F.okE sc_sums_less (fun vs H Q E h => ?_) (fun cdv A outer s H vs Q E hr h => ?_)
  . obtain ⟨h, g, p, q, L, M, d, e, f1, f2, l1, l2, t1, t2, rfl, _⟩ := h; rfl
  . obtain ⟨h, g, p, q, L, M, d, e, f1, f2, l1, l2, t1, t2, rfl, hs, hg, wf, wg, hL6, k, kE⟩ := h
    refine ⟨_, (pss_cons (ps_expr (pe_call g_check_as_many (hr.mono (by decide)) rfl m_check_as_many F_check_as_many.kp b_check_as_many .nil (passE fun _ _ _ h => h) (pa_cons (pv 0) (pa_cons (pv 1) pa_nil))))
      (pss_cons (ps_expr (pe_call g_check_size (hr.mono (by decide)) rfl m_check_size F_check_size.kp b_check_size .nil (passE fun _ _ _ h => h) (pa_cons (pe_op op_add (pe_callB call_len_seq (by rfl) T.len PySem.boot_len (pa_cons (pe_ix ix_tup (pv 0) pe_int (fun _ _ => rfl)) pa_nil)) (pe_callB call_len_seq (by rfl) T.len PySem.boot_len (pa_cons (pe_ix ix_tup (pv 1) pe_int (fun _ _ => rfl)) pa_nil))) pa_nil)))
      (pss_one (ps_ret (pe_call g_less_of (hr.mono (by decide)) rfl m_less_of F_less_of.kp b_less_of .nil pass0 (pa_cons (pv 0) (pa_cons (pv 1) pa_nil))))))), ?_⟩
    walk_at "rd"
    refine ⟨h, g, p, q, L, M, f1, f2, l1, l2, t1, t2, rfl, hs, hg, fun hq H1 s1 => ?_, fun hq H1 s1 => kE (fun z => hq ⟨z.1, z.2.1⟩) H1 s1⟩
    obtain ⟨a1, a2, a3, x1, x2, x3, x4⟩ := hs.mono s1
    obtain ⟨b1, b2, b3, y1, y2, y3, y4⟩ := hg.mono s1
    obtain ⟨rfl, rfl⟩ := hq
    have h1f := wf.f.1
    have h2f := wg.f.1
    refine ⟨_, x1, _, rfl, a1, rfl, _, .inr x2, _, y1, _, rfl, b1, rfl, _, .inr y2, d + e, ?_, fun hd => ?_, fun hd => ?_⟩
    . rw [List.length_map, List.length_map, h1f, h2f]; rfl
    . exact ⟨h, g, p, L, d, e, f1, f2, l1, l2, t1, t2, rfl, hs.mono s1, hg.mono s1, wf, wg, hL6, fun r H2 s2 hr => k ⟨rfl, rfl, of_decide_eq_true hd⟩ r H2 (s1.trans s2) hr⟩
    . exact kE (fun z => by rw [decide_eq_true z.2.2] at hd; cases hd) H1 s1
def sp_rtimes (K : PySem.W.Frag) : Sp := fun vs H Q _ => ∃ (p : Int) (a b : Addr) (r s : List Int), vs = [.int p, .ref a, .ref b] /\ 0 < p /\ SqT K H a (r.map V.int) /\ SqT K H b (s.map V.int) /\ r.length <= 16 /\ s.length <= 16 /\ (∀ x ∈ r, -(2 ^ 64) < x /\ x < 2 ^ 64) /\ ∀ q H', Same H H' -> H' q = some (.tup ((crossR p r s).map V.int)) -> Q (.ref q) H'
theorem crossR_take {p : Int} {r s : List Int} {i : Nat} {x : Int} (h : r[i]? = some x) : crossR p (r.take (i + 1)) s = crossR p (r.take i) s ++ s.map fun y => x * y % p := by
  unfold crossR
  rw [List.take_add_one, h, List.flatMap_append]; simp
theorem ok_row_times {f : Addr} {fd : FuncData} (F : Fun K "row_times" "row_times" s_row_times f fd) (T : Txt mg)
    (W : Own K mg)
    (Z : Exs K mg C_AskError C_BadHouse C_BadWord)
    {f_scaled : Addr} {fd_scaled : FuncData} (g_scaled : FnOk P w K mg base CX0 1 f_scaled fd_scaled ["p", "factor", "row"] (sp_scaled K)) (F_scaled : Fun K "scaled" "scaled" s_scaled f_scaled fd_scaled) (b_scaled : Binds K fd_scaled ["p", "factor", "row"] []) (m_scaled : mg "scaled" = some (.ref f_scaled))
    : FnOk P w K mg base CX0 2 f fd ["p", "row", "other"] (sp_rtimes K) := by
  refine F.ok sc_row_times (fun vs H Q E h => ?_) (fun cdv A outer s H vs Q E hr h => ?_)
  . obtain ⟨p, a, b, r, s, rfl, _⟩ := h; rfl
  . obtain ⟨p, a, b, r, s, rfl, hp, ha, hb, hrl, hs, hx, k⟩ := h
    have hl := line1000
    refine ⟨_, (pss_cons (ps_set (i := 3) sc_row_times.nd rfl (Or.inl rfl) (pe_lst pa_nil))
      (pss_cons (ps_for PassesOwn.never rfl (pi_tup (pv 1)) (pg_name (i := 4) sc_row_times.nd rfl (Or.inl rfl))
      (pss_one (ps_expr (pe_bm PySem.F.plainAttrs_list PySem.F.slot_list_extend PySem.F.type_list_extend mt_extendT (pv 3) (pa_cons (pe_call g_scaled (hr.mono (by decide)) rfl m_scaled F_scaled.kp b_scaled .nil pass0 (pa_cons (pv 0) (pa_cons (pv 4) (pa_cons (pv 2) pa_nil)))) pa_nil)))))
      (pss_one (ps_ret (pe_callTy call_tuple_L rfl T.tuple PyProof.Rows.boot_tuple (pa_cons (pv 3) pa_nil)))))), ?_⟩
    walk_at "rd"
    refine ⟨Nat.zero_le _, fun pn hpn => ⟨⟨_, (Same.new hpn).seqT ha⟩, ?_⟩⟩
    obtain ⟨Pv, hPv⟩ : ∃ Pv : Nat -> St -> Hp -> Prop, ∀ i σ' H', Pv i σ' H' ↔ (∃ o : Option V, Same H H' /\ H' pn = some (.lst ((crossR p (r.take i) s).map V.int)) /\ σ' = [some (.int p), some (.ref a), some (.ref b), some (.ref pn), o]) := ⟨_, fun _ _ _ => Iff.rfl⟩
    refine forT (xs := r.map V.int) Pv ((hPv _ _ _).mpr ⟨none, Same.new hpn, upd_same, rfl⟩) (fun i σ' H' _ h' => by obtain ⟨_, s', _⟩ := (hPv _ _ _).mp h'; exact s'.seqT ha) (fun i x σ' H' hi h' => ?_) (fun σ' H' h' => ?_)
    . obtain ⟨o, s', hn', rfl⟩ := (hPv _ _ _).mp h'
      obtain ⟨y, hy, rfl⟩ := get_mapI hi
      have hyb := hx y (List.mem_of_getElem? hy)
      have hlen := crossR_len p (r.take i) s
      have h16 : (r.take i).length * s.length <= 16 * 16 := Nat.mul_le_mul (by rw [List.length_take]; omega) hs
      walk_at "rd"
      refine ⟨.inl ⟨rfl, _, SqL.of hn'⟩, p, y, true, b, s, rfl, hp, hyb, s'.seqT hb, by omega, fun q H2 s2 hq => ?_⟩
      refine ⟨q, rfl, _, s2 _ _ hn', _, SqT.of hq, by rw [List.length_map, List.length_map, List.length_map]; omega, (hPv _ _ _).mpr ⟨_, (s'.trans s2).over hpn, ?_, rfl⟩⟩
      rw [upd_same, crossR_take hy, List.map_append]
    . obtain ⟨o, s', hn', rfl⟩ := (hPv _ _ _).mp h'
      rw [List.length_map, List.take_length] at hn'
      walk_at "rd"
      exact ⟨_, .inl ⟨SqL.of hn', fun q hq => k q _ (s'.newT hq) upd_same⟩⟩
theorem RowsN.off66 {K : PySem.W.Frag} {H : Hp} {q : Addr} {xs ys zs : List V} {rows : List (List Int)} (hq : H q = some (.lst zs)) (h : RowsN K H xs rows) : RowsN K (upd H q (.lst ys)) xs rows := ⟨h.1, fun i r hi => by
  obtain ⟨t, a, b⟩ := h.2 i r hi
  exact ⟨t, a, seqT_off hq b⟩⟩
def sp_ttimes (K : PySem.W.Frag) : Sp := fun vs H Q _ => ∃ (p : Int) (u v : Addr) (xs ys : List V) (a b : List (List Int)) (d e : Nat), vs = [.int p, .ref u, .ref v] /\ 0 < p /\ SqT K H u xs /\ RowsN K H xs a /\ SqT K H v ys /\ RowsN K H ys b /\ Dim d a /\ Dim e b /\ d <= 16 /\ e <= 16 /\ (∀ r ∈ a, ∀ x ∈ r, -(2 ^ 64) < x /\ x < 2 ^ 64) /\ ∀ q zs H', Same H H' -> H' q = some (.tup zs) -> RowsN K H' zs (crossT p a b) -> Q (.ref q) H'
theorem crossT_take {p : Int} {a b : List (List Int)} {i : Nat} {r : List Int} (h : a[i]? = some r) : crossT p (a.take (i + 1)) b = crossT p (a.take i) b ++ b.map fun s => crossR p r s := by
  unfold crossT
  rw [List.take_add_one, h, List.flatMap_append]; simp
theorem crossT_len (p : Int) (a b : List (List Int)) : (crossT p a b).length = a.length * b.length := by
  induction a with
  | nil => simp [crossT]
  | cons x r ih =>
    unfold crossT at ih ⊢
    rw [List.flatMap_cons, List.length_append, List.length_map, ih, List.length_cons, Nat.succ_mul]; omega
theorem ok_table_times {f : Addr} {fd : FuncData} (F : Fun K "table_times" "table_times" s_table_times f fd) (T : Txt mg)
    (W : Own K mg)
    (Z : Exs K mg C_AskError C_BadHouse C_BadWord)
    {f_row_times : Addr} {fd_row_times : FuncData} (g_row_times : FnOk P w K mg base CX0 2 f_row_times fd_row_times ["p", "row", "other"] (sp_rtimes K)) (F_row_times : Fun K "row_times" "row_times" s_row_times f_row_times fd_row_times) (b_row_times : Binds K fd_row_times ["p", "row", "other"] []) (m_row_times : mg "row_times" = some (.ref f_row_times))
    : FnOk P w K mg base CX0 3 f fd ["p", "table", "other"] (sp_ttimes K) := by
  refine F.ok sc_table_times (fun vs H Q E h => ?_) (fun cdv A outer s H vs Q E hr h => ?_)
  . obtain ⟨p, u, v, xs, ys, a, b, d, e, rfl, _⟩ := h; rfl
  . obtain ⟨p, u, v, xs, ys, a, b, d, e, rfl, hp, hu, hX, hv, hY, da, db, hd, he, hab, k⟩ := h
    have hl := line1000
    have hxl := hX.1
    have hyl := hY.1
    have hdn := da.n
    have hen := db.n
    refine ⟨_, (pss_cons (ps_set (i := 3) sc_table_times.nd rfl (Or.inl rfl) (pe_lst pa_nil))
      (pss_cons (ps_for PassesOwn.never rfl (pi_tup (pv 1)) (pg_name (i := 4) sc_table_times.nd rfl (Or.inr rfl))
      (pss_one (ps_expr (pe_bm PySem.F.plainAttrs_list PySem.F.slot_list_extend PySem.F.type_list_extend mt_extend (pv 3) (pa_cons (pe_comp rfl (blk_mk rfl) (cp := c_table_times_0) ⟨⟨rfl, rfl⟩, ⟨⟨rfl, rfl⟩, True.intro⟩⟩ (pi_tup (pv 2)) (fun _ _ _ _ => (pg_name (i := 0) nd_c_table_times_0 rfl (Or.inl rfl))) (fun _ _ _ _ => pf_nil) (fun _ _ _ _ => (pe_call g_row_times (hr.mono (by decide)) rfl m_row_times F_row_times.kp b_row_times .nil pass0 (pa_cons (pv 1) (pa_cons (pv 2) (pa_cons (pv 0) pa_nil)))))) pa_nil)))))
      (pss_one (ps_ret (pe_callTy call_tuple_L rfl T.tuple PyProof.Rows.boot_tuple (pa_cons (pv 3) pa_nil)))))), ?_⟩
    walk_at "rd"
    refine ⟨Nat.zero_le _, fun pn hpn => ⟨⟨_, (Same.new hpn).seqT hu⟩, ?_⟩⟩
    obtain ⟨Pv, hPv⟩ : ∃ Pv : Nat -> St -> Hp -> Prop, ∀ i σ' H', Pv i σ' H' ↔ (∃ (zs : List V) (o : Option V), Same H H' /\ H' pn = some (.lst zs) /\ RowsN K H' zs (crossT p (a.take i) b) /\ σ' = [some (.int p), some (.ref u), some (.ref v), some (.ref pn), o]) := ⟨_, fun _ _ _ => Iff.rfl⟩
    refine forT (xs := xs) Pv ((hPv _ _ _).mpr ⟨[], none, Same.new hpn, upd_same, RowsN.nil, rfl⟩) (fun i σ' H' _ h' => by obtain ⟨_, _, s', _⟩ := (hPv _ _ _).mp h'; exact s'.seqT hu) (fun i x σ' H' hi h' => ?_) (fun σ' H' h' => ?_)
    . obtain ⟨zs, o, s', hn', hZ, rfl⟩ := (hPv _ _ _).mp h'
      have hil : i < a.length := by rw [<- hxl]; exact (List.getElem?_eq_some_iff.mp hi).1
      have hai : a[i]? = some a[i] := by simp [hil]
      obtain ⟨t, e1, e2⟩ := hX.2 i _ hai
      rw [hi] at e1
      cases e1
      have hrl := da.r _ (List.mem_of_getElem? hai)
      have hrb := hab _ (List.mem_of_getElem? hai)
      generalize a[i] = r at hai e2 hrl hrb
      walk_at "rd"
      refine ⟨.inl ⟨rfl, _, SqL.of hn'⟩, rowsN_comp (σ' := [some (.int p), some (.ref t)]) (fun s => crossR p r s) rfl (s'.seqT hv) (hY.mono s') (by omega) (fun s hs t2 H2 R s2 ht2 hR => ?_) (fun us H2 D s2 hD hU => ?_)⟩
      . walk_at "rd"
        have := db.r s hs
        exact ⟨p, t, t2, r, s, rfl, hp, (s'.trans s2).seqT e2, ht2, by omega, by omega, hrb, fun q H3 s3 hq => hR q H3 s3 (SqT.of hq)⟩
      . have hzl := hZ.1
        rw [crossT_len] at hzl
        have h16 : (a.take i).length * b.length <= 16 * 16 := Nat.mul_le_mul (by rw [List.length_take]; omega) (by omega)
        have hul := hU.1
        rw [List.length_map] at hul
        have sD := Same.new hD (o := .lst us)
        have hn2 := sD _ _ (s2 _ _ hn')
        refine ⟨D, rfl, _, hn2, _, upd_same, by omega, (hPv _ _ _).mpr ⟨_, _, ((s'.trans s2).trans sD).over hpn, upd_same, ?_, rfl⟩⟩
        rw [crossT_take hai]
        exact RowsN.off66 hn2 (RowsN.app66 (hZ.mono (s2.trans sD)) (hU.mono sD))
    . obtain ⟨zs, o, s', hn', hZ, rfl⟩ := (hPv _ _ _).mp h'
      rw [hxl, List.take_length] at hZ
      walk_at "rd"
      refine ⟨_, .inl ⟨SqL.of hn', fun q hq => k q zs _ (s'.newT hq) upd_same (hZ.mono (Same.new hq))⟩⟩
def crossTs (p : Int) (t1 t2 : List (List (List Int))) : List (List (List Int)) := List.zipWith (crossT p) t1 t2
theorem crossT_dim {p : Int} {d e : Nat} {a b : List (List Int)} (ha : Dim d a) (hb : Dim e b) : Dim (d * e) (crossT p a b) := by
  refine ⟨by rw [crossT_len, ha.n, hb.n], fun r hr => ?_⟩
  unfold crossT at hr
  obtain ⟨x, hx, hr⟩ := List.mem_flatMap.mp hr
  obtain ⟨y, hy, rfl⟩ := List.mem_map.mp hr
  rw [crossR_len, ha.r x hx, hb.r y hy]
theorem crossR_in {p : Int} (hp : 0 < p) {r s : List Int} : ∀ x ∈ crossR p r s, 0 <= x /\ x < p := fun x hx => by
  unfold crossR at hx
  obtain ⟨a, _, hx⟩ := List.mem_flatMap.mp hx
  obtain ⟨b, _, rfl⟩ := List.mem_map.mp hx
  exact ⟨Int.emod_nonneg _ (by omega), Int.emod_lt_of_pos _ hp⟩
theorem times_wf {p L : Int} {d e : Nat} {f1 f2 l1 l2 : List Int} {t1 t2 : List (List (List Int))} (wf : WfSum p L d f1 t1 l1) (wg : WfSum p L e f2 t2 l2) (h16 : d * e <= 16) : WfSum p L (d * e) (crossR p f1 f2) (crossTs p t1 t2) (crossR p l1 l2) := by
  have hp := wf.p2
  refine ⟨wf.p2, wf.p18, h16, ⟨by rw [crossR_len, wf.f.1, wg.f.1], crossR_in (by omega)⟩, ⟨by rw [crossR_len, wf.l.1, wg.l.1], crossR_in (by omega)⟩, ?_, fun tb htb => ?_⟩
  . unfold crossTs
    rw [List.length_zipWith]
    have := wf.t
    have := wg.t
    omega
  . obtain ⟨x, hx, y, hy, rfl⟩ := mem_zipWith htb
    have h1 := wf.tt x hx
    have h2 := wg.tt y hy
    have := crossT_dim (p := p) ⟨h1.1, h1.2⟩ ⟨h2.1, h2.2⟩
    exact ⟨this.n, this.r⟩
def Sm (p : Int) (tables : List (List (List Int))) : Prop := ∀ tb ∈ tables, ∀ r ∈ tb, ∀ x ∈ r, 0 <= x /\ x < p
def sp_stimes (K : PySem.W.Frag) (BH : Addr) : Sp := fun vs H Q E => ∃ (h g : Addr) (p q L M : Int) (d e : Nat) (f1 f2 l1 l2 : List Int) (t1 t2 : List (List (List Int))), vs = [.ref h, .ref g] /\ SumH K H h p L f1 t1 l1 /\ SumH K H g q M f2 t2 l2 /\ WfSum p L d f1 t1 l1 /\ WfSum q M e f2 t2 l2 /\ Sm p t1 /\ L <= 6 /\ (p = q /\ L = M /\ d * e <= 16 -> ∀ r H', Same H H' -> SumH K H' r p L (crossR p f1 f2) (crossTs p t1 t2) (crossR p l1 l2) -> Q (.ref r) H') /\ (¬ (p = q /\ L = M /\ d * e <= 16) -> ∀ H', Same H H' -> E (.ref BH) none H')
theorem ok_sums_times {f : Addr} {fd : FuncData} (F : Fun K "sums_times" "sums_times" s_sums_times f fd) (T : Txt mg)
    (W : Own K mg)
    (Z : Exs K mg C_AskError C_BadHouse C_BadWord)
    {f_check_size : Addr} {fd_check_size : FuncData} (g_check_size : FnOk P w K mg base (CXe P w) 1 f_check_size fd_check_size ["size"] (sp_chz C_BadHouse)) (F_check_size : Fun K "check_size" "check_size" s_check_size f_check_size fd_check_size) (b_check_size : Binds K fd_check_size ["size"] []) (m_check_size : mg "check_size" = some (.ref f_check_size))
    {f_check_as_many : Addr} {fd_check_as_many : FuncData} (g_check_as_many : FnOk P w K mg base (CXe P w) 1 f_check_as_many fd_check_as_many ["house", "other"] (sp_many K C_BadHouse)) (F_check_as_many : Fun K "check_as_many" "check_as_many" s_check_as_many f_check_as_many fd_check_as_many) (b_check_as_many : Binds K fd_check_as_many ["house", "other"] []) (m_check_as_many : mg "check_as_many" = some (.ref f_check_as_many))
    {f_row_times : Addr} {fd_row_times : FuncData} (g_row_times : FnOk P w K mg base CX0 2 f_row_times fd_row_times ["p", "row", "other"] (sp_rtimes K)) (F_row_times : Fun K "row_times" "row_times" s_row_times f_row_times fd_row_times) (b_row_times : Binds K fd_row_times ["p", "row", "other"] []) (m_row_times : mg "row_times" = some (.ref f_row_times))
    {f_table_times : Addr} {fd_table_times : FuncData} (g_table_times : FnOk P w K mg base CX0 3 f_table_times fd_table_times ["p", "table", "other"] (sp_ttimes K)) (F_table_times : Fun K "table_times" "table_times" s_table_times f_table_times fd_table_times) (b_table_times : Binds K fd_table_times ["p", "table", "other"] []) (m_table_times : mg "table_times" = some (.ref f_table_times))
    : FnOk P w K mg base (CXe P w) 4 f fd ["house", "other"] (sp_stimes K C_BadHouse) := by
  refine F.okE sc_sums_times (fun vs H Q E h => ?_) (fun cdv A outer s H vs Q E hr h => ?_)
  . obtain ⟨h, g, p, q, L, M, d, e, f1, f2, l1, l2, t1, t2, rfl, _⟩ := h; rfl
  . obtain ⟨h, g, p, q, L, M, d, e, f1, f2, l1, l2, t1, t2, rfl, hs, hg, wf, wg, hsm, hL6, k, kE⟩ := h
    have hl := line1000
    refine ⟨_, (pss_cons (ps_expr (pe_call g_check_as_many (hr.mono (by decide)) rfl m_check_as_many F_check_as_many.kp b_check_as_many .nil (passE fun _ _ _ h => h) (pa_cons (pv 0) (pa_cons (pv 1) pa_nil))))
      (pss_cons (ps_expr (pe_call g_check_size (hr.mono (by decide)) rfl m_check_size F_check_size.kp b_check_size .nil (passE fun _ _ _ h => h) (pa_cons (pe_op op_mul (pe_callB call_len_seq (by rfl) T.len PySem.boot_len (pa_cons (pe_ix ix_tup (pv 0) pe_int (fun _ _ => rfl)) pa_nil)) (pe_callB call_len_seq (by rfl) T.len PySem.boot_len (pa_cons (pe_ix ix_tup (pv 1) pe_int (fun _ _ => rfl)) pa_nil))) pa_nil)))
      (pss_cons (ps_set (i := 2) sc_sums_times.nd rfl (Or.inr rfl) (pe_ix ix_tup (pv 0) pe_int (fun _ _ => rfl)))
      (pss_cons (ps_set (i := 3) sc_sums_times.nd rfl (Or.inl rfl) (pe_callTy call_tuple_L rfl T.tuple PyProof.Rows.boot_tuple (pa_cons (pe_comp rfl (blk_mk rfl) (cp := c_sums_times_3) ⟨⟨rfl, rfl⟩, True.intro⟩ (pi_zip2 rfl T.zip (pa_cons (pe_ix ix_tup (pv 0) pe_int (fun _ _ => rfl)) (pa_cons (pe_ix ix_tup (pv 1) pe_int (fun _ _ => rfl)) pa_nil))) (fun _ _ _ _ => (pg_tupK (K := K) (n := 2) rfl rfl (pgs_cons (pg_name (i := 0) nd_c_sums_times_3 rfl (Or.inl rfl)) (pgs_cons (pg_name (i := 1) nd_c_sums_times_3 rfl (Or.inl rfl)) pgs_nil)))) (fun _ _ _ _ => pf_nil) (fun _ _ _ _ => (pe_call g_table_times (hr.mono (by decide)) rfl m_table_times F_table_times.kp b_table_times .nil pass0 (pa_cons (pv 2) (pa_cons (pv 0) (pa_cons (pv 1) pa_nil)))))) pa_nil)))
      (pss_one (ps_ret (pe_tup (pa_cons (pv 2) (pa_cons (pe_ix ix_tup (pv 0) pe_int (fun _ _ => rfl)) (pa_cons (pe_call g_row_times (hr.mono (by decide)) rfl m_row_times F_row_times.kp b_row_times .nil pass0 (pa_cons (pv 2) (pa_cons (pe_ix ix_tup (pv 0) pe_int (fun _ _ => rfl)) (pa_cons (pe_ix ix_tup (pv 1) pe_int (fun _ _ => rfl)) pa_nil)))) (pa_cons (pv 3) (pa_cons (pe_call g_row_times (hr.mono (by decide)) rfl m_row_times F_row_times.kp b_row_times .nil pass0 (pa_cons (pv 2) (pa_cons (pe_ix ix_tup (pv 0) pe_int (fun _ _ => rfl)) (pa_cons (pe_ix ix_tup (pv 1) pe_int (fun _ _ => rfl)) pa_nil)))) pa_nil)))))))))))), ?_⟩
    walk_at "rd"
    refine ⟨h, g, p, q, L, M, f1, f2, l1, l2, t1, t2, rfl, hs, hg, fun hq H1 s1 => ?_, fun hq H1 s1 => kE (fun z => hq ⟨z.1, z.2.1⟩) H1 s1⟩
    obtain ⟨a1, a2, a3, x1, x2, x3, us, x4, x5, x6⟩ := hs.mono s1
    obtain ⟨b1, b2, b3, y1, y2, y3, vs, y4, y5, y6⟩ := hg.mono s1
    obtain ⟨rfl, rfl⟩ := hq
    have h1f := wf.f.1
    have h2f := wg.f.1
    have h1l := wf.l.1
    have h2l := wg.l.1
    have hd := wf.dl
    have he := wg.dl
    have hp2 := wf.p2
    have hp18 := wf.p18
    have ht := wf.t
    have ht' := wg.t
    refine ⟨_, x1, _, rfl, a1, rfl, _, .inr x2, _, y1, _, rfl, b1, rfl, _, .inr y2, .inl ⟨by rw [List.length_map]; omega, by rw [List.length_map]; omega⟩, d * e, ?_, fun hde => ?_, fun hde => kE (fun z => by rw [decide_eq_true z.2.2] at hde; cases hde) H1 s1⟩
    . rw [List.length_map, List.length_map, h1f, h2f, Int.natCast_mul]
    have h16 := of_decide_eq_true hde
    refine ⟨_, x1, _, rfl, _, x1, _, rfl, _, y1, _, rfl, a2, rfl, b2, rfl, _, _, true, x4, true, y4, tabs_zip (σ' := [some (.int p)]) (crossT p) rfl x4 x5 x6 y4 y5 y6 (by omega) (by omega) (fun tb1 h1 tb2 h2 u v xs ys H2 R s2 hu hX hv hY hR => ?_) (fun zs H2 D s2 hD hZ => ?_)⟩
    . walk_at "rd"
      have hw1 := wf.tt tb1 h1
      have hw2 := wg.tt tb2 h2
      exact ⟨p, u, v, xs, ys, tb1, tb2, d, e, rfl, by omega, hu, hX, hv, hY, ⟨hw1.1, hw1.2⟩, ⟨hw2.1, hw2.2⟩, hd, he, (fun r hr x hx => by have := hsm tb1 h1 r hr x hx; omega), fun q zs H3 s3 hq hz => hR q zs H3 s3 (SqT.of hq) hz⟩
    . refine ⟨D, rfl, _, .inl ⟨SqL.of upd_same, fun q hq => ?_⟩⟩
      have sD := (Same.new hD (o := .lst zs)).newT hq (o := .tup zs)
      have s3 := s2.trans sD
      have hq3 : upd (upd H2 D (.lst zs)) q (.tup zs) q = some (.tup zs) := upd_same
      have hZ3 := hZ.mono sD
      generalize upd (upd H2 D (.lst zs)) q (.tup zs) = H3 at sD s3 hq3 hZ3 ⊢
      refine ⟨_, s3.seqT x1, _, rfl, _, s3.seqT x1, _, rfl, _, s3.seqT y1, _, rfl, p, a1, b1, f1, f2, rfl, by omega, s3.seqT x2, s3.seqT y2, by omega, by omega, (fun x hx => by have := wf.f.2 x hx; omega), fun qf H4 s4 hqf => ?_⟩
      have s34 := s3.trans s4
      refine ⟨_, s34.seqT x1, _, rfl, _, s34.seqT y1, _, rfl, p, a3, b3, l1, l2, rfl, by omega, s34.seqT x3, s34.seqT y3, by omega, by omega, (fun x hx => by have := wf.l.2 x hx; omega), fun ql H5 s5 hql => ⟨by omega, fun qz hqz => ?_⟩⟩
      have s5z := Same.new hqz (o := .tup [V.int p, V.int L, V.ref qf, V.ref q, V.ref ql])
      have s35 := s4.trans (s5.trans s5z)
      exact k ⟨rfl, rfl, h16⟩ qz _ (s1.trans (s3.trans s35)) ⟨qf, q, ql, SqT.of upd_same, (s5.trans s5z).seqT (SqT.of hqf), s5z.seqT (SqT.of hql), (hZ3.mono s35).tabs (s35.seqT (SqT.of hq3))⟩
theorem col_comp {K : PySem.W.Frag} {u : Addr} {xs : List V} {tb : List (List Int)} {cp : Caps} {te : TE} {Q : VK} {σ σ' : St} {H : Hp} (c : Nat) (e : cp.st σ = none :: σ') (hu : SqT K H u xs) (hX : RowsN K H xs tb) (hc : ∀ r ∈ tb, c < r.length) (hz : tb.length <= 900)
    (hs : ∀ (t : Addr) (r : List Int) (R : VK), c < r.length -> SqT K H t (r.map V.int) -> R (.int (r.getD c 0)) H -> te (some (.ref t) :: σ') H R)
    (hd : ∀ D, H D = none -> Q (.ref D) (upd H D (.lst ((colW tb c).map V.int)))) : (∃ xs, SqT K H u xs) /\ CompW (Itt K u) cp (gName 0) tTrue te σ H Q := by
  have hl := line1000
  have hxl := hX.1
  refine ⟨⟨_, hu⟩, compT (xs := xs) (fun i ys σ2 H2 => H2 = H /\ ys = (colW (tb.take i) c).map V.int /\ ∃ o, σ2 = o :: σ') ⟨rfl, by simp [colW], none, e⟩ (by omega) (fun i ys σ2 H2 hi h => ⟨by rw [h.1]; exact hu, by rw [h.2.1]; unfold colW; rw [List.length_map, List.length_map, List.length_take]; omega⟩) (fun i x ys σ2 H2 hx h => ?_) (fun ys σ2 H2 h D hD => ?_)⟩
  . obtain ⟨rfl, rfl, o, rfl⟩ := h
    have hi : i < tb.length := by rw [<- hxl]; exact (List.getElem?_eq_some_iff.mp hx).1
    have hai : tb[i]? = some tb[i] := by simp [hi]
    obtain ⟨t, e1, e2⟩ := hX.2 i _ hai
    rw [hx] at e1
    cases e1
    refine hs t tb[i] _ (hc _ (List.getElem_mem hi)) e2 ⟨rfl, ?_, _, rfl⟩
    unfold colW
    rw [List.take_add_one, hai, List.map_append, List.map_append]; rfl
  . obtain ⟨rfl, rfl, _⟩ := h
    rw [hxl, List.take_length]
    exact hd D hD
def sp_tback (K : PySem.W.Frag) : Sp := fun vs H Q _ => ∃ (u : Addr) (xs : List V) (tb : List (List Int)) (d : Nat), vs = [.ref u] /\ SqT K H u xs /\ RowsN K H xs tb /\ Dim d tb /\ d <= 16 /\ ∀ q zs H', Same H H' -> H' q = some (.tup zs) -> RowsN K H' zs (backT d tb) -> Q (.ref q) H'
theorem at_int66 {r : List Int} {c : Nat} (h : c < r.length) : atI (r.map V.int) (c : Int) = some (.int (r.getD c 0)) := by
  refine atI_nat ?_
  rw [List.getElem?_map, List.getElem?_eq_getElem h, List.getD_eq_getElem?_getD, List.getElem?_eq_getElem h]; rfl
theorem ok_table_back {f : Addr} {fd : FuncData} (F : Fun K "table_back" "table_back" s_table_back f fd) (T : Txt mg)
    (W : Own K mg)
    (Z : Exs K mg C_AskError C_BadHouse C_BadWord)
    : FnOk P w K mg base CX0 1 f fd ["table"] (sp_tback K) := by
  refine F.ok sc_table_back (fun vs H Q E h => ?_) (fun cdv A outer s H vs Q E hr h => ?_)
  . obtain ⟨u, xs, tb, d, rfl, _⟩ := h; rfl
  . obtain ⟨u, xs, tb, d, rfl, hu, hX, da, hd, k⟩ := h
    have hl := line1000
    have hxl := hX.1
    have hdn := da.n
    refine ⟨_, (pss_one (ps_ret (pe_callTy call_tuple_L rfl T.tuple PyProof.Rows.boot_tuple (pa_cons (pe_compC rfl (blkC_mk rfl) (cp := c_table_back_18) ⟨⟨rfl, rfl⟩, True.intro⟩ (pi_range1 rfl T.range (pa_cons (pe_callB call_len_seq (by rfl) T.len PySem.boot_len (pa_cons (pv 0) pa_nil)) pa_nil)) (fun _ _ _ _ => (pg_name (i := 0) nd_c_table_back_18 rfl (Or.inr rfl))) (fun _ _ _ _ => pf_nil) (fun _ _ _ _ => (pe_callTy (call_tuple_LK (K := K) rfl) rfl T.tuple PyProof.Rows.boot_tuple (pa_cons (pe_comp rfl (blk_mk rfl) (cp := c_table_back_22) ⟨⟨rfl, rfl⟩, True.intro⟩ (pi_tupK (K := K) rfl (pv 1)) (fun _ _ _ _ => (pg_name (i := 0) nd_c_table_back_22 rfl (Or.inl rfl))) (fun _ _ _ _ => pf_nil) (fun _ _ _ _ => (pe_ix (ix_tupK (K := K) rfl) (pv 0) (pv 1) (fun _ _ => rfl)))) pa_nil)))) pa_nil)))), ?_⟩
    walk_at "rd"
    refine ⟨_, .inr hu, by omega, by omega, ?_⟩
    rw [Int.toNat_natCast, hxl, hdn]
    refine compR (fun c zs σ4 H4 => Same H H4 /\ RowsN K H4 zs ((List.range c).map (fun c => colW tb c)) /\ ∃ o, σ4 = [o, some (.ref u)]) ⟨Same.refl _, RowsN.nil, none, rfl⟩ (by omega) (fun c zs σ4 H4 _ h4 => ?_) (fun c zs σ4 H4 hc h4 => ?_) (fun zs σ4 H4 h4 D hD => ?_)
    . rw [h4.2.1.1, List.length_map, List.length_range]; exact Nat.le_refl _
    . obtain ⟨s4, hZ, o, rfl⟩ := h4
      rw [Int.zero_add]
      walk_at "rd"
      refine col_comp (σ' := [some (.int c)]) c rfl (s4.seqT hu) (hX.mono s4) (fun r hr => by rw [da.r r hr]; exact hc) (by omega) (fun t r R hcr ht hR => ?_) (fun D hD => ?_)
      . walk_at "rd"
        exact ⟨_, ht, _, at_int66 hcr, hR⟩
      . refine ⟨D, rfl, _, .inl ⟨SqL.of upd_same, fun q hq => ?_⟩⟩
        have sq := (Same.new hD (o := .lst ((colW tb c).map V.int))).newT hq (o := .tup ((colW tb c).map V.int))
        refine ⟨s4.trans sq, ?_, _, rfl⟩
        rw [List.range_succ, List.map_append]
        exact (hZ.mono sq).snoc (SqT.of upd_same)
    . obtain ⟨s4, hZ, o, rfl⟩ := h4
      refine ⟨D, rfl, _, .inl ⟨SqL.of upd_same, fun q hq => ?_⟩⟩
      have sq := (Same.new hD (o := .lst zs)).newT hq (o := .tup zs)
      exact k q zs _ (s4.trans sq) upd_same (hZ.mono sq)
def sp_sback (K : PySem.W.Frag) : Sp := fun vs H Q _ => ∃ (h : Addr) (p L : Int) (d : Nat) (f l : List Int) (t : List (List (List Int))), vs = [.ref h] /\ SumH K H h p L f t l /\ WfSum p L d f t l /\ L <= 6 /\ ∀ q H', Same H H' -> SumH K H' q p L l (t.map (backT d)) f -> Q (.ref q) H'
theorem back_wf {p L : Int} {d : Nat} {f l : List Int} {t : List (List (List Int))} (wf : WfSum p L d f t l) : WfSum p L d l (t.map (backT d)) f := ⟨wf.p2, wf.p18, wf.dl, wf.l, wf.f, by rw [List.length_map]; exact wf.t, fun tb h => by
  obtain ⟨x, hx, rfl⟩ := List.mem_map.mp h
  have := wf.tt x hx
  have := backT_dim ⟨this.1, this.2⟩
  exact ⟨this.n, this.r⟩⟩
theorem ok_sums_back {f : Addr} {fd : FuncData} (F : Fun K "sums_back" "sums_back" s_sums_back f fd) (T : Txt mg)
    (W : Own K mg)
    (Z : Exs K mg C_AskError C_BadHouse C_BadWord)
    {f_table_back : Addr} {fd_table_back : FuncData} (g_table_back : FnOk P w K mg base CX0 1 f_table_back fd_table_back ["table"] (sp_tback K)) (F_table_back : Fun K "table_back" "table_back" s_table_back f_table_back fd_table_back) (b_table_back : Binds K fd_table_back ["table"] []) (m_table_back : mg "table_back" = some (.ref f_table_back))
    : FnOk P w K mg base CX0 2 f fd ["house"] (sp_sback K) := by
  refine F.ok sc_sums_back (fun vs H Q E h => ?_) (fun cdv A outer s H vs Q E hr h => ?_)
  . obtain ⟨h, p, L, d, f, l, t, rfl, _⟩ := h; rfl
  . obtain ⟨h, p, L, d, f, l, t, rfl, hs, wf, hL6, k⟩ := h
    have hl := line1000
    obtain ⟨a1, a2, a3, x1, x2, x3, us, x4, x5, x6⟩ := hs
    have ht := wf.t
    refine ⟨_, (pss_cons (ps_set (i := 1) sc_sums_back.nd rfl (Or.inl rfl) (pe_callTy call_tuple_L rfl T.tuple PyProof.Rows.boot_tuple (pa_cons (pe_comp rfl (blk_mk rfl) (cp := c_sums_back_3) True.intro (pi_tup (pe_ix ix_tup (pv 0) pe_int (fun _ _ => rfl))) (fun _ _ _ _ => (pg_name (i := 0) nd_c_sums_back_3 rfl (Or.inl rfl))) (fun _ _ _ _ => pf_nil) (fun _ _ _ _ => (pe_call g_table_back (hr.mono (by decide)) rfl m_table_back F_table_back.kp b_table_back .nil pass0 (pa_cons (pv 0) pa_nil)))) pa_nil)))
      (pss_one (ps_ret (pe_tup (pa_cons (pe_ix ix_tup (pv 0) pe_int (fun _ _ => rfl)) (pa_cons (pe_ix ix_tup (pv 0) pe_int (fun _ _ => rfl)) (pa_cons (pe_ix ix_tup (pv 0) pe_int (fun _ _ => rfl)) (pa_cons (pv 1) (pa_cons (pe_ix ix_tup (pv 0) pe_int (fun _ _ => rfl)) pa_nil))))))))), ?_⟩
    walk_at "rd"
    refine ⟨_, x1, _, rfl, a2, rfl, ⟨_, x4⟩, compT (xs := us.map V.ref) (fun i zs σ2 H2 => Same H H2 /\ TabsL K H2 zs ((t.map (backT d)).take i) /\ ∃ o, σ2 = [o]) ⟨Same.refl _, TabsL.nil, none, rfl⟩ (by rw [List.length_map]; omega) (fun i zs σ2 H2 hi h => ⟨h.1.seqT x4, by rw [h.2.1.1, List.length_take]; omega⟩) (fun i x zs σ2 H2 hx h => ?_) (fun zs σ2 H2 h D hD => ?_)⟩
    . obtain ⟨s, hZ, o, rfl⟩ := h
      obtain ⟨u, hu, rfl⟩ : ∃ u, us[i]? = some u /\ x = .ref u := by
        rw [List.getElem?_map] at hx
        cases h1 : us[i]? with
        | none => rw [h1] at hx; cases hx
        | some u => rw [h1] at hx; cases hx; exact ⟨u, rfl, rfl⟩
      have hi : i < t.length := by rw [<- x5]; exact (List.getElem?_eq_some_iff.mp hu).1
      have hti : t[i]? = some t[i] := by simp [hi]
      obtain ⟨xs, c1, c2⟩ := x6 i u _ hu hti
      have hw := wf.tt _ (List.getElem_mem hi)
      walk_at "rd"
      refine ⟨u, xs, t[i], d, rfl, s.seqT c1, c2.mono s, ⟨hw.1, hw.2⟩, wf.dl, fun q ys H3 s3 hq hy => ⟨s.trans s3, ?_, _, rfl⟩⟩
      rw [List.take_add_one, List.getElem?_map, hti]
      exact (hZ.mono s3).snoc (SqT.of hq) hy
    . obtain ⟨s, hZ, _⟩ := h
      rw [List.length_map, x5, <- List.length_map (f := backT d), List.take_length] at hZ
      refine ⟨D, rfl, _, .inl ⟨SqL.of upd_same, fun q hq => ?_⟩⟩
      have sD := (Same.new hD (o := .lst zs)).newT hq (o := .tup zs)
      have s3 := s.trans sD
      have hq3 : upd (upd H2 D (.lst zs)) q (.tup zs) q = some (.tup zs) := upd_same
      have hZ3 := hZ.mono sD
      generalize upd (upd H2 D (.lst zs)) q (.tup zs) = H3 at sD s3 hq3 hZ3 ⊢
      refine ⟨_, s3.seqT x1, _, rfl, _, s3.seqT x1, _, rfl, _, s3.seqT x1, _, rfl, _, s3.seqT x1, _, rfl, by omega, fun qz hqz => ?_⟩
      have sz := Same.new hqz (o := .tup [V.int p, V.int L, V.ref a3, V.ref q, V.ref a1])
      have s4 := s3.trans sz
      exact k qz _ s4 ⟨a3, q, a1, SqT.of upd_same, s4.seqT x3, s4.seqT x2, (hZ3.mono sz).tabs (sz.seqT (SqT.of hq3))⟩
def cell (ns : List Int) (k : Nat) : Int := ns.getD k 0
def sp_cell (K : PySem.W.Frag) : Sp := fun vs H Q _ => ∃ (a : Addr) (ns : List Int) (k : Nat), vs = [.ref a, .int k] /\ SqL K H a (ns.map V.int) /\ Q (.int (cell ns k)) H
theorem ok__law_cell {f : Addr} {fd : FuncData} (F : Fun K "_law_cell" "_law_cell" s__law_cell f fd) (T : Txt mg)
    (W : Own K mg)
    (Z : Exs K mg C_AskError C_BadHouse C_BadWord)
    : FnOk P w K mg base CX0 1 f fd ["script", "k"] (sp_cell K) := by
  refine F.ok sc__law_cell (fun vs H Q E h => ?_) (fun cdv A outer s H vs Q E hr h => ?_)
  . obtain ⟨a, ns, k, rfl, _⟩ := h; rfl
  . obtain ⟨a, ns, k, rfl, hs, q⟩ := h
    refine ⟨_, (pss_cons (ps_if (pt_cmpR op_lt (pv 1) (pe_callB call_len_seq (by rfl) T.len PySem.boot_len (pa_cons (pv 0) pa_nil)) (nomark _))
      (pss_one (ps_ret (pe_ix ix_list (pv 0) (pv 1) (fun _ _ => rfl))))
      pss_nil)
      (pss_one (ps_ret pe_int))), ?_⟩
    walk_at "rd"
    refine ⟨_, .inl hs, ?_⟩
    rw [List.length_map]
    refine ite2 (fun hk => ?_) (fun hk => ?_)
    . have hk' : k < ns.length := by simpa using hk
      refine ⟨_, hs, V.int (cell ns k), ?_, q⟩
      refine atI_nat ?_
      rw [List.getElem?_map]
      unfold cell
      rw [List.getD_eq_getElem?_getD]
      simp [hk']
    . have hk' : ¬ k < ns.length := by simpa using hk
      have : cell ns k = 0 := by
        unfold cell
        rw [List.getD_eq_getElem?_getD, List.getElem?_eq_none (by omega)]; rfl
      rw [<- this]
      exact q
def sp_is_prime : Sp := fun vs H Q _ => ∃ n : Int, vs = [.int n] /\ 2 <= n /\ n <= 1000 /\ ∀ b, (b = true ↔ NoDiv n.toNat) -> Q (.bl b) H
theorem ok__law_is_prime {f : Addr} {fd : FuncData} (F : Fun K "_law_is_prime" "_law_is_prime" s__law_is_prime f fd) (T : Txt mg)
    (W : Own K mg)
    (Z : Exs K mg C_AskError C_BadHouse C_BadWord)
    : FnOk P w K mg base CX0 1 f fd ["number"] (sp_is_prime) := by
  refine F.ok sc__law_is_prime (fun vs H Q E h => ?_) (fun cdv A outer s H vs Q E hr h => ?_)
  . obtain ⟨n, rfl, _⟩ := h; rfl
  . obtain ⟨n, rfl, hn, hn1, k⟩ := h
    refine ⟨_, (pss_cons (ps_for PassesOwn.never rfl (pi_range2 rfl T.range (pa_cons pe_int (pa_cons (pv 0) pa_nil))) (pg_name (i := 1) sc__law_is_prime.nd rfl (Or.inl rfl))
      (pss_cons (ps_if (pt_cmpR op_gt (pe_op op_mul (pv 1) (pv 1)) (pv 0) (nomark _))
      (pss_one (ps_ret pe_bl))
      pss_nil)
      (pss_one (ps_if (pt_cmpR op_eq (pe_op op_mod (pv 0) (pv 1)) pe_int (nomark _))
      (pss_one (ps_ret pe_bl))
      pss_nil))))
      (pss_one (ps_ret pe_bl))), ?_⟩
    walk_at "rd"
    refine ⟨by omega, by omega, by omega, by omega, ?_⟩
    refine forR (fun i σ2 H2 => H2 = H /\ (∀ d, 2 <= d -> d < 2 + i -> n.toNat % d ≠ 0) /\ ∃ o, σ2 = [some (.int n), o]) ⟨rfl, fun d h1 h2 => by omega, none, rfl⟩ (fun i σ2 H2 hi h2 => ?_) (fun σ2 H2 h2 => ?_)
    . obtain ⟨rfl, hall, o, rfl⟩ := h2
      walk_at "rd"
      refine ⟨.inl ⟨by omega, by omega⟩, ite2 (fun hp => k true ⟨fun _ => ?_, fun _ => rfl⟩) (fun hp => ⟨by omega, ite2 (fun hm => k false ⟨(fun z => by cases z), fun z => ?_⟩) (fun hm => ⟨fun d h1 h2 => ?_, _, rfl⟩)⟩)⟩
      . refine NoDiv.small (k := 2 + i) (by omega) ?_ fun d h1 h2 _ => hall d h1 h2
        have hp' : n < ((2 + i : Nat) : Int) * ((2 + i : Nat) : Int) := by push_cast; omega
        rw [<- Int.natCast_mul] at hp'
        omega
      . refine absurd ?_ (z (2 + i) (by omega) (by omega))
        have : (n.toNat : Int) % ((2 + i : Nat) : Int) = 0 := by rw [show (n.toNat : Int) = n from by omega]; push_cast; exact hm
        omega
      . by_cases hd : d < 2 + i
        . exact hall d h1 hd
        . have : d = 2 + i := by omega
          subst this
          intro z
          have z2 : (n.toNat : Int) % ((2 + i : Nat) : Int) = 0 := by omega
          rw [show (n.toNat : Int) = n from by omega] at z2
          push_cast at z2
          exact hm z2
    . obtain ⟨rfl, hall, o, rfl⟩ := h2
      walk_at "rd"
      exact k true ⟨fun _ d h1 h2 => hall d h1 (by omega), fun _ => rfl⟩
def primes8 : List Int := [2, 3, 5, 7, 65537, 998244353, 2147483647, 180143985094819841]
def sp_prime (K : PySem.W.Frag) : Sp := fun vs H Q _ => ∃ c : Int, vs = [.int c] /\ ∀ p H', Same H H' -> Pr p -> Q (.int p) H'
theorem ok__law_prime {f : Addr} {fd : FuncData} (F : Fun K "_law_prime" "_law_prime" s__law_prime f fd) (T : Txt mg)
    (W : Own K mg)
    (Z : Exs K mg C_AskError C_BadHouse C_BadWord)
    {f__law_is_prime : Addr} {fd__law_is_prime : FuncData} (g__law_is_prime : FnOk P w K mg base CX0 1 f__law_is_prime fd__law_is_prime ["number"] (sp_is_prime)) (F__law_is_prime : Fun K "_law_is_prime" "_law_is_prime" s__law_is_prime f__law_is_prime fd__law_is_prime) (b__law_is_prime : Binds K fd__law_is_prime ["number"] []) (m__law_is_prime : mg "_law_is_prime" = some (.ref f__law_is_prime))
    : FnOk P w K mg base CX0 2 f fd ["cell"] (sp_prime K) := by
  refine F.ok sc__law_prime (fun vs H Q E h => ?_) (fun cdv A outer s H vs Q E hr h => ?_)
  . obtain ⟨c, rfl, _⟩ := h; rfl
  . obtain ⟨c, rfl, k⟩ := h
    have hl := line1000
    refine ⟨_, (pss_cons (ps_set (i := 1) sc__law_prime.nd rfl (Or.inl rfl) (pe_lst (pa_cons pe_int (pa_cons pe_int (pa_cons pe_int (pa_cons pe_int (pa_cons pe_int (pa_cons pe_int (pa_cons pe_int (pa_cons pe_int pa_nil))))))))))
      (pss_cons (ps_if (pt_cmpR op_lt (pe_op op_mod (pv 0) pe_int) pe_int (nomark _))
      (pss_one (ps_ret (pe_ix ix_list (pv 1) (pe_op op_mod (pe_op op_fdiv (pv 0) pe_int) pe_int) (fun _ _ => rfl))))
      pss_nil)
      (pss_cons (ps_set (i := 2) sc__law_prime.nd rfl (Or.inl rfl) (pe_op op_add pe_int (pe_op op_mod (pe_op op_fdiv (pv 0) pe_int) pe_int)))
      (pss_cons (ps_while PassesOwn.never (pt_not (pt_val (pe_call g__law_is_prime (hr.mono (by decide)) rfl m__law_is_prime F__law_is_prime.kp b__law_is_prime .nil pass0 (pa_cons (pv 2) pa_nil))))
      (pss_one (ps_set (i := 2) sc__law_prime.nd rfl (Or.inl rfl) (pe_op op_add (pv 2) pe_int))))
      (pss_one (ps_ret (pv 2))))))), ?_⟩
    walk_at "rd"
    refine ⟨by omega, fun q hq => ⟨by decide, ite2 (fun _ => ?_) (fun _ => ⟨⟨by decide, by decide⟩, by decide, ?_⟩)⟩⟩
    . have e0 := Int.emod_nonneg (c / 4) (show (8 : Int) ≠ 0 by decide)
      have e1 := Int.emod_lt_of_pos (c / 4) (show (0 : Int) < 8 by decide)
      refine ⟨⟨by decide, by decide⟩, by decide, _, SqL.of upd_same, ?_⟩
      generalize c / 4 % 8 = j at e0 e1
      have hj : j.toNat < primes8.length := by show j.toNat < 8; omega
      have hx : primes8[j.toNat]? = some primes8[j.toNat] := by simp [hj]
      exact ⟨_, (atI_int e0 hx : atI (primes8.map V.int) j = _), k _ _ (Same.new hq) (pr_some _ (List.getElem_mem hj))⟩
    . have e0 := Int.emod_nonneg (c / 4) (show (200 : Int) ≠ 0 by decide)
      have e1 := Int.emod_lt_of_pos (c / 4) (show (0 : Int) < 200 by decide)
      generalize c / 4 % 200 = j at e0 e1
      have s0 := Same.new (o := .lst [V.int 2, V.int 3, V.int 5, V.int 7, V.int 65537, V.int 998244353, V.int 2147483647, V.int 180143985094819841]) hq
      generalize upd H q (.lst [V.int 2, V.int 3, V.int 5, V.int 7, V.int 65537, V.int 998244353, V.int 2147483647, V.int 180143985094819841]) = H0 at s0 ⊢
      have h211 : NoDiv 211 := noDiv_chk (n := 4) (by decide) (by decide +kernel) (by decide +kernel)
      obtain ⟨Pv, hPv⟩ : ∃ Pv : Nat -> St -> Hp -> Prop, ∀ m σ2 H2, Pv m σ2 H2 ↔ (H2 = H0 /\ ∃ nb : Int, m = (211 - nb).toNat /\ 2 <= nb /\ nb <= 211 /\ σ2 = [some (.int c), some (.ref q), some (.int nb)]) := ⟨_, fun _ _ _ => Iff.rfl⟩
      refine whileW Pv ⟨_, (hPv _ _ _).mpr ⟨rfl, 2 + j, rfl, by omega, by omega, rfl⟩⟩ ?_
      intro m σ2 H2 hpv
      obtain ⟨rfl, nb, rfl, n0, n1, rfl⟩ := (hPv _ _ _).mp hpv
      walk_at "rd"
      refine ⟨nb, rfl, n0, by omega, fun b hb => ⟨b, rfl, ?_⟩⟩
      cases b with
      | true =>
        rw [if_neg (by decide)]
        exact k nb _ s0 ⟨n0, by omega, hb.mp rfl⟩
      | false =>
        rw [if_pos (by decide)]
        have hne : nb ≠ 211 := fun z => by
          have := hb.mpr (by rw [z]; exact h211)
          cases this
        refine ⟨fun σ' H' => ∃ m', m' < (211 - nb).toNat /\ Pv m' σ' H', fun _ _ h => h, _, ?_, (hPv _ _ _).mpr ⟨rfl, nb + 1, rfl, by omega, by omega, rfl⟩⟩
        omega
def sp_whole : Sp := fun vs H Q _ => ∃ n : Int, vs = [.int n] /\ Q (.bl true) H
theorem ok__law_whole {f : Addr} {fd : FuncData} (F : Fun K "_law_whole" "_law_whole" s__law_whole f fd) (T : Txt mg)
    (W : Own K mg)
    (Z : Exs K mg C_AskError C_BadHouse C_BadWord)
    : FnOk P w K mg base CX0 1 f fd ["found"] (sp_whole) := by
  refine F.ok sc__law_whole (fun vs H Q E h => ?_) (fun cdv A outer s H vs Q E hr h => ?_)
  . obtain ⟨n, rfl, _⟩ := h; rfl
  . obtain ⟨n, rfl, q⟩ := h
    refine ⟨_, (pss_one (ps_ret (pe_and (pe_callB call_isinstW rfl T.isinstance PyProof.Rows.boot_isinstance (pa_cons (pv 0) (pa_cons (pe_bltn (v := .ty "int") rfl T.int PyProof.Rows.boot_int rfl) pa_nil))) (pe_one (pe_not (pe_callB call_isinstW rfl T.isinstance PyProof.Rows.boot_isinstance (pa_cons (pv 0) (pa_cons (pe_bltn (v := .ty "bool") rfl T.bool PyProof.Rows.boot_bool rfl) pa_nil)))))))), ?_⟩
    walk_at "rd"
    refine ⟨_, _, .int _, rel_ty, _, kit_self, ?_⟩
    rw [if_pos rfl]
    refine ⟨_, _, .int _, rel_ty, _, kit_int_bool, ?_⟩
    exact q
def sp_number64 (K : PySem.W.Frag) : Sp := fun vs H Q _ => ∃ (a : Addr) (ns : List Int) (k p : Int), vs = [.ref a, .int k, .int p] /\ SqL K H a (ns.map V.int) /\ 0 <= k /\ k <= 100000 /\ 0 < p /\ ∀ x, 0 <= x -> x < p -> Q (.int x) H
theorem ok__law_number {f : Addr} {fd : FuncData} (F : Fun K "_law_number" "_law_number" s__law_number f fd) (T : Txt mg)
    (W : Own K mg)
    (Z : Exs K mg C_AskError C_BadHouse C_BadWord)
    {f__law_cell : Addr} {fd__law_cell : FuncData} (g__law_cell : FnOk P w K mg base CX0 1 f__law_cell fd__law_cell ["script", "k"] (sp_cell K)) (F__law_cell : Fun K "_law_cell" "_law_cell" s__law_cell f__law_cell fd__law_cell) (b__law_cell : Binds K fd__law_cell ["script", "k"] []) (m__law_cell : mg "_law_cell" = some (.ref f__law_cell))
    : FnOk P w K mg base CX0 2 f fd ["script", "k", "p"] (sp_number64 K) := by
  refine F.ok sc__law_number (fun vs H Q E h => ?_) (fun cdv A outer s H vs Q E hr h => ?_)
  . obtain ⟨a, ns, k, p, rfl, _⟩ := h; rfl
  . obtain ⟨a, ns, k, p, rfl, hs, k0, k1, hp, q⟩ := h
    refine ⟨_, (pss_cons (ps_if (pt_cmpR op_lt (pv 1) (pe_callB call_len_seq (by rfl) T.len PySem.boot_len (pa_cons (pv 0) pa_nil)) (nomark _))
      (pss_one (ps_ret (pe_op op_mod (pe_ix ix_list (pv 0) (pv 1) (fun _ _ => rfl)) (pv 2))))
      pss_nil)
      (pss_cons (ps_set (i := 3) sc__law_number.nd rfl (Or.inl rfl) (pe_callB (call_max2 rfl) rfl T.max PyProof.Rows.boot_max (pa_cons pe_int (pa_cons (pe_callB call_len_seq (by rfl) T.len PySem.boot_len (pa_cons (pv 0) pa_nil)) pa_nil))))
      (pss_one (ps_ret (pe_op op_mod (pe_op op_mod (pe_op op_add (pe_op op_add (pe_op op_mul (pe_op op_mod (pe_call g__law_cell (hr.mono (by decide)) rfl m__law_cell F__law_cell.kp b__law_cell .nil pass0 (pa_cons (pv 0) (pa_cons (pe_op op_mod (pv 1) (pv 3)) pa_nil))) pe_int) pe_int) (pe_op op_mul (pe_op op_mul (pv 1) (pv 1)) pe_int)) (pe_op op_mul pe_int (pv 1))) pe_int) (pv 2)))))), ?_⟩
    walk_at "rd"
    refine ⟨_, .inl hs, ?_⟩
    rw [List.length_map]
    refine ite2 (fun hk => ?_) (fun hk => ?_)
    . have hk' : k.toNat < ns.length := by omega
      refine ⟨_, hs, _, atI_int k0 (v := ns[k.toNat]) (by simp [hk']), ?_⟩
      walk_at "rd"
      exact ⟨hp, q _ (Int.emod_nonneg _ (by omega)) (Int.emod_lt_of_pos _ hp)⟩
    . have hm : (0 : Int) < if ((ns.map V.int).length : Int) > 1 then ((ns.map V.int).length : Int) else 1 := by split <;> omega
      have r0 := Int.emod_nonneg k (show (if ((ns.map V.int).length : Int) > 1 then ((ns.map V.int).length : Int) else 1) ≠ 0 by omega)
      exact ⟨_, .inl hs, hm, a, ns, (k % if ((ns.map V.int).length : Int) > 1 then ((ns.map V.int).length : Int) else 1).toNat, by rw [Int.toNat_of_nonneg r0], hs, _, rfl, by decide, .inr ⟨by decide, by decide⟩, .inl ⟨by omega, by omega⟩, .inr ⟨by decide, by decide⟩, .inl ⟨by decide, by decide⟩, by decide, hp, q _ (Int.emod_nonneg _ (by omega)) (Int.emod_lt_of_pos _ hp)⟩
def sp_row64 (K : PySem.W.Frag) : Sp := fun vs H Q _ => ∃ (a : Addr) (ns : List Int) (c p : Int) (n : Nat), vs = [.ref a, .int c, .int n, .int p] /\ SqL K H a (ns.map V.int) /\ 0 <= c /\ c <= 10000 /\ n <= 16 /\ 0 < p /\ ∀ (t : Addr) (row : List Int) (H' : Hp), Same H H' -> SqT K H' t (row.map V.int) -> row.length = n -> (∀ x ∈ row, 0 <= x /\ x < p) -> Q (.ref t) H'
theorem ok__law_row {f : Addr} {fd : FuncData} (F : Fun K "_law_row" "_law_row" s__law_row f fd) (T : Txt mg)
    (W : Own K mg)
    (Z : Exs K mg C_AskError C_BadHouse C_BadWord)
    {f__law_number : Addr} {fd__law_number : FuncData} (g__law_number : FnOk P w K mg base CX0 2 f__law_number fd__law_number ["script", "k", "p"] (sp_number64 K)) (F__law_number : Fun K "_law_number" "_law_number" s__law_number f__law_number fd__law_number) (b__law_number : Binds K fd__law_number ["script", "k", "p"] []) (m__law_number : mg "_law_number" = some (.ref f__law_number))
    : FnOk P w K mg base CX0 3 f fd ["script", "at", "many", "p"] (sp_row64 K) := by
  refine F.ok sc__law_row (fun vs H Q E h => ?_) (fun cdv A outer s H vs Q E hr h => ?_)
  . obtain ⟨a, ns, c, p, n, rfl, _⟩ := h; rfl
  . obtain ⟨a, ns, c, p, n, rfl, hs, c0, c1, hn, hp, k⟩ := h
    have hl := line1000
    refine ⟨_, (pss_one (ps_ret (pe_callTy call_tuple_L rfl T.tuple PyProof.Rows.boot_tuple (pa_cons (pe_comp rfl (blk_mk rfl) (cp := c__law_row_3) ⟨⟨rfl, rfl⟩, ⟨⟨rfl, rfl⟩, ⟨⟨rfl, rfl⟩, True.intro⟩⟩⟩ (pi_range1 rfl T.range (pa_cons (pv 2) pa_nil)) (fun _ _ _ _ => (pg_name (i := 0) nd_c__law_row_3 rfl (Or.inl rfl))) (fun _ _ _ _ => pf_nil) (fun _ _ _ _ => (pe_call g__law_number (hr.mono (by decide)) rfl m__law_number F__law_number.kp b__law_number .nil pass0 (pa_cons (pv 1) (pa_cons (pe_op op_add (pv 3) (pv 0)) (pa_cons (pv 2) pa_nil)))))) pa_nil)))), ?_⟩
    walk_at "rd"
    refine ⟨by omega, by omega, ?_⟩
    rw [Int.toNat_natCast]
    obtain ⟨Pc, hPc⟩ : ∃ Pc : Nat -> List V -> St -> Hp -> Prop, ∀ j ys σ4 H4, Pc j ys σ4 H4 ↔ (H4 = H /\ ∃ (row : List Int) (o : Option V), ys = row.map V.int /\ row.length = j /\ (∀ x ∈ row, 0 <= x /\ x < p) /\ σ4 = [o, some (.ref a), some (.int p), some (.int c)]) := ⟨_, fun _ _ _ _ => Iff.rfl⟩
    refine compR Pc ((hPc _ _ _ _).mpr ⟨rfl, [], none, rfl, rfl, by simp, rfl⟩) (by omega) (fun j ys σ4 H4 _ h4 => ?_) (fun j ys σ4 H4 hj h4 => ?_) (fun ys σ4 H4 h4 D hD => ?_)
    . obtain ⟨_, row, o, rfl, hrl, _⟩ := (hPc _ _ _ _).mp h4
      rw [List.length_map]; omega
    . obtain ⟨rfl, row, o, rfl, hrl, hrr, rfl⟩ := (hPc _ _ _ _).mp h4
      rw [Int.zero_add]
      walk_at "rd"
      refine ⟨a, ns, c + j, p, rfl, hs, by omega, by omega, hp, fun x x0 x1 => (hPc _ _ _ _).mpr ⟨rfl, row ++ [x], _, by simp, by simp [hrl], fun z hz' => ?_, rfl⟩⟩
      rcases List.mem_append.mp hz' with h' | h'
      . exact hrr z h'
      . rw [List.mem_singleton.mp h']; exact ⟨x0, x1⟩
    . obtain ⟨rfl, row, o, rfl, hrl, hrr, rfl⟩ := (hPc _ _ _ _).mp h4
      exact ⟨D, rfl, _, .inl ⟨SqL.of upd_same, fun t ht => k t row _ ((Same.new hD).newT ht) (SqT.of upd_same) hrl hrr⟩⟩
def sp_row_is64 (K : PySem.W.Frag) : Sp := fun vs H Q _ => ∃ (a b : Addr) (xs : List Int), vs = [.ref a, .ref b] /\ SqT K H a (xs.map V.int) /\ SqT K H b (xs.map V.int) /\ xs.length <= 900 /\ Q (.bl true) H
theorem ok__law_row_is {f : Addr} {fd : FuncData} (F : Fun K "_law_row_is" "_law_row_is" s__law_row_is f fd) (T : Txt mg)
    (W : Own K mg)
    (Z : Exs K mg C_AskError C_BadHouse C_BadWord)
    {f__law_whole : Addr} {fd__law_whole : FuncData} (g__law_whole : FnOk P w K mg base CX0 1 f__law_whole fd__law_whole ["found"] (sp_whole)) (F__law_whole : Fun K "_law_whole" "_law_whole" s__law_whole f__law_whole fd__law_whole) (b__law_whole : Binds K fd__law_whole ["found"] []) (m__law_whole : mg "_law_whole" = some (.ref f__law_whole))
    : FnOk P w K mg base CX0 2 f fd ["found", "due"] (sp_row_is64 K) := by
  refine F.ok sc__law_row_is (fun vs H Q E h => ?_) (fun cdv A outer s H vs Q E hr h => ?_)
  . obtain ⟨a, b, xs, rfl, _⟩ := h; rfl
  . obtain ⟨a, b, xs, rfl, ha, hb, hz, k⟩ := h
    refine ⟨_, (pss_cons (ps_if (PW.pt (pw_or (pt_not (pt_val (pe_callB call_isinstW rfl T.isinstance PyProof.Rows.boot_isinstance (pa_cons (pv 0) (pa_cons (pe_bltn (v := .ty "tuple") rfl T.tuple PyProof.Rows.boot_tuple rfl) pa_nil))))) (pw_or1 (pt_cmpR op_ne (pe_callB call_len_seq (by rfl) T.len PySem.boot_len (pa_cons (pv 0) pa_nil)) (pe_callB call_len_seq (by rfl) T.len PySem.boot_len (pa_cons (pv 1) pa_nil)) (nomark _)))))
      (pss_one (ps_ret pe_bl))
      pss_nil)
      (pss_cons (ps_for PassesOwn.never rfl (pi_range1 rfl T.range (pa_cons (pe_callB call_len_seq (by rfl) T.len PySem.boot_len (pa_cons (pv 1) pa_nil)) pa_nil)) (pg_name (i := 2) sc__law_row_is.nd rfl (Or.inl rfl))
      (pss_one (ps_if (PW.pt (pw_or (pt_not (pt_val (pe_call g__law_whole (hr.mono (by decide)) rfl m__law_whole F__law_whole.kp b__law_whole .nil pass0 (pa_cons (pe_ix ix_tup (pv 0) (pv 2) (fun _ _ => rfl)) pa_nil)))) (pw_or1 (pt_cmpR op_ne (pe_ix ix_tup (pv 0) (pv 2) (fun _ _ => rfl)) (pe_ix ix_tup (pv 1) (pv 2) (fun _ _ => rfl)) (nomark _)))))
      (pss_one (ps_ret pe_bl))
      pss_nil)))
      (pss_one (ps_ret pe_bl)))), ?_⟩
    walk_at "rd"
    refine ⟨_, _, .tup ha, rel_ty, _, kit_self, ?_⟩
    rw [if_neg (by decide)]
    refine ⟨_, .inr ha, _, .inr hb, ?_⟩
    rw [if_neg (by simp)]
    refine ⟨_, .inr hb, ?_⟩
    rw [List.length_map]
    refine ⟨by omega, by omega, ?_⟩
    rw [Int.toNat_natCast]
    refine forR (fun i σ3 H3 => H3 = H /\ ∃ o2, σ3 = [some (.ref a), some (.ref b), o2]) ⟨rfl, _, rfl⟩ (fun i σ3 H3 hi h3 => ?_) (fun σ3 H3 h3 => ?_)
    . obtain ⟨rfl, o2, rfl⟩ := h3
      rw [Int.zero_add]
      have hx : xs[(i : Int).toNat]? = some xs[i] := by simp [hi]
      walk_at "rd"
      refine ⟨_, ha, _, atI_int (by omega) hx, xs[i], rfl, _, rfl, ?_⟩
      rw [if_neg (by decide)]
      refine ⟨_, ha, _, atI_int (by omega) hx, _, hb, _, atI_int (by omega) hx, rfl, ?_⟩
      rw [if_neg (by simp)]
      exact ⟨rfl, _, rfl⟩
    . obtain ⟨rfl, o2, rfl⟩ := h3
      walk_at "rd"
      exact k
def sp_step64 (K : PySem.W.Frag) : Sp := fun vs H Q _ => ∃ (p : Int) (a b : Addr) (xs : List V) (rows : List (List Int)) (am : List Int) (n : Nat), vs = [.int p, .ref b, .ref a] /\ 0 < p /\ p < 1000000000000000000 /\ SqT K H a xs /\ RowsN K H xs rows /\ rows.length = n /\ (∀ r ∈ rows, r.length = n) /\ SqT K H b (am.map V.int) /\ am.length = n /\ n <= 16 /\ (∀ x ∈ am, 0 <= x /\ x < p) /\ ∀ q H', Same H H' -> SqT K H' q ((madeW p rows am n).map V.int) -> Q (.ref q) H'
theorem ok__law_step {f : Addr} {fd : FuncData} (F : Fun K "_law_step" "_law_step" s__law_step f fd) (T : Txt mg)
    (W : Own K mg)
    (Z : Exs K mg C_AskError C_BadHouse C_BadWord)
    : FnOk P w K mg base CX0 1 f fd ["p", "row", "table"] (sp_step64 K) := by
  refine F.ok sc__law_step (fun vs H Q E h => ?_) (fun cdv A outer s H vs Q E hr h => ?_)
  . obtain ⟨p, a, b, xs, rows, am, n, rfl, _⟩ := h; rfl
  . obtain ⟨p, a, b, xs, rows, am, n, rfl, hp, hp18, ha, hrw, hrl, hrn, hb, hlen, hn, h64, k⟩ := h
    have hl := line1000
    refine ⟨_, (pss_cons (ps_set (i := 3) sc__law_step.nd rfl (Or.inl rfl) (pe_lst pa_nil))
      (pss_cons (ps_for PassesOwn.never rfl (pi_range1 rfl T.range (pa_cons (pe_callB call_len_seq (by rfl) T.len PySem.boot_len (pa_cons (pv 1) pa_nil)) pa_nil)) (pg_name (i := 4) sc__law_step.nd rfl (Or.inr rfl))
      (pss_one (ps_expr (pe_bm PySem.F.plainAttrs_list PySem.F.slot_list_append PySem.F.type_list_append mt_append (pv 3) (pa_cons (pe_op op_mod (pe_callB (call_sum rfl) rfl T.sum PyProof.Rows.boot_sum (pa_cons (pe_comp rfl (blk_mk rfl) (cp := c__law_step_0) ⟨⟨rfl, rfl⟩, ⟨⟨rfl, rfl⟩, ⟨⟨rfl, rfl⟩, True.intro⟩⟩⟩ (pi_range1 rfl T.range (pa_cons (pe_callB call_len_seq (by rfl) T.len PySem.boot_len (pa_cons (pv 1) pa_nil)) pa_nil)) (fun _ _ _ _ => (pg_name (i := 0) nd_c__law_step_0 rfl (Or.inl rfl))) (fun _ _ _ _ => pf_nil) (fun _ _ _ _ => (pe_op op_mul (pe_ix (ix_tupK (K := K) rfl) (pv 1) (pv 0) (fun _ _ => rfl)) (pe_ix (ix_tupK (K := K) rfl) (pe_ix (ix_tupK (K := K) rfl) (pv 3) (pv 0) (fun _ _ => rfl)) (pv 2) (fun _ _ => rfl))))) pa_nil)) (pv 0)) pa_nil)))))
      (pss_one (ps_ret (pe_callTy call_tuple_L rfl T.tuple PyProof.Rows.boot_tuple (pa_cons (pv 3) pa_nil)))))), ?_⟩
    walk_at "rd"
    refine ⟨by omega, fun q hq => ⟨_, .inr ((Same.new hq).seqT hb), by rw [List.length_map]; omega, by rw [List.length_map]; omega, ?_⟩⟩
    rw [Int.toNat_natCast, List.length_map, hlen]
    obtain ⟨Pv, hPv⟩ : ∃ Pv : Nat -> St -> Hp -> Prop, ∀ c σ' H', Pv c σ' H' ↔ (Same H H' /\ H' q = some (.lst ((madeW p rows am c).map V.int)) /\ ∃ o, σ' = [some (.int p), some (.ref b), some (.ref a), some (.ref q), o]) := ⟨_, fun _ _ _ => Iff.rfl⟩
    refine forR Pv ((hPv _ _ _).mpr ⟨Same.new hq, upd_same, none, rfl⟩) (fun c σ2 H2 hc h2 => ?_) (fun σ2 H2 h2 => ?_)
    . obtain ⟨s2, hq2, o, rfl⟩ := (hPv _ _ _).mp h2
      rw [Int.zero_add]
      walk_at "rd"
      refine ⟨.inl ⟨rfl, _, SqL.of hq2⟩, _, .inr (s2.seqT hb), by rw [List.length_map]; omega, by rw [List.length_map]; omega, ?_⟩
      rw [Int.toNat_natCast, List.length_map, hlen]
      obtain ⟨Pc, hPc⟩ : ∃ Pc : Nat -> List V -> St -> Hp -> Prop, ∀ j ys σ4 H4, Pc j ys σ4 H4 ↔ (H4 = H2 /\ ys = ((List.range j).map fun k => am.getD k 0 * (rows.getD k []).getD c 0).map V.int /\ ∃ o, σ4 = [o, some (.ref b), some (.int c), some (.ref a)]) := ⟨_, fun _ _ _ _ => Iff.rfl⟩
      refine compR Pc ((hPc _ _ _ _).mpr ⟨rfl, rfl, none, rfl⟩) (by omega) (fun j ys σ4 H4 _ h4 => ?_) (fun j ys σ4 H4 hj h4 => ?_) (fun ys σ4 H4 h4 D hD => ?_)
      . obtain ⟨_, rfl, _⟩ := (hPc _ _ _ _).mp h4
        rw [List.length_map, List.length_map, List.length_range]; exact Nat.le_refl _
      . obtain ⟨rfl, rfl, o', rfl⟩ := (hPc _ _ _ _).mp h4
        rw [Int.zero_add]
        have hja : j < am.length := by omega
        have hjr : j < rows.length := by omega
        obtain ⟨t, e1, e2⟩ := hrw.2 j rows[j] (by simp [hjr])
        have hcl : c < (rows[j]).length := by rw [hrn _ (List.getElem_mem hjr)]; exact hc
        have er : rows.getD j [] = rows[j] := by rw [List.getD_eq_getElem?_getD, List.getElem?_eq_getElem hjr]; rfl
        have ea : am.getD j 0 = am[j] := by rw [List.getD_eq_getElem?_getD, List.getElem?_eq_getElem hja]; rfl
        have ec : (rows.getD j []).getD c 0 = (rows[j])[c] := by rw [er, List.getD_eq_getElem?_getD, List.getElem?_eq_getElem hcl]; rfl
        have hx := h64 _ (List.getElem_mem hja)
        walk_at "rd"
        refine ⟨_, s2.seqT hb, _, atI_int (by omega) (v := am[j]) (by simp [hja]), _, s2.seqT ha, _, atI_nat e1, t, rfl, _, s2.seqT e2, _, atI_int (by omega) (v := (rows[j])[c]) (by simp [hcl]), ?_⟩
        refine ⟨_, rfl, _, rfl, .inl ⟨by omega, by omega⟩, (hPc _ _ _ _).mpr ⟨rfl, ?_, _, rfl⟩⟩
        rw [List.range_succ, List.map_append, List.map_append, List.map_singleton, List.map_singleton, ea, ec]
      . obtain ⟨rfl, rfl, o', rfl⟩ := (hPc _ _ _ _).mp h4
        refine ⟨D, rfl, _, SqL.of upd_same, hp, _, (Same.new hD) _ _ hq2, by unfold madeW; rw [List.length_map, List.length_map, List.length_range]; omega, (hPv _ _ _).mpr ⟨(s2.newT hD).over hq, ?_, _, rfl⟩⟩
        have := dot_eq am rows c (by omega)
        rw [hrl] at this
        rw [upd_same, this]
        unfold madeW
        rw [List.range_succ, List.map_append, List.map_append]; rfl
    . obtain ⟨s2, hq2, o, rfl⟩ := (hPv _ _ _).mp h2
      walk_at "rd"
      exact ⟨_, .inl ⟨SqL.of hq2, fun t ht => k t _ (s2.newT ht) (SqT.of upd_same)⟩⟩
def sp_times64 (K : PySem.W.Frag) : Sp := fun vs H Q _ => ∃ (p : Int) (a b : Addr) (xs ys : List Int), vs = [.int p, .ref a, .ref b] /\ 0 < p /\ p < 1000000000000000000 /\ SqT K H a (xs.map V.int) /\ SqT K H b (ys.map V.int) /\ xs.length = ys.length /\ xs.length <= 16 /\ (∀ x ∈ xs, 0 <= x /\ x < p) /\ ∀ H', Same H H' -> Q (.int (dotW xs ys % p)) H'
theorem ok__law_times {f : Addr} {fd : FuncData} (F : Fun K "_law_times" "_law_times" s__law_times f fd) (T : Txt mg)
    (W : Own K mg)
    (Z : Exs K mg C_AskError C_BadHouse C_BadWord)
    : FnOk P w K mg base CX0 1 f fd ["p", "one", "two"] (sp_times64 K) := by
  refine F.ok sc__law_times (fun vs H Q E h => ?_) (fun cdv A outer s H vs Q E hr h => ?_)
  . obtain ⟨p, a, b, xs, ys, rfl, _⟩ := h; rfl
  . obtain ⟨p, a, b, xs, ys, rfl, hp, hp18, ha, hb, hlen, hn, h64, k⟩ := h
    have hl := line1000
    refine ⟨_, (pss_one (ps_ret (pe_op op_mod (pe_callB (call_sum rfl) rfl T.sum PyProof.Rows.boot_sum (pa_cons (pe_comp rfl (blk_mk rfl) (cp := c__law_times_0) ⟨⟨rfl, rfl⟩, ⟨⟨rfl, rfl⟩, True.intro⟩⟩ (pi_range1 rfl T.range (pa_cons (pe_callB call_len_seq (by rfl) T.len PySem.boot_len (pa_cons (pv 1) pa_nil)) pa_nil)) (fun _ _ _ _ => (pg_name (i := 0) nd_c__law_times_0 rfl (Or.inl rfl))) (fun _ _ _ _ => pf_nil) (fun _ _ _ _ => (pe_op op_mul (pe_ix (ix_tupK (K := K) rfl) (pv 1) (pv 0) (fun _ _ => rfl)) (pe_ix (ix_tupK (K := K) rfl) (pv 2) (pv 0) (fun _ _ => rfl))))) pa_nil)) (pv 0)))), ?_⟩
    walk_at "rd"
    refine ⟨_, .inr ha, by rw [List.length_map]; omega, by rw [List.length_map]; omega, ?_⟩
    rw [Int.toNat_natCast, List.length_map]
    obtain ⟨Pe, hPe⟩ : ∃ Pe : Nat -> List V -> St -> Hp -> Prop, ∀ j zs σ4 H', Pe j zs σ4 H' ↔ (H' = H /\ zs = ((List.range j).map fun k => xs.getD k 0 * ys.getD k 0).map V.int /\ ∃ o, σ4 = [o, some (.ref a), some (.ref b)]) := ⟨_, fun _ _ _ _ => Iff.rfl⟩
    refine compR Pe ((hPe _ _ _ _).mpr ⟨rfl, rfl, none, rfl⟩) (by omega) (fun j zs σ4 H' _ h4 => ?_) (fun j zs σ4 H' hj h4 => ?_) (fun zs σ4 H' h4 D6 hD6 => ?_)
    . obtain ⟨_, rfl, _⟩ := (hPe _ _ _ _).mp h4
      rw [List.length_map, List.length_map, List.length_range]; exact Nat.le_refl _
    . obtain ⟨rfl, rfl, o', rfl⟩ := (hPe _ _ _ _).mp h4
      rw [Int.zero_add]
      have hj2 : j < ys.length := by omega
      have ex : xs.getD j 0 = xs[j] := by rw [List.getD_eq_getElem?_getD, List.getElem?_eq_getElem hj]; rfl
      have ey : ys.getD j 0 = ys[j] := by rw [List.getD_eq_getElem?_getD, List.getElem?_eq_getElem hj2]; rfl
      have hx := h64 _ (List.getElem_mem hj)
      walk_at "rd"
      refine ⟨_, ha, _, atI_int (by omega) (v := xs[j]) (by simp [hj]), _, hb, _, atI_int (by omega) (v := ys[j]) (by simp [hj2]), _, rfl, _, rfl, .inl ⟨by omega, by omega⟩, (hPe _ _ _ _).mpr ⟨rfl, ?_, _, rfl⟩⟩
      rw [List.range_succ, List.map_append, List.map_append, List.map_singleton, List.map_singleton, ex, ey]
    . obtain ⟨rfl, rfl, o', rfl⟩ := (hPe _ _ _ _).mp h4
      have hsum : ((List.range xs.length).map fun k => xs.getD k 0 * ys.getD k 0).sum = dotW xs ys := by
        unfold dotW
        congr 1
        refine List.ext_getElem (by simp [hlen]) fun i h1 h2 => ?_
        have hi : i < xs.length := by simpa using h1
        have hi' : i < ys.length := by omega
        simp [List.getD_eq_getElem?_getD, hi, hi']
      refine ⟨D6, rfl, _, SqL.of upd_same, hp, ?_⟩
      rw [hsum]
      exact k _ (Same.new hD6)
def sp_behind64 (K : PySem.W.Frag) : Sp := fun vs H Q _ => ∃ (h a : Addr) (p L : Int) (d : Nat) (first last ws : List Int) (tables : List (List (List Int))), vs = [.ref h, .ref a] /\ SumH K H h p L first tables last /\ WfSum p L d first tables last /\ SqT K H a (ws.map V.int) /\ isW L ws = true /\ ∀ (t : Addr) (H' : Hp), Same H H' -> SqT K H' t ((rowS p d tables first ws).map V.int) -> Q (.ref t) H'
theorem ok__law_behind {f : Addr} {fd : FuncData} (F : Fun K "_law_behind" "_law_behind" s__law_behind f fd) (T : Txt mg)
    (W : Own K mg)
    (Z : Exs K mg C_AskError C_BadHouse C_BadWord)
    {f__law_step : Addr} {fd__law_step : FuncData} (g__law_step : FnOk P w K mg base CX0 1 f__law_step fd__law_step ["p", "row", "table"] (sp_step64 K)) (F__law_step : Fun K "_law_step" "_law_step" s__law_step f__law_step fd__law_step) (b__law_step : Binds K fd__law_step ["p", "row", "table"] []) (m__law_step : mg "_law_step" = some (.ref f__law_step))
    : FnOk P w K mg base CX0 2 f fd ["house", "word"] (sp_behind64 K) := by
  refine F.ok sc__law_behind (fun vs H Q E h => ?_) (fun cdv A outer s H vs Q E hr h => ?_)
  . obtain ⟨h, a, p, L, d, first, last, ws, tables, rfl, _⟩ := h; rfl
  . obtain ⟨h, a, p, L, d, first, last, ws, tables, rfl, hh, wf, hw, hv, k⟩ := h
    have h2 := wf.p2
    have h18 := wf.p18
    have hd := wf.dl
    refine ⟨_, (pss_cons (ps_set (i := 2) sc__law_behind.nd rfl (Or.inl rfl) (pe_ix ix_tup (pv 0) pe_int (fun _ _ => rfl)))
      (pss_cons (ps_for PassesOwn.never rfl (pi_tup (pv 1)) (pg_name (i := 3) sc__law_behind.nd rfl (Or.inl rfl))
      (pss_one (ps_set (i := 2) sc__law_behind.nd rfl (Or.inl rfl) (pe_call g__law_step (hr.mono (by decide)) rfl m__law_step F__law_step.kp b__law_step .nil pass0 (pa_cons (pe_ix ix_tup (pv 0) pe_int (fun _ _ => rfl)) (pa_cons (pv 2) (pa_cons (pe_ix ix_tup (pe_ix ix_tup (pv 0) pe_int (fun _ _ => rfl)) (pv 3) (fun _ _ => rfl)) pa_nil)))))))
      (pss_one (ps_ret (pv 2))))), ?_⟩
    obtain ⟨tf, tt, tl, e1, e2, e3, e4⟩ := id hh
    walk_at "rd"
    refine ⟨_, e1, _, rfl, ⟨_, hw⟩, ?_⟩
    obtain ⟨Pv, hPv⟩ : ∃ Pv : Nat -> St -> Hp -> Prop, ∀ i σ' H', Pv i σ' H' ↔ (∃ (t : Addr) (o : Option V), Same H H' /\ SqT K H' t ((rowS p d tables first (ws.take i)).map V.int) /\ σ' = [some (.ref h), some (.ref a), some (.ref t), o]) := ⟨_, fun _ _ _ => Iff.rfl⟩
    refine forT (xs := ws.map V.int) Pv ((hPv _ _ _).mpr ⟨tf, none, Same.refl _, e2, rfl⟩) (fun i σ' H' _ h' => by obtain ⟨_, _, s', _⟩ := (hPv _ _ _).mp h'; exact s'.seqT hw) (fun i x σ' H' hx h' => ?_) (fun σ' H' h' => ?_)
    . obtain ⟨t, o, s2, ht, rfl⟩ := (hPv _ _ _).mp h'
      obtain ⟨n, hn, rfl⟩ := get_mapI hx
      have hnr := isW_iff.mp hv n (List.mem_of_getElem? hn)
      obtain ⟨r1, r2⟩ := wf.row (ws.take i)
      obtain ⟨t1, t2, t3⟩ := wf.table hnr.1 hnr.2
      obtain ⟨zs, u, xs, z1, z2, z3, z4⟩ := (e4.mono s2).at t1
      rw [Int.toNat_of_nonneg hnr.1] at z2
      walk_at "rd"
      refine ⟨_, s2.seqT e1, _, rfl, _, s2.seqT e1, _, rfl, ?_⟩
      walk_at "rd"
      exact ⟨_, z1, _, z2, p, u, t, xs, _, _, d, rfl, by omega, by omega, z3, z4, t2, t3, ht, r1, by omega, r2, fun q H3 s3 hq => (hPv _ _ _).mpr ⟨q, _, s2.trans s3, by rw [rowS_take hn]; exact hq, rfl⟩⟩
    . obtain ⟨t, o, s2, ht, rfl⟩ := (hPv _ _ _).mp h'
      rw [List.length_map, List.take_length] at ht
      walk_at "rd"
      exact k t _ s2 ht
def sp_word64 (K : PySem.W.Frag) : Sp := fun vs H Q _ => ∃ (a : Addr) (ns : List Int) (L m : Int), vs = [.ref a, .int L, .int m] /\ SqL K H a (ns.map V.int) /\ ns.length <= 63 /\ 1 <= L /\ 0 <= m /\ ∀ (t : Addr) (ws : List Int) (H' : Hp), Same H H' -> SqT K H' t (ws.map V.int) -> isW L ws = true -> ws.length <= 63 -> Q (.ref t) H'
theorem ok__law_word {f : Addr} {fd : FuncData} (F : Fun K "_law_word" "_law_word" s__law_word f fd) (T : Txt mg)
    (W : Own K mg)
    (Z : Exs K mg C_AskError C_BadHouse C_BadWord)
    : FnOk P w K mg base CX0 1 f fd ["script", "letters", "most"] (sp_word64 K) := by
  refine F.ok sc__law_word (fun vs H Q E h => ?_) (fun cdv A outer s H vs Q E hr h => ?_)
  . obtain ⟨a, ns, L, m, rfl, _⟩ := h; rfl
  . obtain ⟨a, ns, L, m, rfl, hs, hz, hL, hm, k⟩ := h
    have hl := line1000
    refine ⟨_, (pss_cons (ps_set (i := 3) sc__law_word.nd rfl (Or.inl rfl) (pe_callB (call_min2 rfl) rfl T.min PyProof.Rows.boot_min (pa_cons (pv 2) (pa_cons (pe_callB call_len_seq (by rfl) T.len PySem.boot_len (pa_cons (pv 0) pa_nil)) pa_nil))))
      (pss_one (ps_ret (pe_callTy call_tuple_L rfl T.tuple PyProof.Rows.boot_tuple (pa_cons (pe_comp rfl (blk_mk rfl) (cp := c__law_word_3) ⟨⟨rfl, rfl⟩, ⟨⟨rfl, rfl⟩, True.intro⟩⟩ (pi_range1 rfl T.range (pa_cons (pv 3) pa_nil)) (fun _ _ _ _ => (pg_name (i := 0) nd_c__law_word_3 rfl (Or.inl rfl))) (fun _ _ _ _ => pf_nil) (fun _ _ _ _ => (pe_op op_mod (pe_op op_add (pe_op op_fdiv (pe_ix (ix_listK (K := K) rfl) (pv 2) (pv 0) (fun _ _ => rfl)) pe_int) (pv 0)) (pv 1)))) pa_nil))))), ?_⟩
    walk_at "rd"
    refine ⟨_, .inl hs, ?_⟩
    rw [List.length_map]
    obtain ⟨n, hn, hn1⟩ : ∃ n : Nat, (if (ns.length : Int) < m then (ns.length : Int) else m) = (n : Int) /\ n <= ns.length := by
      by_cases h' : (ns.length : Int) < m
      . exact ⟨ns.length, by rw [if_pos h'], Nat.le_refl _⟩
      . exact ⟨m.toNat, by rw [if_neg h']; omega, by omega⟩
    rw [hn]
    refine ⟨by omega, by omega, ?_⟩
    rw [Int.toNat_natCast]
    obtain ⟨Pc, hPc⟩ : ∃ Pc : Nat -> List V -> St -> Hp -> Prop, ∀ j ys σ4 H4, Pc j ys σ4 H4 ↔ (H4 = H /\ ∃ (row : List Int) (o : Option V), ys = row.map V.int /\ row.length = j /\ isW L row = true /\ σ4 = [o, some (.int L), some (.ref a)]) := ⟨_, fun _ _ _ _ => Iff.rfl⟩
    refine compR Pc ((hPc _ _ _ _).mpr ⟨rfl, [], none, rfl, rfl, rfl, rfl⟩) (by omega) (fun j ys σ4 H4 _ h4 => ?_) (fun j ys σ4 H4 hj h4 => ?_) (fun ys σ4 H4 h4 D hD => ?_)
    . obtain ⟨_, row, o, rfl, hrl, _⟩ := (hPc _ _ _ _).mp h4
      rw [List.length_map]; omega
    . obtain ⟨rfl, row, o, rfl, hrl, hrr, rfl⟩ := (hPc _ _ _ _).mp h4
      rw [Int.zero_add]
      have hjn : j < ns.length := by omega
      have hx : ns[(j : Int).toNat]? = some ns[j] := by simp [hjn]
      generalize ns[j] = x at hx
      walk_at "rd"
      refine ⟨_, hs, _, atI_int (by omega) hx, x, rfl, ⟨by decide, by decide⟩, by omega, (hPc _ _ _ _).mpr ⟨rfl, row ++ [(x / 3 + j) % L], _, by simp, by simp [hrl], ?_, rfl⟩⟩
      rw [isW_iff] at hrr ⊢
      intro z hz'
      rcases List.mem_append.mp hz' with h' | h'
      . exact hrr z h'
      . rw [List.mem_singleton.mp h']; exact ⟨Int.emod_nonneg _ (by omega), Int.emod_lt_of_pos _ (by omega)⟩
    . obtain ⟨rfl, row, o, rfl, hrl, hrr, rfl⟩ := (hPc _ _ _ _).mp h4
      exact ⟨D, rfl, _, .inl ⟨SqL.of upd_same, fun t ht => k t row _ ((Same.new hD).newT ht) (SqT.of upd_same) hrr (by omega)⟩⟩
def TabL (K : PySem.W.Frag) (H : Hp) (us : List Addr) (tables : List (List (List Int))) : Prop := us.length = tables.length /\ ∀ (i : Nat) (u : Addr) (tb : List (List Int)), us[i]? = some u -> tables[i]? = some tb -> ∃ xs, SqT K H u xs /\ RowsN K H xs tb
theorem TabL.mono {K : PySem.W.Frag} {H H' : Hp} {us : List Addr} {tables : List (List (List Int))} (h : TabL K H us tables) (s : ∀ t ys, SqT K H t ys -> SqT K H' t ys) : TabL K H' us tables := by
  refine ⟨h.1, fun i u tb h1 h2 => ?_⟩
  obtain ⟨xs, d, e⟩ := h.2 i u tb h1 h2
  refine ⟨xs, s _ _ d, e.1, fun j r hj => ?_⟩
  obtain ⟨t, a, b⟩ := e.2 j r hj
  exact ⟨t, a, s _ _ b⟩
theorem TabL.snoc {K : PySem.W.Frag} {H : Hp} {us : List Addr} {tables : List (List (List Int))} {u : Addr} {xs : List V} {tb : List (List Int)} (h : TabL K H us tables) (h1 : SqT K H u xs) (h2 : RowsN K H xs tb) : TabL K H (us ++ [u]) (tables ++ [tb]) := by
  refine ⟨by simp [h.1], fun i v tb' hi ht => ?_⟩
  by_cases hl : i < us.length
  . rw [List.getElem?_append_left hl] at hi
    rw [List.getElem?_append_left (by rw [<- h.1]; exact hl)] at ht
    exact h.2 i v tb' hi ht
  . have := (List.getElem?_eq_some_iff.mp hi).1
    rw [List.length_append, List.length_singleton] at this
    have e : i = us.length := by omega
    subst e
    rw [List.getElem?_append_right (Nat.le_refl _), Nat.sub_self] at hi
    rw [h.1, List.getElem?_append_right (Nat.le_refl _), Nat.sub_self] at ht
    simp at hi ht
    subst hi ht
    exact ⟨xs, h1, h2⟩
def sp_house66 (K : PySem.W.Frag) : Sp := fun vs H Q _ => ∃ (a : Addr) (ns : List Int) (c p : Int) (L n : Nat), vs = [.ref a, .int c, .int p, .int L, .int n] /\ SqL K H a (ns.map V.int) /\ 0 <= c /\ c <= 100 /\ 2 <= p /\ p < 1000000000000000000 /\ 1 <= L /\ L <= 6 /\ n <= 4 /\ ∀ (h : Addr) (first last : List Int) (tables : List (List (List Int))) (H' : Hp), Same H H' -> SumH K H' h p L first tables last -> WfSum p L n first tables last -> Sm p tables -> Q (.ref h) H'
theorem ok__law_house {f : Addr} {fd : FuncData} (F : Fun K "_law_house" "_law_house" s__law_house f fd) (T : Txt mg)
    (W : Own K mg)
    (Z : Exs K mg C_AskError C_BadHouse C_BadWord)
    {f__law_row : Addr} {fd__law_row : FuncData} (g__law_row : FnOk P w K mg base CX0 3 f__law_row fd__law_row ["script", "at", "many", "p"] (sp_row64 K)) (F__law_row : Fun K "_law_row" "_law_row" s__law_row f__law_row fd__law_row) (b__law_row : Binds K fd__law_row ["script", "at", "many", "p"] []) (m__law_row : mg "_law_row" = some (.ref f__law_row))
    : FnOk P w K mg base CX0 4 f fd ["script", "at", "p", "letters", "many"] (sp_house66 K) := by
  refine F.ok sc__law_house (fun vs H Q E h => ?_) (fun cdv A outer s H vs Q E hr h => ?_)
  . obtain ⟨a, ns, c, p, L, n, rfl, _⟩ := h; rfl
  . obtain ⟨a, ns, c, p, L, n, rfl, hs, c0, c1, p2, p18, hL1, hL6, hn, k⟩ := h
    have hl := line1000
    refine ⟨_, (pss_cons (ps_set (i := 5) sc__law_house.nd rfl (Or.inl rfl) (pe_lst pa_nil))
      (pss_cons (ps_for PassesOwn.never rfl (pi_range1 rfl T.range (pa_cons (pv 3) pa_nil)) (pg_name (i := 6) sc__law_house.nd rfl (Or.inl rfl))
      (pss_cons (ps_set (i := 7) sc__law_house.nd rfl (Or.inr rfl) (pe_op op_add (pe_op op_add (pv 1) (pe_op op_mul pe_int (pv 4))) (pe_op op_mul (pe_op op_mul (pv 6) (pv 4)) (pv 4))))
      (pss_one (ps_expr (pe_bm PySem.F.plainAttrs_list PySem.F.slot_list_append PySem.F.type_list_append mt_append (pv 5) (pa_cons (pe_callTy call_tuple_L rfl T.tuple PyProof.Rows.boot_tuple (pa_cons (pe_comp rfl (blk_mk rfl) (cp := c__law_house_3) ⟨⟨rfl, rfl⟩, ⟨⟨rfl, rfl⟩, ⟨⟨rfl, rfl⟩, ⟨⟨rfl, rfl⟩, True.intro⟩⟩⟩⟩ (pi_range1 rfl T.range (pa_cons (pv 4) pa_nil)) (fun _ _ _ _ => (pg_name (i := 0) nd_c__law_house_3 rfl (Or.inl rfl))) (fun _ _ _ _ => pf_nil) (fun _ _ _ _ => (pe_call g__law_row (hr.mono (by decide)) rfl m__law_row F__law_row.kp b__law_row .nil pass0 (pa_cons (pv 1) (pa_cons (pe_op op_add (pv 4) (pe_op op_mul (pv 2) (pv 0))) (pa_cons (pv 2) (pa_cons (pv 3) pa_nil))))))) pa_nil)) pa_nil))))))
      (pss_cons (ps_set (i := 8) sc__law_house.nd rfl (Or.inl rfl) (pe_call g__law_row (hr.mono (by decide)) rfl m__law_row F__law_row.kp b__law_row .nil pass0 (pa_cons (pv 0) (pa_cons (pv 1) (pa_cons (pv 4) (pa_cons (pv 2) pa_nil))))))
      (pss_one (ps_ret (pe_tup (pa_cons (pv 2) (pa_cons (pv 3) (pa_cons (pv 8) (pa_cons (pe_callTy call_tuple_L rfl T.tuple PyProof.Rows.boot_tuple (pa_cons (pv 5) pa_nil)) (pa_cons (pe_call g__law_row (hr.mono (by decide)) rfl m__law_row F__law_row.kp b__law_row .nil pass0 (pa_cons (pv 0) (pa_cons (pe_op op_add (pv 1) (pv 4)) (pa_cons (pv 4) (pa_cons (pv 2) pa_nil))))) pa_nil))))))))))), ?_⟩
    walk_at "rd"
    refine ⟨by omega, fun q hq => ⟨by omega, by omega, ?_⟩⟩
    rw [Int.toNat_natCast]
    obtain ⟨Pv, hPv⟩ : ∃ Pv : Nat -> St -> Hp -> Prop, ∀ i σ' H', Pv i σ' H' ↔ (∃ (us : List Addr) (tables : List (List (List Int))) (o1 o2 : Option V), Same H H' /\ H' q = some (.lst (us.map V.ref)) /\ TabL K H' us tables /\ tables.length = i /\ (∀ tb ∈ tables, (tb.length = n /\ ∀ r ∈ tb, r.length = n) /\ ∀ r ∈ tb, ∀ x ∈ r, 0 <= x /\ x < p) /\ σ' = [some (.ref a), some (.int c), some (.int p), some (.int L), some (.int n), some (.ref q), o1, o2, none]) := ⟨_, fun _ _ _ => Iff.rfl⟩
    refine forR Pv ((hPv _ _ _).mpr ⟨[], [], none, none, Same.new hq, upd_same, ⟨rfl, fun i u tb h => by simp at h⟩, rfl, by simp, rfl⟩) (fun i σ2 H2 hi h2 => ?_) (fun σ2 H2 h2 => ?_)
    . obtain ⟨us, tables, o1, o2, s2, hq2, hT, htl, htt, rfl⟩ := (hPv _ _ _).mp h2
      rw [Int.zero_add]
      walk_at "rd"
      have b1 : 0 <= (i : Int) * (n : Int) /\ (i : Int) * (n : Int) <= 24 := by
        have h1 : i * n <= 6 * 4 := Nat.mul_le_mul (by omega) (by omega)
        have h2 : (i : Int) * (n : Int) = ((i * n : Nat) : Int) := by rw [Int.natCast_mul]
        omega
      have b2 : 0 <= (i : Int) * (n : Int) * (n : Int) /\ (i : Int) * (n : Int) * (n : Int) <= 96 := by
        have h1 : i * n * n <= 24 * 4 := Nat.mul_le_mul (Nat.mul_le_mul (show i <= 6 by omega) (show n <= 4 by omega)) (by omega)
        have h2 : (i : Int) * (n : Int) * (n : Int) = ((i * n * n : Nat) : Int) := by rw [Int.natCast_mul, Int.natCast_mul]
        omega
      refine ⟨.inl ⟨by decide, by decide⟩, .inr ⟨by omega, by omega⟩, .inr ⟨by omega, by omega⟩, .inl ⟨rfl, _, SqL.of hq2⟩, by omega, by omega, ?_⟩
      have hbs : 0 <= c + 2 * (n : Int) + (i : Int) * (n : Int) * (n : Int) /\ c + 2 * (n : Int) + (i : Int) * (n : Int) * (n : Int) <= 300 := by omega
      generalize c + 2 * (n : Int) + (i : Int) * (n : Int) * (n : Int) = bs at hbs ⊢
      rw [Int.toNat_natCast]
      obtain ⟨Pc, hPc⟩ : ∃ Pc : Nat -> List V -> St -> Hp -> Prop, ∀ j ys σ4 H4, Pc j ys σ4 H4 ↔ (Same H2 H4 /\ ∃ (rows : List (List Int)) (o : Option V), RowsN K H4 ys rows /\ rows.length = j /\ (∀ r ∈ rows, r.length = n /\ ∀ x ∈ r, 0 <= x /\ x < p) /\ σ4 = [o, some (.ref a), some (.int n), some (.int p), some (.int bs)]) := ⟨_, fun _ _ _ _ => Iff.rfl⟩
      refine compR Pc ((hPc _ _ _ _).mpr ⟨Same.refl _, [], none, RowsN.nil, rfl, by simp, rfl⟩) (by omega) (fun j ys σ4 H4 _ h4 => ?_) (fun j ys σ4 H4 hj h4 => ?_) (fun ys σ4 H4 h4 D hD => ?_)
      . obtain ⟨_, rows, o, hR, hrl, _⟩ := (hPc _ _ _ _).mp h4
        rw [hR.1]; omega
      . obtain ⟨s4, rows, o, hR, hrl, hrn, rfl⟩ := (hPc _ _ _ _).mp h4
        rw [Int.zero_add]
        have b3 : 0 <= (n : Int) * (j : Int) /\ (n : Int) * (j : Int) <= 16 := by
          have h1 : n * j <= 4 * 4 := Nat.mul_le_mul (by omega) (by omega)
          have h2 : (n : Int) * (j : Int) = ((n * j : Nat) : Int) := by rw [Int.natCast_mul]
          omega
        walk_at "rd"
        refine ⟨.inl ⟨by omega, by omega⟩, a, ns, bs + n * j, p, n, rfl, (s2.trans s4).seq hs, by omega, by omega, by omega, by omega, fun t row H5 s5 ht hrl' hrr => (hPc _ _ _ _).mpr ⟨s4.trans s5, rows ++ [row], _, (hR.mono s5).snoc ht, by simp [hrl], fun r hr' => ?_, rfl⟩⟩
        rcases List.mem_append.mp hr' with h' | h'
        . exact hrn r h'
        . rw [List.mem_singleton.mp h']; exact ⟨hrl', hrr⟩
      . obtain ⟨s4, rows, o, hR, hrl, hrn, rfl⟩ := (hPc _ _ _ _).mp h4
        refine ⟨D, rfl, _, .inl ⟨SqL.of upd_same, fun t ht => ?_⟩⟩
        have sDt := (Same.new hD (o := .lst ys)).newT ht (o := .tup ys)
        have hq4 := (s4.trans sDt) _ _ hq2
        have hxl := hT.1
        refine ⟨_, hq4, by rw [List.length_map]; omega, (hPv _ _ _).mpr ⟨us ++ [t], tables ++ [rows], _, _, ((s2.trans s4).trans sDt).over hq, by rw [upd_same]; simp, ?_, by simp [htl], fun tb htb => ?_, rfl⟩⟩
        . exact ((hT.mono fun t' ys' e' => (s4.trans sDt).seqT e').snoc (SqT.of upd_same) (hR.mono sDt)).mono fun t' ys' e' => seqT_off hq4 e'
        . rcases List.mem_append.mp htb with h' | h'
          . exact htt tb h'
          . rw [List.mem_singleton.mp h']; exact ⟨⟨hrl, fun r z => (hrn r z).1⟩, fun r z => (hrn r z).2⟩
    . obtain ⟨us, tables, o1, o2, s2, hq2, hT, htl, htt, rfl⟩ := (hPv _ _ _).mp h2
      walk_at "rd"
      refine ⟨a, ns, c, p, n, rfl, s2.seq hs, c0, by omega, by omega, by omega, fun tf first H3 s3 htf hfl hfr => ⟨_, .inl ⟨SqL.of (s3 _ _ hq2), fun tt htt' => ?_⟩⟩⟩
      have stt := Same.new htt' (o := .tup (us.map V.ref))
      refine ⟨a, ns, c + n, p, n, rfl, ((s2.trans s3).trans stt).seq hs, by omega, by omega, by omega, by omega, fun tl last H4 s4 htl' hll hlr => ⟨by omega, fun hh hhh => ?_⟩⟩
      have sh := Same.new hhh (o := .tup [V.int p, V.int L, V.ref tf, V.ref tt, V.ref tl])
      have s24 := (s3.trans stt).trans s4
      refine k hh first last tables _ ((s2.trans s24).trans sh) ⟨tf, tt, tl, SqT.of upd_same, ((stt.trans s4).trans sh).seqT htf, sh.seqT htl', us, (s4.trans sh).seqT (SqT.of upd_same), hT.1, ?_⟩ ⟨p2, p18, by omega, ⟨hfl, hfr⟩, ⟨hll, hlr⟩, by omega, fun tb z => (htt tb z).1⟩ (fun tb z => (htt tb z).2)
      exact (hT.mono fun t' ys' e' => (s24.trans sh).seqT e').2
theorem Tabs.list {K : PySem.W.Frag} {H : Hp} {tt : Addr} {tables : List (List (List Int))} (h : Tabs K H tt tables) : ∃ zs, SqT K H tt zs /\ TabsL K H zs tables := by
  obtain ⟨us, a, b, c⟩ := h
  refine ⟨_, a, by rw [List.length_map]; exact b, fun i tb hi => ?_⟩
  have hu : i < us.length := by rw [b]; exact (List.getElem?_eq_some_iff.mp hi).1
  obtain ⟨xs, d, e⟩ := c i us[i] tb (by simp [hu]) hi
  exact ⟨us[i], xs, by simp [hu], d, e⟩
def sp_his66 (K : PySem.W.Frag) : Sp := fun vs H Q _ => ∃ (a b : Addr) (p L : Int) (fs ls : List Int) (tabs : List (List (List Int))), vs = [.ref a, .ref b] /\ SumH K H a p L fs tabs ls /\ SumH K H b p L fs tabs ls /\ fs.length <= 900 /\ ls.length <= 900 /\ tabs.length <= 900 /\ (∀ tb ∈ tabs, tb.length <= 900 /\ ∀ r ∈ tb, r.length <= 900) /\ ∀ H', Same H H' -> Q (.bl true) H'
theorem ok__law_house_is {f : Addr} {fd : FuncData} (F : Fun K "_law_house_is" "_law_house_is" s__law_house_is f fd) (T : Txt mg)
    (W : Own K mg)
    (Z : Exs K mg C_AskError C_BadHouse C_BadWord)
    {f__law_row_is : Addr} {fd__law_row_is : FuncData} (g__law_row_is : FnOk P w K mg base CX0 2 f__law_row_is fd__law_row_is ["found", "due"] (sp_row_is64 K)) (F__law_row_is : Fun K "_law_row_is" "_law_row_is" s__law_row_is f__law_row_is fd__law_row_is) (b__law_row_is : Binds K fd__law_row_is ["found", "due"] []) (m__law_row_is : mg "_law_row_is" = some (.ref f__law_row_is))
    : FnOk P w K mg base CX0 3 f fd ["found", "due"] (sp_his66 K) := by
  refine F.ok sc__law_house_is (fun vs H Q E h => ?_) (fun cdv A outer s H vs Q E hr h => ?_)
  . obtain ⟨a, b, p, L, fs, ls, tabs, rfl, _⟩ := h; rfl
  . obtain ⟨a, b, p, L, fs, ls, tabs, rfl, ⟨tf1, tt1, tl1, h1, hf1, hl1, hA1⟩, ⟨tf2, tt2, tl2, h2, hf2, hl2, hA2⟩, z1, z2, z3, z4, k⟩ := h
    have hl := line1000
    obtain ⟨xs1, ht1, hT1⟩ := hA1.list
    obtain ⟨xs2, ht2, hT2⟩ := hA2.list
    refine ⟨_, (pss_lazy (ps_if (PW.pt (pw_or (pt_not (pt_val (pe_callB call_isinstW rfl T.isinstance PyProof.Rows.boot_isinstance (pa_cons (pv 0) (pa_cons (pe_bltn (v := .ty "tuple") rfl T.tuple PyProof.Rows.boot_tuple rfl) pa_nil))))) (pw_or (pt_cmpR op_ne (pe_callB call_len_seq (by rfl) T.len PySem.boot_len (pa_cons (pv 0) pa_nil)) pe_int (nomark _)) (pw_or1 (pt_not (pt_val (pe_call g__law_row_is (hr.mono (by decide)) rfl m__law_row_is F__law_row_is.kp b__law_row_is .nil pass0 (pa_cons (pe_slice sl_tup2 (pv 0) po_none (po_some pe_int)) (pa_cons (pe_slice sl_tup2 (pv 1) po_none (po_some pe_int)) pa_nil)))))))))
      (pss_one (ps_ret pe_bl))
      pss_nil)
      (pss_lazy (ps_if (PW.pt (pw_or (pt_not (pt_val (pe_call g__law_row_is (hr.mono (by decide)) rfl m__law_row_is F__law_row_is.kp b__law_row_is .nil pass0 (pa_cons (pe_ix ix_tup (pv 0) pe_int (fun _ _ => rfl)) (pa_cons (pe_ix ix_tup (pv 1) pe_int (fun _ _ => rfl)) pa_nil))))) (pw_or1 (pt_not (pt_val (pe_call g__law_row_is (hr.mono (by decide)) rfl m__law_row_is F__law_row_is.kp b__law_row_is .nil pass0 (pa_cons (pe_ix ix_tup (pv 0) pe_int (fun _ _ => rfl)) (pa_cons (pe_ix ix_tup (pv 1) pe_int (fun _ _ => rfl)) pa_nil))))))))
      (pss_one (ps_ret pe_bl))
      pss_nil)
      (pss_lazy (ps_if (PW.pt (pw_or (pt_not (pt_val (pe_callB call_isinstW rfl T.isinstance PyProof.Rows.boot_isinstance (pa_cons (pe_ix ix_tup (pv 0) pe_int (fun _ _ => rfl)) (pa_cons (pe_bltn (v := .ty "tuple") rfl T.tuple PyProof.Rows.boot_tuple rfl) pa_nil))))) (pw_or1 (pt_cmpR op_ne (pe_callB call_len_seq (by rfl) T.len PySem.boot_len (pa_cons (pe_ix ix_tup (pv 0) pe_int (fun _ _ => rfl)) pa_nil)) (pe_callB call_len_seq (by rfl) T.len PySem.boot_len (pa_cons (pe_ix ix_tup (pv 1) pe_int (fun _ _ => rfl)) pa_nil)) (nomark _)))))
      (pss_one (ps_ret pe_bl))
      pss_nil)
      (pss_lazy (ps_for PassesOwn.never rfl (pi_range1 rfl T.range (pa_cons (pe_callB call_len_seq (by rfl) T.len PySem.boot_len (pa_cons (pe_ix ix_tup (pv 1) pe_int (fun _ _ => rfl)) pa_nil)) pa_nil)) (pg_name (i := 2) sc__law_house_is.nd rfl (Or.inl rfl))
      (pss_cons (ps_if (PW.pt (pw_or (pt_not (pt_val (pe_callB call_isinstW rfl T.isinstance PyProof.Rows.boot_isinstance (pa_cons (pe_ix ix_tup (pe_ix ix_tup (pv 0) pe_int (fun _ _ => rfl)) (pv 2) (fun _ _ => rfl)) (pa_cons (pe_bltn (v := .ty "tuple") rfl T.tuple PyProof.Rows.boot_tuple rfl) pa_nil))))) (pw_or1 (pt_cmpR op_ne (pe_callB call_len_seq (by rfl) T.len PySem.boot_len (pa_cons (pe_ix ix_tup (pe_ix ix_tup (pv 0) pe_int (fun _ _ => rfl)) (pv 2) (fun _ _ => rfl)) pa_nil)) (pe_callB call_len_seq (by rfl) T.len PySem.boot_len (pa_cons (pe_ix ix_tup (pe_ix ix_tup (pv 1) pe_int (fun _ _ => rfl)) (pv 2) (fun _ _ => rfl)) pa_nil)) (nomark _)))))
      (pss_one (ps_ret pe_bl))
      pss_nil)
      (pss_one (ps_for PassesOwn.never rfl (pi_range1 rfl T.range (pa_cons (pe_callB call_len_seq (by rfl) T.len PySem.boot_len (pa_cons (pe_ix ix_tup (pe_ix ix_tup (pv 1) pe_int (fun _ _ => rfl)) (pv 2) (fun _ _ => rfl)) pa_nil)) pa_nil)) (pg_name (i := 3) sc__law_house_is.nd rfl (Or.inl rfl))
      (pss_one (ps_if (pt_not (pt_val (pe_call g__law_row_is (hr.mono (by decide)) rfl m__law_row_is F__law_row_is.kp b__law_row_is .nil pass0 (pa_cons (pe_ix ix_tup (pe_ix ix_tup (pe_ix ix_tup (pv 0) pe_int (fun _ _ => rfl)) (pv 2) (fun _ _ => rfl)) (pv 3) (fun _ _ => rfl)) (pa_cons (pe_ix ix_tup (pe_ix ix_tup (pe_ix ix_tup (pv 1) pe_int (fun _ _ => rfl)) (pv 2) (fun _ _ => rfl)) (pv 3) (fun _ _ => rfl)) pa_nil)))))
      (pss_one (ps_ret pe_bl))
      pss_nil))))))
      (pss_one (ps_ret pe_bl)))))), ?_⟩
    walk_at "rd"
    refine ⟨_, _, .tup h1, rel_ty, _, kit_self, ?_⟩
    rw [if_neg (by decide)]
    refine ⟨_, .inr h1, ?_⟩
    rw [if_neg (by simp)]
    refine ⟨_, h1, fun t1 H1 s1 q1 => ⟨_, s1.seqT h2, fun t2 H2 s2 q2 => ⟨t1, t2, [p, L], rfl, s2.seqT q1, q2, by simp, _, rfl, ?_⟩⟩⟩
    rw [if_neg (by decide)]
    refine later_of ?_
    walk_at "rd"
    have s12 := s1.trans s2
    replace h1 := s12.seqT h1
    replace h2 := s12.seqT h2
    replace hf1 := s12.seqT hf1
    replace hf2 := s12.seqT hf2
    replace hl1 := s12.seqT hl1
    replace hl2 := s12.seqT hl2
    replace ht1 := s12.seqT ht1
    replace ht2 := s12.seqT ht2
    replace hT1 := hT1.mono s12
    replace hT2 := hT2.mono s12
    refine ⟨_, h1, _, rfl, _, h2, _, rfl, tf1, tf2, fs, rfl, hf1, hf2, z1, _, rfl, ?_⟩
    rw [if_neg (by decide)]
    refine ⟨_, h1, _, rfl, _, h2, _, rfl, tl1, tl2, ls, rfl, hl1, hl2, z2, _, rfl, ?_⟩
    rw [if_neg (by decide)]
    refine later_of ?_
    walk_at "rd"
    refine ⟨_, h1, _, rfl, _, _, .tup ht1, rel_ty, _, kit_self, ?_⟩
    rw [if_neg (by decide)]
    refine ⟨_, h1, _, rfl, tt1, rfl, _, .inr ht1, _, h2, _, rfl, tt2, rfl, _, .inr ht2, ?_⟩
    rw [hT1.1, hT2.1, if_neg (by simp)]
    refine later_of ?_
    walk_at "rd"
    refine ⟨_, h2, _, rfl, tt2, rfl, _, .inr ht2, by rw [hT2.1]; omega, by rw [hT2.1]; omega, ?_⟩
    rw [Int.toNat_natCast, hT2.1]
    obtain ⟨Pv, hPv⟩ : ∃ Pv : Nat -> St -> Hp -> Prop, ∀ i σ' H', Pv i σ' H' ↔ (H' = H2 /\ ∃ o1 o2, σ' = [some (.ref a), some (.ref b), o1, o2]) := ⟨_, fun _ _ _ => Iff.rfl⟩
    refine forR Pv ((hPv _ _ _).mpr ⟨rfl, none, none, rfl⟩) (fun i σ' H' hi h' => ?_) (fun σ' H' h' => ?_)
    . obtain ⟨rfl, o1, o2, rfl⟩ := (hPv _ _ _).mp h'
      rw [Int.zero_add]
      have hri : tabs[i]? = some tabs[i] := by simp [hi]
      obtain ⟨c, ys1, hc1, hc2, hc3⟩ := hT1.2 i _ hri
      obtain ⟨d, ys2, hd1, hd2, hd3⟩ := hT2.2 i _ hri
      have hzi := z4 _ (List.mem_of_getElem? hri)
      generalize tabs[i] = tb at hc3 hd3 hzi
      walk_at "rd"
      refine ⟨_, h1, _, rfl, tt1, rfl, _, ht1, _, atI_nat hc1, _, _, .tup hc2, rel_ty, _, kit_self, ?_⟩
      rw [if_neg (by decide)]
      refine ⟨_, h1, _, rfl, tt1, rfl, _, ht1, _, atI_nat hc1, c, rfl, _, .inr hc2, _, h2, _, rfl, tt2, rfl, _, ht2, _, atI_nat hd1, d, rfl, _, .inr hd2, ?_⟩
      rw [hc3.1, hd3.1, if_neg (by simp)]
      refine ⟨_, h2, _, rfl, tt2, rfl, _, ht2, _, atI_nat hd1, d, rfl, _, .inr hd2, by rw [hd3.1]; omega, by rw [hd3.1]; omega, ?_⟩
      rw [Int.toNat_natCast, hd3.1]
      obtain ⟨Pw, hPw⟩ : ∃ Pv : Nat -> St -> Hp -> Prop, ∀ j σ2 H3, Pv j σ2 H3 ↔ (H3 = H' /\ ∃ o2, σ2 = [some (.ref a), some (.ref b), some (.int i), o2]) := ⟨_, fun _ _ _ => Iff.rfl⟩
      refine forR Pw ((hPw _ _ _).mpr ⟨rfl, _, rfl⟩) (fun j σ2 H3 hj h3 => ?_) (fun σ2 H3 h3 => ?_)
      . obtain ⟨rfl, o2, rfl⟩ := (hPw _ _ _).mp h3
        rw [Int.zero_add]
        have hrj : tb[j]? = some tb[j] := by simp [hj]
        obtain ⟨e, he1, he2⟩ := hc3.2 j _ hrj
        obtain ⟨f, hf1', hf2'⟩ := hd3.2 j _ hrj
        walk_at "rd"
        refine ⟨_, h1, _, rfl, tt1, rfl, _, ht1, _, atI_nat hc1, c, rfl, _, hc2, _, atI_nat he1, _, h2, _, rfl, tt2, rfl, _, ht2, _, atI_nat hd1, d, rfl, _, hd2, _, atI_nat hf1', e, f, tb[j], rfl, he2, hf2', hzi.2 _ (List.mem_of_getElem? hrj), _, rfl, ?_⟩
        rw [if_neg (by decide)]
        exact (hPw _ _ _).mpr ⟨rfl, _, rfl⟩
      . obtain ⟨rfl, o2, rfl⟩ := (hPw _ _ _).mp h3
        exact (hPv _ _ _).mpr ⟨rfl, _, _, rfl⟩
    . obtain ⟨rfl, o1, o2, rfl⟩ := (hPv _ _ _).mp h'
      refine later_of ?_
      walk_at "rd"
      exact k _ s12
theorem TabsL.off66 {K : PySem.W.Frag} {H : Hp} {q : Addr} {zs ys xs : List V} {tabs : List (List (List Int))} (hq : H q = some (.lst xs)) (h : TabsL K H zs tabs) : TabsL K (upd H q (.lst ys)) zs tabs := ⟨h.1, fun i tb hi => by
  obtain ⟨u, us, a, b, c⟩ := h.2 i tb hi
  exact ⟨u, us, a, seqT_off hq b, c.off66 hq⟩⟩
theorem compMap66 {K : PySem.W.Frag} {u : Addr} {xs : List V} {cp : Caps} {te : TE} {Q : VK} {σ σ' : St} {H : Hp} (G : V -> V) (e : cp.st σ = none :: σ') (hu : SqT K H u xs) (hz : xs.length <= 900)
    (hs : ∀ x ∈ xs, ∀ R : VK, R (G x) H -> te (some x :: σ') H R) (hd : ∀ D, H D = none -> Q (.ref D) (upd H D (.lst (xs.map G)))) : CompW (Itt K u) cp (gName 0) tTrue te σ H Q := by
  have hl := line1000
  refine compT (xs := xs) (fun i ys σ2 H2 => H2 = H /\ ys = (xs.take i).map G /\ ∃ o, σ2 = o :: σ') ⟨rfl, by simp, none, e⟩ (by omega) (fun i ys σ2 H2 hi h => ⟨by rw [h.1]; exact hu, by rw [h.2.1, List.length_map, List.length_take]; omega⟩) (fun i x ys σ2 H2 hx h => ?_) (fun ys σ2 H2 h D hD => ?_)
  . obtain ⟨rfl, rfl, o, rfl⟩ := h
    refine hs x (List.mem_of_getElem? hx) _ ⟨rfl, ?_, _, rfl⟩
    rw [List.take_add_one, hx, List.map_append]; rfl
  . obtain ⟨rfl, rfl, _⟩ := h
    rw [List.take_length]
    exact hd D hD
def sp_lless (K : PySem.W.Frag) : Sp := fun vs H Q _ => ∃ (h g : Addr) (p L : Int) (d e : Nat) (f1 f2 l1 l2 : List Int) (t1 t2 : List (List (List Int))), vs = [.ref h, .ref g] /\ SumH K H h p L f1 t1 l1 /\ SumH K H g p L f2 t2 l2 /\ WfSum p L d f1 t1 l1 /\ WfSum p L e f2 t2 l2 /\ L <= 6 /\ ∀ q H', Same H H' -> SumH K H' q p L (f1 ++ f2) (lessTs d e t1 t2) (l1 ++ l2.map fun x => -1 * x % p) -> Q (.ref q) H'
theorem ok__law_less {f : Addr} {fd : FuncData} (F : Fun K "_law_less" "_law_less" s__law_less f fd) (T : Txt mg)
    (W : Own K mg)
    (Z : Exs K mg C_AskError C_BadHouse C_BadWord)
    : FnOk P w K mg base CX0 1 f fd ["one", "two"] (sp_lless K) := by
  refine F.ok sc__law_less (fun vs H Q E h => ?_) (fun cdv A outer s H vs Q E hr h => ?_)
  . obtain ⟨h, g, p, L, d, e, f1, f2, l1, l2, t1, t2, rfl, _⟩ := h; rfl
  . obtain ⟨h, g, p, L, d, e, f1, f2, l1, l2, t1, t2, rfl, ⟨a1, a2, a3, x1, x2, x3, xA⟩, ⟨b1, b2, b3, y1, y2, y3, yA⟩, wf, wg, hL6, k⟩ := h
    have hl := line1000
    obtain ⟨us, x4, x5, x6⟩ := xA.list
    obtain ⟨vs, y4, y5, y6⟩ := yA.list
    have hd := wf.dl
    have he := wg.dl
    have hp2 := wf.p2
    have ht := wf.t
    have ht' := wg.t
    have h1f := wf.f.1
    have h2f := wg.f.1
    have h1l := wf.l.1
    have h2l := wg.l.1
    refine ⟨_, (pss_cons (ps_set (i := 2) sc__law_less.nd rfl (Or.inr rfl) (pe_ix ix_tup (pv 0) pe_int (fun _ _ => rfl)))
      (pss_cons (ps_set (i := 3) sc__law_less.nd rfl (Or.inl rfl) (pe_lst pa_nil))
      (pss_cons (ps_for PassesOwn.never rfl (pi_range1 rfl T.range (pa_cons (pe_ix ix_tup (pv 0) pe_int (fun _ _ => rfl)) pa_nil)) (pg_name (i := 4) sc__law_less.nd rfl (Or.inl rfl))
      (pss_cons (ps_setC (i := 5) sc__law_less.nd rfl rfl rfl (blk_mk rfl) (cp := c__law_less_0) ⟨⟨rfl, rfl⟩, True.intro⟩ (pi_tup (pe_ix ix_tup (pe_ix ix_tup (pv 0) pe_int (fun _ _ => rfl)) (pv 4) (fun _ _ => rfl))) (fun _ _ _ _ => (pg_name (i := 0) nd_c__law_less_0 rfl (Or.inl rfl))) (fun _ _ _ _ => pf_nil) (fun _ _ _ _ => (pe_op (op_catT2K (K := K) rfl) (pv 0) (pe_op (op_repTK (K := K) rfl) (pe_tup (pa_cons pe_int pa_nil)) (pe_callB (call_len_seqK (K := K) rfl) (by rfl) T.len PySem.boot_len (pa_cons (pe_ix (ix_tupK (K := K) rfl) (pv 1) pe_int (fun _ _ => rfl)) pa_nil))))))
      (pss_one (ps_expr (pe_bm PySem.F.plainAttrs_list PySem.F.slot_list_append PySem.F.type_list_append mt_append (pv 3) (pa_cons (pe_callTy call_tuple_L rfl T.tuple PyProof.Rows.boot_tuple (pa_cons (pe_op op_cat (pv 5) (pe_comp rfl (blk_mk rfl) (cp := c__law_less_4) ⟨⟨rfl, rfl⟩, True.intro⟩ (pi_tup (pe_ix ix_tup (pe_ix ix_tup (pv 1) pe_int (fun _ _ => rfl)) (pv 4) (fun _ _ => rfl))) (fun _ _ _ _ => (pg_name (i := 0) nd_c__law_less_4 rfl (Or.inl rfl))) (fun _ _ _ _ => pf_nil) (fun _ _ _ _ => (pe_op (op_catT2K (K := K) rfl) (pe_op (op_repTK (K := K) rfl) (pe_tup (pa_cons pe_int pa_nil)) (pe_callB (call_len_seqK (K := K) rfl) (by rfl) T.len PySem.boot_len (pa_cons (pe_ix (ix_tupK (K := K) rfl) (pv 1) pe_int (fun _ _ => rfl)) pa_nil))) (pv 0))))) pa_nil)) pa_nil))))))
      (pss_one (ps_ret (pe_tup (pa_cons (pv 2) (pa_cons (pe_ix ix_tup (pv 0) pe_int (fun _ _ => rfl)) (pa_cons (pe_op op_catT2 (pe_ix ix_tup (pv 0) pe_int (fun _ _ => rfl)) (pe_ix ix_tup (pv 1) pe_int (fun _ _ => rfl))) (pa_cons (pe_callTy call_tuple_L rfl T.tuple PyProof.Rows.boot_tuple (pa_cons (pv 3) pa_nil)) (pa_cons (pe_op op_catT2 (pe_ix ix_tup (pv 0) pe_int (fun _ _ => rfl)) (pe_callTy call_tuple_L rfl T.tuple PyProof.Rows.boot_tuple (pa_cons (pe_comp rfl (blk_mk rfl) (cp := c__law_less_9) ⟨⟨rfl, rfl⟩, True.intro⟩ (pi_tup (pe_ix ix_tup (pv 1) pe_int (fun _ _ => rfl))) (fun _ _ _ _ => (pg_name (i := 0) nd_c__law_less_9 rfl (Or.inl rfl))) (fun _ _ _ _ => pf_nil) (fun _ _ _ _ => (pe_op op_mod (pe_un un_neg (pv 0)) (pv 1)))) pa_nil))) pa_nil))))))))))), ?_⟩
    walk_at "rd"
    refine ⟨_, x1, _, rfl, by omega, fun q hq => ⟨_, (Same.new hq).seqT x1, _, rfl, _, rfl, by omega, by omega, ?_⟩⟩
    obtain ⟨Pv, hPv⟩ : ∃ Pv : Nat -> St -> Hp -> Prop, ∀ i σ' H', Pv i σ' H' ↔ (∃ (zs : List V) (o1 o2 : Option V), Same H H' /\ H' q = some (.lst zs) /\ TabsL K H' zs ((lessTs d e t1 t2).take i) /\ σ' = [some (.ref h), some (.ref g), some (.int p), some (.ref q), o1, o2]) := ⟨_, fun _ _ _ => Iff.rfl⟩
    refine forR Pv ((hPv _ _ _).mpr ⟨[], none, none, Same.new hq, upd_same, TabsL.nil, rfl⟩) (fun i σ2 H2 hi h2 => ?_) (fun σ2 H2 h2 => ?_)
    . obtain ⟨zs, o1, o2, s2, hq2, hZ, rfl⟩ := (hPv _ _ _).mp h2
      rw [Int.zero_add]
      walk_at "rd"
      have hi1 : i < t1.length := by omega
      have hi2 : i < t2.length := by omega
      have e1 : t1[i]? = some t1[i] := by simp [hi1]
      have e2 : t2[i]? = some t2[i] := by simp [hi2]
      obtain ⟨u, xs, c1, c2, c3⟩ := x6 i _ e1
      obtain ⟨v, ys, d1, d2, d3⟩ := y6 i _ e2
      have hw1 := wf.tt _ (List.mem_of_getElem? e1)
      have hw2 := wg.tt _ (List.mem_of_getElem? e2)
      refine ⟨_, s2.seqT x1, _, rfl, a2, rfl, _, s2.seqT x4, _, atI_nat c1, u, rfl, rowsN_comp (σ' := [some (.ref g)]) (fun r => r ++ List.replicate e 0) rfl (s2.seqT c2) (c3.mono s2) (by omega) (fun r hr' t H3 R s3 ht3 hR => ?_) (fun ws H3 D s3 hD hW => ?_)⟩
      . walk_at "rd"
        refine ⟨by omega, fun p0 hp0 => ?_⟩
        have sp := Same.new hp0 (o := .tup [V.int 0])
        have s5 := (s2.trans s3).trans sp
        refine ⟨_, s5.seqT y1, _, rfl, b1, rfl, _, .inr (s5.seqT y2), rRepT.of (SqT.of upd_same) (by simp) (by rw [List.length_map]; omega) (by rw [List.length_map]; omega) (by simp; omega) fun pl H4 s4 hl4 => ?_⟩
        rw [List.length_map, h2f, Int.toNat_natCast, rep_ints] at hl4
        have := hw1.2 r hr'
        refine rCatT2.of ((sp.trans s4).seqT ht3) hl4 (by simp; omega) fun q5 H5 s5 hq5 => hR q5 H5 ((sp.trans s4).trans s5) ?_
        rw [List.map_append]; exact hq5
      have sD := s3.newT hD (o := .lst ws)
      have hDD : upd H3 D (.lst ws) D = some (.lst ws) := upd_same
      have hWD := hW.mono (Same.new hD (o := .lst ws))
      generalize upd H3 D (.lst ws) = H4 at sD hDD hWD ⊢
      have s04 := s2.trans sD
      refine ⟨.inl ⟨rfl, _, SqL.of (sD _ _ hq2)⟩, _, s04.seqT y1, _, rfl, b2, rfl, _, s04.seqT y4, _, atI_nat d1, v, rfl, rowsN_comp (σ' := [some (.ref h)]) (fun r => List.replicate d 0 ++ r) rfl (s04.seqT d2) (d3.mono s04) (by omega) (fun r hr' t H5 R s5 ht5 hR => ?_) (fun vs2 H5 D5 s5 hD5 hU => ?_)⟩
      . walk_at "rd"
        refine ⟨by omega, fun p0 hp0 => ?_⟩
        have sp := Same.new hp0 (o := .tup [V.int 0])
        have s6 := (s04.trans s5).trans sp
        refine ⟨_, s6.seqT x1, _, rfl, a1, rfl, _, .inr (s6.seqT x2), rRepT.of (SqT.of upd_same) (by simp) (by rw [List.length_map]; omega) (by rw [List.length_map]; omega) (by simp; omega) fun pl H6 s6 hl6 => ?_⟩
        rw [List.length_map, h1f, Int.toNat_natCast, rep_ints] at hl6
        have := hw2.2 r hr'
        refine rCatT2.of hl6 ((sp.trans s6).seqT ht5) (by simp; omega) fun q7 H7 s7 hq7 => hR q7 H7 ((sp.trans s6).trans s7) ?_
        rw [List.map_append]; exact hq7
      have hzl := hWD.1
      have hul := hU.1
      rw [List.length_map] at hzl hul
      refine ⟨D, rfl, D5, rfl, _, Same.new hD5 _ _ (s5 _ _ hDD), _, upd_same, by omega, fun pz hpz => ⟨_, .inl ⟨SqL.of upd_same, fun qt hqt => ?_⟩⟩⟩
      have sE := ((Same.new hD5 (o := .lst vs2)).newT hpz (o := .lst (ws ++ vs2))).newT hqt (o := .tup (ws ++ vs2))
      have hA := RowsN.app66 (hWD.mono (s5.trans sE)) (hU.mono sE)
      have sF := sD.trans (s5.trans sE)
      have hqF := sF _ _ hq2
      have hqt : upd (upd (upd H5 D5 (.lst vs2)) pz (.lst (ws ++ vs2))) qt (.tup (ws ++ vs2)) qt = some (.tup (ws ++ vs2)) := upd_same
      generalize upd (upd (upd H5 D5 (.lst vs2)) pz (.lst (ws ++ vs2))) qt (.tup (ws ++ vs2)) = H6 at sE hA sF hqF hqt ⊢
      have hzz := hZ.1
      rw [List.length_take] at hzz
      refine ⟨_, hqF, by omega, (hPv _ _ _).mpr ⟨_, _, _, (s2.trans sF).over hq, upd_same, ?_, rfl⟩⟩
      unfold lessTs at hZ ⊢
      rw [zipWith_take _ e1 e2]
      exact TabsL.off66 hqF ((hZ.mono sF).snoc (SqT.of hqt) hA)
    . obtain ⟨zs, o1, o2, s2, hq2, hZ, rfl⟩ := (hPv _ _ _).mp h2
      rw [List.take_of_length_le (by unfold lessTs; rw [List.length_zipWith]; omega)] at hZ
      walk_at "rd"
      refine ⟨_, s2.seqT x1, _, rfl, _, s2.seqT x1, _, rfl, _, s2.seqT y1, _, rfl, rCatT2.of (s2.seqT x2) (s2.seqT y2) (by simp; omega) fun qf H3 s3 hqf => ⟨_, .inl ⟨SqL.of (s3 _ _ hq2), fun qt hqt => ?_⟩⟩⟩
      have st := Same.new hqt (o := .tup zs)
      have hqt3 : upd H3 qt (.tup zs) qt = some (.tup zs) := upd_same
      generalize upd H3 qt (.tup zs) = H4 at st hqt3 ⊢
      have s4 := (s2.trans s3).trans st
      obtain ⟨G, hG⟩ : ∃ G : V -> V, ∀ n : Int, G (V.int n) = .int (-1 * n % p) := ⟨fun x => match x with | .int n => .int (-1 * n % p) | _ => .non, fun _ => rfl⟩
      refine ⟨_, s4.seqT x1, _, rfl, _, s4.seqT y1, _, rfl, b3, rfl, ⟨_, s4.seqT y3⟩, compMap66 (σ' := [some (.int p)]) G rfl (s4.seqT y3) (by rw [List.length_map]; omega) (fun x hx R hR => ?_) (fun D hD => ?_)⟩
      . obtain ⟨n, hn, rfl⟩ := List.mem_map.mp hx
        rw [hG] at hR
        walk_at "rd"
        refine ⟨by omega, ?_⟩
        rw [show -n = -1 * n by omega]; exact hR
      . have em : (l2.map V.int).map G = (l2.map fun x => -1 * x % p).map V.int := by
          rw [List.map_map, List.map_map]
          exact List.map_congr_left fun n _ => hG n
        rw [em]
        refine ⟨D, rfl, _, .inl ⟨SqL.of upd_same, fun ql hql => ?_⟩⟩
        have sl := (Same.new hD (o := .lst ((l2.map fun x => -1 * x % p).map V.int))).newT hql (o := .tup ((l2.map fun x => -1 * x % p).map V.int))
        refine rCatT2.of ((s4.trans sl).seqT x3) (SqT.of upd_same) (by simp; omega) fun qc H6 s6 hqc => ⟨by omega, fun qz hqz => ?_⟩
        have sz := Same.new hqz (o := .tup [V.int p, V.int L, V.ref qf, V.ref qt, V.ref qc])
        have s46 := sl.trans (s6.trans sz)
        refine k qz _ (s4.trans s46) ⟨qf, qt, qc, SqT.of upd_same, ?_, ?_, (hZ.mono ((s3.trans st).trans s46)).tabs (s46.seqT (SqT.of hqt3))⟩
        . rw [List.map_append]; exact (st.trans s46).seqT hqf
        . rw [List.map_append]; exact sz.seqT hqc
theorem getD_mem66 {α : Type} {z : α} {r : List α} {i : Nat} (h : i < r.length) : r.getD i z ∈ r := by
  rw [List.getD_eq_getElem?_getD, List.getElem?_eq_getElem h]; exact List.getElem_mem h
theorem RowsN.atD {K : PySem.W.Frag} {H : Hp} {xs : List V} {rows : List (List Int)} (h : RowsN K H xs rows) {i : Nat} (hi : i < rows.length) : ∃ t, xs[i]? = some (.ref t) /\ SqT K H t ((rows.getD i []).map V.int) := by
  obtain ⟨t, a, b⟩ := h.2 i rows[i] (by simp [hi])
  refine ⟨t, a, ?_⟩
  rw [List.getD_eq_getElem?_getD, List.getElem?_eq_getElem hi]; exact b
theorem range_mulA {α : Type} (f : Nat -> α) (b : Nat) : ∀ a : Nat, (List.range (a * b)).map f = (List.range a).flatMap fun i => (List.range b).map fun j => f (i * b + j)
  | 0 => by simp
  | a + 1 => by
    rw [Nat.succ_mul, List.range_add, List.map_append, range_mulA f b a, List.range_succ, List.flatMap_append, List.map_map]
    simp [Function.comp_def]
theorem self_range {α : Type} (z : α) (r : List α) : (List.range r.length).map (fun i => r.getD i z) = r := by
  refine List.ext_getElem (by simp) fun i h1 h2 => ?_
  simp [List.getD_eq_getElem?_getD, h2]
theorem cross_range {α β : Type} (z : α) (G : α -> α -> β) (r s : List α) : (List.range (r.length * s.length)).map (fun k => G (r.getD (k / s.length) z) (s.getD (k % s.length) z)) = r.flatMap fun x => s.map fun y => G x y := by
  rw [range_mulA]
  have e : ∀ i : Nat, (List.range s.length).map (fun j => G (r.getD ((i * s.length + j) / s.length) z) (s.getD ((i * s.length + j) % s.length) z)) = s.map fun y => G (r.getD i z) y := fun i => by
    have : ∀ j ∈ List.range s.length, G (r.getD ((i * s.length + j) / s.length) z) (s.getD ((i * s.length + j) % s.length) z) = G (r.getD i z) (s.getD j z) := fun j hj => by
      have hj := List.mem_range.mp hj
      rw [Nat.mul_comm i, Nat.mul_add_div (by omega), Nat.div_eq_of_lt hj, Nat.mul_add_mod, Nat.mod_eq_of_lt hj, Nat.add_zero]
    rw [List.map_congr_left this]
    have : (List.range s.length).map (fun j => G (r.getD i z) (s.getD j z)) = ((List.range s.length).map (fun j => s.getD j z)).map fun y => G (r.getD i z) y := by rw [List.map_map]; rfl
    rw [this, self_range]
  rw [show (fun i => (List.range s.length).map fun j => G (r.getD ((i * s.length + j) / s.length) z) (s.getD ((i * s.length + j) % s.length) z)) = fun i => s.map fun y => G (r.getD i z) y from funext e]
  have : (List.range r.length).flatMap (fun i => s.map fun y => G (r.getD i z) y) = ((List.range r.length).map (fun i => r.getD i z)).flatMap fun x => s.map fun y => G x y := by rw [List.flatMap_map]
  rw [this, self_range]
def sp_lcross (K : PySem.W.Frag) : Sp := fun vs H Q _ => ∃ (p : Int) (a b : Addr) (r s : List Int), vs = [.int p, .ref a, .ref b] /\ 0 < p /\ SqT K H a (r.map V.int) /\ SqT K H b (s.map V.int) /\ r.length <= 16 /\ s.length <= 16 /\ (∀ x ∈ r, -(2 ^ 64) < x /\ x < 2 ^ 64) /\ ∀ q H', Same H H' -> H' q = some (.tup ((crossR p r s).map V.int)) -> Q (.ref q) H'
theorem ok__law_cross {f : Addr} {fd : FuncData} (F : Fun K "_law_cross" "_law_cross" s__law_cross f fd) (T : Txt mg)
    (W : Own K mg)
    (Z : Exs K mg C_AskError C_BadHouse C_BadWord)
    : FnOk P w K mg base CX0 1 f fd ["p", "one", "two"] (sp_lcross K) := by
  refine F.ok sc__law_cross (fun vs H Q E h => ?_) (fun cdv A outer s H vs Q E hr h => ?_)
  . obtain ⟨p, a, b, r, s, rfl, _⟩ := h; rfl
  . obtain ⟨p, a, b, r, s, rfl, hp, ha, hb, hrl, hs, hx, k⟩ := h
    have hl := line1000
    have h16 : r.length * s.length <= 16 * 16 := Nat.mul_le_mul hrl hs
    refine ⟨_, (pss_cons (ps_set (i := 3) sc__law_cross.nd rfl (Or.inr rfl) (pe_callB call_len_seq (by rfl) T.len PySem.boot_len (pa_cons (pv 2) pa_nil)))
      (pss_one (ps_ret (pe_callTy call_tuple_L rfl T.tuple PyProof.Rows.boot_tuple (pa_cons (pe_comp rfl (blk_mk rfl) (cp := c__law_cross_3) ⟨⟨rfl, rfl⟩, ⟨⟨rfl, rfl⟩, ⟨⟨rfl, rfl⟩, ⟨⟨rfl, rfl⟩, True.intro⟩⟩⟩⟩ (pi_range1 rfl T.range (pa_cons (pe_op op_mul (pe_callB call_len_seq (by rfl) T.len PySem.boot_len (pa_cons (pv 1) pa_nil)) (pv 3)) pa_nil)) (fun _ _ _ _ => (pg_name (i := 0) nd_c__law_cross_3 rfl (Or.inl rfl))) (fun _ _ _ _ => pf_nil) (fun _ _ _ _ => (pe_op op_mod (pe_op op_mul (pe_ix (ix_tupK (K := K) rfl) (pv 2) (pe_op op_fdiv (pv 0) (pv 4)) (fun _ _ => rfl)) (pe_ix (ix_tupK (K := K) rfl) (pv 3) (pe_op op_mod (pv 0) (pv 4)) (fun _ _ => rfl))) (pv 1)))) pa_nil))))), ?_⟩
    walk_at "rd"
    refine ⟨_, .inr hb, _, .inr ha, .inl ⟨by rw [List.length_map]; omega, by rw [List.length_map]; omega⟩, ?_⟩
    rw [List.length_map, List.length_map, <- Int.natCast_mul]
    refine ⟨by omega, by omega, ?_⟩
    rw [Int.toNat_natCast]
    refine compR (fun c zs σ4 H4 => H4 = H /\ zs = ((List.range c).map (fun k => r.getD (k / s.length) 0 * s.getD (k % s.length) 0 % p)).map V.int /\ ∃ o, σ4 = [o, some (.int p), some (.ref a), some (.ref b), some (.int s.length)]) ⟨rfl, rfl, none, rfl⟩ (by omega) (fun c zs σ4 H4 _ h4 => ?_) (fun c zs σ4 H4 hc h4 => ?_) (fun zs σ4 H4 h4 D hD => ?_)
    . rw [h4.2.1, List.length_map, List.length_map, List.length_range]; exact Nat.le_refl _
    . obtain ⟨rfl, rfl, o, rfl⟩ := h4
      rw [Int.zero_add]
      walk_at "rd"
      have hs0 : 0 < s.length := by
        rcases Nat.eq_zero_or_pos s.length with h0 | h0
        . rw [h0, Nat.mul_zero] at hc; omega
        . exact h0
      have hcd : c / s.length < r.length := Nat.div_lt_of_lt_mul (by rw [Nat.mul_comm]; exact hc)
      have hcm : c % s.length < s.length := Nat.mod_lt _ hs0
      rw [<- Int.natCast_ediv, <- Int.natCast_emod]
      refine ⟨⟨by omega, by omega⟩, _, ha, _, at_int66 hcd, by omega, _, hb, _, at_int66 hcm, _, rfl, _, rfl, .inl (hx _ (getD_mem66 hcd)), hp, ?_, _, rfl⟩
      rw [List.range_succ, List.map_append, List.map_append]; rfl
    . obtain ⟨rfl, rfl, o, rfl⟩ := h4
      rw [cross_range (0 : Int) (fun x y => x * y % p)]
      exact ⟨D, rfl, _, .inl ⟨SqL.of upd_same, fun q hq => k q _ ((Same.new hD).newT hq) upd_same⟩⟩
def sp_ltimes (K : PySem.W.Frag) : Sp := fun vs H Q _ => ∃ (h g : Addr) (p L : Int) (d e : Nat) (f1 f2 l1 l2 : List Int) (t1 t2 : List (List (List Int))), vs = [.ref h, .ref g] /\ SumH K H h p L f1 t1 l1 /\ SumH K H g p L f2 t2 l2 /\ WfSum p L d f1 t1 l1 /\ WfSum p L e f2 t2 l2 /\ Sm p t1 /\ L <= 6 /\ ∀ q H', Same H H' -> SumH K H' q p L (crossR p f1 f2) (crossTs p t1 t2) (crossR p l1 l2) -> Q (.ref q) H'
theorem ok__law_times_of {f : Addr} {fd : FuncData} (F : Fun K "_law_times_of" "_law_times_of" s__law_times_of f fd) (T : Txt mg)
    (W : Own K mg)
    (Z : Exs K mg C_AskError C_BadHouse C_BadWord)
    {f__law_cross : Addr} {fd__law_cross : FuncData} (g__law_cross : FnOk P w K mg base CX0 1 f__law_cross fd__law_cross ["p", "one", "two"] (sp_lcross K)) (F__law_cross : Fun K "_law_cross" "_law_cross" s__law_cross f__law_cross fd__law_cross) (b__law_cross : Binds K fd__law_cross ["p", "one", "two"] []) (m__law_cross : mg "_law_cross" = some (.ref f__law_cross))
    : FnOk P w K mg base CX0 2 f fd ["one", "two"] (sp_ltimes K) := by
  refine F.ok sc__law_times_of (fun vs H Q E h => ?_) (fun cdv A outer s H vs Q E hr h => ?_)
  . obtain ⟨h, g, p, L, d, e, f1, f2, l1, l2, t1, t2, rfl, _⟩ := h; rfl
  . obtain ⟨h, g, p, L, d, e, f1, f2, l1, l2, t1, t2, rfl, ⟨a1, a2, a3, x1, x2, x3, xA⟩, ⟨b1, b2, b3, y1, y2, y3, yA⟩, wf, wg, hsm, hL6, k⟩ := h
    have hl := line1000
    obtain ⟨us, x4, x5, x6⟩ := xA.list
    obtain ⟨vs, y4, y5, y6⟩ := yA.list
    have hd := wf.dl
    have he := wg.dl
    have hp2 := wf.p2
    have hp18 := wf.p18
    have ht := wf.t
    have ht' := wg.t
    have h1f := wf.f.1
    have h2f := wg.f.1
    have h1l := wf.l.1
    have h2l := wg.l.1
    have h16 : d * e <= 16 * 16 := Nat.mul_le_mul hd he
    refine ⟨_, (pss_cons (ps_set (i := 2) sc__law_times_of.nd rfl (Or.inl rfl) (pe_ix ix_tup (pv 0) pe_int (fun _ _ => rfl)))
      (pss_cons (ps_set (i := 3) sc__law_times_of.nd rfl (Or.inl rfl) (pe_callB call_len_seq (by rfl) T.len PySem.boot_len (pa_cons (pe_ix ix_tup (pv 1) pe_int (fun _ _ => rfl)) pa_nil)))
      (pss_cons (ps_set (i := 4) sc__law_times_of.nd rfl (Or.inl rfl) (pe_lst pa_nil))
      (pss_cons (ps_for PassesOwn.never rfl (pi_range1 rfl T.range (pa_cons (pe_ix ix_tup (pv 0) pe_int (fun _ _ => rfl)) pa_nil)) (pg_name (i := 5) sc__law_times_of.nd rfl (Or.inl rfl))
      (pss_cons (ps_set (i := 6) sc__law_times_of.nd rfl (Or.inl rfl) (pe_lst pa_nil))
      (pss_cons (ps_for PassesOwn.never rfl (pi_range1 rfl T.range (pa_cons (pe_op op_mul (pe_callB call_len_seq (by rfl) T.len PySem.boot_len (pa_cons (pe_ix ix_tup (pv 0) pe_int (fun _ _ => rfl)) pa_nil)) (pv 3)) pa_nil)) (pg_name (i := 7) sc__law_times_of.nd rfl (Or.inl rfl))
      (pss_one (ps_expr (pe_bm PySem.F.plainAttrs_list PySem.F.slot_list_append PySem.F.type_list_append mt_append (pv 6) (pa_cons (pe_call g__law_cross (hr.mono (by decide)) rfl m__law_cross F__law_cross.kp b__law_cross .nil pass0 (pa_cons (pv 2) (pa_cons (pe_ix ix_tup (pe_ix ix_tup (pe_ix ix_tup (pv 0) pe_int (fun _ _ => rfl)) (pv 5) (fun _ _ => rfl)) (pe_op op_fdiv (pv 7) (pv 3)) (fun _ _ => rfl)) (pa_cons (pe_ix ix_tup (pe_ix ix_tup (pe_ix ix_tup (pv 1) pe_int (fun _ _ => rfl)) (pv 5) (fun _ _ => rfl)) (pe_op op_mod (pv 7) (pv 3)) (fun _ _ => rfl)) pa_nil)))) pa_nil)))))
      (pss_one (ps_expr (pe_bm PySem.F.plainAttrs_list PySem.F.slot_list_append PySem.F.type_list_append mt_append (pv 4) (pa_cons (pe_callTy call_tuple_L rfl T.tuple PyProof.Rows.boot_tuple (pa_cons (pv 6) pa_nil)) pa_nil)))))))
      (pss_one (ps_ret (pe_tup (pa_cons (pv 2) (pa_cons (pe_ix ix_tup (pv 0) pe_int (fun _ _ => rfl)) (pa_cons (pe_call g__law_cross (hr.mono (by decide)) rfl m__law_cross F__law_cross.kp b__law_cross .nil pass0 (pa_cons (pv 2) (pa_cons (pe_ix ix_tup (pv 0) pe_int (fun _ _ => rfl)) (pa_cons (pe_ix ix_tup (pv 1) pe_int (fun _ _ => rfl)) pa_nil)))) (pa_cons (pe_callTy call_tuple_L rfl T.tuple PyProof.Rows.boot_tuple (pa_cons (pv 4) pa_nil)) (pa_cons (pe_call g__law_cross (hr.mono (by decide)) rfl m__law_cross F__law_cross.kp b__law_cross .nil pass0 (pa_cons (pv 2) (pa_cons (pe_ix ix_tup (pv 0) pe_int (fun _ _ => rfl)) (pa_cons (pe_ix ix_tup (pv 1) pe_int (fun _ _ => rfl)) pa_nil)))) pa_nil)))))))))))), ?_⟩
    walk_at "rd"
    refine ⟨_, x1, _, rfl, _, y1, _, rfl, b1, rfl, _, .inr y2, by omega, fun q hq => ⟨_, (Same.new hq).seqT x1, _, rfl, _, rfl, by omega, by omega, ?_⟩⟩
    rw [List.length_map, h2f]
    obtain ⟨Pv, hPv⟩ : ∃ Pv : Nat -> St -> Hp -> Prop, ∀ i σ' H', Pv i σ' H' ↔ (∃ (zs : List V) (o1 o2 o3 : Option V), Same H H' /\ H' q = some (.lst zs) /\ TabsL K H' zs ((crossTs p t1 t2).take i) /\ σ' = [some (.ref h), some (.ref g), some (.int p), some (.int e), some (.ref q), o1, o2, o3]) := ⟨_, fun _ _ _ => Iff.rfl⟩
    refine forR Pv ((hPv _ _ _).mpr ⟨[], none, none, none, Same.new hq, upd_same, TabsL.nil, rfl⟩) (fun i σ2 H2 hi h2 => ?_) (fun σ2 H2 h2 => ?_)
    . obtain ⟨zs, o1, o2, o3, s2, hq2, hZ, rfl⟩ := (hPv _ _ _).mp h2
      rw [Int.zero_add]
      walk_at "rd"
      have hi1 : i < t1.length := by omega
      have hi2 : i < t2.length := by omega
      have e1 : t1[i]? = some t1[i] := by simp [hi1]
      have e2 : t2[i]? = some t2[i] := by simp [hi2]
      obtain ⟨u, xs, c1, c2, c3⟩ := x6 i _ e1
      obtain ⟨v, ys, d1, d2, d3⟩ := y6 i _ e2
      have hw1 := wf.tt _ (List.mem_of_getElem? e1)
      have hw2 := wg.tt _ (List.mem_of_getElem? e2)
      have hm1 := hsm _ (List.mem_of_getElem? e1)
      generalize t1[i] = A1 at e1 c3 hw1 hm1
      generalize t2[i] = A2 at e2 d3 hw2
      refine ⟨Nat.zero_le _, fun pt hpt => ?_⟩
      have spt := Same.new hpt (o := .lst [])
      have s2t := s2.trans spt
      refine ⟨_, s2t.seqT x1, _, rfl, a1, rfl, _, .inr (s2t.seqT x2), .inl ⟨by rw [List.length_map]; omega, by rw [List.length_map]; omega⟩, ?_⟩
      rw [List.length_map, h1f, <- Int.natCast_mul]
      refine ⟨by omega, by omega, ?_⟩
      rw [Int.toNat_natCast]
      obtain ⟨Pw, hPw⟩ : ∃ Pw : Nat -> St -> Hp -> Prop, ∀ j σ' H', Pw j σ' H' ↔ (∃ (ws : List V) (o : Option V), Same H2 H' /\ H' pt = some (.lst ws) /\ RowsN K H' ws ((List.range j).map fun k => crossR p (A1.getD (k / e) []) (A2.getD (k % e) [])) /\ σ' = [some (.ref h), some (.ref g), some (.int p), some (.int e), some (.ref q), some (.int i), some (.ref pt), o]) := ⟨_, fun _ _ _ => Iff.rfl⟩
      refine forR Pw ((hPw _ _ _).mpr ⟨[], _, spt, upd_same, RowsN.nil, rfl⟩) (fun j σ3 H3 hj h3 => ?_) (fun σ3 H3 h3 => ?_)
      . obtain ⟨ws, o, s3, hp3, hW, rfl⟩ := (hPw _ _ _).mp h3
        rw [Int.zero_add]
        have he0 : 0 < e := by
          rcases Nat.eq_zero_or_pos e with h0 | h0
          . rw [h0, Nat.mul_zero] at hj; omega
          . exact h0
        have hjd : j / e < A1.length := by rw [hw1.1]; exact Nat.div_lt_of_lt_mul (by rw [Nat.mul_comm]; exact hj)
        have hjm : j % e < A2.length := by rw [hw2.1]; exact Nat.mod_lt _ he0
        obtain ⟨m1, n1, n2⟩ := c3.atD hjd
        obtain ⟨m2, k1, k2⟩ := d3.atD hjm
        have r1 := getD_mem66 (z := []) hjd
        have r2 := getD_mem66 (z := []) hjm
        have q1 := hw1.2 _ r1
        have q2 := hw2.2 _ r2
        have s23 := s2.trans s3
        walk_at "rd"
        rw [<- Int.natCast_ediv, <- Int.natCast_emod]
        refine ⟨.inl ⟨rfl, _, SqL.of hp3⟩, _, s23.seqT x1, _, rfl, a2, rfl, _, s23.seqT x4, _, atI_nat c1, ⟨by omega, by omega⟩, u, rfl, _, s23.seqT c2, _, atI_nat n1, _, s23.seqT y1, _, rfl, b2, rfl, _, s23.seqT y4, _, atI_nat d1, by omega, v, rfl, _, s23.seqT d2, _, atI_nat k1, ?_⟩
        refine ⟨p, m1, m2, _, _, rfl, by omega, s23.seqT n2, s23.seqT k2, by omega, by omega, (fun x hx => by have := hm1 _ r1 x hx; omega), fun qn H4 s4 hqn => ⟨_, s4 _ _ hp3, by have := hW.1; rw [List.length_map, List.length_range] at this; omega, (hPw _ _ _).mpr ⟨_, _, (s3.trans s4).over hpt, upd_same, ?_, rfl⟩⟩⟩
        rw [List.range_succ, List.map_append]
        exact RowsN.off66 (s4 _ _ hp3) ((hW.mono s4).snoc (SqT.of hqn))
      . obtain ⟨ws, o, s3, hp3, hW, rfl⟩ := (hPw _ _ _).mp h3
        have ecr : (List.range (d * e)).map (fun k => crossR p (A1.getD (k / e) []) (A2.getD (k % e) [])) = crossT p A1 A2 := by
          have := cross_range ([] : List Int) (crossR p) A1 A2
          rw [hw1.1, hw2.1] at this
          exact this
        rw [ecr] at hW
        walk_at "rd"
        refine ⟨.inl ⟨rfl, _, SqL.of (s3 _ _ hq2)⟩, _, .inl ⟨SqL.of hp3, fun qt hqt => ?_⟩⟩
        have sq := Same.new hqt (o := .tup ws)
        have s2q := s3.trans sq
        have hqq := s2q _ _ hq2
        have hzz := hZ.1
        rw [List.length_take] at hzz
        refine ⟨_, hqq, by omega, (hPv _ _ _).mpr ⟨_, _, _, _, (s2.trans s2q).over hq, upd_same, ?_, rfl⟩⟩
        unfold crossTs at hZ ⊢
        rw [zipWith_take _ e1 e2]
        exact TabsL.off66 hqq ((hZ.mono s2q).snoc (SqT.of upd_same) (hW.mono sq))
    . obtain ⟨zs, o1, o2, o3, s2, hq2, hZ, rfl⟩ := (hPv _ _ _).mp h2
      rw [List.take_of_length_le (by unfold crossTs; rw [List.length_zipWith]; omega)] at hZ
      walk_at "rd"
      refine ⟨_, s2.seqT x1, _, rfl, _, s2.seqT x1, _, rfl, _, s2.seqT y1, _, rfl, p, a1, b1, f1, f2, rfl, by omega, s2.seqT x2, s2.seqT y2, by omega, by omega, (fun x hx => by have := wf.f.2 x hx; omega), fun qf H3 s3 hqf => ⟨_, .inl ⟨SqL.of (s3 _ _ hq2), fun qt hqt => ?_⟩⟩⟩
      have st := Same.new hqt (o := .tup zs)
      have hqt3 : upd H3 qt (.tup zs) qt = some (.tup zs) := upd_same
      generalize upd H3 qt (.tup zs) = H4 at st hqt3 ⊢
      have s4 := (s2.trans s3).trans st
      refine ⟨_, s4.seqT x1, _, rfl, _, s4.seqT y1, _, rfl, p, a3, b3, l1, l2, rfl, by omega, s4.seqT x3, s4.seqT y3, by omega, by omega, (fun x hx => by have := wf.l.2 x hx; omega), fun ql H5 s5 hql => ⟨by omega, fun qz hqz => ?_⟩⟩
      have sz := Same.new hqz (o := .tup [V.int p, V.int L, V.ref qf, V.ref qt, V.ref ql])
      have s5z := s5.trans sz
      exact k qz _ (s4.trans s5z) ⟨qf, qt, ql, SqT.of upd_same, (st.trans s5z).seqT (SqT.of hqf), sz.seqT (SqT.of hql), (hZ.mono ((s3.trans st).trans s5z)).tabs (s5z.seqT (SqT.of hqt3))⟩
theorem ok__law_back {f : Addr} {fd : FuncData} (F : Fun K "_law_back" "_law_back" s__law_back f fd) (T : Txt mg)
    (W : Own K mg)
    (Z : Exs K mg C_AskError C_BadHouse C_BadWord)
    : FnOk P w K mg base CX0 1 f fd ["house"] (sp_sback K) := by
  refine F.ok sc__law_back (fun vs H Q E h => ?_) (fun cdv A outer s H vs Q E hr h => ?_)
  . obtain ⟨h, p, L, d, f, l, t, rfl, _⟩ := h; rfl
  . obtain ⟨h, p, L, d, f, l, t, rfl, ⟨a1, a2, a3, x1, x2, x3, xA⟩, wf, hL6, k⟩ := h
    have hl := line1000
    obtain ⟨us, x4, x5, x6⟩ := xA.list
    have ht := wf.t
    have hd := wf.dl
    refine ⟨_, (pss_cons (ps_set (i := 1) sc__law_back.nd rfl (Or.inl rfl) (pe_lst pa_nil))
      (pss_cons (ps_for PassesOwn.never rfl (pi_tup (pe_ix ix_tup (pv 0) pe_int (fun _ _ => rfl))) (pg_name (i := 2) sc__law_back.nd rfl (Or.inl rfl))
      (pss_cons (ps_set (i := 3) sc__law_back.nd rfl (Or.inl rfl) (pe_lst pa_nil))
      (pss_cons (ps_for PassesOwn.never rfl (pi_range1 rfl T.range (pa_cons (pe_callB call_len_seq (by rfl) T.len PySem.boot_len (pa_cons (pv 2) pa_nil)) pa_nil)) (pg_name (i := 4) sc__law_back.nd rfl (Or.inr rfl))
      (pss_one (ps_expr (pe_bm PySem.F.plainAttrs_list PySem.F.slot_list_append PySem.F.type_list_append mt_append (pv 3) (pa_cons (pe_callTy call_tuple_L rfl T.tuple PyProof.Rows.boot_tuple (pa_cons (pe_comp rfl (blk_mk rfl) (cp := c__law_back_3) ⟨⟨rfl, rfl⟩, True.intro⟩ (pi_tup (pv 2)) (fun _ _ _ _ => (pg_name (i := 0) nd_c__law_back_3 rfl (Or.inl rfl))) (fun _ _ _ _ => pf_nil) (fun _ _ _ _ => (pe_ix (ix_tupK (K := K) rfl) (pv 0) (pv 1) (fun _ _ => rfl)))) pa_nil)) pa_nil)))))
      (pss_one (ps_expr (pe_bm PySem.F.plainAttrs_list PySem.F.slot_list_append PySem.F.type_list_append mt_append (pv 1) (pa_cons (pe_callTy call_tuple_L rfl T.tuple PyProof.Rows.boot_tuple (pa_cons (pv 3) pa_nil)) pa_nil)))))))
      (pss_one (ps_ret (pe_tup (pa_cons (pe_ix ix_tup (pv 0) pe_int (fun _ _ => rfl)) (pa_cons (pe_ix ix_tup (pv 0) pe_int (fun _ _ => rfl)) (pa_cons (pe_ix ix_tup (pv 0) pe_int (fun _ _ => rfl)) (pa_cons (pe_callTy call_tuple_L rfl T.tuple PyProof.Rows.boot_tuple (pa_cons (pv 1) pa_nil)) (pa_cons (pe_ix ix_tup (pv 0) pe_int (fun _ _ => rfl)) pa_nil)))))))))), ?_⟩
    walk_at "rd"
    refine ⟨Nat.zero_le _, fun q hq => ⟨_, (Same.new hq).seqT x1, _, rfl, a2, rfl, ⟨_, (Same.new hq).seqT x4⟩, ?_⟩⟩
    obtain ⟨Pv, hPv⟩ : ∃ Pv : Nat -> St -> Hp -> Prop, ∀ i σ' H', Pv i σ' H' ↔ (∃ (zs : List V) (o1 o2 o3 : Option V), Same H H' /\ H' q = some (.lst zs) /\ TabsL K H' zs ((t.map (backT d)).take i) /\ σ' = [some (.ref h), some (.ref q), o1, o2, o3]) := ⟨_, fun _ _ _ => Iff.rfl⟩
    refine forT (xs := us) Pv ((hPv _ _ _).mpr ⟨[], none, none, none, Same.new hq, upd_same, TabsL.nil, rfl⟩) (fun i σ' H' _ h' => by obtain ⟨_, _, _, _, s', _⟩ := (hPv _ _ _).mp h'; exact s'.seqT x4) (fun i x σ2 H2 hx h2 => ?_) (fun σ2 H2 h2 => ?_)
    . obtain ⟨zs, o1, o2, o3, s2, hq2, hZ, rfl⟩ := (hPv _ _ _).mp h2
      have hi : i < t.length := by rw [<- x5]; exact (List.getElem?_eq_some_iff.mp hx).1
      have e1 : t[i]? = some t[i] := by simp [hi]
      obtain ⟨u, xs, c1, c2, c3⟩ := x6 i _ e1
      rw [hx] at c1
      cases c1
      have hw1 := wf.tt _ (List.mem_of_getElem? e1)
      generalize t[i] = A1 at e1 c3 hw1
      walk_at "rd"
      refine ⟨Nat.zero_le _, fun pt hpt => ?_⟩
      have spt := Same.new hpt (o := .lst [])
      have s2t := s2.trans spt
      refine ⟨_, .inr (s2t.seqT c2), by rw [c3.1]; omega, by rw [c3.1]; omega, ?_⟩
      rw [Int.toNat_natCast, c3.1, hw1.1]
      obtain ⟨Pw, hPw⟩ : ∃ Pw : Nat -> St -> Hp -> Prop, ∀ j σ' H', Pw j σ' H' ↔ (∃ (ws : List V) (o : Option V), Same H2 H' /\ H' pt = some (.lst ws) /\ RowsN K H' ws ((List.range j).map fun c => colW A1 c) /\ σ' = [some (.ref h), some (.ref q), some (.ref u), some (.ref pt), o]) := ⟨_, fun _ _ _ => Iff.rfl⟩
      refine forR Pw ((hPw _ _ _).mpr ⟨[], _, spt, upd_same, RowsN.nil, rfl⟩) (fun j σ3 H3 hj h3 => ?_) (fun σ3 H3 h3 => ?_)
      . obtain ⟨ws, o, s3, hp3, hW, rfl⟩ := (hPw _ _ _).mp h3
        rw [Int.zero_add]
        have s23 := s2.trans s3
        walk_at "rd"
        refine ⟨.inl ⟨rfl, _, SqL.of hp3⟩, ?_⟩
        refine col_comp (σ' := [some (.int j)]) j rfl (s23.seqT c2) (c3.mono s23) (fun r hr' => by rw [hw1.2 r hr']; exact hj) (by omega) (fun t r R hcr ht hR => ?_) (fun D hD => ?_)
        . walk_at "rd"
          exact ⟨_, ht, _, at_int66 hcr, hR⟩
        . refine ⟨D, rfl, _, .inl ⟨SqL.of upd_same, fun qn hqn => ?_⟩⟩
          have sq := (Same.new hD (o := .lst ((colW A1 j).map V.int))).newT hqn (o := .tup ((colW A1 j).map V.int))
          refine ⟨_, sq _ _ hp3, by have := hW.1; rw [List.length_map, List.length_range] at this; omega, (hPw _ _ _).mpr ⟨_, _, (s3.trans sq).over hpt, upd_same, ?_, rfl⟩⟩
          rw [List.range_succ, List.map_append]
          exact RowsN.off66 (sq _ _ hp3) ((hW.mono sq).snoc (SqT.of upd_same))
      . obtain ⟨ws, o, s3, hp3, hW, rfl⟩ := (hPw _ _ _).mp h3
        walk_at "rd"
        refine ⟨.inl ⟨rfl, _, SqL.of (s3 _ _ hq2)⟩, _, .inl ⟨SqL.of hp3, fun qt hqt => ?_⟩⟩
        have sq := Same.new hqt (o := .tup ws)
        have s2q := s3.trans sq
        have hqq := s2q _ _ hq2
        have hzz := hZ.1
        rw [List.length_take, List.length_map] at hzz
        refine ⟨_, hqq, by omega, (hPv _ _ _).mpr ⟨_, _, _, _, (s2.trans s2q).over hq, upd_same, ?_, rfl⟩⟩
        rw [List.take_add_one, List.getElem?_map, e1]
        exact TabsL.off66 hqq ((hZ.mono s2q).snoc (SqT.of upd_same) (hW.mono sq))
    . obtain ⟨zs, o1, o2, o3, s2, hq2, hZ, rfl⟩ := (hPv _ _ _).mp h2
      rw [List.take_of_length_le (by rw [List.length_map]; omega)] at hZ
      walk_at "rd"
      refine ⟨_, s2.seqT x1, _, rfl, _, s2.seqT x1, _, rfl, _, s2.seqT x1, _, rfl, _, .inl ⟨SqL.of hq2, fun qt hqt => ?_⟩⟩
      have st := Same.new hqt (o := .tup zs)
      have s4 := s2.trans st
      refine ⟨_, s4.seqT x1, _, rfl, by omega, fun qz hqz => ?_⟩
      have sz := Same.new hqz (o := .tup [V.int p, V.int L, V.ref a3, V.ref qt, V.ref a1])
      have s5 := s4.trans sz
      exact k qz _ s5 ⟨a3, qt, a1, SqT.of upd_same, s5.seqT x3, s5.seqT x2, (hZ.mono (st.trans sz)).tabs (sz.seqT (SqT.of upd_same))⟩
def zr (n : Nat) : List Int := List.replicate n 0
def zt (n : Nat) : List (List Int) := List.replicate n (zr n)
def sp_blank66 (K : PySem.W.Frag) : Sp := fun vs H Q _ => ∃ (p : Int) (n : Nat), vs = [.int p, .int n] /\ n <= 16 /\ ∀ q H', Same H H' -> SumH K H' q p 1 (zr n) [zt n] (zr n) -> Q (.ref q) H'
theorem blank_wf {p : Int} {n : Nat} (p2 : 2 <= p) (p18 : p < 1000000000000000000) (hn : n <= 16) : WfSum p 1 n (zr n) [zt n] (zr n) := by
  have z : ∀ x ∈ zr n, 0 <= x /\ x < p := fun x hx => by rw [(List.mem_replicate.mp hx).2]; omega
  refine ⟨p2, p18, hn, ⟨List.length_replicate, z⟩, ⟨List.length_replicate, z⟩, rfl, fun tb htb => ?_⟩
  rw [List.mem_singleton.mp htb]
  exact ⟨List.length_replicate, fun r hr => by rw [(List.mem_replicate.mp hr).2]; exact List.length_replicate⟩
theorem blank_sm {p : Int} {n : Nat} (p2 : 2 <= p) : Sm p [zt n] := fun tb htb r hr x hx => by
  rw [List.mem_singleton.mp htb] at hr
  rw [(List.mem_replicate.mp hr).2] at hx
  rw [(List.mem_replicate.mp hx).2]; omega
theorem repT66 {K : PySem.W.Frag} {H : Hp} {p0 : Addr} {n : Nat} {Q : VK} (h0 : H p0 = some (.tup [V.int 0])) (hn : n <= 16) (hk : ∀ q H', Same H H' -> SqT K H' q ((zr n).map V.int) -> Q (.ref q) H') : rRepT K (.ref p0) (.int n) H Q := by
  have hl := line1000
  refine rRepT.of (SqT.of h0) (by simp) (by omega) (by omega) (by simp; omega) fun q H' s' hq => hk q H' s' ?_
  rw [Int.toNat_natCast, rep_ints] at hq
  exact hq
theorem ok__law_blank {f : Addr} {fd : FuncData} (F : Fun K "_law_blank" "_law_blank" s__law_blank f fd) (T : Txt mg)
    (W : Own K mg)
    (Z : Exs K mg C_AskError C_BadHouse C_BadWord)
    : FnOk P w K mg base CX0 1 f fd ["p", "many"] (sp_blank66 K) := by
  refine F.ok sc__law_blank (fun vs H Q E h => ?_) (fun cdv A outer s H vs Q E hr h => ?_)
  . obtain ⟨p, n, rfl, _⟩ := h; rfl
  . obtain ⟨p, n, rfl, hn, k⟩ := h
    have hl := line1000
    refine ⟨_, (pss_cons (ps_set (i := 2) sc__law_blank.nd rfl (Or.inl rfl) (pe_callTy call_tuple_L rfl T.tuple PyProof.Rows.boot_tuple (pa_cons (pe_comp rfl (blk_mk rfl) (cp := c__law_blank_3) ⟨⟨rfl, rfl⟩, True.intro⟩ (pi_range1 rfl T.range (pa_cons (pv 1) pa_nil)) (fun _ _ _ _ => (pg_name (i := 0) nd_c__law_blank_3 rfl (Or.inl rfl))) (fun _ _ _ _ => pf_nil) (fun _ _ _ _ => (pe_op (op_repTK (K := K) rfl) (pe_tup (pa_cons pe_int pa_nil)) (pv 1)))) pa_nil)))
      (pss_one (ps_ret (pe_tup (pa_cons (pv 0) (pa_cons pe_int (pa_cons (pe_op op_repT (pe_tup (pa_cons pe_int pa_nil)) (pv 1)) (pa_cons (pe_tup (pa_cons (pv 2) pa_nil)) (pa_cons (pe_op op_repT (pe_tup (pa_cons pe_int pa_nil)) (pv 1)) pa_nil))))))))), ?_⟩
    walk_at "rd"
    refine ⟨by omega, by omega, ?_⟩
    rw [Int.toNat_natCast]
    refine compR (fun c zs σ4 H4 => Same H H4 /\ RowsN K H4 zs (List.replicate c (zr n)) /\ ∃ o, σ4 = [o, some (.int n)]) ⟨Same.refl _, RowsN.nil, none, rfl⟩ (by omega) (fun c zs σ4 H4 _ h4 => ?_) (fun c zs σ4 H4 hc h4 => ?_) (fun zs σ4 H4 h4 D hD => ?_)
    . rw [h4.2.1.1, List.length_replicate]; exact Nat.le_refl _
    . obtain ⟨s4, hZ, o, rfl⟩ := h4
      rw [Int.zero_add]
      walk_at "rd"
      refine ⟨by omega, fun p0 hp0 => repT66 upd_same hn fun q H5 s5 hq => ⟨(s4.newT hp0).trans s5, ?_, _, rfl⟩⟩
      rw [<- List.replicate_succ, List.replicate_succ']
      exact (hZ.mono ((Same.new hp0).trans s5)).snoc hq
    . obtain ⟨s4, hZ, o, rfl⟩ := h4
      refine ⟨D, rfl, _, .inl ⟨SqL.of upd_same, fun q hq => ?_⟩⟩
      have sq := (Same.new hD (o := .lst zs)).newT hq (o := .tup zs)
      have hqq : upd (upd H4 D (.lst zs)) q (.tup zs) q = some (.tup zs) := upd_same
      have hZq := hZ.mono sq
      have s5 := s4.trans sq
      generalize upd (upd H4 D (.lst zs)) q (.tup zs) = H5 at sq hqq hZq s5 ⊢
      refine ⟨by omega, fun p0 hp0 => repT66 upd_same hn fun qf H6 s6 hqf => ⟨by omega, fun qt hqt => ⟨by omega, fun p1 hp1 => repT66 upd_same hn fun ql H7 s7 hql => ⟨by omega, fun qz hqz => ?_⟩⟩⟩⟩
      have sz := Same.new hqz (o := .tup [V.int p, V.int 1, V.ref qf, V.ref qt, V.ref ql])
      have st := Same.new hqt (o := .tup [V.ref q])
      have s67 := (Same.new hp1 (o := .tup [V.int 0])).trans s7
      have s56 := (Same.new hp0 (o := .tup [V.int 0])).trans s6
      have s6z := st.trans (s67.trans sz)
      have s5z := s56.trans s6z
      exact k qz _ (s5.trans s5z) ⟨qf, qt, ql, SqT.of upd_same, s6z.seqT hqf, sz.seqT hql, (TabsL.nil.snoc (s5z.seqT (SqT.of hqq)) (hZq.mono s5z)).tabs ((s67.trans sz).seqT (SqT.of upd_same))⟩
theorem len_nat66 {p L : Int} {d : Nat} {f l : List Int} {t : List (List (List Int))} (wf : WfSum p L d f t l) : t.length = L.toNat /\ (L.toNat : Int) = L := by have := wf.t; omega
theorem less_val {p L : Int} {d e : Nat} {f1 f2 l1 l2 ws : List Int} {t1 t2 : List (List (List Int))} (wf : WfSum p L d f1 t1 l1) (wg : WfSum p L e f2 t2 l2) (hw : isW L ws = true) :
    dotW (l1 ++ l2.map fun x => -1 * x % p) (rowS p (d + e) (lessTs d e t1 t2) (f1 ++ f2) ws) % p = (dotW (rowS p d t1 f1 ws) l1 % p - dotW (rowS p e t2 f2 ws) l2 % p) % p := by
  obtain ⟨n1, nL⟩ := len_nat66 wf
  obtain ⟨n2, _⟩ := len_nat66 wg
  have hws : ∀ x ∈ ws, 0 <= x /\ x < (L.toNat : Int) := fun x hx => by rw [nL]; exact isW_iff.mp hw x hx
  have c0 := rowS_cg (p := p) (d := d + e) (fun i => cgT.refl p ((lessTs d e t1 t2).getD i [])) ws (cg.refl p (f1 ++ f2))
  rw [less_row (L := L.toNat) (T := lessTs d e t1 t2) (t1 := t1) (t2 := t2) (fun i hi => zip_getD (d := d) (e := e) (lessT d e) (by omega) (by omega)) (fun i hi => wf.dim (by omega)) (fun i hi => wg.dim (by omega)) ws hws wf.f.1 wg.f.1] at c0
  have cl : cg p (l1 ++ l2.map fun x => -1 * x % p) (l1 ++ l2.map (-1 * ·)) := cg.app (cg.refl _ _) (cg.map fun x _ => Int.emod_emod_of_dvd _ (Int.dvd_refl p))
  have c1 := rowS_cg (p := p) (d := d) (fun i => cgT.refl p (t1.getD i [])) ws (cg.refl p f1)
  have c2 := rowS_cg (p := p) (d := e) (fun i => cgT.refl p (t2.getD i [])) ws (cg.refl p f2)
  rw [cg.dot cl c0, dot_app _ _ _ _ (by rw [wf.l.1, rowI_len ws wf.f.1]), dot_scale, cg.dot c1 (cg.refl p l1), cg.dot c2 (cg.refl p l2), <- Int.sub_emod, dot_comm l1, dot_comm l2]
  congr 1
  omega
theorem times_val {p L : Int} {d e : Nat} {f1 f2 l1 l2 ws : List Int} {t1 t2 : List (List (List Int))} (wf : WfSum p L d f1 t1 l1) (wg : WfSum p L e f2 t2 l2) (hw : isW L ws = true) :
    dotW (crossR p l1 l2) (rowS p (d * e) (crossTs p t1 t2) (crossR p f1 f2) ws) % p = (dotW (rowS p d t1 f1 ws) l1 % p) * (dotW (rowS p e t2 f2 ws) l2 % p) % p := by
  obtain ⟨n1, nL⟩ := len_nat66 wf
  obtain ⟨n2, _⟩ := len_nat66 wg
  have hws : ∀ x ∈ ws, 0 <= x /\ x < (L.toNat : Int) := fun x hx => by rw [nL]; exact isW_iff.mp hw x hx
  have ct : ∀ i : Nat, cgT p ((crossTs p t1 t2).getD i []) ((List.zipWith crossTI t1 t2).getD i []) := fun i => by
    by_cases hi : i < t1.length
    . unfold crossTs
      rw [zip_getD (d := d) (e := e) (crossT p) hi (by omega), zip_getD (d := d) (e := e) crossTI hi (by omega)]
      exact crossT_cg p _ _
    . unfold crossTs
      rw [List.getD_eq_getElem?_getD, List.getD_eq_getElem?_getD, List.getElem?_eq_none (by rw [List.length_zipWith]; omega), List.getElem?_eq_none (by rw [List.length_zipWith]; omega)]
      exact cgT.refl p _
  have c0 := rowS_cg (p := p) (d := d * e) ct ws (cross_cg p f1 f2)
  rw [cross_row (L := L.toNat) (t1 := t1) (t2 := t2) (fun i hi => zip_getD (d := d) (e := e) crossTI (by omega) (by omega)) (fun i hi => wf.dim (by omega)) (fun i hi => wg.dim (by omega)) ws hws wf.f.1 wg.f.1] at c0
  have c1 := rowS_cg (p := p) (d := d) (fun i => cgT.refl p (t1.getD i [])) ws (cg.refl p f1)
  have c2 := rowS_cg (p := p) (d := e) (fun i => cgT.refl p (t2.getD i [])) ws (cg.refl p f2)
  rw [cg.dot (cross_cg p l1 l2) c0, cross_dot _ _ _ _ (by rw [wf.l.1, rowI_len ws wf.f.1]) (by rw [wg.l.1, rowI_len ws wg.f.1]), cg.dot c1 (cg.refl p l1), cg.dot c2 (cg.refl p l2), <- Int.mul_emod, dot_comm l1, dot_comm l2]
theorem isW_rev {L : Int} {ws : List Int} (h : isW L ws = true) : isW L ws.reverse = true := isW_iff.mpr fun x hx => isW_iff.mp h x (List.mem_reverse.mp hx)
theorem back_val {p L : Int} {d : Nat} {f l ws : List Int} {t : List (List (List Int))} (wf : WfSum p L d f t l) (hw : isW L ws = true) : dotW f (rowS p d (t.map (backT d)) l ws.reverse) % p = dotW (rowS p d t f ws) l % p := by
  obtain ⟨n1, nL⟩ := len_nat66 wf
  have hws : ∀ x ∈ ws, 0 <= x /\ x < (L.toNat : Int) := fun x hx => by rw [nL]; exact isW_iff.mp hw x hx
  have c0 := rowS_cg (p := p) (d := d) (fun i => cgT.refl p ((t.map (backT d)).getD i [])) ws.reverse (cg.refl p l)
  have c1 := rowS_cg (p := p) (d := d) (fun i => cgT.refl p (t.getD i [])) ws (cg.refl p f)
  rw [cg.dot (cg.refl p f) c0, cg.dot c1 (cg.refl p l), back_row (L := L.toNat) (T := t.map (backT d)) (fun i hi => ?_) (fun i hi => wf.dim (by omega)) ws hws wf.f.1 wf.l.1]
  have h1 : i < t.length := by omega
  rw [List.getD_eq_getElem?_getD, List.getElem?_map, List.getD_eq_getElem?_getD, List.getElem?_eq_getElem h1]; rfl
def BadPair (u1 u2 fv : Addr) (p q L M : Int) (d e : Nat) : Prop := (fv = u1 /\ ¬ (p = q /\ L = M /\ d + e <= 16)) \/ (fv = u2 /\ ¬ (p = q /\ L = M /\ d * e <= 16))
def sp_refused66 (K : PySem.W.Frag) (u1 u2 : Addr) : Sp := fun vs H Q _ => ∃ (fv h g : Addr) (p q L M : Int) (d e : Nat) (f1 f2 l1 l2 : List Int) (t1 t2 : List (List (List Int))), vs = [.ref fv, .ref h, .ref g] /\ SumH K H h p L f1 t1 l1 /\ SumH K H g q M f2 t2 l2 /\ WfSum p L d f1 t1 l1 /\ WfSum q M e f2 t2 l2 /\ Sm p t1 /\ L <= 6 /\ BadPair u1 u2 fv p q L M d e /\ ∀ H', Same H H' -> Q (.bl true) H'
theorem ok__law_refused {f : Addr} {fd : FuncData} (F : Fun K "_law_refused" "_law_refused" s__law_refused f fd) (T : Txt mg)
    (W : Own K mg)
    (Z : Exs K mg C_AskError C_BadHouse C_BadWord)
    {f_sums_less : Addr} {fd_sums_less : FuncData} (g_sums_less : FnOk P w K mg base (CXe P w) 3 f_sums_less fd_sums_less ["house", "other"] (sp_sless K C_BadHouse)) (F_sums_less : Fun K "sums_less" "sums_less" s_sums_less f_sums_less fd_sums_less) (b_sums_less : Binds K fd_sums_less ["house", "other"] []) (m_sums_less : mg "sums_less" = some (.ref f_sums_less))
    {f_sums_times : Addr} {fd_sums_times : FuncData} (g_sums_times : FnOk P w K mg base (CXe P w) 4 f_sums_times fd_sums_times ["house", "other"] (sp_stimes K C_BadHouse)) (F_sums_times : Fun K "sums_times" "sums_times" s_sums_times f_sums_times fd_sums_times) (b_sums_times : Binds K fd_sums_times ["house", "other"] []) (m_sums_times : mg "sums_times" = some (.ref f_sums_times))
    : FnOk P w K mg base CX0 5 f fd ["deed", "one", "two"] (sp_refused66 K f_sums_less f_sums_times) := by
  refine F.ok sc__law_refused (fun vs H Q E h => ?_) (fun cdv A outer s H vs Q E hr h => ?_)
  . obtain ⟨fv, h, g, p, q, L, M, d, e, f1, f2, l1, l2, t1, t2, rfl, _⟩ := h; rfl
  . obtain ⟨fv, h, g, p, q, L, M, d, e, f1, f2, l1, l2, t1, t2, rfl, hs, hg, wf, wg, hsm, hL6, hb, k⟩ := h
    refine ⟨_, (pss_cons (ps_set (i := 3) sc__law_refused.nd rfl (Or.inl rfl) pe_bl)
      (pss_cut (ps_tryN (E := (fun σ cls _ H1 => σ = [some (.ref fv), some (.ref h), some (.ref g), some (.bl false)] /\ cls = .ref C_BadHouse /\ Same H H1)) rfl Z.m_BadHouse rfl rfl rfl (fun xe pn hx => (pss_one (ps_expr (pe_callVE2 0 g_sums_less (hr.mono (by decide)) F_sums_less.kp b_sums_less .nil hx g_sums_times (hr.mono (by decide)) F_sums_times.kp b_sums_times .nil hx (pa_cons (pv 1) (pa_cons (pv 2) pa_nil))))))
      (fun ea pn => (pss_one (ps_set (i := 3) sc__law_refused.nd rfl (Or.inl rfl) pe_bl))))
      (pss_one (ps_ret (pv 3))))), ?_⟩
    walk_at "rd"
    refine ⟨fun σ' H' => σ' = [some (.ref fv), some (.ref h), some (.ref g), some (.bl true)] /\ Same H H', ?_, ?_⟩
    . walk_at "rd"
      refine ⟨?_, fun σ1 cls H1 h1 => ?_⟩
      . rcases hb with ⟨rfl, hb⟩ | ⟨rfl, hb⟩
        . exact .inl ⟨rfl, h, g, p, q, L, M, d, e, f1, f2, l1, l2, t1, t2, rfl, hs, hg, wf, wg, hL6, fun z => absurd z hb, fun _ H1 s1 => ⟨rfl, s1⟩⟩
        . exact .inr ⟨rfl, h, g, p, q, L, M, d, e, f1, f2, l1, l2, t1, t2, rfl, hs, hg, wf, wg, hsm, hL6, fun z => absurd z hb, fun _ H1 s1 => ⟨rfl, s1⟩⟩
      . obtain ⟨rfl, rfl, s1⟩ := h1
        exact ⟨C_BadHouse, rfl, Z.ee_BadHouse, rfl, s1⟩
    . rintro σ' H' ⟨rfl, s'⟩
      walk_at "rd"
      exact k _ s'
theorem ok__law_refused_by_any {f : Addr} {fd : FuncData} (F : Fun K "_law_refused_by_any" "_law_refused_by_any" s__law_refused_by_any f fd) (T : Txt mg)
    (W : Own K mg)
    (Z : Exs K mg C_AskError C_BadHouse C_BadWord)
    {f_sums_less : Addr} {fd_sums_less : FuncData} (g_sums_less : FnOk P w K mg base (CXe P w) 3 f_sums_less fd_sums_less ["house", "other"] (sp_sless K C_BadHouse)) (F_sums_less : Fun K "sums_less" "sums_less" s_sums_less f_sums_less fd_sums_less) (b_sums_less : Binds K fd_sums_less ["house", "other"] []) (m_sums_less : mg "sums_less" = some (.ref f_sums_less))
    {f_sums_times : Addr} {fd_sums_times : FuncData} (g_sums_times : FnOk P w K mg base (CXe P w) 4 f_sums_times fd_sums_times ["house", "other"] (sp_stimes K C_BadHouse)) (F_sums_times : Fun K "sums_times" "sums_times" s_sums_times f_sums_times fd_sums_times) (b_sums_times : Binds K fd_sums_times ["house", "other"] []) (m_sums_times : mg "sums_times" = some (.ref f_sums_times))
    : FnOk P w K mg base CX0 5 f fd ["deed", "one", "two"] (sp_refused66 K f_sums_less f_sums_times) := by
  refine F.ok sc__law_refused_by_any (fun vs H Q E h => ?_) (fun cdv A outer s H vs Q E hr h => ?_)
  . obtain ⟨fv, h, g, p, q, L, M, d, e, f1, f2, l1, l2, t1, t2, rfl, _⟩ := h; rfl
  . obtain ⟨fv, h, g, p, q, L, M, d, e, f1, f2, l1, l2, t1, t2, rfl, hs, hg, wf, wg, hsm, hL6, hb, k⟩ := h
    refine ⟨_, (pss_cons (ps_set (i := 3) sc__law_refused_by_any.nd rfl (Or.inl rfl) pe_bl)
      (pss_cut (ps_try (i := 4) (E := (fun σ cls _ H1 => σ = [some (.ref fv), some (.ref h), some (.ref g), some (.bl false), none] /\ cls = .ref C_BadHouse /\ Same H H1)) sc__law_refused_by_any.nd rfl rfl rfl Z.m_AskError rfl rfl rfl (fun xe pn hx => (pss_one (ps_expr (pe_callVE2 0 g_sums_less (hr.mono (by decide)) F_sums_less.kp b_sums_less .nil hx g_sums_times (hr.mono (by decide)) F_sums_times.kp b_sums_times .nil hx (pa_cons (pv 1) (pa_cons (pv 2) pa_nil))))))
      (fun ea pn => (pss_one (ps_set (i := 3) sc__law_refused_by_any.nd rfl (Or.inl rfl) (pe_and (pe_callB (call_isinstK (K := K) rfl) rfl T.isinstance PyProof.Rows.boot_isinstance (pa_cons (pv 4) (pa_cons (pe_bltn (v := .ty "ValueError") rfl T.ValueError L2.boot_ValueError rfl) pa_nil))) (pe_one (pe_not (pe_callB (call_isinstK (K := K) rfl) rfl T.isinstance PyProof.Rows.boot_isinstance (pa_cons (pv 4) (pa_cons (pe_glob (v := .ref C_BadWord) rfl Z.m_BadWord rfl) pa_nil))))))))))
      (pss_one (ps_ret (pv 3))))), ?_⟩
    walk_at "rd"
    refine ⟨fun σ' H' => σ' = [some (.ref fv), some (.ref h), some (.ref g), some (.bl true), none] /\ Same H H', ?_, ?_⟩
    . walk_at "rd"
      refine ⟨?_, fun σ1 cls H1 h1 => ?_⟩
      . rcases hb with ⟨rfl, hb⟩ | ⟨rfl, hb⟩
        . exact .inl ⟨rfl, h, g, p, q, L, M, d, e, f1, f2, l1, l2, t1, t2, rfl, hs, hg, wf, wg, hL6, fun z => absurd z hb, fun _ H1 s1 => ⟨rfl, s1⟩⟩
        . exact .inr ⟨rfl, h, g, p, q, L, M, d, e, f1, f2, l1, l2, t1, t2, rfl, hs, hg, wf, wg, hsm, hL6, fun z => absurd z hb, fun _ H1 s1 => ⟨rfl, s1⟩⟩
      . obtain ⟨rfl, rfl, s1⟩ := h1
        refine ⟨C_BadHouse, rfl, Z.e_BadHouse, fun ea hea => ?_⟩
        walk_at "rd"
        refine ⟨_, _, .exc upd_same Z.c_BadHouse, rel_ty, _, Z.v_BadHouse, ?_⟩
        rw [if_pos rfl]
        exact ⟨_, _, .exc upd_same Z.c_BadHouse, rel_ref, _, Z.k_BadHouse_BadWord, rfl, s1.newT hea⟩
    . rintro σ' H' ⟨rfl, s'⟩
      walk_at "rd"
      exact k _ s'
def sp_lworth (K : PySem.W.Frag) : Sp := fun vs H Q _ => ∃ (h a : Addr) (p L : Int) (d : Nat) (f l ws : List Int) (t : List (List (List Int))), vs = [.ref h, .ref a] /\ SumH K H h p L f t l /\ WfSum p L d f t l /\ SqT K H a (ws.map V.int) /\ isW L ws = true /\ ∀ H', Same H H' -> Q (.int (dotW (rowS p d t f ws) l % p)) H'
theorem ok__law_worth {f : Addr} {fd : FuncData} (F : Fun K "_law_worth" "_law_worth" s__law_worth f fd) (T : Txt mg)
    (W : Own K mg)
    (Z : Exs K mg C_AskError C_BadHouse C_BadWord)
    {f__law_times : Addr} {fd__law_times : FuncData} (g__law_times : FnOk P w K mg base CX0 1 f__law_times fd__law_times ["p", "one", "two"] (sp_times64 K)) (F__law_times : Fun K "_law_times" "_law_times" s__law_times f__law_times fd__law_times) (b__law_times : Binds K fd__law_times ["p", "one", "two"] []) (m__law_times : mg "_law_times" = some (.ref f__law_times))
    {f__law_behind : Addr} {fd__law_behind : FuncData} (g__law_behind : FnOk P w K mg base CX0 2 f__law_behind fd__law_behind ["house", "word"] (sp_behind64 K)) (F__law_behind : Fun K "_law_behind" "_law_behind" s__law_behind f__law_behind fd__law_behind) (b__law_behind : Binds K fd__law_behind ["house", "word"] []) (m__law_behind : mg "_law_behind" = some (.ref f__law_behind))
    : FnOk P w K mg base CX0 3 f fd ["house", "word"] (sp_lworth K) := by
  refine F.ok sc__law_worth (fun vs H Q E h => ?_) (fun cdv A outer s H vs Q E hr h => ?_)
  . obtain ⟨h, a, p, L, d, f, l, ws, t, rfl, _⟩ := h; rfl
  . obtain ⟨h, a, p, L, d, f, l, ws, t, rfl, hh, wf, ha, hw, k⟩ := h
    obtain ⟨a1, a2, a3, x1, x2, x3, xA⟩ := id hh
    have hp2 := wf.p2
    have hp18 := wf.p18
    have hd := wf.dl
    refine ⟨_, (pss_one (ps_ret (pe_call g__law_times (hr.mono (by decide)) rfl m__law_times F__law_times.kp b__law_times .nil pass0 (pa_cons (pe_ix ix_tup (pv 0) pe_int (fun _ _ => rfl)) (pa_cons (pe_call g__law_behind (hr.mono (by decide)) rfl m__law_behind F__law_behind.kp b__law_behind .nil pass0 (pa_cons (pv 0) (pa_cons (pv 1) pa_nil))) (pa_cons (pe_ix ix_tup (pv 0) pe_int (fun _ _ => rfl)) pa_nil)))))), ?_⟩
    walk_at "rd"
    obtain ⟨r1, r2⟩ := wf.row ws
    exact ⟨_, x1, _, rfl, h, a, p, L, d, f, l, ws, t, rfl, hh, wf, ha, hw, fun q H1 s1 hq => ⟨_, s1.seqT x1, _, rfl, p, q, a3, _, l, rfl, by omega, hp18, hq, s1.seqT x3, by rw [r1, wf.l.1], by omega, r2, fun H2 s2 => k _ (s1.trans s2)⟩⟩
def sp_values66 (K : PySem.W.Frag) : Sp := fun vs H Q _ => ∃ (h g a : Addr) (p L : Int) (d e : Nat) (f1 f2 l1 l2 ws : List Int) (t1 t2 : List (List (List Int))), vs = [.ref h, .ref g, .ref a] /\ SumH K H h p L f1 t1 l1 /\ SumH K H g p L f2 t2 l2 /\ WfSum p L d f1 t1 l1 /\ WfSum p L e f2 t2 l2 /\ Sm p t1 /\ L <= 6 /\ d + e <= 16 /\ d * e <= 16 /\ SqT K H a (ws.map V.int) /\ isW L ws = true /\ ws.length <= 63 /\ ∀ H', Same H H' -> Q (.bl true) H'
theorem ok__law_values {f : Addr} {fd : FuncData} (F : Fun K "_law_values" "_law_values" s__law_values f fd) (T : Txt mg)
    (W : Own K mg)
    (Z : Exs K mg C_AskError C_BadHouse C_BadWord)
    {f_worth : Addr} {fd_worth : FuncData} (g_worth : FnOk P w K mg base (CXe P w) 6 f_worth fd_worth ["house", "word"] (sp_worth K C_BadWord)) (F_worth : Fun K "worth" "worth" s_worth f_worth fd_worth) (b_worth : Binds K fd_worth ["house", "word"] []) (m_worth : mg "worth" = some (.ref f_worth))
    {f_sums_less : Addr} {fd_sums_less : FuncData} (g_sums_less : FnOk P w K mg base (CXe P w) 3 f_sums_less fd_sums_less ["house", "other"] (sp_sless K C_BadHouse)) (F_sums_less : Fun K "sums_less" "sums_less" s_sums_less f_sums_less fd_sums_less) (b_sums_less : Binds K fd_sums_less ["house", "other"] []) (m_sums_less : mg "sums_less" = some (.ref f_sums_less))
    {f_sums_times : Addr} {fd_sums_times : FuncData} (g_sums_times : FnOk P w K mg base (CXe P w) 4 f_sums_times fd_sums_times ["house", "other"] (sp_stimes K C_BadHouse)) (F_sums_times : Fun K "sums_times" "sums_times" s_sums_times f_sums_times fd_sums_times) (b_sums_times : Binds K fd_sums_times ["house", "other"] []) (m_sums_times : mg "sums_times" = some (.ref f_sums_times))
    {f_sums_back : Addr} {fd_sums_back : FuncData} (g_sums_back : FnOk P w K mg base CX0 2 f_sums_back fd_sums_back ["house"] (sp_sback K)) (F_sums_back : Fun K "sums_back" "sums_back" s_sums_back f_sums_back fd_sums_back) (b_sums_back : Binds K fd_sums_back ["house"] []) (m_sums_back : mg "sums_back" = some (.ref f_sums_back))
    {f__law_worth : Addr} {fd__law_worth : FuncData} (g__law_worth : FnOk P w K mg base CX0 3 f__law_worth fd__law_worth ["house", "word"] (sp_lworth K)) (F__law_worth : Fun K "_law_worth" "_law_worth" s__law_worth f__law_worth fd__law_worth) (b__law_worth : Binds K fd__law_worth ["house", "word"] []) (m__law_worth : mg "_law_worth" = some (.ref f__law_worth))
    : FnOk P w K mg base CX0 7 f fd ["one", "two", "word"] (sp_values66 K) := by
  refine F.ok sc__law_values (fun vs H Q E h => ?_) (fun cdv A outer s H vs Q E hr h => ?_)
  . obtain ⟨h, g, a, p, L, d, e, f1, f2, l1, l2, ws, t1, t2, rfl, _⟩ := h; rfl
  . obtain ⟨h, g, a, p, L, d, e, f1, f2, l1, l2, ws, t1, t2, rfl, hs, hg, wf, wg, hsm, hL6, hde, hdm, ha, hw, hwl, k⟩ := h
    obtain ⟨a1, a2, a3, x1, x2, x3, xA⟩ := id hs
    have hp2 := wf.p2
    have hp18 := wf.p18
    have hl := line1000
    refine ⟨_, (pss_cons (ps_set (i := 3) sc__law_values.nd rfl (Or.inl rfl) (pe_ix ix_tup (pv 0) pe_int (fun _ _ => rfl)))
      (pss_cons (ps_set (i := 4) sc__law_values.nd rfl (Or.inl rfl) (pe_call g__law_worth (hr.mono (by decide)) rfl m__law_worth F__law_worth.kp b__law_worth .nil pass0 (pa_cons (pv 0) (pa_cons (pv 2) pa_nil))))
      (pss_cons (ps_set (i := 5) sc__law_values.nd rfl (Or.inl rfl) (pe_call g__law_worth (hr.mono (by decide)) rfl m__law_worth F__law_worth.kp b__law_worth .nil pass0 (pa_cons (pv 1) (pa_cons (pv 2) pa_nil))))
      (pss_cons (ps_if (pt_cmpR op_ne (pe_call g_worth (hr.mono (by decide)) rfl m_worth F_worth.kp b_worth .nil (passNev (P := P) (w := w)) (pa_cons (pe_call g_sums_less (hr.mono (by decide)) rfl m_sums_less F_sums_less.kp b_sums_less .nil (passNev (P := P) (w := w)) (pa_cons (pv 0) (pa_cons (pv 1) pa_nil))) (pa_cons (pv 2) pa_nil))) (pe_op op_mod (pe_op op_sub (pv 4) (pv 5)) (pv 3)) (nomark _))
      (pss_one (ps_ret pe_bl))
      pss_nil)
      (pss_cons (ps_if (pt_cmpR op_ne (pe_call g_worth (hr.mono (by decide)) rfl m_worth F_worth.kp b_worth .nil (passNev (P := P) (w := w)) (pa_cons (pe_call g_sums_times (hr.mono (by decide)) rfl m_sums_times F_sums_times.kp b_sums_times .nil (passNev (P := P) (w := w)) (pa_cons (pv 0) (pa_cons (pv 1) pa_nil))) (pa_cons (pv 2) pa_nil))) (pe_op op_mod (pe_op op_mul (pv 4) (pv 5)) (pv 3)) (nomark _))
      (pss_one (ps_ret pe_bl))
      pss_nil)
      (pss_one (ps_ret (pe_cmpR op_eq (pe_call g_worth (hr.mono (by decide)) rfl m_worth F_worth.kp b_worth .nil (passNev (P := P) (w := w)) (pa_cons (pe_call g_sums_back (hr.mono (by decide)) rfl m_sums_back F_sums_back.kp b_sums_back .nil pass0 (pa_cons (pv 0) pa_nil)) (pa_cons (pe_tupleRevT rfl rfl T.tuple rfl T.reversed (pv 2)) pa_nil))) (pv 4) (nomark _))))))))), ?_⟩
    walk_at "rd"
    refine ⟨_, x1, _, rfl, h, a, p, L, d, f1, l1, ws, t1, rfl, hs, wf, ha, hw, fun H1 s1 => ?_⟩
    refine ⟨g, a, p, L, e, f2, l2, ws, t2, rfl, hg.mono s1, wg, s1.seqT ha, hw, fun H2 s2 => ?_⟩
    have s02 := s1.trans s2
    refine ⟨h, g, p, p, L, L, d, e, f1, f2, l1, l2, t1, t2, rfl, hs.mono s02, hg.mono s02, wf, wg, hL6, fun _ r H3 s3 h3 => ?_, fun z => absurd ⟨rfl, rfl, hde⟩ z⟩
    have s03 := s02.trans s3
    refine ⟨r, a, p, L, d + e, f1 ++ f2, _, ws, _, rfl, h3, less_wf wf wg hde, s03.seqT ha, by omega, fun _ H4 s4 => ?_, fun z => by rw [hw] at z; cases z⟩
    have s04 := s03.trans s4
    refine ⟨_, rfl, _, rfl, _, rfl, by omega, rfl, ?_⟩
    rw [less_val wf wg hw, if_neg (by simp)]
    refine ⟨h, g, p, p, L, L, d, e, f1, f2, l1, l2, t1, t2, rfl, hs.mono s04, hg.mono s04, wf, wg, hsm, hL6, fun _ r5 H5 s5 h5 => ?_, fun z => absurd ⟨rfl, rfl, hdm⟩ z⟩
    have s05 := s04.trans s5
    refine ⟨r5, a, p, L, d * e, _, _, ws, _, rfl, h5, times_wf wf wg hdm, s05.seqT ha, by omega, fun _ H6 s6 => ?_, fun z => by rw [hw] at z; cases z⟩
    have s06 := s05.trans s6
    have m0 := Int.emod_nonneg (dotW (rowS p d t1 f1 ws) l1) (show p ≠ 0 by omega)
    have m1 := Int.emod_lt_of_pos (dotW (rowS p d t1 f1 ws) l1) (show 0 < p by omega)
    refine ⟨_, rfl, _, rfl, .inl ⟨by omega, by omega⟩, _, rfl, by omega, rfl, ?_⟩
    rw [times_val wf wg hw, if_neg (by simp)]
    refine ⟨h, p, L, d, f1, l1, t1, rfl, hs.mono s06, wf, hL6, fun r7 H7 s7 h7 => ?_⟩
    have s07 := s06.trans s7
    refine ⟨_, s07.seqT ha, fun qa hqa => ?_⟩
    have sq := Same.new hqa (o := .tup (ws.map V.int).reverse)
    refine ⟨r7, qa, p, L, d, l1, f1, ws.reverse, _, rfl, h7.mono sq, back_wf wf, ?_, by rw [List.length_reverse]; omega, fun _ H8 s8 => ?_, fun z => by rw [isW_rev hw] at z; cases z⟩
    . rw [List.map_reverse]; exact SqT.of upd_same
    . refine ⟨rfl, ?_⟩
      rw [back_val wf hw, decide_eq_true rfl]
      exact k _ ((s07.trans sq).trans s8)
theorem tabs_rep {K : PySem.W.Frag} {H : Hp} {tt u : Addr} {xs : List V} {tb : List (List Int)} {m : Nat} (ht : SqT K H tt (List.replicate m (V.ref u))) (hu : SqT K H u xs) (hr : RowsN K H xs tb) : Tabs K H tt (List.replicate m tb) := by
  refine ⟨List.replicate m u, by rw [List.map_replicate]; exact ht, by rw [List.length_replicate, List.length_replicate], fun i v t h1 h2 => ?_⟩
  rw [List.getElem?_replicate] at h1 h2
  by_cases hi : i < m
  . rw [if_pos hi] at h1 h2
    cases h1
    cases h2
    exact ⟨xs, hu, hr⟩
  . rw [if_neg hi] at h1; cases h1
theorem rep_ref (n : Nat) (v : V) : (List.replicate n [v]).flatten = List.replicate n v := by
  induction n with
  | zero => rfl
  | succ n ih => rw [List.replicate_succ, List.flatten_cons, ih, List.replicate_succ]; rfl
theorem blanks_wf {q : Int} {m e : Nat} {f l : List Int} (q2 : 2 <= q) (q18 : q < 1000000000000000000) (he : e <= 16) (hf : f.length = e /\ ∀ x ∈ f, 0 <= x /\ x < q) (hl : l.length = e /\ ∀ x ∈ l, 0 <= x /\ x < q) : WfSum q m e f (List.replicate m (zt e)) l := by
  refine ⟨q2, q18, he, hf, hl, by rw [List.length_replicate], fun tb htb => ?_⟩
  rw [(List.mem_replicate.mp htb).2]
  exact ⟨List.length_replicate, fun r hr => by rw [(List.mem_replicate.mp hr).2]; exact List.length_replicate⟩
theorem blanks_sm {q : Int} {m e : Nat} (q2 : 2 <= q) : Sm q (List.replicate m (zt e)) := fun tb htb r hr x hx => by
  rw [(List.mem_replicate.mp htb).2] at hr
  rw [(List.mem_replicate.mp hr).2] at hx
  rw [(List.mem_replicate.mp hx).2]; omega
def sp_unlike66 (K : PySem.W.Frag) (u1 u2 : Addr) : Sp := fun vs H Q _ => ∃ (fv h g : Addr) (p L c : Int) (d e : Nat) (f1 f2 l1 l2 : List Int) (t1 t2 : List (List (List Int))), vs = [.ref fv, .ref h, .ref g, .int c] /\ (fv = u1 \/ fv = u2) /\ SumH K H h p L f1 t1 l1 /\ SumH K H g p L f2 t2 l2 /\ WfSum p L d f1 t1 l1 /\ WfSum p L e f2 t2 l2 /\ Sm p t1 /\ 1 <= L /\ L <= 6 /\ ∀ H', Same H H' -> Q (.bl true) H'
theorem ok__law_unlike {f : Addr} {fd : FuncData} (F : Fun K "_law_unlike" "_law_unlike" s__law_unlike f fd) (T : Txt mg)
    (W : Own K mg)
    (Z : Exs K mg C_AskError C_BadHouse C_BadWord)
    {f__law_refused : Addr} {fd__law_refused : FuncData} (g__law_refused : FnOk P w K mg base CX0 5 f__law_refused fd__law_refused ["deed", "one", "two"] (sp_refused66 K f_sums_less f_sums_times)) (F__law_refused : Fun K "_law_refused" "_law_refused" s__law_refused f__law_refused fd__law_refused) (b__law_refused : Binds K fd__law_refused ["deed", "one", "two"] []) (m__law_refused : mg "_law_refused" = some (.ref f__law_refused))
    {f__law_refused_by_any : Addr} {fd__law_refused_by_any : FuncData} (g__law_refused_by_any : FnOk P w K mg base CX0 5 f__law_refused_by_any fd__law_refused_by_any ["deed", "one", "two"] (sp_refused66 K f_sums_less f_sums_times)) (F__law_refused_by_any : Fun K "_law_refused_by_any" "_law_refused_by_any" s__law_refused_by_any f__law_refused_by_any fd__law_refused_by_any) (b__law_refused_by_any : Binds K fd__law_refused_by_any ["deed", "one", "two"] []) (m__law_refused_by_any : mg "_law_refused_by_any" = some (.ref f__law_refused_by_any))
    : FnOk P w K mg base CX0 6 f fd ["deed", "one", "two", "cell"] (sp_unlike66 K f_sums_less f_sums_times) := by
  refine F.ok sc__law_unlike (fun vs H Q E h => ?_) (fun cdv A outer s H vs Q E hr h => ?_)
  . obtain ⟨fv, h, g, p, L, c, d, e, f1, f2, l1, l2, t1, t2, rfl, _⟩ := h; rfl
  . obtain ⟨fv, h, g, p, L, c, d, e, f1, f2, l1, l2, t1, t2, rfl, hfv, hs, hg, wf, wg, hsm, hL1, hL6, k⟩ := h
    obtain ⟨a1, a2, a3, x1, x2, x3, xA⟩ := id hs
    obtain ⟨b1, b2, b3, y1, y2, y3, yA⟩ := id hg
    have hp2 := wf.p2
    have hp18 := wf.p18
    have he := wg.dl
    have h2f := wg.f.1
    have hl := line1000
    obtain ⟨m, rfl⟩ : ∃ m : Nat, L = (m : Int) := ⟨L.toNat, by omega⟩
    refine ⟨_, (pss_cons (ps_set (i := 4) sc__law_unlike.nd rfl (Or.inl rfl) (pe_tup (pa_cons pe_int (pa_cons (pe_ix ix_tup (pv 2) pe_int (fun _ _ => rfl)) (pa_cons (pe_tup (pa_cons pe_int pa_nil)) (pa_cons (pe_op op_repT (pe_tup (pa_cons (pe_tup (pa_cons (pe_tup (pa_cons pe_int pa_nil)) pa_nil)) pa_nil)) (pe_ix ix_tup (pv 2) pe_int (fun _ _ => rfl))) (pa_cons (pe_tup (pa_cons pe_int pa_nil)) pa_nil)))))))
      (pss_cut (ps_if (pt_cmpR op_eq (pe_ix ix_tup (pv 1) pe_int (fun _ _ => rfl)) pe_int (nomark _))
      (pss_one (ps_set (i := 4) sc__law_unlike.nd rfl (Or.inl rfl) (pe_tup (pa_cons pe_int (pa_cons (pe_ix ix_tup (pv 2) pe_int (fun _ _ => rfl)) (pa_cons (pe_tup (pa_cons pe_int pa_nil)) (pa_cons (pe_op op_repT (pe_tup (pa_cons (pe_tup (pa_cons (pe_tup (pa_cons pe_int pa_nil)) pa_nil)) pa_nil)) (pe_ix ix_tup (pv 2) pe_int (fun _ _ => rfl))) (pa_cons (pe_tup (pa_cons pe_int pa_nil)) pa_nil))))))))
      pss_nil)
      (pss_cut (ps_if (pt_cmpR op_eq (pe_op op_mod (pv 3) pe_int) pe_int (nomark _))
      (pss_cons (ps_set (i := 5) sc__law_unlike.nd rfl (Or.inl rfl) (pe_callTy call_tuple_L rfl T.tuple PyProof.Rows.boot_tuple (pa_cons (pe_comp rfl (blk_mk rfl) (cp := c__law_unlike_3) ⟨⟨rfl, rfl⟩, True.intro⟩ (pi_range1 rfl T.range (pa_cons (pe_callB call_len_seq (by rfl) T.len PySem.boot_len (pa_cons (pe_ix ix_tup (pv 2) pe_int (fun _ _ => rfl)) pa_nil)) pa_nil)) (fun _ _ _ _ => (pg_name (i := 0) nd_c__law_unlike_3 rfl (Or.inl rfl))) (fun _ _ _ _ => pf_nil) (fun _ _ _ _ => (pe_op (op_repTK (K := K) rfl) (pe_tup (pa_cons pe_int pa_nil)) (pe_callB (call_len_seqK (K := K) rfl) (by rfl) T.len PySem.boot_len (pa_cons (pe_ix (ix_tupK (K := K) rfl) (pv 1) pe_int (fun _ _ => rfl)) pa_nil))))) pa_nil)))
      (pss_cons (ps_set (i := 6) sc__law_unlike.nd rfl (Or.inl rfl) (pe_op op_add (pe_op op_mod (pe_ix ix_tup (pv 2) pe_int (fun _ _ => rfl)) pe_int) pe_int))
      (pss_one (ps_set (i := 4) sc__law_unlike.nd rfl (Or.inl rfl) (pe_tup (pa_cons (pe_ix ix_tup (pv 2) pe_int (fun _ _ => rfl)) (pa_cons (pv 6) (pa_cons (pe_ix ix_tup (pv 2) pe_int (fun _ _ => rfl)) (pa_cons (pe_op op_repT (pe_tup (pa_cons (pv 5) pa_nil)) (pv 6)) (pa_cons (pe_ix ix_tup (pv 2) pe_int (fun _ _ => rfl)) pa_nil))))))))))
      pss_nil)
      (pss_one (ps_ret (pe_and (pe_call g__law_refused (hr.mono (by decide)) rfl m__law_refused F__law_refused.kp b__law_refused .nil pass0 (pa_cons (pv 0) (pa_cons (pv 1) (pa_cons (pv 4) pa_nil)))) (pe_one (pe_call g__law_refused_by_any (hr.mono (by decide)) rfl m__law_refused_by_any F__law_refused_by_any.kp b__law_refused_by_any .nil pass0 (pa_cons (pv 0) (pa_cons (pv 4) (pa_cons (pv 1) pa_nil))))))))))), ?_⟩
    walk_at "rd"
    have s0 := Same.refl H
    refine ⟨_, s0.seqT y1, _, rfl, by omega, fun pa hpa => ⟨by omega, fun pb hpb => ⟨by omega, fun pc hpc => ⟨by omega, fun pd hpd => ?_⟩⟩⟩⟩
    have sA := Same.new hpa (o := .tup [V.int 0])
    have sB := Same.new hpb (o := .tup [V.int 0])
    have sC := Same.new hpc (o := .tup [V.ref pb])
    have sD := Same.new hpd (o := .tup [V.ref pc])
    have sCD := sC.trans sD
    have s1 := s0.trans (sA.trans (sB.trans sCD))
    have hA := (sB.trans sCD).seqT (K := K) (SqT.of (upd_same (H := H) (a := pa) (o := .tup [V.int 0])))
    have hB := sCD.seqT (K := K) (SqT.of (upd_same (a := pb) (o := .tup [V.int 0])))
    have hC := sD.seqT (K := K) (SqT.of (upd_same (a := pc) (o := .tup [V.ref pb])))
    refine ⟨_, s1.seqT y1, _, rfl, rRepT.of (SqT.of upd_same) (by simp) (by omega) (by omega) (by simp <;> omega) fun pt H2 s2 ht => ⟨by omega, fun pe hpe => ⟨by omega, fun pz hpz => ?_⟩⟩⟩
    rw [Int.toNat_natCast, rep_ref] at ht
    have sE := Same.new hpe (o := .tup [V.int 0])
    have sZ := Same.new hpz (o := .tup [V.int 7, V.int m, V.ref pa, V.ref pt, V.ref pe])
    have sEZ := sE.trans sZ
    have s2Z := s2.trans sEZ
    have sAll := s1.trans s2Z
    have hall : SumH K _ pz 7 m [0] (List.replicate m (zt 1)) [0] := ⟨pa, pt, pe, SqT.of (upd_same (H := _) (a := pz) (o := .tup [V.int 7, V.int m, V.ref pa, V.ref pt, V.ref pe])), s2Z.seqT hA, sZ.seqT (SqT.of upd_same), tabs_rep (sEZ.seqT ht) (s2Z.seqT hC) (RowsN.nil.snoc (r := [0]) (s2Z.seqT hB))⟩
    obtain ⟨R, hR⟩ : ∃ R : St -> Hp -> Prop, ∀ σ' H', R σ' H' ↔ ∃ (b : Addr) (q : Int), Same H H' /\ p ≠ q /\ 2 <= q /\ q < 1000000000000000000 /\ SumH K H' b q m [0] (List.replicate m (zt 1)) [0] /\ σ' = [some (.ref fv), some (.ref h), some (.ref g), some (.int c), some (.ref b), none, none] := ⟨_, fun _ _ => Iff.rfl⟩
    refine ⟨R, ?_, fun σ5 H5 h5 => ?_⟩
    . walk_at "rd"
      refine ⟨_, sAll.seqT x1, _, rfl, rfl, ?_⟩
      refine ite2 (fun h7 => ?_) (fun h7 => (hR _ _).mpr ⟨pz, 7, sAll, fun z => h7 (by rw [z]), by omega, by omega, hall, rfl⟩)
      walk_at "rd"
      refine ⟨_, sAll.seqT y1, _, rfl, by omega, fun pa' hpa' => ⟨by omega, fun pb' hpb' => ⟨by omega, fun pc' hpc' => ⟨by omega, fun pd' hpd' => ?_⟩⟩⟩⟩
      have sA' := Same.new hpa' (o := .tup [V.int 0])
      have sB' := Same.new hpb' (o := .tup [V.int 0])
      have sC' := Same.new hpc' (o := .tup [V.ref pb'])
      have sD' := Same.new hpd' (o := .tup [V.ref pc'])
      have sCD' := sC'.trans sD'
      have s1' := sAll.trans (sA'.trans (sB'.trans sCD'))
      have hA' := (sB'.trans sCD').seqT (K := K) (SqT.of (upd_same (H := _) (a := pa') (o := .tup [V.int 0])))
      have hB' := sCD'.seqT (K := K) (SqT.of (upd_same (a := pb') (o := .tup [V.int 0])))
      have hC' := sD'.seqT (K := K) (SqT.of (upd_same (a := pc') (o := .tup [V.ref pb'])))
      refine ⟨_, s1'.seqT y1, _, rfl, rRepT.of (SqT.of upd_same) (by simp) (by omega) (by omega) (by simp <;> omega) fun pt' H2' s2' ht' => ⟨by omega, fun pe' hpe' => ⟨by omega, fun pz' hpz' => ?_⟩⟩⟩
      rw [Int.toNat_natCast, rep_ref] at ht'
      have sE' := Same.new hpe' (o := .tup [V.int 0])
      have sZ' := Same.new hpz' (o := .tup [V.int 5, V.int m, V.ref pa', V.ref pt', V.ref pe'])
      have sEZ' := sE'.trans sZ'
      have s2Z' := s2'.trans sEZ'
      have sAll' := s1'.trans s2Z'
      have hall' : SumH K _ pz' 5 m [0] (List.replicate m (zt 1)) [0] := ⟨pa', pt', pe', SqT.of (upd_same (H := _) (a := pz') (o := .tup [V.int 5, V.int m, V.ref pa', V.ref pt', V.ref pe'])), s2Z'.seqT hA', sZ'.seqT (SqT.of upd_same), tabs_rep (sEZ'.seqT ht') (s2Z'.seqT hC') (RowsN.nil.snoc (r := [0]) (s2Z'.seqT hB'))⟩
      refine (hR _ _).mpr ⟨pz', 5, sAll', fun z => ?_, by omega, by omega, hall', rfl⟩
      injection h7 with h7
      omega
    . obtain ⟨b, q, s5, hpq, q2, q18, hb5, rfl⟩ := (hR _ _).mp h5
      walk_at "rd"
      obtain ⟨R2, hR2⟩ : ∃ R : St -> Hp -> Prop, ∀ σ' H', R σ' H' ↔ ∃ (b : Addr) (q M : Int) (e' : Nat) (f l : List Int) (t : List (List (List Int))) (o1 o2 : Option V), Same H H' /\ SumH K H' b q M f t l /\ WfSum q M e' f t l /\ Sm q t /\ M <= 6 /\ ¬ (p = q /\ (m : Int) = M) /\ σ' = [some (.ref fv), some (.ref h), some (.ref g), some (.int c), some (.ref b), o1, o2] := ⟨_, fun _ _ => Iff.rfl⟩
      refine ⟨R2, ?_, fun σ6 H6 h6 => ?_⟩
      . walk_at "rd"
        refine ⟨by decide, ?_⟩
        refine ite2 (fun _ => ?_) (fun _ => (hR2 _ _).mpr ⟨b, q, m, 1, [0], [0], _, none, none, s5, hb5, blanks_wf q2 q18 (by omega) ⟨rfl, fun x hx => by rw [List.mem_singleton.mp hx]; omega⟩ ⟨rfl, fun x hx => by rw [List.mem_singleton.mp hx]; omega⟩, blanks_sm q2, hL6, fun z => hpq z.1, rfl⟩)
        walk_at "rd"
        refine ⟨_, s5.seqT y1, _, rfl, b1, rfl, _, .inr (s5.seqT y2), by rw [List.length_map]; omega, by rw [List.length_map]; omega, ?_⟩
        rw [List.length_map, h2f, Int.toNat_natCast]
        refine compR (fun i zs σ4 H4 => Same H5 H4 /\ RowsN K H4 zs (List.replicate i (zr e)) /\ ∃ o, σ4 = [o, some (.ref g)]) ⟨Same.refl _, RowsN.nil, none, rfl⟩ (by omega) (fun i zs σ4 H4 _ h4 => ?_) (fun i zs σ4 H4 hi h4 => ?_) (fun zs σ4 H4 h4 D hD => ?_)
        . rw [h4.2.1.1, List.length_replicate]; exact Nat.le_refl _
        . obtain ⟨s4, hZ, o, rfl⟩ := h4
          rw [Int.zero_add]
          walk_at "rd"
          refine ⟨by omega, fun p0 hp0 => ?_⟩
          have sp := (s5.trans s4).newT hp0 (o := .tup [V.int 0])
          refine ⟨_, sp.seqT y1, _, rfl, b1, rfl, _, .inr (sp.seqT y2), ?_⟩
          rw [List.length_map, h2f]
          refine repT66 upd_same he fun q6 H6 s6 hq6 => ⟨(s4.newT hp0).trans s6, ?_, _, rfl⟩
          rw [<- List.replicate_succ, List.replicate_succ']
          exact (hZ.mono ((Same.new hp0).trans s6)).snoc hq6
        . obtain ⟨s4, hZ, o, rfl⟩ := h4
          refine ⟨D, rfl, _, .inl ⟨SqL.of upd_same, fun qb hqb => ?_⟩⟩
          have sq := (Same.new hD (o := .lst zs)).newT hqb (o := .tup zs)
          have hqq : upd (upd H4 D (.lst zs)) qb (.tup zs) qb = some (.tup zs) := upd_same
          have hZq := hZ.mono sq
          have s7 := (s5.trans s4).trans sq
          generalize upd (upd H4 D (.lst zs)) qb (.tup zs) = H7 at sq hqq hZq s7 ⊢
          obtain ⟨m', hm', hm6, hmm⟩ : ∃ m' : Nat, (m : Int) % 6 + 1 = (m' : Int) /\ m' <= 6 /\ m' ≠ m := ⟨((m : Int) % 6 + 1).toNat, by omega, by omega, by omega⟩
          refine ⟨_, s7.seqT y1, _, rfl, _, rfl, by decide, _, s7.seqT y1, _, rfl, _, s7.seqT y1, _, rfl, by omega, fun pb' hpb' => ?_⟩
          rw [hm']
          refine rRepT.of (SqT.of upd_same) (by simp) (by omega) (by omega) (by simp <;> omega) fun pt' H8 s8 ht' => ?_
          rw [Int.toNat_natCast, rep_ref] at ht'
          have sb := Same.new hpb' (o := .tup [V.ref qb])
          have s78 := sb.trans s8
          have s08 := s7.trans s78
          refine ⟨_, s08.seqT y1, _, rfl, by omega, fun pz' hpz' => ?_⟩
          have sz := Same.new hpz' (o := .tup [V.int p, V.int m', V.ref b1, V.ref pt', V.ref b3])
          have s09 := s08.trans sz
          have s79 := s78.trans sz
          exact (hR2 _ _).mpr ⟨pz', p, m', e, f2, l2, List.replicate m' (zt e), _, _, s09, ⟨b1, pt', b3, SqT.of upd_same, s09.seqT y2, s09.seqT y3, tabs_rep (sz.seqT ht') (s79.seqT (SqT.of hqq)) (hZq.mono s79)⟩, blanks_wf hp2 hp18 he wg.f wg.l, blanks_sm hp2, by omega, fun z => by omega, rfl⟩
      . obtain ⟨b6, q6, M6, e6, f6, l6, t6, o1, o2, s6, hb6, wb6, sb6, hM6, hne, rfl⟩ := (hR2 _ _).mp h6
        walk_at "rd"
        have hbad : ∀ (q' : Int) (M' : Int) (d' e' : Nat), ¬ (p = q' /\ (m : Int) = M') -> BadPair f_sums_less f_sums_times fv p q' m M' d' e' /\ BadPair f_sums_less f_sums_times fv q' p M' m e' d' := fun q' M' d' e' hn => by
          rcases hfv with h1 | h1
          . exact ⟨.inl ⟨h1, fun z => hn ⟨z.1, z.2.1⟩⟩, .inl ⟨h1, fun z => hn ⟨z.1.symm, z.2.1.symm⟩⟩⟩
          . exact ⟨.inr ⟨h1, fun z => hn ⟨z.1, z.2.1⟩⟩, .inr ⟨h1, fun z => hn ⟨z.1.symm, z.2.1.symm⟩⟩⟩
        refine ⟨fv, h, b6, p, q6, m, M6, d, e6, f1, f6, l1, l6, t1, t6, rfl, hs.mono s6, hb6, wf, wb6, hsm, hL6, (hbad q6 M6 d e6 hne).1, fun H7 s7 => ⟨_, rfl, ?_⟩⟩
        rw [if_pos rfl]
        exact ⟨fv, b6, h, q6, p, M6, m, e6, d, f6, f1, l6, l1, t6, t1, rfl, hb6.mono s7, hs.mono (s6.trans s7), wb6, wf, sb6, hM6, (hbad q6 M6 d e6 hne).2, fun H8 s8 => k _ ((s6.trans s7).trans s8)⟩
theorem sp_his66_mk {K : PySem.W.Frag} {vs : List V} {H : Hp} {Q : VK} {E : XK} (a b : Addr) (p L : Int) (fs ls : List Int) (tabs : List (List (List Int))) (evs : vs = [.ref a, .ref b]) (h0 : SumH K H a p L fs tabs ls) (h1 : SumH K H b p L fs tabs ls) (h2 : fs.length <= 900) (h3 : ls.length <= 900) (h4 : tabs.length <= 900) (h5 : (∀ tb ∈ tabs, tb.length <= 900 /\ ∀ r ∈ tb, r.length <= 900)) (h6 : ∀ H', Same H H' -> Q (.bl true) H') : sp_his66 K vs H Q E := ⟨a, b, p, L, fs, ls, tabs, evs, h0, h1, h2, h3, h4, h5, h6⟩
theorem sp_sless_mk {K : PySem.W.Frag} {BH : Addr} {vs : List V} {H : Hp} {Q : VK} {E : XK} (h g : Addr) (p q L M : Int) (d e : Nat) (f1 f2 l1 l2 : List Int) (t1 t2 : List (List (List Int))) (evs : vs = [.ref h, .ref g]) (h0 : SumH K H h p L f1 t1 l1) (h1 : SumH K H g q M f2 t2 l2) (h2 : WfSum p L d f1 t1 l1) (h3 : WfSum q M e f2 t2 l2) (h4 : L <= 6) (h5 : (p = q /\ L = M /\ d + e <= 16 -> ∀ r H', Same H H' -> SumH K H' r p L (f1 ++ f2) (lessTs d e t1 t2) (l1 ++ l2.map fun x => -1 * x % p) -> Q (.ref r) H')) (h6 : (¬ (p = q /\ L = M /\ d + e <= 16) -> ∀ H', Same H H' -> E (.ref BH) none H')) : sp_sless K BH vs H Q E := ⟨h, g, p, q, L, M, d, e, f1, f2, l1, l2, t1, t2, evs, h0, h1, h2, h3, h4, h5, h6⟩
theorem sp_stimes_mk {K : PySem.W.Frag} {BH : Addr} {vs : List V} {H : Hp} {Q : VK} {E : XK} (h g : Addr) (p q L M : Int) (d e : Nat) (f1 f2 l1 l2 : List Int) (t1 t2 : List (List (List Int))) (evs : vs = [.ref h, .ref g]) (h0 : SumH K H h p L f1 t1 l1) (h1 : SumH K H g q M f2 t2 l2) (h2 : WfSum p L d f1 t1 l1) (h3 : WfSum q M e f2 t2 l2) (h4 : Sm p t1) (h5 : L <= 6) (h6 : (p = q /\ L = M /\ d * e <= 16 -> ∀ r H', Same H H' -> SumH K H' r p L (crossR p f1 f2) (crossTs p t1 t2) (crossR p l1 l2) -> Q (.ref r) H')) (h7 : (¬ (p = q /\ L = M /\ d * e <= 16) -> ∀ H', Same H H' -> E (.ref BH) none H')) : sp_stimes K BH vs H Q E := ⟨h, g, p, q, L, M, d, e, f1, f2, l1, l2, t1, t2, evs, h0, h1, h2, h3, h4, h5, h6, h7⟩
theorem sp_sback_mk {K : PySem.W.Frag} {vs : List V} {H : Hp} {Q : VK} {E : XK} (h : Addr) (p L : Int) (d : Nat) (f l : List Int) (t : List (List (List Int))) (evs : vs = [.ref h]) (h0 : SumH K H h p L f t l) (h1 : WfSum p L d f t l) (h2 : L <= 6) (h3 : ∀ q H', Same H H' -> SumH K H' q p L l (t.map (backT d)) f -> Q (.ref q) H') : sp_sback K vs H Q E := ⟨h, p, L, d, f, l, t, evs, h0, h1, h2, h3⟩
theorem sp_lless_mk {K : PySem.W.Frag} {vs : List V} {H : Hp} {Q : VK} {E : XK} (h g : Addr) (p L : Int) (d e : Nat) (f1 f2 l1 l2 : List Int) (t1 t2 : List (List (List Int))) (evs : vs = [.ref h, .ref g]) (h0 : SumH K H h p L f1 t1 l1) (h1 : SumH K H g p L f2 t2 l2) (h2 : WfSum p L d f1 t1 l1) (h3 : WfSum p L e f2 t2 l2) (h4 : L <= 6) (h5 : ∀ q H', Same H H' -> SumH K H' q p L (f1 ++ f2) (lessTs d e t1 t2) (l1 ++ l2.map fun x => -1 * x % p) -> Q (.ref q) H') : sp_lless K vs H Q E := ⟨h, g, p, L, d, e, f1, f2, l1, l2, t1, t2, evs, h0, h1, h2, h3, h4, h5⟩
theorem sp_ltimes_mk {K : PySem.W.Frag} {vs : List V} {H : Hp} {Q : VK} {E : XK} (h g : Addr) (p L : Int) (d e : Nat) (f1 f2 l1 l2 : List Int) (t1 t2 : List (List (List Int))) (evs : vs = [.ref h, .ref g]) (h0 : SumH K H h p L f1 t1 l1) (h1 : SumH K H g p L f2 t2 l2) (h2 : WfSum p L d f1 t1 l1) (h3 : WfSum p L e f2 t2 l2) (h4 : Sm p t1) (h5 : L <= 6) (h6 : ∀ q H', Same H H' -> SumH K H' q p L (crossR p f1 f2) (crossTs p t1 t2) (crossR p l1 l2) -> Q (.ref q) H') : sp_ltimes K vs H Q E := ⟨h, g, p, L, d, e, f1, f2, l1, l2, t1, t2, evs, h0, h1, h2, h3, h4, h5, h6⟩
theorem sp_refused66_mk {K : PySem.W.Frag} {u1 u2 : Addr} {vs : List V} {H : Hp} {Q : VK} {E : XK} (fv h g : Addr) (p q L M : Int) (d e : Nat) (f1 f2 l1 l2 : List Int) (t1 t2 : List (List (List Int))) (evs : vs = [.ref fv, .ref h, .ref g]) (h0 : SumH K H h p L f1 t1 l1) (h1 : SumH K H g q M f2 t2 l2) (h2 : WfSum p L d f1 t1 l1) (h3 : WfSum q M e f2 t2 l2) (h4 : Sm p t1) (h5 : L <= 6) (h6 : BadPair u1 u2 fv p q L M d e) (h7 : ∀ H', Same H H' -> Q (.bl true) H') : sp_refused66 K u1 u2 vs H Q E := ⟨fv, h, g, p, q, L, M, d, e, f1, f2, l1, l2, t1, t2, evs, h0, h1, h2, h3, h4, h5, h6, h7⟩
theorem sp_values66_mk {K : PySem.W.Frag} {vs : List V} {H : Hp} {Q : VK} {E : XK} (h g a : Addr) (p L : Int) (d e : Nat) (f1 f2 l1 l2 ws : List Int) (t1 t2 : List (List (List Int))) (evs : vs = [.ref h, .ref g, .ref a]) (h0 : SumH K H h p L f1 t1 l1) (h1 : SumH K H g p L f2 t2 l2) (h2 : WfSum p L d f1 t1 l1) (h3 : WfSum p L e f2 t2 l2) (h4 : Sm p t1) (h5 : L <= 6) (h6 : d + e <= 16) (h7 : d * e <= 16) (h8 : SqT K H a (ws.map V.int)) (h9 : isW L ws = true) (h10 : ws.length <= 63) (h11 : ∀ H', Same H H' -> Q (.bl true) H') : sp_values66 K vs H Q E := ⟨h, g, a, p, L, d, e, f1, f2, l1, l2, ws, t1, t2, evs, h0, h1, h2, h3, h4, h5, h6, h7, h8, h9, h10, h11⟩
theorem sp_unlike66_mk {K : PySem.W.Frag} {u1 u2 : Addr} {vs : List V} {H : Hp} {Q : VK} {E : XK} (fv h g : Addr) (p L c : Int) (d e : Nat) (f1 f2 l1 l2 : List Int) (t1 t2 : List (List (List Int))) (evs : vs = [.ref fv, .ref h, .ref g, .int c]) (h0 : (fv = u1 \/ fv = u2)) (h1 : SumH K H h p L f1 t1 l1) (h2 : SumH K H g p L f2 t2 l2) (h3 : WfSum p L d f1 t1 l1) (h4 : WfSum p L e f2 t2 l2) (h5 : Sm p t1) (h6 : 1 <= L) (h7 : L <= 6) (h8 : ∀ H', Same H H' -> Q (.bl true) H') : sp_unlike66 K u1 u2 vs H Q E := ⟨fv, h, g, p, L, c, d, e, f1, f2, l1, l2, t1, t2, evs, h0, h1, h2, h3, h4, h5, h6, h7, h8⟩
theorem blank_less (p : Int) (hp : 2 <= p) (a b : Nat) : zr a ++ zr b = zr (a + b) /\ lessTs a b [zt a] [zt b] = [zt (a + b)] /\ (zr a ++ (zr b).map fun x => -1 * x % p) = zr (a + b) := by
  have h1 : zr a ++ zr b = zr (a + b) := by unfold zr; rw [List.replicate_append_replicate]
  refine ⟨h1, ?_, ?_⟩
  . show [lessT a b (zt a) (zt b)] = _
    unfold lessT zt
    rw [List.map_replicate, List.map_replicate]
    have e1 : zr a ++ List.replicate b 0 = zr (a + b) := h1
    have e2 : List.replicate a 0 ++ zr b = zr (a + b) := h1
    rw [e1, e2, List.replicate_append_replicate]
  . have : (zr b).map (fun x => -1 * x % p) = zr b := by unfold zr; rw [List.map_replicate]; simp
    rw [this]; exact h1
theorem crossR_zero (p : Int) (a b : Nat) : crossR p (zr a) (zr b) = zr (a * b) := by
  refine List.eq_replicate_iff.mpr ⟨by rw [crossR_len]; simp [zr], fun x hx => ?_⟩
  unfold crossR at hx
  obtain ⟨y, hy, hx⟩ := List.mem_flatMap.mp hx
  obtain ⟨z, hz, rfl⟩ := List.mem_map.mp hx
  rw [(List.mem_replicate.mp hy).2]; simp
theorem blank_times (p : Int) (a b : Nat) : crossTs p [zt a] [zt b] = [zt (a * b)] := by
  show [crossT p (zt a) (zt b)] = _
  congr 1
  refine List.eq_replicate_iff.mpr ⟨by rw [crossT_len]; simp [zt], fun r hr => ?_⟩
  unfold crossT at hr
  obtain ⟨y, hy, hr⟩ := List.mem_flatMap.mp hr
  obtain ⟨z, hz, rfl⟩ := List.mem_map.mp hr
  rw [(List.mem_replicate.mp hy).2, (List.mem_replicate.mp hz).2, crossR_zero]
def sp_edges66 (K : PySem.W.Frag) (u1 u2 : Addr) : Sp := fun vs H Q _ => ∃ (p c : Int), vs = [.int p, .int c] /\ 2 <= p /\ p < 1000000000000000000 /\ ∀ H', Same H H' -> Q (.bl true) H'
theorem blank_small {n : Nat} (hn : n <= 16) : (zr n).length <= 900 /\ (zr n).length <= 900 /\ [zt n].length <= 900 /\ ∀ tb ∈ [zt n], tb.length <= 900 /\ ∀ r ∈ tb, r.length <= 900 := by
  have h1 : (zr n).length <= 900 := by unfold zr; rw [List.length_replicate]; omega
  refine ⟨h1, h1, by simp, fun tb htb => ?_⟩
  rw [List.mem_singleton.mp htb]
  refine ⟨by unfold zt; rw [List.length_replicate]; omega, fun r hr => ?_⟩
  rw [(List.mem_replicate.mp hr).2]; exact h1
theorem ok__law_edges {f : Addr} {fd : FuncData} (F : Fun K "_law_edges" "_law_edges" s__law_edges f fd) (T : Txt mg)
    (W : Own K mg)
    (Z : Exs K mg C_AskError C_BadHouse C_BadWord)
    {f_sums_less : Addr} {fd_sums_less : FuncData} (g_sums_less : FnOk P w K mg base (CXe P w) 3 f_sums_less fd_sums_less ["house", "other"] (sp_sless K C_BadHouse)) (F_sums_less : Fun K "sums_less" "sums_less" s_sums_less f_sums_less fd_sums_less) (b_sums_less : Binds K fd_sums_less ["house", "other"] []) (m_sums_less : mg "sums_less" = some (.ref f_sums_less))
    {f_sums_times : Addr} {fd_sums_times : FuncData} (g_sums_times : FnOk P w K mg base (CXe P w) 4 f_sums_times fd_sums_times ["house", "other"] (sp_stimes K C_BadHouse)) (F_sums_times : Fun K "sums_times" "sums_times" s_sums_times f_sums_times fd_sums_times) (b_sums_times : Binds K fd_sums_times ["house", "other"] []) (m_sums_times : mg "sums_times" = some (.ref f_sums_times))
    {f__law_house_is : Addr} {fd__law_house_is : FuncData} (g__law_house_is : FnOk P w K mg base CX0 3 f__law_house_is fd__law_house_is ["found", "due"] (sp_his66 K)) (F__law_house_is : Fun K "_law_house_is" "_law_house_is" s__law_house_is f__law_house_is fd__law_house_is) (b__law_house_is : Binds K fd__law_house_is ["found", "due"] []) (m__law_house_is : mg "_law_house_is" = some (.ref f__law_house_is))
    {f__law_blank : Addr} {fd__law_blank : FuncData} (g__law_blank : FnOk P w K mg base CX0 1 f__law_blank fd__law_blank ["p", "many"] (sp_blank66 K)) (F__law_blank : Fun K "_law_blank" "_law_blank" s__law_blank f__law_blank fd__law_blank) (b__law_blank : Binds K fd__law_blank ["p", "many"] []) (m__law_blank : mg "_law_blank" = some (.ref f__law_blank))
    {f__law_refused : Addr} {fd__law_refused : FuncData} (g__law_refused : FnOk P w K mg base CX0 5 f__law_refused fd__law_refused ["deed", "one", "two"] (sp_refused66 K f_sums_less f_sums_times)) (F__law_refused : Fun K "_law_refused" "_law_refused" s__law_refused f__law_refused fd__law_refused) (b__law_refused : Binds K fd__law_refused ["deed", "one", "two"] []) (m__law_refused : mg "_law_refused" = some (.ref f__law_refused))
    : FnOk P w K mg base CX0 6 f fd ["p", "cell"] (sp_edges66 K f_sums_less f_sums_times) := by
  refine F.ok sc__law_edges (fun vs H Q E h => ?_) (fun cdv A outer s H vs Q E hr h => ?_)
  . obtain ⟨p, c, rfl, _⟩ := h; rfl
  . obtain ⟨p, c, rfl, hp2, hp18, k⟩ := h
    have hl := line1000
    refine ⟨_, (pss_cons (ps_set (i := 2) sc__law_edges.nd rfl (Or.inl rfl) (pe_op op_add pe_int (pe_op op_mod (pv 1) pe_int)))
      (pss_lazy (ps_if (pt_not (pt_val (pe_call g__law_house_is (hr.mono (by decide)) rfl m__law_house_is F__law_house_is.kp b__law_house_is .nil pass0 (pa_cons (pe_call g_sums_less (hr.mono (by decide)) rfl m_sums_less F_sums_less.kp b_sums_less .nil (passNev (P := P) (w := w)) (pa_cons (pe_call g__law_blank (hr.mono (by decide)) rfl m__law_blank F__law_blank.kp b__law_blank .nil pass0 (pa_cons (pv 0) (pa_cons (pv 2) pa_nil))) (pa_cons (pe_call g__law_blank (hr.mono (by decide)) rfl m__law_blank F__law_blank.kp b__law_blank .nil pass0 (pa_cons (pv 0) (pa_cons (pe_op op_sub pe_int (pv 2)) pa_nil))) pa_nil))) (pa_cons (pe_call g__law_blank (hr.mono (by decide)) rfl m__law_blank F__law_blank.kp b__law_blank .nil pass0 (pa_cons (pv 0) (pa_cons pe_int pa_nil))) pa_nil)))))
      (pss_one (ps_ret pe_bl))
      pss_nil)
      (pss_cons (ps_set (i := 3) sc__law_edges.nd rfl (Or.inl rfl) (pe_op op_fdiv pe_int (pv 2)))
      (pss_lazy (ps_if (pt_not (pt_val (pe_call g__law_house_is (hr.mono (by decide)) rfl m__law_house_is F__law_house_is.kp b__law_house_is .nil pass0 (pa_cons (pe_call g_sums_times (hr.mono (by decide)) rfl m_sums_times F_sums_times.kp b_sums_times .nil (passNev (P := P) (w := w)) (pa_cons (pe_call g__law_blank (hr.mono (by decide)) rfl m__law_blank F__law_blank.kp b__law_blank .nil pass0 (pa_cons (pv 0) (pa_cons (pv 2) pa_nil))) (pa_cons (pe_call g__law_blank (hr.mono (by decide)) rfl m__law_blank F__law_blank.kp b__law_blank .nil pass0 (pa_cons (pv 0) (pa_cons (pv 3) pa_nil))) pa_nil))) (pa_cons (pe_call g__law_blank (hr.mono (by decide)) rfl m__law_blank F__law_blank.kp b__law_blank .nil pass0 (pa_cons (pv 0) (pa_cons (pe_op op_mul (pv 2) (pv 3)) pa_nil))) pa_nil)))))
      (pss_one (ps_ret pe_bl))
      pss_nil)
      (pss_lazy (ps_if (pt_not (pt_val (pe_call g__law_refused (hr.mono (by decide)) rfl m__law_refused F__law_refused.kp b__law_refused .nil pass0 (pa_cons (pe_glob (v := .ref f_sums_less) rfl m_sums_less rfl) (pa_cons (pe_call g__law_blank (hr.mono (by decide)) rfl m__law_blank F__law_blank.kp b__law_blank .nil pass0 (pa_cons (pv 0) (pa_cons (pv 2) pa_nil))) (pa_cons (pe_call g__law_blank (hr.mono (by decide)) rfl m__law_blank F__law_blank.kp b__law_blank .nil pass0 (pa_cons (pv 0) (pa_cons (pe_op op_sub pe_int (pv 2)) pa_nil))) pa_nil))))))
      (pss_one (ps_ret pe_bl))
      pss_nil)
      (pss_cons (ps_if (pt_cmpR op_gt (pe_op op_add (pv 3) pe_int) pe_int (nomark _))
      (pss_one (ps_ret (pe_call g__law_refused (hr.mono (by decide)) rfl m__law_refused F__law_refused.kp b__law_refused .nil pass0 (pa_cons (pe_glob (v := .ref f_sums_times) rfl m_sums_times rfl) (pa_cons (pe_call g__law_blank (hr.mono (by decide)) rfl m__law_blank F__law_blank.kp b__law_blank .nil pass0 (pa_cons (pv 0) (pa_cons pe_int pa_nil))) (pa_cons (pe_call g__law_blank (hr.mono (by decide)) rfl m__law_blank F__law_blank.kp b__law_blank .nil pass0 (pa_cons (pv 0) (pa_cons pe_int pa_nil))) pa_nil))))))
      pss_nil)
      (pss_one (ps_ret (pe_call g__law_refused (hr.mono (by decide)) rfl m__law_refused F__law_refused.kp b__law_refused .nil pass0 (pa_cons (pe_glob (v := .ref f_sums_times) rfl m_sums_times rfl) (pa_cons (pe_call g__law_blank (hr.mono (by decide)) rfl m__law_blank F__law_blank.kp b__law_blank .nil pass0 (pa_cons (pv 0) (pa_cons (pv 2) pa_nil))) (pa_cons (pe_call g__law_blank (hr.mono (by decide)) rfl m__law_blank F__law_blank.kp b__law_blank .nil pass0 (pa_cons (pv 0) (pa_cons (pe_op op_add (pv 3) pe_int) pa_nil))) pa_nil)))))))))))), ?_⟩
    walk_at "rd"
    obtain ⟨n, hn, hn1, hn16⟩ : ∃ n : Nat, 1 + c % 16 = (n : Int) /\ 1 <= n /\ n <= 16 := ⟨(1 + c % 16).toNat, by omega, by omega, by omega⟩
    have e16 : (16 : Int) - (n : Int) = ((16 - n : Nat) : Int) := by omega
    have e17 : (17 : Int) - (n : Int) = ((17 - n : Nat) : Int) := by omega
    have eft : (16 : Int) / (n : Int) = ((16 / n : Nat) : Int) := by rw [Int.natCast_ediv]; rfl
    have f1 : n * (16 / n) <= 16 := Nat.mul_div_le 16 n
    have f2 : 16 < n * (16 / n + 1) := Nat.lt_mul_div_succ 16 (by omega)
    have f3 : 16 / n <= 16 := Nat.div_le_self _ _
    rw [hn, e16]
    refine ⟨by decide, p, n, rfl, hn16, fun q1 H1 s1 h1 => ?_⟩
    refine ⟨p, 16 - n, rfl, by omega, fun q2 H2 s2 h2 => ?_⟩
    refine sp_sless_mk (q1) (q2) (p) (p) (1) (1) (n) (16 - n) (_) (_) (_) (_) (_) (_) (rfl) (h1.mono s2) (h2) (blank_wf hp2 hp18 hn16) (blank_wf hp2 hp18 (by omega)) (by decide) (fun _ r3 H3 s3 h3 => ?_) (fun z => absurd ⟨rfl, rfl, by omega⟩ z)
    obtain ⟨z1, z2, z3⟩ := blank_less p hp2 n (16 - n)
    rw [z1, z2, z3, show n + (16 - n) = 16 by omega] at h3
    refine ⟨p, 16, rfl, by omega, fun q4 H4 s4 h4 => ?_⟩
    obtain ⟨w1, w2, w3, w4⟩ := blank_small (n := 16) (by omega)
    have s04 := (s1.trans s2).trans (s3.trans s4)
    refine sp_his66_mk (r3) (q4) (p) (1) (_) (_) (_) (rfl) (h3.mono s4) (h4) (w1) (w2) (w3) (w4) (fun H5 s5 => ⟨_, rfl, ?_⟩)
    rw [if_neg (by decide)]
    refine later_of ?_
    walk_at "rd"
    rw [eft]
    generalize 16 / n = ft at f1 f2 f3 ⊢
    rw [<- Int.natCast_mul]
    have s05 := s04.trans s5
    refine ⟨⟨by omega, by omega⟩, p, n, rfl, hn16, fun q6 H6 s6 h6 => ⟨p, ft, rfl, f3, fun q7 H7 s7 h7 => ?_⟩⟩
    refine sp_stimes_mk (q6) (q7) (p) (p) (1) (1) (n) (ft) (_) (_) (_) (_) (_) (_) (rfl) (h6.mono s7) (h7) (blank_wf hp2 hp18 hn16) (blank_wf hp2 hp18 f3) (blank_sm hp2) (by decide) (fun _ r8 H8 s8 h8 => ?_) (fun z => absurd ⟨rfl, rfl, f1⟩ z)
    rw [crossR_zero, blank_times] at h8
    refine ⟨.inl ⟨by omega, by omega⟩, p, n * ft, rfl, f1, fun q9 H9 s9 h9 => ?_⟩
    obtain ⟨v1, v2, v3, v4⟩ := blank_small f1
    have s09 := s05.trans ((s6.trans s7).trans (s8.trans s9))
    refine sp_his66_mk (r8) (q9) (p) (1) (_) (_) (_) (rfl) (h8.mono s9) (h9) (v1) (v2) (v3) (v4) (fun Ha sa => ⟨_, rfl, ?_⟩)
    rw [if_neg (by decide)]
    refine later_of ?_
    walk_at "rd"
    rw [e17]
    have s0a := s09.trans sa
    refine ⟨p, n, rfl, hn16, fun qb Hb sb hb => ⟨p, 17 - n, rfl, by omega, fun qc Hc sc hc => ?_⟩⟩
    have s0c := s0a.trans (sb.trans sc)
    refine sp_refused66_mk (f_sums_less) (qb) (qc) (p) (p) (1) (1) (n) (17 - n) (_) (_) (_) (_) (_) (_) (rfl) (hb.mono sc) (hc) (blank_wf hp2 hp18 hn16) (blank_wf hp2 hp18 (by omega)) (blank_sm hp2) (by decide) (.inl ⟨rfl, fun z => by omega⟩) (fun Hd sd => ⟨_, rfl, ?_⟩)
    rw [if_neg (by decide)]
    refine later_of ?_
    walk_at "rd"
    have s0d := s0c.trans sd
    refine ite2 (fun _ => ?_) (fun hft => ?_)
    . refine ⟨p, 2, rfl, by omega, fun qe He se hE => ⟨p, 9, rfl, by omega, fun qf Hf sf hf => ?_⟩⟩
      exact ⟨f_sums_times, qe, qf, p, p, 1, 1, 2, 9, _, _, _, _, _, _, rfl, hE.mono sf, hf, blank_wf hp2 hp18 (by omega), blank_wf hp2 hp18 (by omega), blank_sm hp2, by decide, .inr ⟨rfl, fun z => by omega⟩, fun Hg sg => k _ (s0d.trans ((se.trans sf).trans sg))⟩
    . refine ⟨p, n, rfl, hn16, fun qe He se hE => ⟨p, ft + 1, rfl, by omega, fun qf Hf sf hf => ?_⟩⟩
      exact ⟨f_sums_times, qe, qf, p, p, 1, 1, n, ft + 1, _, _, _, _, _, _, rfl, hE.mono sf, hf, blank_wf hp2 hp18 hn16, blank_wf hp2 hp18 (by omega), blank_sm hp2, by decide, .inr ⟨rfl, fun z => by omega⟩, fun Hg sg => k _ (s0d.trans ((se.trans sf).trans sg))⟩
theorem house_small {p L : Int} {d : Nat} {f l : List Int} {t : List (List (List Int))} (wf : WfSum p L d f t l) (hL : L <= 6) : f.length <= 900 /\ l.length <= 900 /\ t.length <= 900 /\ ∀ tb ∈ t, tb.length <= 900 /\ ∀ r ∈ tb, r.length <= 900 := by
  have h1 := wf.f.1
  have h2 := wf.l.1
  have h3 := wf.t
  have h4 := wf.dl
  exact ⟨by omega, by omega, by omega, fun tb htb => ⟨by have := (wf.tt tb htb).1; omega, fun r hr' => by have := (wf.tt tb htb).2 r hr'; omega⟩⟩
theorem back_back {p L : Int} {d : Nat} {f l : List Int} {t : List (List (List Int))} (wf : WfSum p L d f t l) : (t.map (backT d)).map (backT d) = t := by
  rw [List.map_map]
  refine (List.map_congr_left fun tb htb => ?_).trans (List.map_id t)
  have := wf.tt tb htb
  exact backT_back ⟨this.1, this.2⟩
def spLaw (K : PySem.W.Frag) : Sp := fun vs H Q _ => ∃ (a : Addr) (ns : List Int), vs = [.ref a] /\ SqL K H a (ns.map V.int) /\ ns.length <= 63 /\ ∀ H', Q (.bl true) H'
theorem ok_law {f : Addr} {fd : FuncData} (F : Fun K "law" "law" s_law f fd) (T : Txt mg)
    (W : Own K mg)
    (Z : Exs K mg C_AskError C_BadHouse C_BadWord)
    {f_sums_less : Addr} {fd_sums_less : FuncData} (g_sums_less : FnOk P w K mg base (CXe P w) 3 f_sums_less fd_sums_less ["house", "other"] (sp_sless K C_BadHouse)) (F_sums_less : Fun K "sums_less" "sums_less" s_sums_less f_sums_less fd_sums_less) (b_sums_less : Binds K fd_sums_less ["house", "other"] []) (m_sums_less : mg "sums_less" = some (.ref f_sums_less))
    {f_sums_times : Addr} {fd_sums_times : FuncData} (g_sums_times : FnOk P w K mg base (CXe P w) 4 f_sums_times fd_sums_times ["house", "other"] (sp_stimes K C_BadHouse)) (F_sums_times : Fun K "sums_times" "sums_times" s_sums_times f_sums_times fd_sums_times) (b_sums_times : Binds K fd_sums_times ["house", "other"] []) (m_sums_times : mg "sums_times" = some (.ref f_sums_times))
    {f_sums_back : Addr} {fd_sums_back : FuncData} (g_sums_back : FnOk P w K mg base CX0 2 f_sums_back fd_sums_back ["house"] (sp_sback K)) (F_sums_back : Fun K "sums_back" "sums_back" s_sums_back f_sums_back fd_sums_back) (b_sums_back : Binds K fd_sums_back ["house"] []) (m_sums_back : mg "sums_back" = some (.ref f_sums_back))
    {f__law_cell : Addr} {fd__law_cell : FuncData} (g__law_cell : FnOk P w K mg base CX0 1 f__law_cell fd__law_cell ["script", "k"] (sp_cell K)) (F__law_cell : Fun K "_law_cell" "_law_cell" s__law_cell f__law_cell fd__law_cell) (b__law_cell : Binds K fd__law_cell ["script", "k"] []) (m__law_cell : mg "_law_cell" = some (.ref f__law_cell))
    {f__law_prime : Addr} {fd__law_prime : FuncData} (g__law_prime : FnOk P w K mg base CX0 2 f__law_prime fd__law_prime ["cell"] (sp_prime K)) (F__law_prime : Fun K "_law_prime" "_law_prime" s__law_prime f__law_prime fd__law_prime) (b__law_prime : Binds K fd__law_prime ["cell"] []) (m__law_prime : mg "_law_prime" = some (.ref f__law_prime))
    {f__law_house : Addr} {fd__law_house : FuncData} (g__law_house : FnOk P w K mg base CX0 4 f__law_house fd__law_house ["script", "at", "p", "letters", "many"] (sp_house66 K)) (F__law_house : Fun K "_law_house" "_law_house" s__law_house f__law_house fd__law_house) (b__law_house : Binds K fd__law_house ["script", "at", "p", "letters", "many"] []) (m__law_house : mg "_law_house" = some (.ref f__law_house))
    {f__law_word : Addr} {fd__law_word : FuncData} (g__law_word : FnOk P w K mg base CX0 1 f__law_word fd__law_word ["script", "letters", "most"] (sp_word64 K)) (F__law_word : Fun K "_law_word" "_law_word" s__law_word f__law_word fd__law_word) (b__law_word : Binds K fd__law_word ["script", "letters", "most"] []) (m__law_word : mg "_law_word" = some (.ref f__law_word))
    {f__law_house_is : Addr} {fd__law_house_is : FuncData} (g__law_house_is : FnOk P w K mg base CX0 3 f__law_house_is fd__law_house_is ["found", "due"] (sp_his66 K)) (F__law_house_is : Fun K "_law_house_is" "_law_house_is" s__law_house_is f__law_house_is fd__law_house_is) (b__law_house_is : Binds K fd__law_house_is ["found", "due"] []) (m__law_house_is : mg "_law_house_is" = some (.ref f__law_house_is))
    {f__law_less : Addr} {fd__law_less : FuncData} (g__law_less : FnOk P w K mg base CX0 1 f__law_less fd__law_less ["one", "two"] (sp_lless K)) (F__law_less : Fun K "_law_less" "_law_less" s__law_less f__law_less fd__law_less) (b__law_less : Binds K fd__law_less ["one", "two"] []) (m__law_less : mg "_law_less" = some (.ref f__law_less))
    {f__law_times_of : Addr} {fd__law_times_of : FuncData} (g__law_times_of : FnOk P w K mg base CX0 2 f__law_times_of fd__law_times_of ["one", "two"] (sp_ltimes K)) (F__law_times_of : Fun K "_law_times_of" "_law_times_of" s__law_times_of f__law_times_of fd__law_times_of) (b__law_times_of : Binds K fd__law_times_of ["one", "two"] []) (m__law_times_of : mg "_law_times_of" = some (.ref f__law_times_of))
    {f__law_back : Addr} {fd__law_back : FuncData} (g__law_back : FnOk P w K mg base CX0 1 f__law_back fd__law_back ["house"] (sp_sback K)) (F__law_back : Fun K "_law_back" "_law_back" s__law_back f__law_back fd__law_back) (b__law_back : Binds K fd__law_back ["house"] []) (m__law_back : mg "_law_back" = some (.ref f__law_back))
    {f__law_edges : Addr} {fd__law_edges : FuncData} (g__law_edges : FnOk P w K mg base CX0 6 f__law_edges fd__law_edges ["p", "cell"] (sp_edges66 K f_sums_less f_sums_times)) (F__law_edges : Fun K "_law_edges" "_law_edges" s__law_edges f__law_edges fd__law_edges) (b__law_edges : Binds K fd__law_edges ["p", "cell"] []) (m__law_edges : mg "_law_edges" = some (.ref f__law_edges))
    {f__law_values : Addr} {fd__law_values : FuncData} (g__law_values : FnOk P w K mg base CX0 7 f__law_values fd__law_values ["one", "two", "word"] (sp_values66 K)) (F__law_values : Fun K "_law_values" "_law_values" s__law_values f__law_values fd__law_values) (b__law_values : Binds K fd__law_values ["one", "two", "word"] []) (m__law_values : mg "_law_values" = some (.ref f__law_values))
    {f__law_unlike : Addr} {fd__law_unlike : FuncData} (g__law_unlike : FnOk P w K mg base CX0 6 f__law_unlike fd__law_unlike ["deed", "one", "two", "cell"] (sp_unlike66 K f_sums_less f_sums_times)) (F__law_unlike : Fun K "_law_unlike" "_law_unlike" s__law_unlike f__law_unlike fd__law_unlike) (b__law_unlike : Binds K fd__law_unlike ["deed", "one", "two", "cell"] []) (m__law_unlike : mg "_law_unlike" = some (.ref f__law_unlike))
    : FnOk P w K mg base CX0 8 f fd ["script"] (spLaw K) := by
  refine F.ok sc_law (fun vs H Q E h => ?_) (fun cdv A outer s H vs Q E hr h => ?_)
  . obtain ⟨a, ns, rfl, _⟩ := h; rfl
  . obtain ⟨a, ns, rfl, hs, hz, k⟩ := h
    have hl := line1000
    refine ⟨_, (pss_lazy (ps_set (i := 1) sc_law.nd rfl (Or.inl rfl) (pe_call g__law_prime (hr.mono (by decide)) rfl m__law_prime F__law_prime.kp b__law_prime .nil pass0 (pa_cons (pe_call g__law_cell (hr.mono (by decide)) rfl m__law_cell F__law_cell.kp b__law_cell .nil pass0 (pa_cons (pv 0) (pa_cons pe_int pa_nil))) pa_nil)))
      (pss_cons (ps_set (i := 2) sc_law.nd rfl (Or.inl rfl) (pe_op op_add (pe_op op_add pe_int (pe_op op_mod (pe_call g__law_cell (hr.mono (by decide)) rfl m__law_cell F__law_cell.kp b__law_cell .nil pass0 (pa_cons (pv 0) (pa_cons pe_int pa_nil))) pe_int)) (pe_op op_mul (pe_op op_fdiv (pe_op op_mod (pe_op op_fdiv (pe_call g__law_cell (hr.mono (by decide)) rfl m__law_cell F__law_cell.kp b__law_cell .nil pass0 (pa_cons (pv 0) (pa_cons pe_int pa_nil))) pe_int) pe_int) pe_int) pe_int)))
      (pss_lazy (ps_set (i := 3) sc_law.nd rfl (Or.inl rfl) (pe_op op_mod (pe_call g__law_cell (hr.mono (by decide)) rfl m__law_cell F__law_cell.kp b__law_cell .nil pass0 (pa_cons (pv 0) (pa_cons pe_int pa_nil))) (pe_op op_sub pe_int (pe_op op_fdiv (pv 2) pe_int))))
      (pss_lazy (ps_set (i := 4) sc_law.nd rfl (Or.inl rfl) (pe_call g__law_house (hr.mono (by decide)) rfl m__law_house F__law_house.kp b__law_house .nil pass0 (pa_cons (pv 0) (pa_cons pe_int (pa_cons (pv 1) (pa_cons (pv 2) (pa_cons (pv 3) pa_nil)))))))
      (pss_cons (ps_set (i := 5) sc_law.nd rfl (Or.inl rfl) (pe_op op_add (pe_op op_add pe_int (pe_op op_mul pe_int (pv 3))) (pe_op op_mul (pe_op op_mul (pv 2) (pv 3)) (pv 3))))
      (pss_lazy (ps_set (i := 6) sc_law.nd rfl (Or.inl rfl) (pe_call g__law_house (hr.mono (by decide)) rfl m__law_house F__law_house.kp b__law_house .nil pass0 (pa_cons (pv 0) (pa_cons (pv 5) (pa_cons (pv 1) (pa_cons (pv 2) (pa_cons (pe_op op_mod (pe_call g__law_cell (hr.mono (by decide)) rfl m__law_cell F__law_cell.kp b__law_cell .nil pass0 (pa_cons (pv 0) (pa_cons pe_int pa_nil))) (pe_op op_sub pe_int (pe_op op_fdiv (pv 2) pe_int))) pa_nil)))))))
      (pss_lazy (ps_if (pt_not (pt_val (pe_call g__law_house_is (hr.mono (by decide)) rfl m__law_house_is F__law_house_is.kp b__law_house_is .nil pass0 (pa_cons (pe_call g_sums_less (hr.mono (by decide)) rfl m_sums_less F_sums_less.kp b_sums_less .nil (passNev (P := P) (w := w)) (pa_cons (pv 4) (pa_cons (pv 6) pa_nil))) (pa_cons (pe_call g__law_less (hr.mono (by decide)) rfl m__law_less F__law_less.kp b__law_less .nil pass0 (pa_cons (pv 4) (pa_cons (pv 6) pa_nil))) pa_nil)))))
      (pss_one (ps_ret pe_bl))
      pss_nil)
      (pss_lazy (ps_if (pt_not (pt_val (pe_call g__law_house_is (hr.mono (by decide)) rfl m__law_house_is F__law_house_is.kp b__law_house_is .nil pass0 (pa_cons (pe_call g_sums_times (hr.mono (by decide)) rfl m_sums_times F_sums_times.kp b_sums_times .nil (passNev (P := P) (w := w)) (pa_cons (pv 4) (pa_cons (pv 6) pa_nil))) (pa_cons (pe_call g__law_times_of (hr.mono (by decide)) rfl m__law_times_of F__law_times_of.kp b__law_times_of .nil pass0 (pa_cons (pv 4) (pa_cons (pv 6) pa_nil))) pa_nil)))))
      (pss_one (ps_ret pe_bl))
      pss_nil)
      (pss_lazy (ps_if (PW.pt (pw_or (pt_not (pt_val (pe_call g__law_house_is (hr.mono (by decide)) rfl m__law_house_is F__law_house_is.kp b__law_house_is .nil pass0 (pa_cons (pe_call g_sums_back (hr.mono (by decide)) rfl m_sums_back F_sums_back.kp b_sums_back .nil pass0 (pa_cons (pv 4) pa_nil)) (pa_cons (pe_call g__law_back (hr.mono (by decide)) rfl m__law_back F__law_back.kp b__law_back .nil pass0 (pa_cons (pv 4) pa_nil)) pa_nil))))) (pw_or1 (pt_not (pt_val (pe_call g__law_house_is (hr.mono (by decide)) rfl m__law_house_is F__law_house_is.kp b__law_house_is .nil pass0 (pa_cons (pe_call g_sums_back (hr.mono (by decide)) rfl m_sums_back F_sums_back.kp b_sums_back .nil pass0 (pa_cons (pe_call g_sums_back (hr.mono (by decide)) rfl m_sums_back F_sums_back.kp b_sums_back .nil pass0 (pa_cons (pv 6) pa_nil)) pa_nil)) (pa_cons (pv 6) pa_nil))))))))
      (pss_one (ps_ret pe_bl))
      pss_nil)
      (pss_lazy (ps_if (pt_not (pt_val (pe_call g__law_values (hr.mono (by decide)) rfl m__law_values F__law_values.kp b__law_values .nil pass0 (pa_cons (pv 4) (pa_cons (pv 6) (pa_cons (pe_call g__law_word (hr.mono (by decide)) rfl m__law_word F__law_word.kp b__law_word .nil pass0 (pa_cons (pv 0) (pa_cons (pv 2) (pa_cons pe_int pa_nil)))) pa_nil))))))
      (pss_one (ps_ret pe_bl))
      pss_nil)
      (pss_cons (ps_set (i := 7) sc_law.nd rfl (Or.inl rfl) (pe_call g__law_cell (hr.mono (by decide)) rfl m__law_cell F__law_cell.kp b__law_cell .nil pass0 (pa_cons (pv 0) (pa_cons pe_int pa_nil))))
      (pss_lazy (ps_if (PW.pt (pw_or (pt_not (pt_val (pe_call g__law_unlike (hr.mono (by decide)) rfl m__law_unlike F__law_unlike.kp b__law_unlike .nil pass0 (pa_cons (pe_glob (v := .ref f_sums_less) rfl m_sums_less rfl) (pa_cons (pv 4) (pa_cons (pv 6) (pa_cons (pv 7) pa_nil))))))) (pw_or1 (pt_not (pt_val (pe_call g__law_unlike (hr.mono (by decide)) rfl m__law_unlike F__law_unlike.kp b__law_unlike .nil pass0 (pa_cons (pe_glob (v := .ref f_sums_times) rfl m_sums_times rfl) (pa_cons (pv 4) (pa_cons (pv 6) (pa_cons (pe_op op_fdiv (pv 7) pe_int) pa_nil))))))))))
      (pss_one (ps_ret pe_bl))
      pss_nil)
      (pss_one (ps_ret (pe_call g__law_edges (hr.mono (by decide)) rfl m__law_edges F__law_edges.kp b__law_edges .nil pass0 (pa_cons (pv 1) (pa_cons (pe_op op_fdiv (pv 7) pe_int) pa_nil))))))))))))))))), ?_⟩
    walk_at "rd"
    refine ⟨a, ns, 0, rfl, hs, _, rfl, fun p H1 s1 hp => ?_⟩
    have hp2 := hp.1
    have hp18 := hp.2.1
    refine later_of ?_
    walk_at "rd"
    obtain ⟨L, hL, hL1, hL6⟩ : ∃ L : Nat, 1 + cell ns 1 % 3 + cell ns 1 / 3 % 4 / 3 * 3 = (L : Int) /\ 1 <= L /\ L <= 6 := ⟨(1 + cell ns 1 % 3 + cell ns 1 / 3 % 4 / 3 * 3).toNat, by omega, by omega, by omega⟩
    refine ⟨a, ns, 1, rfl, s1.seq hs, _, rfl, by decide, a, ns, 1, rfl, s1.seq hs, _, rfl, ⟨by decide, by decide⟩, by decide, ⟨by decide, by decide⟩, .inr ⟨by decide, by decide⟩, ?_⟩
    rw [hL]
    obtain ⟨wd, hwd, hw3, hw4⟩ : ∃ wd : Int, 4 - (L : Int) / 4 = wd /\ 3 <= wd /\ wd <= 4 := ⟨_, rfl, by omega, by omega⟩
    rw [hwd]
    refine ⟨a, ns, 2, rfl, s1.seq hs, ⟨by decide, by decide⟩, _, rfl, by omega, ?_⟩
    obtain ⟨d, hd, hdl⟩ : ∃ d : Nat, cell ns 2 % wd = (d : Int) /\ d <= 3 := by
      have u0 := Int.emod_nonneg (cell ns 2) (show wd ≠ 0 by omega)
      have u1 := Int.emod_lt_of_pos (cell ns 2) (show 0 < wd by omega)
      exact ⟨(cell ns 2 % wd).toNat, by omega, by omega⟩
    obtain ⟨e, he, hel⟩ : ∃ e : Nat, cell ns 3 % wd = (e : Int) /\ e <= 3 := by
      have u0 := Int.emod_nonneg (cell ns 3) (show wd ≠ 0 by omega)
      have u1 := Int.emod_lt_of_pos (cell ns 3) (show 0 < wd by omega)
      exact ⟨(cell ns 3 % wd).toNat, by omega, by omega⟩
    rw [hd]
    refine later_of ?_
    walk_at "rd"
    have hde : d + e <= 16 := by omega
    have hdm : d * e <= 16 := by
      have : d * e <= 3 * 3 := Nat.mul_le_mul hdl hel
      omega
    have hat : 0 <= (L : Int) * (d : Int) * (d : Int) /\ (L : Int) * (d : Int) * (d : Int) <= 54 := by
      have h1 : L * d * d <= 6 * 3 * 3 := Nat.mul_le_mul (Nat.mul_le_mul hL6 hdl) hdl
      have h2 : (L : Int) * (d : Int) * (d : Int) = ((L * d * d : Nat) : Int) := by rw [Int.natCast_mul, Int.natCast_mul]
      omega
    refine ⟨a, ns, 5, p, L, d, rfl, s1.seq hs, by omega, by omega, hp2, hp18, hL1, hL6, by omega, fun h f1 l1 t1 H2 s2 hh wf sm => ?_⟩
    refine later_of ?_
    walk_at "rd"
    rw [hwd]
    have s02 := s1.trans s2
    refine ⟨.inl ⟨by decide, by decide⟩, .inl ⟨by omega, by omega⟩, .inr ⟨by omega, by omega⟩, a, ns, 3, rfl, s02.seq hs, ⟨by decide, by decide⟩, _, rfl, by omega, ?_⟩
    rw [he]
    refine ⟨a, ns, 5 + 2 * (d : Int) + (L : Int) * d * d, p, L, e, rfl, s02.seq hs, by omega, by omega, hp2, hp18, hL1, hL6, by omega, fun g f2 l2 t2 H3 s3 hg wg sm2 => ?_⟩
    refine later_of ?_
    walk_at "rd"
    have hLL : (L : Int) <= 6 := by omega
    have s03 := s02.trans s3
    have hh3 := hh.mono s3
    refine sp_sless_mk (h) (g) (p) (p) (L) (L) (d) (e) (f1) (f2) (l1) (l2) (t1) (t2) (rfl) (hh3) (hg) (wf) (wg) (hLL) (fun _ r4 H4 s4 h4 => ?_) (fun z => absurd ⟨rfl, rfl, hde⟩ z)
    refine sp_lless_mk (h) (g) (p) (L) (d) (e) (f1) (f2) (l1) (l2) (t1) (t2) (rfl) (hh3.mono s4) (hg.mono s4) (wf) (wg) (hLL) (fun r5 H5 s5 h5 => ?_)
    obtain ⟨w1, w2, w3, w4⟩ := house_small (less_wf wf wg hde) hLL
    refine sp_his66_mk (r4) (r5) (p) (L) (_) (_) (_) (rfl) (h4.mono s5) (h5) (w1) (w2) (w3) (w4) (fun H6 s6 => ⟨_, rfl, ?_⟩)
    rw [if_neg (by decide)]
    refine later_of ?_
    walk_at "rd"
    have s36 := s4.trans (s5.trans s6)
    refine sp_stimes_mk (h) (g) (p) (p) (L) (L) (d) (e) (f1) (f2) (l1) (l2) (t1) (t2) (rfl) (hh3.mono s36) (hg.mono s36) (wf) (wg) (sm) (hLL) (fun _ r7 H7 s7 h7 => ?_) (fun z => absurd ⟨rfl, rfl, hdm⟩ z)
    have s37 := s36.trans s7
    refine sp_ltimes_mk (h) (g) (p) (L) (d) (e) (f1) (f2) (l1) (l2) (t1) (t2) (rfl) (hh3.mono s37) (hg.mono s37) (wf) (wg) (sm) (hLL) (fun r8 H8 s8 h8 => ?_)
    obtain ⟨v1, v2, v3, v4⟩ := house_small (times_wf wf wg hdm) hLL
    refine sp_his66_mk (r7) (r8) (p) (L) (_) (_) (_) (rfl) (h7.mono s8) (h8) (v1) (v2) (v3) (v4) (fun H9 s9 => ⟨_, rfl, ?_⟩)
    rw [if_neg (by decide)]
    refine later_of ?_
    walk_at "rd"
    have s39 := s37.trans (s8.trans s9)
    refine sp_sback_mk (h) (p) (L) (d) (f1) (l1) (t1) (rfl) (hh3.mono s39) (wf) (hLL) (fun ra Ha sa ha => ?_)
    have s3a := s39.trans sa
    refine sp_sback_mk (h) (p) (L) (d) (f1) (l1) (t1) (rfl) (hh3.mono s3a) (wf) (hLL) (fun rb Hb sb hb => ?_)
    obtain ⟨y1, y2, y3, y4⟩ := house_small (back_wf wf) hLL
    refine sp_his66_mk (ra) (rb) (p) (L) (_) (_) (_) (rfl) (ha.mono sb) (hb) (y1) (y2) (y3) (y4) (fun Hc sc => ⟨_, rfl, ?_⟩)
    rw [if_neg (by decide)]
    have s3c := s3a.trans (sb.trans sc)
    refine sp_sback_mk (g) (p) (L) (e) (f2) (l2) (t2) (rfl) (hg.mono s3c) (wg) (hLL) (fun rd' Hd sd hd' => ?_)
    refine sp_sback_mk (rd') (p) (L) (e) (l2) (f2) (_) (rfl) (hd') (back_wf wg) (hLL) (fun re He se hE => ?_)
    rw [back_back wg] at hE
    have s3e := s3c.trans (sd.trans se)
    obtain ⟨x1, x2, x3, x4⟩ := house_small wg hLL
    refine sp_his66_mk (re) (g) (p) (L) (_) (_) (_) (rfl) (hE) (hg.mono s3e) (x1) (x2) (x3) (x4) (fun Hf sf => ⟨_, rfl, ?_⟩)
    rw [if_neg (by decide)]
    refine later_of ?_
    walk_at "rd"
    have s3f := s3e.trans sf
    have s0f := s03.trans s3f
    refine ⟨a, ns, L, 30, rfl, s0f.seq hs, hz, by omega, by omega, fun t ws Hg sg htw hw hwl => ?_⟩
    have s3g := s3f.trans sg
    refine sp_values66_mk (h) (g) (t) (p) (L) (d) (e) (f1) (f2) (l1) (l2) (ws) (t1) (t2) (rfl) (hh3.mono s3g) (hg.mono s3g) (wf) (wg) (sm) (hLL) (hde) (hdm) (htw) (hw) (hwl) (fun Hh sh => ⟨_, rfl, ?_⟩)
    rw [if_neg (by decide)]
    refine later_of ?_
    walk_at "rd"
    have s3h := s3g.trans sh
    refine ⟨a, ns, 4, rfl, (s03.trans s3h).seq hs, ?_⟩
    refine sp_unlike66_mk (f_sums_less) (h) (g) (p) (L) (_) (d) (e) (f1) (f2) (l1) (l2) (t1) (t2) (rfl) (.inl rfl) (hh3.mono s3h) (hg.mono s3h) (wf) (wg) (sm) (by omega) (hLL) (fun Hi si => ⟨_, rfl, ?_⟩)
    rw [if_neg (by decide)]
    have s3i := s3h.trans si
    refine ⟨_, rfl, ⟨by decide, by decide⟩, f_sums_times, h, g, p, L, _, d, e, f1, f2, l1, l2, t1, t2, rfl, .inr rfl, hh3.mono s3i, hg.mono s3i, wf, wg, sm, by omega, hLL, fun Hj sj => ⟨_, rfl, ?_⟩⟩
    rw [if_neg (by decide)]
    refine later_of ?_
    walk_at "rd"
    exact ⟨⟨by decide, by decide⟩, p, _, rfl, hp2, hp18, fun Hk sk => k _⟩
end
theorem all_mk {l : PySem.W.OpenLaw} {w : World} {K : PySem.W.Frag} {h : Heap} {mg : Str -> Option Value} {fa f_scaled f_product f_is_word f_check_word f_made_of f_check_size f_stepped f_rows_along f_row_behind f_worth f_check_as_many f_table_less f_less_of f_sums_less f_row_times f_table_times f_sums_times f_table_back f_sums_back f__law_cell f__law_is_prime f__law_prime f__law_whole f__law_number f__law_row f__law_row_is f__law_house f__law_step f__law_times f__law_behind f__law_word f__law_house_is f__law_less f__law_cross f__law_times_of f__law_back f__law_blank f__law_refused f__law_refused_by_any f__law_edges f__law_worth f__law_values f__law_unlike f_law : Addr} (X : K.In h) (G : h.Ns mainGlobals mg) (hfa : mg "law" = some (.ref fa))
    {C_AskError C_BadHouse C_BadWord : Addr}
    {od_scaled an_scaled : Option Addr} {sl_scaled : Array (Option Value)} {oc_scaled kV_scaled dc_scaled pm_scaled cd_scaled ct_scaled : Value}
    {od_product an_product : Option Addr} {sl_product : Array (Option Value)} {oc_product kV_product dc_product pm_product cd_product ct_product : Value}
    {od_is_word an_is_word : Option Addr} {sl_is_word : Array (Option Value)} {oc_is_word kV_is_word dc_is_word pm_is_word cd_is_word ct_is_word : Value}
    {od_check_word an_check_word : Option Addr} {sl_check_word : Array (Option Value)} {oc_check_word kV_check_word dc_check_word pm_check_word cd_check_word ct_check_word : Value}
    {od_made_of an_made_of : Option Addr} {sl_made_of : Array (Option Value)} {oc_made_of kV_made_of dc_made_of pm_made_of cd_made_of ct_made_of : Value}
    {od_check_size an_check_size : Option Addr} {sl_check_size : Array (Option Value)} {oc_check_size kV_check_size dc_check_size pm_check_size cd_check_size ct_check_size : Value}
    {od_stepped an_stepped : Option Addr} {sl_stepped : Array (Option Value)} {oc_stepped kV_stepped dc_stepped pm_stepped cd_stepped ct_stepped : Value}
    {od_rows_along an_rows_along : Option Addr} {sl_rows_along : Array (Option Value)} {oc_rows_along kV_rows_along dc_rows_along pm_rows_along cd_rows_along ct_rows_along : Value}
    {od_row_behind an_row_behind : Option Addr} {sl_row_behind : Array (Option Value)} {oc_row_behind kV_row_behind dc_row_behind pm_row_behind cd_row_behind ct_row_behind : Value}
    {od_worth an_worth : Option Addr} {sl_worth : Array (Option Value)} {oc_worth kV_worth dc_worth pm_worth cd_worth ct_worth : Value}
    {od_check_as_many an_check_as_many : Option Addr} {sl_check_as_many : Array (Option Value)} {oc_check_as_many kV_check_as_many dc_check_as_many pm_check_as_many cd_check_as_many ct_check_as_many : Value}
    {od_table_less an_table_less : Option Addr} {sl_table_less : Array (Option Value)} {oc_table_less kV_table_less dc_table_less pm_table_less cd_table_less ct_table_less : Value}
    {od_less_of an_less_of : Option Addr} {sl_less_of : Array (Option Value)} {oc_less_of kV_less_of dc_less_of pm_less_of cd_less_of ct_less_of : Value}
    {od_sums_less an_sums_less : Option Addr} {sl_sums_less : Array (Option Value)} {oc_sums_less kV_sums_less dc_sums_less pm_sums_less cd_sums_less ct_sums_less : Value}
    {od_row_times an_row_times : Option Addr} {sl_row_times : Array (Option Value)} {oc_row_times kV_row_times dc_row_times pm_row_times cd_row_times ct_row_times : Value}
    {od_table_times an_table_times : Option Addr} {sl_table_times : Array (Option Value)} {oc_table_times kV_table_times dc_table_times pm_table_times cd_table_times ct_table_times : Value}
    {od_sums_times an_sums_times : Option Addr} {sl_sums_times : Array (Option Value)} {oc_sums_times kV_sums_times dc_sums_times pm_sums_times cd_sums_times ct_sums_times : Value}
    {od_table_back an_table_back : Option Addr} {sl_table_back : Array (Option Value)} {oc_table_back kV_table_back dc_table_back pm_table_back cd_table_back ct_table_back : Value}
    {od_sums_back an_sums_back : Option Addr} {sl_sums_back : Array (Option Value)} {oc_sums_back kV_sums_back dc_sums_back pm_sums_back cd_sums_back ct_sums_back : Value}
    {od__law_cell an__law_cell : Option Addr} {sl__law_cell : Array (Option Value)} {oc__law_cell kV__law_cell dc__law_cell pm__law_cell cd__law_cell ct__law_cell : Value}
    {od__law_is_prime an__law_is_prime : Option Addr} {sl__law_is_prime : Array (Option Value)} {oc__law_is_prime kV__law_is_prime dc__law_is_prime pm__law_is_prime cd__law_is_prime ct__law_is_prime : Value}
    {od__law_prime an__law_prime : Option Addr} {sl__law_prime : Array (Option Value)} {oc__law_prime kV__law_prime dc__law_prime pm__law_prime cd__law_prime ct__law_prime : Value}
    {od__law_whole an__law_whole : Option Addr} {sl__law_whole : Array (Option Value)} {oc__law_whole kV__law_whole dc__law_whole pm__law_whole cd__law_whole ct__law_whole : Value}
    {od__law_number an__law_number : Option Addr} {sl__law_number : Array (Option Value)} {oc__law_number kV__law_number dc__law_number pm__law_number cd__law_number ct__law_number : Value}
    {od__law_row an__law_row : Option Addr} {sl__law_row : Array (Option Value)} {oc__law_row kV__law_row dc__law_row pm__law_row cd__law_row ct__law_row : Value}
    {od__law_row_is an__law_row_is : Option Addr} {sl__law_row_is : Array (Option Value)} {oc__law_row_is kV__law_row_is dc__law_row_is pm__law_row_is cd__law_row_is ct__law_row_is : Value}
    {od__law_house an__law_house : Option Addr} {sl__law_house : Array (Option Value)} {oc__law_house kV__law_house dc__law_house pm__law_house cd__law_house ct__law_house : Value}
    {od__law_step an__law_step : Option Addr} {sl__law_step : Array (Option Value)} {oc__law_step kV__law_step dc__law_step pm__law_step cd__law_step ct__law_step : Value}
    {od__law_times an__law_times : Option Addr} {sl__law_times : Array (Option Value)} {oc__law_times kV__law_times dc__law_times pm__law_times cd__law_times ct__law_times : Value}
    {od__law_behind an__law_behind : Option Addr} {sl__law_behind : Array (Option Value)} {oc__law_behind kV__law_behind dc__law_behind pm__law_behind cd__law_behind ct__law_behind : Value}
    {od__law_word an__law_word : Option Addr} {sl__law_word : Array (Option Value)} {oc__law_word kV__law_word dc__law_word pm__law_word cd__law_word ct__law_word : Value}
    {od__law_house_is an__law_house_is : Option Addr} {sl__law_house_is : Array (Option Value)} {oc__law_house_is kV__law_house_is dc__law_house_is pm__law_house_is cd__law_house_is ct__law_house_is : Value}
    {od__law_less an__law_less : Option Addr} {sl__law_less : Array (Option Value)} {oc__law_less kV__law_less dc__law_less pm__law_less cd__law_less ct__law_less : Value}
    {od__law_cross an__law_cross : Option Addr} {sl__law_cross : Array (Option Value)} {oc__law_cross kV__law_cross dc__law_cross pm__law_cross cd__law_cross ct__law_cross : Value}
    {od__law_times_of an__law_times_of : Option Addr} {sl__law_times_of : Array (Option Value)} {oc__law_times_of kV__law_times_of dc__law_times_of pm__law_times_of cd__law_times_of ct__law_times_of : Value}
    {od__law_back an__law_back : Option Addr} {sl__law_back : Array (Option Value)} {oc__law_back kV__law_back dc__law_back pm__law_back cd__law_back ct__law_back : Value}
    {od__law_blank an__law_blank : Option Addr} {sl__law_blank : Array (Option Value)} {oc__law_blank kV__law_blank dc__law_blank pm__law_blank cd__law_blank ct__law_blank : Value}
    {od__law_refused an__law_refused : Option Addr} {sl__law_refused : Array (Option Value)} {oc__law_refused kV__law_refused dc__law_refused pm__law_refused cd__law_refused ct__law_refused : Value}
    {od__law_refused_by_any an__law_refused_by_any : Option Addr} {sl__law_refused_by_any : Array (Option Value)} {oc__law_refused_by_any kV__law_refused_by_any dc__law_refused_by_any pm__law_refused_by_any cd__law_refused_by_any ct__law_refused_by_any : Value}
    {od__law_edges an__law_edges : Option Addr} {sl__law_edges : Array (Option Value)} {oc__law_edges kV__law_edges dc__law_edges pm__law_edges cd__law_edges ct__law_edges : Value}
    {od__law_worth an__law_worth : Option Addr} {sl__law_worth : Array (Option Value)} {oc__law_worth kV__law_worth dc__law_worth pm__law_worth cd__law_worth ct__law_worth : Value}
    {od__law_values an__law_values : Option Addr} {sl__law_values : Array (Option Value)} {oc__law_values kV__law_values dc__law_values pm__law_values cd__law_values ct__law_values : Value}
    {od__law_unlike an__law_unlike : Option Addr} {sl__law_unlike : Array (Option Value)} {oc__law_unlike kV__law_unlike dc__law_unlike pm__law_unlike cd__law_unlike ct__law_unlike : Value}
    {od_law an_law : Option Addr} {sl_law : Array (Option Value)} {oc_law kV_law dc_law pm_law cd_law ct_law : Value}
    {tk_MOST_NUMBERS : Tok} (q_MOST_NUMBERS : PySem.W.nsIn K mainGlobals "MOST_NUMBERS" = some (some (.int 16 tk_MOST_NUMBERS)))
    (a_scaled : PySem.W.nsIn K mainGlobals "scaled" = some (some (.ref f_scaled)))
    (l_scaled : K.lookup f_scaled = some ⟨oc_scaled, od_scaled, .func (PySem.W.fnOf "scaled" "scaled" (defArgs s_scaled) (defBody s_scaled) (defScope s_scaled) .none kV_scaled dc_scaled pm_scaled an_scaled cd_scaled ct_scaled), sl_scaled⟩)
    (c_scaled : PySem.W.codeIn K cd_scaled "scaled" = true)
    (k_scaled : PySem.W.keepIn K (.ref f_scaled) = true)
    (a_product : PySem.W.nsIn K mainGlobals "product" = some (some (.ref f_product)))
    (l_product : K.lookup f_product = some ⟨oc_product, od_product, .func (PySem.W.fnOf "product" "product" (defArgs s_product) (defBody s_product) (defScope s_product) .none kV_product dc_product pm_product an_product cd_product ct_product), sl_product⟩)
    (c_product : PySem.W.codeIn K cd_product "product" = true)
    (k_product : PySem.W.keepIn K (.ref f_product) = true)
    (a_is_word : PySem.W.nsIn K mainGlobals "is_word" = some (some (.ref f_is_word)))
    (l_is_word : K.lookup f_is_word = some ⟨oc_is_word, od_is_word, .func (PySem.W.fnOf "is_word" "is_word" (defArgs s_is_word) (defBody s_is_word) (defScope s_is_word) .none kV_is_word dc_is_word pm_is_word an_is_word cd_is_word ct_is_word), sl_is_word⟩)
    (c_is_word : PySem.W.codeIn K cd_is_word "is_word" = true)
    (k_is_word : PySem.W.keepIn K (.ref f_is_word) = true)
    (a_check_word : PySem.W.nsIn K mainGlobals "check_word" = some (some (.ref f_check_word)))
    (l_check_word : K.lookup f_check_word = some ⟨oc_check_word, od_check_word, .func (PySem.W.fnOf "check_word" "check_word" (defArgs s_check_word) (defBody s_check_word) (defScope s_check_word) .none kV_check_word dc_check_word pm_check_word an_check_word cd_check_word ct_check_word), sl_check_word⟩)
    (c_check_word : PySem.W.codeIn K cd_check_word "check_word" = true)
    (k_check_word : PySem.W.keepIn K (.ref f_check_word) = true)
    (a_made_of : PySem.W.nsIn K mainGlobals "made_of" = some (some (.ref f_made_of)))
    (l_made_of : K.lookup f_made_of = some ⟨oc_made_of, od_made_of, .func (PySem.W.fnOf "made_of" "made_of" (defArgs s_made_of) (defBody s_made_of) (defScope s_made_of) .none kV_made_of dc_made_of pm_made_of an_made_of cd_made_of ct_made_of), sl_made_of⟩)
    (c_made_of : PySem.W.codeIn K cd_made_of "made_of" = true)
    (k_made_of : PySem.W.keepIn K (.ref f_made_of) = true)
    (a_check_size : PySem.W.nsIn K mainGlobals "check_size" = some (some (.ref f_check_size)))
    (l_check_size : K.lookup f_check_size = some ⟨oc_check_size, od_check_size, .func (PySem.W.fnOf "check_size" "check_size" (defArgs s_check_size) (defBody s_check_size) (defScope s_check_size) .none kV_check_size dc_check_size pm_check_size an_check_size cd_check_size ct_check_size), sl_check_size⟩)
    (c_check_size : PySem.W.codeIn K cd_check_size "check_size" = true)
    (k_check_size : PySem.W.keepIn K (.ref f_check_size) = true)
    (a_stepped : PySem.W.nsIn K mainGlobals "stepped" = some (some (.ref f_stepped)))
    (l_stepped : K.lookup f_stepped = some ⟨oc_stepped, od_stepped, .func (PySem.W.fnOf "stepped" "stepped" (defArgs s_stepped) (defBody s_stepped) (defScope s_stepped) .none kV_stepped dc_stepped pm_stepped an_stepped cd_stepped ct_stepped), sl_stepped⟩)
    (c_stepped : PySem.W.codeIn K cd_stepped "stepped" = true)
    (k_stepped : PySem.W.keepIn K (.ref f_stepped) = true)
    (a_rows_along : PySem.W.nsIn K mainGlobals "rows_along" = some (some (.ref f_rows_along)))
    (l_rows_along : K.lookup f_rows_along = some ⟨oc_rows_along, od_rows_along, .func (PySem.W.fnOf "rows_along" "rows_along" (defArgs s_rows_along) (defBody s_rows_along) (defScope s_rows_along) .none kV_rows_along dc_rows_along pm_rows_along an_rows_along cd_rows_along ct_rows_along), sl_rows_along⟩)
    (c_rows_along : PySem.W.codeIn K cd_rows_along "rows_along" = true)
    (k_rows_along : PySem.W.keepIn K (.ref f_rows_along) = true)
    (a_row_behind : PySem.W.nsIn K mainGlobals "row_behind" = some (some (.ref f_row_behind)))
    (l_row_behind : K.lookup f_row_behind = some ⟨oc_row_behind, od_row_behind, .func (PySem.W.fnOf "row_behind" "row_behind" (defArgs s_row_behind) (defBody s_row_behind) (defScope s_row_behind) .none kV_row_behind dc_row_behind pm_row_behind an_row_behind cd_row_behind ct_row_behind), sl_row_behind⟩)
    (c_row_behind : PySem.W.codeIn K cd_row_behind "row_behind" = true)
    (k_row_behind : PySem.W.keepIn K (.ref f_row_behind) = true)
    (a_worth : PySem.W.nsIn K mainGlobals "worth" = some (some (.ref f_worth)))
    (l_worth : K.lookup f_worth = some ⟨oc_worth, od_worth, .func (PySem.W.fnOf "worth" "worth" (defArgs s_worth) (defBody s_worth) (defScope s_worth) .none kV_worth dc_worth pm_worth an_worth cd_worth ct_worth), sl_worth⟩)
    (c_worth : PySem.W.codeIn K cd_worth "worth" = true)
    (k_worth : PySem.W.keepIn K (.ref f_worth) = true)
    (a_check_as_many : PySem.W.nsIn K mainGlobals "check_as_many" = some (some (.ref f_check_as_many)))
    (l_check_as_many : K.lookup f_check_as_many = some ⟨oc_check_as_many, od_check_as_many, .func (PySem.W.fnOf "check_as_many" "check_as_many" (defArgs s_check_as_many) (defBody s_check_as_many) (defScope s_check_as_many) .none kV_check_as_many dc_check_as_many pm_check_as_many an_check_as_many cd_check_as_many ct_check_as_many), sl_check_as_many⟩)
    (c_check_as_many : PySem.W.codeIn K cd_check_as_many "check_as_many" = true)
    (k_check_as_many : PySem.W.keepIn K (.ref f_check_as_many) = true)
    (a_table_less : PySem.W.nsIn K mainGlobals "table_less" = some (some (.ref f_table_less)))
    (l_table_less : K.lookup f_table_less = some ⟨oc_table_less, od_table_less, .func (PySem.W.fnOf "table_less" "table_less" (defArgs s_table_less) (defBody s_table_less) (defScope s_table_less) .none kV_table_less dc_table_less pm_table_less an_table_less cd_table_less ct_table_less), sl_table_less⟩)
    (c_table_less : PySem.W.codeIn K cd_table_less "table_less" = true)
    (k_table_less : PySem.W.keepIn K (.ref f_table_less) = true)
    (a_less_of : PySem.W.nsIn K mainGlobals "less_of" = some (some (.ref f_less_of)))
    (l_less_of : K.lookup f_less_of = some ⟨oc_less_of, od_less_of, .func (PySem.W.fnOf "less_of" "less_of" (defArgs s_less_of) (defBody s_less_of) (defScope s_less_of) .none kV_less_of dc_less_of pm_less_of an_less_of cd_less_of ct_less_of), sl_less_of⟩)
    (c_less_of : PySem.W.codeIn K cd_less_of "less_of" = true)
    (k_less_of : PySem.W.keepIn K (.ref f_less_of) = true)
    (a_sums_less : PySem.W.nsIn K mainGlobals "sums_less" = some (some (.ref f_sums_less)))
    (l_sums_less : K.lookup f_sums_less = some ⟨oc_sums_less, od_sums_less, .func (PySem.W.fnOf "sums_less" "sums_less" (defArgs s_sums_less) (defBody s_sums_less) (defScope s_sums_less) .none kV_sums_less dc_sums_less pm_sums_less an_sums_less cd_sums_less ct_sums_less), sl_sums_less⟩)
    (c_sums_less : PySem.W.codeIn K cd_sums_less "sums_less" = true)
    (k_sums_less : PySem.W.keepIn K (.ref f_sums_less) = true)
    (a_row_times : PySem.W.nsIn K mainGlobals "row_times" = some (some (.ref f_row_times)))
    (l_row_times : K.lookup f_row_times = some ⟨oc_row_times, od_row_times, .func (PySem.W.fnOf "row_times" "row_times" (defArgs s_row_times) (defBody s_row_times) (defScope s_row_times) .none kV_row_times dc_row_times pm_row_times an_row_times cd_row_times ct_row_times), sl_row_times⟩)
    (c_row_times : PySem.W.codeIn K cd_row_times "row_times" = true)
    (k_row_times : PySem.W.keepIn K (.ref f_row_times) = true)
    (a_table_times : PySem.W.nsIn K mainGlobals "table_times" = some (some (.ref f_table_times)))
    (l_table_times : K.lookup f_table_times = some ⟨oc_table_times, od_table_times, .func (PySem.W.fnOf "table_times" "table_times" (defArgs s_table_times) (defBody s_table_times) (defScope s_table_times) .none kV_table_times dc_table_times pm_table_times an_table_times cd_table_times ct_table_times), sl_table_times⟩)
    (c_table_times : PySem.W.codeIn K cd_table_times "table_times" = true)
    (k_table_times : PySem.W.keepIn K (.ref f_table_times) = true)
    (a_sums_times : PySem.W.nsIn K mainGlobals "sums_times" = some (some (.ref f_sums_times)))
    (l_sums_times : K.lookup f_sums_times = some ⟨oc_sums_times, od_sums_times, .func (PySem.W.fnOf "sums_times" "sums_times" (defArgs s_sums_times) (defBody s_sums_times) (defScope s_sums_times) .none kV_sums_times dc_sums_times pm_sums_times an_sums_times cd_sums_times ct_sums_times), sl_sums_times⟩)
    (c_sums_times : PySem.W.codeIn K cd_sums_times "sums_times" = true)
    (k_sums_times : PySem.W.keepIn K (.ref f_sums_times) = true)
    (a_table_back : PySem.W.nsIn K mainGlobals "table_back" = some (some (.ref f_table_back)))
    (l_table_back : K.lookup f_table_back = some ⟨oc_table_back, od_table_back, .func (PySem.W.fnOf "table_back" "table_back" (defArgs s_table_back) (defBody s_table_back) (defScope s_table_back) .none kV_table_back dc_table_back pm_table_back an_table_back cd_table_back ct_table_back), sl_table_back⟩)
    (c_table_back : PySem.W.codeIn K cd_table_back "table_back" = true)
    (k_table_back : PySem.W.keepIn K (.ref f_table_back) = true)
    (a_sums_back : PySem.W.nsIn K mainGlobals "sums_back" = some (some (.ref f_sums_back)))
    (l_sums_back : K.lookup f_sums_back = some ⟨oc_sums_back, od_sums_back, .func (PySem.W.fnOf "sums_back" "sums_back" (defArgs s_sums_back) (defBody s_sums_back) (defScope s_sums_back) .none kV_sums_back dc_sums_back pm_sums_back an_sums_back cd_sums_back ct_sums_back), sl_sums_back⟩)
    (c_sums_back : PySem.W.codeIn K cd_sums_back "sums_back" = true)
    (k_sums_back : PySem.W.keepIn K (.ref f_sums_back) = true)
    (a__law_cell : PySem.W.nsIn K mainGlobals "_law_cell" = some (some (.ref f__law_cell)))
    (l__law_cell : K.lookup f__law_cell = some ⟨oc__law_cell, od__law_cell, .func (PySem.W.fnOf "_law_cell" "_law_cell" (defArgs s__law_cell) (defBody s__law_cell) (defScope s__law_cell) .none kV__law_cell dc__law_cell pm__law_cell an__law_cell cd__law_cell ct__law_cell), sl__law_cell⟩)
    (c__law_cell : PySem.W.codeIn K cd__law_cell "_law_cell" = true)
    (k__law_cell : PySem.W.keepIn K (.ref f__law_cell) = true)
    (a__law_is_prime : PySem.W.nsIn K mainGlobals "_law_is_prime" = some (some (.ref f__law_is_prime)))
    (l__law_is_prime : K.lookup f__law_is_prime = some ⟨oc__law_is_prime, od__law_is_prime, .func (PySem.W.fnOf "_law_is_prime" "_law_is_prime" (defArgs s__law_is_prime) (defBody s__law_is_prime) (defScope s__law_is_prime) .none kV__law_is_prime dc__law_is_prime pm__law_is_prime an__law_is_prime cd__law_is_prime ct__law_is_prime), sl__law_is_prime⟩)
    (c__law_is_prime : PySem.W.codeIn K cd__law_is_prime "_law_is_prime" = true)
    (k__law_is_prime : PySem.W.keepIn K (.ref f__law_is_prime) = true)
    (a__law_prime : PySem.W.nsIn K mainGlobals "_law_prime" = some (some (.ref f__law_prime)))
    (l__law_prime : K.lookup f__law_prime = some ⟨oc__law_prime, od__law_prime, .func (PySem.W.fnOf "_law_prime" "_law_prime" (defArgs s__law_prime) (defBody s__law_prime) (defScope s__law_prime) .none kV__law_prime dc__law_prime pm__law_prime an__law_prime cd__law_prime ct__law_prime), sl__law_prime⟩)
    (c__law_prime : PySem.W.codeIn K cd__law_prime "_law_prime" = true)
    (k__law_prime : PySem.W.keepIn K (.ref f__law_prime) = true)
    (a__law_whole : PySem.W.nsIn K mainGlobals "_law_whole" = some (some (.ref f__law_whole)))
    (l__law_whole : K.lookup f__law_whole = some ⟨oc__law_whole, od__law_whole, .func (PySem.W.fnOf "_law_whole" "_law_whole" (defArgs s__law_whole) (defBody s__law_whole) (defScope s__law_whole) .none kV__law_whole dc__law_whole pm__law_whole an__law_whole cd__law_whole ct__law_whole), sl__law_whole⟩)
    (c__law_whole : PySem.W.codeIn K cd__law_whole "_law_whole" = true)
    (k__law_whole : PySem.W.keepIn K (.ref f__law_whole) = true)
    (a__law_number : PySem.W.nsIn K mainGlobals "_law_number" = some (some (.ref f__law_number)))
    (l__law_number : K.lookup f__law_number = some ⟨oc__law_number, od__law_number, .func (PySem.W.fnOf "_law_number" "_law_number" (defArgs s__law_number) (defBody s__law_number) (defScope s__law_number) .none kV__law_number dc__law_number pm__law_number an__law_number cd__law_number ct__law_number), sl__law_number⟩)
    (c__law_number : PySem.W.codeIn K cd__law_number "_law_number" = true)
    (k__law_number : PySem.W.keepIn K (.ref f__law_number) = true)
    (a__law_row : PySem.W.nsIn K mainGlobals "_law_row" = some (some (.ref f__law_row)))
    (l__law_row : K.lookup f__law_row = some ⟨oc__law_row, od__law_row, .func (PySem.W.fnOf "_law_row" "_law_row" (defArgs s__law_row) (defBody s__law_row) (defScope s__law_row) .none kV__law_row dc__law_row pm__law_row an__law_row cd__law_row ct__law_row), sl__law_row⟩)
    (c__law_row : PySem.W.codeIn K cd__law_row "_law_row" = true)
    (k__law_row : PySem.W.keepIn K (.ref f__law_row) = true)
    (a__law_row_is : PySem.W.nsIn K mainGlobals "_law_row_is" = some (some (.ref f__law_row_is)))
    (l__law_row_is : K.lookup f__law_row_is = some ⟨oc__law_row_is, od__law_row_is, .func (PySem.W.fnOf "_law_row_is" "_law_row_is" (defArgs s__law_row_is) (defBody s__law_row_is) (defScope s__law_row_is) .none kV__law_row_is dc__law_row_is pm__law_row_is an__law_row_is cd__law_row_is ct__law_row_is), sl__law_row_is⟩)
    (c__law_row_is : PySem.W.codeIn K cd__law_row_is "_law_row_is" = true)
    (k__law_row_is : PySem.W.keepIn K (.ref f__law_row_is) = true)
    (a__law_house : PySem.W.nsIn K mainGlobals "_law_house" = some (some (.ref f__law_house)))
    (l__law_house : K.lookup f__law_house = some ⟨oc__law_house, od__law_house, .func (PySem.W.fnOf "_law_house" "_law_house" (defArgs s__law_house) (defBody s__law_house) (defScope s__law_house) .none kV__law_house dc__law_house pm__law_house an__law_house cd__law_house ct__law_house), sl__law_house⟩)
    (c__law_house : PySem.W.codeIn K cd__law_house "_law_house" = true)
    (k__law_house : PySem.W.keepIn K (.ref f__law_house) = true)
    (a__law_step : PySem.W.nsIn K mainGlobals "_law_step" = some (some (.ref f__law_step)))
    (l__law_step : K.lookup f__law_step = some ⟨oc__law_step, od__law_step, .func (PySem.W.fnOf "_law_step" "_law_step" (defArgs s__law_step) (defBody s__law_step) (defScope s__law_step) .none kV__law_step dc__law_step pm__law_step an__law_step cd__law_step ct__law_step), sl__law_step⟩)
    (c__law_step : PySem.W.codeIn K cd__law_step "_law_step" = true)
    (k__law_step : PySem.W.keepIn K (.ref f__law_step) = true)
    (a__law_times : PySem.W.nsIn K mainGlobals "_law_times" = some (some (.ref f__law_times)))
    (l__law_times : K.lookup f__law_times = some ⟨oc__law_times, od__law_times, .func (PySem.W.fnOf "_law_times" "_law_times" (defArgs s__law_times) (defBody s__law_times) (defScope s__law_times) .none kV__law_times dc__law_times pm__law_times an__law_times cd__law_times ct__law_times), sl__law_times⟩)
    (c__law_times : PySem.W.codeIn K cd__law_times "_law_times" = true)
    (k__law_times : PySem.W.keepIn K (.ref f__law_times) = true)
    (a__law_behind : PySem.W.nsIn K mainGlobals "_law_behind" = some (some (.ref f__law_behind)))
    (l__law_behind : K.lookup f__law_behind = some ⟨oc__law_behind, od__law_behind, .func (PySem.W.fnOf "_law_behind" "_law_behind" (defArgs s__law_behind) (defBody s__law_behind) (defScope s__law_behind) .none kV__law_behind dc__law_behind pm__law_behind an__law_behind cd__law_behind ct__law_behind), sl__law_behind⟩)
    (c__law_behind : PySem.W.codeIn K cd__law_behind "_law_behind" = true)
    (k__law_behind : PySem.W.keepIn K (.ref f__law_behind) = true)
    (a__law_word : PySem.W.nsIn K mainGlobals "_law_word" = some (some (.ref f__law_word)))
    (l__law_word : K.lookup f__law_word = some ⟨oc__law_word, od__law_word, .func (PySem.W.fnOf "_law_word" "_law_word" (defArgs s__law_word) (defBody s__law_word) (defScope s__law_word) .none kV__law_word dc__law_word pm__law_word an__law_word cd__law_word ct__law_word), sl__law_word⟩)
    (c__law_word : PySem.W.codeIn K cd__law_word "_law_word" = true)
    (k__law_word : PySem.W.keepIn K (.ref f__law_word) = true)
    (a__law_house_is : PySem.W.nsIn K mainGlobals "_law_house_is" = some (some (.ref f__law_house_is)))
    (l__law_house_is : K.lookup f__law_house_is = some ⟨oc__law_house_is, od__law_house_is, .func (PySem.W.fnOf "_law_house_is" "_law_house_is" (defArgs s__law_house_is) (defBody s__law_house_is) (defScope s__law_house_is) .none kV__law_house_is dc__law_house_is pm__law_house_is an__law_house_is cd__law_house_is ct__law_house_is), sl__law_house_is⟩)
    (c__law_house_is : PySem.W.codeIn K cd__law_house_is "_law_house_is" = true)
    (k__law_house_is : PySem.W.keepIn K (.ref f__law_house_is) = true)
    (a__law_less : PySem.W.nsIn K mainGlobals "_law_less" = some (some (.ref f__law_less)))
    (l__law_less : K.lookup f__law_less = some ⟨oc__law_less, od__law_less, .func (PySem.W.fnOf "_law_less" "_law_less" (defArgs s__law_less) (defBody s__law_less) (defScope s__law_less) .none kV__law_less dc__law_less pm__law_less an__law_less cd__law_less ct__law_less), sl__law_less⟩)
    (c__law_less : PySem.W.codeIn K cd__law_less "_law_less" = true)
    (k__law_less : PySem.W.keepIn K (.ref f__law_less) = true)
    (a__law_cross : PySem.W.nsIn K mainGlobals "_law_cross" = some (some (.ref f__law_cross)))
    (l__law_cross : K.lookup f__law_cross = some ⟨oc__law_cross, od__law_cross, .func (PySem.W.fnOf "_law_cross" "_law_cross" (defArgs s__law_cross) (defBody s__law_cross) (defScope s__law_cross) .none kV__law_cross dc__law_cross pm__law_cross an__law_cross cd__law_cross ct__law_cross), sl__law_cross⟩)
    (c__law_cross : PySem.W.codeIn K cd__law_cross "_law_cross" = true)
    (k__law_cross : PySem.W.keepIn K (.ref f__law_cross) = true)
    (a__law_times_of : PySem.W.nsIn K mainGlobals "_law_times_of" = some (some (.ref f__law_times_of)))
    (l__law_times_of : K.lookup f__law_times_of = some ⟨oc__law_times_of, od__law_times_of, .func (PySem.W.fnOf "_law_times_of" "_law_times_of" (defArgs s__law_times_of) (defBody s__law_times_of) (defScope s__law_times_of) .none kV__law_times_of dc__law_times_of pm__law_times_of an__law_times_of cd__law_times_of ct__law_times_of), sl__law_times_of⟩)
    (c__law_times_of : PySem.W.codeIn K cd__law_times_of "_law_times_of" = true)
    (k__law_times_of : PySem.W.keepIn K (.ref f__law_times_of) = true)
    (a__law_back : PySem.W.nsIn K mainGlobals "_law_back" = some (some (.ref f__law_back)))
    (l__law_back : K.lookup f__law_back = some ⟨oc__law_back, od__law_back, .func (PySem.W.fnOf "_law_back" "_law_back" (defArgs s__law_back) (defBody s__law_back) (defScope s__law_back) .none kV__law_back dc__law_back pm__law_back an__law_back cd__law_back ct__law_back), sl__law_back⟩)
    (c__law_back : PySem.W.codeIn K cd__law_back "_law_back" = true)
    (k__law_back : PySem.W.keepIn K (.ref f__law_back) = true)
    (a__law_blank : PySem.W.nsIn K mainGlobals "_law_blank" = some (some (.ref f__law_blank)))
    (l__law_blank : K.lookup f__law_blank = some ⟨oc__law_blank, od__law_blank, .func (PySem.W.fnOf "_law_blank" "_law_blank" (defArgs s__law_blank) (defBody s__law_blank) (defScope s__law_blank) .none kV__law_blank dc__law_blank pm__law_blank an__law_blank cd__law_blank ct__law_blank), sl__law_blank⟩)
    (c__law_blank : PySem.W.codeIn K cd__law_blank "_law_blank" = true)
    (k__law_blank : PySem.W.keepIn K (.ref f__law_blank) = true)
    (a__law_refused : PySem.W.nsIn K mainGlobals "_law_refused" = some (some (.ref f__law_refused)))
    (l__law_refused : K.lookup f__law_refused = some ⟨oc__law_refused, od__law_refused, .func (PySem.W.fnOf "_law_refused" "_law_refused" (defArgs s__law_refused) (defBody s__law_refused) (defScope s__law_refused) .none kV__law_refused dc__law_refused pm__law_refused an__law_refused cd__law_refused ct__law_refused), sl__law_refused⟩)
    (c__law_refused : PySem.W.codeIn K cd__law_refused "_law_refused" = true)
    (k__law_refused : PySem.W.keepIn K (.ref f__law_refused) = true)
    (a__law_refused_by_any : PySem.W.nsIn K mainGlobals "_law_refused_by_any" = some (some (.ref f__law_refused_by_any)))
    (l__law_refused_by_any : K.lookup f__law_refused_by_any = some ⟨oc__law_refused_by_any, od__law_refused_by_any, .func (PySem.W.fnOf "_law_refused_by_any" "_law_refused_by_any" (defArgs s__law_refused_by_any) (defBody s__law_refused_by_any) (defScope s__law_refused_by_any) .none kV__law_refused_by_any dc__law_refused_by_any pm__law_refused_by_any an__law_refused_by_any cd__law_refused_by_any ct__law_refused_by_any), sl__law_refused_by_any⟩)
    (c__law_refused_by_any : PySem.W.codeIn K cd__law_refused_by_any "_law_refused_by_any" = true)
    (k__law_refused_by_any : PySem.W.keepIn K (.ref f__law_refused_by_any) = true)
    (a__law_edges : PySem.W.nsIn K mainGlobals "_law_edges" = some (some (.ref f__law_edges)))
    (l__law_edges : K.lookup f__law_edges = some ⟨oc__law_edges, od__law_edges, .func (PySem.W.fnOf "_law_edges" "_law_edges" (defArgs s__law_edges) (defBody s__law_edges) (defScope s__law_edges) .none kV__law_edges dc__law_edges pm__law_edges an__law_edges cd__law_edges ct__law_edges), sl__law_edges⟩)
    (c__law_edges : PySem.W.codeIn K cd__law_edges "_law_edges" = true)
    (k__law_edges : PySem.W.keepIn K (.ref f__law_edges) = true)
    (a__law_worth : PySem.W.nsIn K mainGlobals "_law_worth" = some (some (.ref f__law_worth)))
    (l__law_worth : K.lookup f__law_worth = some ⟨oc__law_worth, od__law_worth, .func (PySem.W.fnOf "_law_worth" "_law_worth" (defArgs s__law_worth) (defBody s__law_worth) (defScope s__law_worth) .none kV__law_worth dc__law_worth pm__law_worth an__law_worth cd__law_worth ct__law_worth), sl__law_worth⟩)
    (c__law_worth : PySem.W.codeIn K cd__law_worth "_law_worth" = true)
    (k__law_worth : PySem.W.keepIn K (.ref f__law_worth) = true)
    (a__law_values : PySem.W.nsIn K mainGlobals "_law_values" = some (some (.ref f__law_values)))
    (l__law_values : K.lookup f__law_values = some ⟨oc__law_values, od__law_values, .func (PySem.W.fnOf "_law_values" "_law_values" (defArgs s__law_values) (defBody s__law_values) (defScope s__law_values) .none kV__law_values dc__law_values pm__law_values an__law_values cd__law_values ct__law_values), sl__law_values⟩)
    (c__law_values : PySem.W.codeIn K cd__law_values "_law_values" = true)
    (k__law_values : PySem.W.keepIn K (.ref f__law_values) = true)
    (a__law_unlike : PySem.W.nsIn K mainGlobals "_law_unlike" = some (some (.ref f__law_unlike)))
    (l__law_unlike : K.lookup f__law_unlike = some ⟨oc__law_unlike, od__law_unlike, .func (PySem.W.fnOf "_law_unlike" "_law_unlike" (defArgs s__law_unlike) (defBody s__law_unlike) (defScope s__law_unlike) .none kV__law_unlike dc__law_unlike pm__law_unlike an__law_unlike cd__law_unlike ct__law_unlike), sl__law_unlike⟩)
    (c__law_unlike : PySem.W.codeIn K cd__law_unlike "_law_unlike" = true)
    (k__law_unlike : PySem.W.keepIn K (.ref f__law_unlike) = true)
    (a_law : PySem.W.nsIn K mainGlobals "law" = some (some (.ref f_law)))
    (l_law : K.lookup f_law = some ⟨oc_law, od_law, .func (PySem.W.fnOf "law" "law" (defArgs s_law) (defBody s_law) (defScope s_law) .none kV_law dc_law pm_law an_law cd_law ct_law), sl_law⟩)
    (c_law : PySem.W.codeIn K cd_law "law" = true)
    (k_law : PySem.W.keepIn K (.ref f_law) = true)
    (z_ValueError : PySem.W.nsIn K mainGlobals "ValueError" = some none)
    (z_all : PySem.W.nsIn K mainGlobals "all" = some none)
    (z_bool : PySem.W.nsIn K mainGlobals "bool" = some none)
    (z_int : PySem.W.nsIn K mainGlobals "int" = some none)
    (z_isinstance : PySem.W.nsIn K mainGlobals "isinstance" = some none)
    (z_len : PySem.W.nsIn K mainGlobals "len" = some none)
    (z_max : PySem.W.nsIn K mainGlobals "max" = some none)
    (z_min : PySem.W.nsIn K mainGlobals "min" = some none)
    (z_range : PySem.W.nsIn K mainGlobals "range" = some none)
    (z_reversed : PySem.W.nsIn K mainGlobals "reversed" = some none)
    (z_sum : PySem.W.nsIn K mainGlobals "sum" = some none)
    (z_tuple : PySem.W.nsIn K mainGlobals "tuple" = some none)
    (z_zip : PySem.W.nsIn K mainGlobals "zip" = some none)
    (m_AskError : PySem.W.nsIn K mainGlobals "AskError" = some (some (.ref C_AskError)))
    (m_BadHouse : PySem.W.nsIn K mainGlobals "BadHouse" = some (some (.ref C_BadHouse)))
    (m_BadWord : PySem.W.nsIn K mainGlobals "BadWord" = some (some (.ref C_BadWord)))
    (x_BadWord : PySem.W.excIn K C_BadWord bmV "ValueError.__new__" = true)
    (ga_BadWord : PySem.W.findIn K (.ref C_BadWord) "__getattribute__" = some (some (.builtin "BaseException.__getattribute__")))
    (hk_BadWord : PySem.W.findIn K (.ref C_BadWord) "__getattr__" = some none)
    {cd_BadWord : ClassData}
    (cl_BadWord : PySem.W.clsIn K C_BadWord = some cd_BadWord)
    (ca_BadWord : PySem.W.findIn K (.ref C_BadWord) "__class__" = some (some (.builtin "object.__class__")))
    (mo_BadWord : PySem.W.mroIn K C_BadWord (.type "object") = some true)
    (mb_BadWord : PySem.W.mroIn K C_BadWord (.type "BaseException") = some true)
    (e_BadWord : PySem.W.exmOne K (.ref C_BadWord) (.ref C_AskError) = some true)
    (v_BadWord : PySem.W.kitOne K (.ref C_BadWord) (.type "ValueError") = some true)
    (ee_BadWord : PySem.W.exmOne K (.ref C_BadWord) (.ref C_BadWord) = some true)
    (k_BadWord_AskError : PySem.W.kitOne K (.ref C_BadWord) (.ref C_AskError) = some true)
    (k_BadWord_BadHouse : PySem.W.kitOne K (.ref C_BadWord) (.ref C_BadHouse) = some false)
    (k_BadWord_BadWord : PySem.W.kitOne K (.ref C_BadWord) (.ref C_BadWord) = some true)
    (x_BadHouse : PySem.W.excIn K C_BadHouse bmV "ValueError.__new__" = true)
    (ga_BadHouse : PySem.W.findIn K (.ref C_BadHouse) "__getattribute__" = some (some (.builtin "BaseException.__getattribute__")))
    (hk_BadHouse : PySem.W.findIn K (.ref C_BadHouse) "__getattr__" = some none)
    {cd_BadHouse : ClassData}
    (cl_BadHouse : PySem.W.clsIn K C_BadHouse = some cd_BadHouse)
    (ca_BadHouse : PySem.W.findIn K (.ref C_BadHouse) "__class__" = some (some (.builtin "object.__class__")))
    (mo_BadHouse : PySem.W.mroIn K C_BadHouse (.type "object") = some true)
    (mb_BadHouse : PySem.W.mroIn K C_BadHouse (.type "BaseException") = some true)
    (e_BadHouse : PySem.W.exmOne K (.ref C_BadHouse) (.ref C_AskError) = some true)
    (v_BadHouse : PySem.W.kitOne K (.ref C_BadHouse) (.type "ValueError") = some true)
    (ee_BadHouse : PySem.W.exmOne K (.ref C_BadHouse) (.ref C_BadHouse) = some true)
    (k_BadHouse_AskError : PySem.W.kitOne K (.ref C_BadHouse) (.ref C_AskError) = some true)
    (k_BadHouse_BadHouse : PySem.W.kitOne K (.ref C_BadHouse) (.ref C_BadHouse) = some true)
    (k_BadHouse_BadWord : PySem.W.kitOne K (.ref C_BadHouse) (.ref C_BadWord) = some false)
    (gs : PySem.W.specialIn K (.builtin "object.__class__") "__get__" = some (some (.builtin "getset_descriptor.__get__")))
    (tk : PySem.W.takesIn K (.builtin "object.__class__") = some true)
    : ∃ fd : FuncData, (∀ (s : Shared) (v : Value), BindsTo s fd ⟨[v], []⟩ [("script", v)]) /\ ∀ base : Heap, K.In base -> base.Ns mainGlobals mg -> FnOk l.prog w K mg base CX0 8 fa fd ["script"] (spLaw K) := by
  have e := hfa.symm.trans (PySem.W.mg_of X G a_law)
  cases e
  have T : Txt mg := ⟨PySem.W.mg_none_of X G z_ValueError, PySem.W.mg_none_of X G z_all, PySem.W.mg_none_of X G z_bool, PySem.W.mg_none_of X G z_int, PySem.W.mg_none_of X G z_isinstance, PySem.W.mg_none_of X G z_len, PySem.W.mg_none_of X G z_max, PySem.W.mg_none_of X G z_min, PySem.W.mg_none_of X G z_range, PySem.W.mg_none_of X G z_reversed, PySem.W.mg_none_of X G z_sum, PySem.W.mg_none_of X G z_tuple, PySem.W.mg_none_of X G z_zip⟩
  have Z : Exs K mg C_AskError C_BadHouse C_BadWord := ⟨PySem.W.mg_of X G m_AskError, PySem.W.mg_of X G m_BadHouse, PySem.W.mg_of X G m_BadWord, x_BadWord, ⟨ga_BadWord, hk_BadWord, by rw [cl_BadWord]; rfl, ca_BadWord, gs, tk, mo_BadWord, mb_BadWord⟩, e_BadWord, v_BadWord, ee_BadWord, k_BadWord_AskError, k_BadWord_BadHouse, k_BadWord_BadWord, x_BadHouse, ⟨ga_BadHouse, hk_BadHouse, by rw [cl_BadHouse]; rfl, ca_BadHouse, gs, tk, mo_BadHouse, mb_BadHouse⟩, e_BadHouse, v_BadHouse, ee_BadHouse, k_BadHouse_AskError, k_BadHouse_BadHouse, k_BadHouse_BadWord⟩
  have W : Own K mg := ⟨⟨_, PySem.W.mg_of X G q_MOST_NUMBERS⟩⟩
  have F_scaled := fun_mk (st := s_scaled) l_scaled c_scaled k_scaled
  have b_scaled := F_scaled.binds (ps := ["p", "factor", "row"]) fun _ _ _ _ _ _ us hl => (by obtain ⟨y0, y1, y2, rfl⟩ := len3 hl; rfl)
  have m_scaled := PySem.W.mg_of X G a_scaled
  have F_product := fun_mk (st := s_product) l_product c_product k_product
  have b_product := F_product.binds (ps := ["p", "row", "other"]) fun _ _ _ _ _ _ us hl => (by obtain ⟨y0, y1, y2, rfl⟩ := len3 hl; rfl)
  have m_product := PySem.W.mg_of X G a_product
  have F_is_word := fun_mk (st := s_is_word) l_is_word c_is_word k_is_word
  have b_is_word := F_is_word.binds (ps := ["letters", "word"]) fun _ _ _ _ _ _ us hl => (by obtain ⟨y0, y1, rfl⟩ := len2 hl; rfl)
  have m_is_word := PySem.W.mg_of X G a_is_word
  have F_check_word := fun_mk (st := s_check_word) l_check_word c_check_word k_check_word
  have b_check_word := F_check_word.binds (ps := ["letters", "word"]) fun _ _ _ _ _ _ us hl => (by obtain ⟨y0, y1, rfl⟩ := len2 hl; rfl)
  have m_check_word := PySem.W.mg_of X G a_check_word
  have F_made_of := fun_mk (st := s_made_of) l_made_of c_made_of k_made_of
  have b_made_of := F_made_of.binds (ps := ["p", "rows", "parts", "size"]) fun _ _ _ _ _ _ us hl => (by obtain ⟨y0, y1, y2, y3, rfl⟩ := len4 hl; rfl)
  have m_made_of := PySem.W.mg_of X G a_made_of
  have F_check_size := fun_mk (st := s_check_size) l_check_size c_check_size k_check_size
  have b_check_size := F_check_size.binds (ps := ["size"]) fun _ _ _ _ _ _ us hl => (by obtain ⟨y0, rfl⟩ := len1 hl; rfl)
  have m_check_size := PySem.W.mg_of X G a_check_size
  have F_stepped := fun_mk (st := s_stepped) l_stepped c_stepped k_stepped
  have b_stepped := F_stepped.binds (ps := ["house", "row", "letter"]) fun _ _ _ _ _ _ us hl => (by obtain ⟨y0, y1, y2, rfl⟩ := len3 hl; rfl)
  have m_stepped := PySem.W.mg_of X G a_stepped
  have F_rows_along := fun_mk (st := s_rows_along) l_rows_along c_rows_along k_rows_along
  have b_rows_along := F_rows_along.binds (ps := ["house", "word"]) fun _ _ _ _ _ _ us hl => (by obtain ⟨y0, y1, rfl⟩ := len2 hl; rfl)
  have m_rows_along := PySem.W.mg_of X G a_rows_along
  have F_row_behind := fun_mk (st := s_row_behind) l_row_behind c_row_behind k_row_behind
  have b_row_behind := F_row_behind.binds (ps := ["house", "word"]) fun _ _ _ _ _ _ us hl => (by obtain ⟨y0, y1, rfl⟩ := len2 hl; rfl)
  have m_row_behind := PySem.W.mg_of X G a_row_behind
  have F_worth := fun_mk (st := s_worth) l_worth c_worth k_worth
  have b_worth := F_worth.binds (ps := ["house", "word"]) fun _ _ _ _ _ _ us hl => (by obtain ⟨y0, y1, rfl⟩ := len2 hl; rfl)
  have m_worth := PySem.W.mg_of X G a_worth
  have F_check_as_many := fun_mk (st := s_check_as_many) l_check_as_many c_check_as_many k_check_as_many
  have b_check_as_many := F_check_as_many.binds (ps := ["house", "other"]) fun _ _ _ _ _ _ us hl => (by obtain ⟨y0, y1, rfl⟩ := len2 hl; rfl)
  have m_check_as_many := PySem.W.mg_of X G a_check_as_many
  have F_table_less := fun_mk (st := s_table_less) l_table_less c_table_less k_table_less
  have b_table_less := F_table_less.binds (ps := ["table", "other"]) fun _ _ _ _ _ _ us hl => (by obtain ⟨y0, y1, rfl⟩ := len2 hl; rfl)
  have m_table_less := PySem.W.mg_of X G a_table_less
  have F_less_of := fun_mk (st := s_less_of) l_less_of c_less_of k_less_of
  have b_less_of := F_less_of.binds (ps := ["house", "other"]) fun _ _ _ _ _ _ us hl => (by obtain ⟨y0, y1, rfl⟩ := len2 hl; rfl)
  have m_less_of := PySem.W.mg_of X G a_less_of
  have F_sums_less := fun_mk (st := s_sums_less) l_sums_less c_sums_less k_sums_less
  have b_sums_less := F_sums_less.binds (ps := ["house", "other"]) fun _ _ _ _ _ _ us hl => (by obtain ⟨y0, y1, rfl⟩ := len2 hl; rfl)
  have m_sums_less := PySem.W.mg_of X G a_sums_less
  have F_row_times := fun_mk (st := s_row_times) l_row_times c_row_times k_row_times
  have b_row_times := F_row_times.binds (ps := ["p", "row", "other"]) fun _ _ _ _ _ _ us hl => (by obtain ⟨y0, y1, y2, rfl⟩ := len3 hl; rfl)
  have m_row_times := PySem.W.mg_of X G a_row_times
  have F_table_times := fun_mk (st := s_table_times) l_table_times c_table_times k_table_times
  have b_table_times := F_table_times.binds (ps := ["p", "table", "other"]) fun _ _ _ _ _ _ us hl => (by obtain ⟨y0, y1, y2, rfl⟩ := len3 hl; rfl)
  have m_table_times := PySem.W.mg_of X G a_table_times
  have F_sums_times := fun_mk (st := s_sums_times) l_sums_times c_sums_times k_sums_times
  have b_sums_times := F_sums_times.binds (ps := ["house", "other"]) fun _ _ _ _ _ _ us hl => (by obtain ⟨y0, y1, rfl⟩ := len2 hl; rfl)
  have m_sums_times := PySem.W.mg_of X G a_sums_times
  have F_table_back := fun_mk (st := s_table_back) l_table_back c_table_back k_table_back
  have b_table_back := F_table_back.binds (ps := ["table"]) fun _ _ _ _ _ _ us hl => (by obtain ⟨y0, rfl⟩ := len1 hl; rfl)
  have m_table_back := PySem.W.mg_of X G a_table_back
  have F_sums_back := fun_mk (st := s_sums_back) l_sums_back c_sums_back k_sums_back
  have b_sums_back := F_sums_back.binds (ps := ["house"]) fun _ _ _ _ _ _ us hl => (by obtain ⟨y0, rfl⟩ := len1 hl; rfl)
  have m_sums_back := PySem.W.mg_of X G a_sums_back
  have F__law_cell := fun_mk (st := s__law_cell) l__law_cell c__law_cell k__law_cell
  have b__law_cell := F__law_cell.binds (ps := ["script", "k"]) fun _ _ _ _ _ _ us hl => (by obtain ⟨y0, y1, rfl⟩ := len2 hl; rfl)
  have m__law_cell := PySem.W.mg_of X G a__law_cell
  have F__law_is_prime := fun_mk (st := s__law_is_prime) l__law_is_prime c__law_is_prime k__law_is_prime
  have b__law_is_prime := F__law_is_prime.binds (ps := ["number"]) fun _ _ _ _ _ _ us hl => (by obtain ⟨y0, rfl⟩ := len1 hl; rfl)
  have m__law_is_prime := PySem.W.mg_of X G a__law_is_prime
  have F__law_prime := fun_mk (st := s__law_prime) l__law_prime c__law_prime k__law_prime
  have b__law_prime := F__law_prime.binds (ps := ["cell"]) fun _ _ _ _ _ _ us hl => (by obtain ⟨y0, rfl⟩ := len1 hl; rfl)
  have m__law_prime := PySem.W.mg_of X G a__law_prime
  have F__law_whole := fun_mk (st := s__law_whole) l__law_whole c__law_whole k__law_whole
  have b__law_whole := F__law_whole.binds (ps := ["found"]) fun _ _ _ _ _ _ us hl => (by obtain ⟨y0, rfl⟩ := len1 hl; rfl)
  have m__law_whole := PySem.W.mg_of X G a__law_whole
  have F__law_number := fun_mk (st := s__law_number) l__law_number c__law_number k__law_number
  have b__law_number := F__law_number.binds (ps := ["script", "k", "p"]) fun _ _ _ _ _ _ us hl => (by obtain ⟨y0, y1, y2, rfl⟩ := len3 hl; rfl)
  have m__law_number := PySem.W.mg_of X G a__law_number
  have F__law_row := fun_mk (st := s__law_row) l__law_row c__law_row k__law_row
  have b__law_row := F__law_row.binds (ps := ["script", "at", "many", "p"]) fun _ _ _ _ _ _ us hl => (by obtain ⟨y0, y1, y2, y3, rfl⟩ := len4 hl; rfl)
  have m__law_row := PySem.W.mg_of X G a__law_row
  have F__law_row_is := fun_mk (st := s__law_row_is) l__law_row_is c__law_row_is k__law_row_is
  have b__law_row_is := F__law_row_is.binds (ps := ["found", "due"]) fun _ _ _ _ _ _ us hl => (by obtain ⟨y0, y1, rfl⟩ := len2 hl; rfl)
  have m__law_row_is := PySem.W.mg_of X G a__law_row_is
  have F__law_house := fun_mk (st := s__law_house) l__law_house c__law_house k__law_house
  have b__law_house := F__law_house.binds (ps := ["script", "at", "p", "letters", "many"]) fun _ _ _ _ _ _ us hl => (by obtain ⟨y0, y1, y2, y3, y4, rfl⟩ := len5 hl; rfl)
  have m__law_house := PySem.W.mg_of X G a__law_house
  have F__law_step := fun_mk (st := s__law_step) l__law_step c__law_step k__law_step
  have b__law_step := F__law_step.binds (ps := ["p", "row", "table"]) fun _ _ _ _ _ _ us hl => (by obtain ⟨y0, y1, y2, rfl⟩ := len3 hl; rfl)
  have m__law_step := PySem.W.mg_of X G a__law_step
  have F__law_times := fun_mk (st := s__law_times) l__law_times c__law_times k__law_times
  have b__law_times := F__law_times.binds (ps := ["p", "one", "two"]) fun _ _ _ _ _ _ us hl => (by obtain ⟨y0, y1, y2, rfl⟩ := len3 hl; rfl)
  have m__law_times := PySem.W.mg_of X G a__law_times
  have F__law_behind := fun_mk (st := s__law_behind) l__law_behind c__law_behind k__law_behind
  have b__law_behind := F__law_behind.binds (ps := ["house", "word"]) fun _ _ _ _ _ _ us hl => (by obtain ⟨y0, y1, rfl⟩ := len2 hl; rfl)
  have m__law_behind := PySem.W.mg_of X G a__law_behind
  have F__law_word := fun_mk (st := s__law_word) l__law_word c__law_word k__law_word
  have b__law_word := F__law_word.binds (ps := ["script", "letters", "most"]) fun _ _ _ _ _ _ us hl => (by obtain ⟨y0, y1, y2, rfl⟩ := len3 hl; rfl)
  have m__law_word := PySem.W.mg_of X G a__law_word
  have F__law_house_is := fun_mk (st := s__law_house_is) l__law_house_is c__law_house_is k__law_house_is
  have b__law_house_is := F__law_house_is.binds (ps := ["found", "due"]) fun _ _ _ _ _ _ us hl => (by obtain ⟨y0, y1, rfl⟩ := len2 hl; rfl)
  have m__law_house_is := PySem.W.mg_of X G a__law_house_is
  have F__law_less := fun_mk (st := s__law_less) l__law_less c__law_less k__law_less
  have b__law_less := F__law_less.binds (ps := ["one", "two"]) fun _ _ _ _ _ _ us hl => (by obtain ⟨y0, y1, rfl⟩ := len2 hl; rfl)
  have m__law_less := PySem.W.mg_of X G a__law_less
  have F__law_cross := fun_mk (st := s__law_cross) l__law_cross c__law_cross k__law_cross
  have b__law_cross := F__law_cross.binds (ps := ["p", "one", "two"]) fun _ _ _ _ _ _ us hl => (by obtain ⟨y0, y1, y2, rfl⟩ := len3 hl; rfl)
  have m__law_cross := PySem.W.mg_of X G a__law_cross
  have F__law_times_of := fun_mk (st := s__law_times_of) l__law_times_of c__law_times_of k__law_times_of
  have b__law_times_of := F__law_times_of.binds (ps := ["one", "two"]) fun _ _ _ _ _ _ us hl => (by obtain ⟨y0, y1, rfl⟩ := len2 hl; rfl)
  have m__law_times_of := PySem.W.mg_of X G a__law_times_of
  have F__law_back := fun_mk (st := s__law_back) l__law_back c__law_back k__law_back
  have b__law_back := F__law_back.binds (ps := ["house"]) fun _ _ _ _ _ _ us hl => (by obtain ⟨y0, rfl⟩ := len1 hl; rfl)
  have m__law_back := PySem.W.mg_of X G a__law_back
  have F__law_blank := fun_mk (st := s__law_blank) l__law_blank c__law_blank k__law_blank
  have b__law_blank := F__law_blank.binds (ps := ["p", "many"]) fun _ _ _ _ _ _ us hl => (by obtain ⟨y0, y1, rfl⟩ := len2 hl; rfl)
  have m__law_blank := PySem.W.mg_of X G a__law_blank
  have F__law_refused := fun_mk (st := s__law_refused) l__law_refused c__law_refused k__law_refused
  have b__law_refused := F__law_refused.binds (ps := ["deed", "one", "two"]) fun _ _ _ _ _ _ us hl => (by obtain ⟨y0, y1, y2, rfl⟩ := len3 hl; rfl)
  have m__law_refused := PySem.W.mg_of X G a__law_refused
  have F__law_refused_by_any := fun_mk (st := s__law_refused_by_any) l__law_refused_by_any c__law_refused_by_any k__law_refused_by_any
  have b__law_refused_by_any := F__law_refused_by_any.binds (ps := ["deed", "one", "two"]) fun _ _ _ _ _ _ us hl => (by obtain ⟨y0, y1, y2, rfl⟩ := len3 hl; rfl)
  have m__law_refused_by_any := PySem.W.mg_of X G a__law_refused_by_any
  have F__law_edges := fun_mk (st := s__law_edges) l__law_edges c__law_edges k__law_edges
  have b__law_edges := F__law_edges.binds (ps := ["p", "cell"]) fun _ _ _ _ _ _ us hl => (by obtain ⟨y0, y1, rfl⟩ := len2 hl; rfl)
  have m__law_edges := PySem.W.mg_of X G a__law_edges
  have F__law_worth := fun_mk (st := s__law_worth) l__law_worth c__law_worth k__law_worth
  have b__law_worth := F__law_worth.binds (ps := ["house", "word"]) fun _ _ _ _ _ _ us hl => (by obtain ⟨y0, y1, rfl⟩ := len2 hl; rfl)
  have m__law_worth := PySem.W.mg_of X G a__law_worth
  have F__law_values := fun_mk (st := s__law_values) l__law_values c__law_values k__law_values
  have b__law_values := F__law_values.binds (ps := ["one", "two", "word"]) fun _ _ _ _ _ _ us hl => (by obtain ⟨y0, y1, y2, rfl⟩ := len3 hl; rfl)
  have m__law_values := PySem.W.mg_of X G a__law_values
  have F__law_unlike := fun_mk (st := s__law_unlike) l__law_unlike c__law_unlike k__law_unlike
  have b__law_unlike := F__law_unlike.binds (ps := ["deed", "one", "two", "cell"]) fun _ _ _ _ _ _ us hl => (by obtain ⟨y0, y1, y2, y3, rfl⟩ := len4 hl; rfl)
  have m__law_unlike := PySem.W.mg_of X G a__law_unlike
  have F_law := fun_mk (st := s_law) l_law c_law k_law
  have b_law := F_law.binds (ps := ["script"]) fun _ _ _ _ _ _ us hl => (by obtain ⟨y0, rfl⟩ := len1 hl; rfl)
  have m_law := PySem.W.mg_of X G a_law
  refine ⟨PySem.W.fnOf "law" "law" (defArgs s_law) (defBody s_law) (defScope s_law) .none kV_law dc_law pm_law an_law cd_law ct_law, fun s v => .of_eq rfl, fun base _ _ => ?_⟩
  have g_scaled := ok_scaled (P := l.prog) (w := w) (base := base) F_scaled T W Z 
  have g_product := ok_product (P := l.prog) (w := w) (base := base) F_product T W Z 
  have g_is_word := ok_is_word (P := l.prog) (w := w) (base := base) F_is_word T W Z 
  have g_check_word := ok_check_word (P := l.prog) (w := w) (base := base) F_check_word T W Z g_is_word F_is_word b_is_word m_is_word
  have g_made_of := ok_made_of (P := l.prog) (w := w) (base := base) F_made_of T W Z g_product F_product b_product m_product
  have g_check_size := ok_check_size (P := l.prog) (w := w) (base := base) F_check_size T W Z 
  have g_stepped := ok_stepped (P := l.prog) (w := w) (base := base) F_stepped T W Z g_made_of F_made_of b_made_of m_made_of
  have g_rows_along := ok_rows_along (P := l.prog) (w := w) (base := base) F_rows_along T W Z g_check_word F_check_word b_check_word m_check_word g_stepped F_stepped b_stepped m_stepped
  have g_row_behind := ok_row_behind (P := l.prog) (w := w) (base := base) F_row_behind T W Z g_rows_along F_rows_along b_rows_along m_rows_along
  have g_worth := ok_worth (P := l.prog) (w := w) (base := base) F_worth T W Z g_product F_product b_product m_product g_row_behind F_row_behind b_row_behind m_row_behind
  have g_check_as_many := ok_check_as_many (P := l.prog) (w := w) (base := base) F_check_as_many T W Z 
  have g_table_less := ok_table_less (P := l.prog) (w := w) (base := base) F_table_less T W Z 
  have g_less_of := ok_less_of (P := l.prog) (w := w) (base := base) F_less_of T W Z g_scaled F_scaled b_scaled m_scaled g_table_less F_table_less b_table_less m_table_less
  have g_sums_less := ok_sums_less (P := l.prog) (w := w) (base := base) F_sums_less T W Z g_check_size F_check_size b_check_size m_check_size g_check_as_many F_check_as_many b_check_as_many m_check_as_many g_less_of F_less_of b_less_of m_less_of
  have g_row_times := ok_row_times (P := l.prog) (w := w) (base := base) F_row_times T W Z g_scaled F_scaled b_scaled m_scaled
  have g_table_times := ok_table_times (P := l.prog) (w := w) (base := base) F_table_times T W Z g_row_times F_row_times b_row_times m_row_times
  have g_sums_times := ok_sums_times (P := l.prog) (w := w) (base := base) F_sums_times T W Z g_check_size F_check_size b_check_size m_check_size g_check_as_many F_check_as_many b_check_as_many m_check_as_many g_row_times F_row_times b_row_times m_row_times g_table_times F_table_times b_table_times m_table_times
  have g_table_back := ok_table_back (P := l.prog) (w := w) (base := base) F_table_back T W Z 
  have g_sums_back := ok_sums_back (P := l.prog) (w := w) (base := base) F_sums_back T W Z g_table_back F_table_back b_table_back m_table_back
  have g__law_cell := ok__law_cell (P := l.prog) (w := w) (base := base) F__law_cell T W Z 
  have g__law_is_prime := ok__law_is_prime (P := l.prog) (w := w) (base := base) F__law_is_prime T W Z 
  have g__law_prime := ok__law_prime (P := l.prog) (w := w) (base := base) F__law_prime T W Z g__law_is_prime F__law_is_prime b__law_is_prime m__law_is_prime
  have g__law_whole := ok__law_whole (P := l.prog) (w := w) (base := base) F__law_whole T W Z 
  have g__law_number := ok__law_number (P := l.prog) (w := w) (base := base) F__law_number T W Z g__law_cell F__law_cell b__law_cell m__law_cell
  have g__law_row := ok__law_row (P := l.prog) (w := w) (base := base) F__law_row T W Z g__law_number F__law_number b__law_number m__law_number
  have g__law_row_is := ok__law_row_is (P := l.prog) (w := w) (base := base) F__law_row_is T W Z g__law_whole F__law_whole b__law_whole m__law_whole
  have g__law_house := ok__law_house (P := l.prog) (w := w) (base := base) F__law_house T W Z g__law_row F__law_row b__law_row m__law_row
  have g__law_step := ok__law_step (P := l.prog) (w := w) (base := base) F__law_step T W Z 
  have g__law_times := ok__law_times (P := l.prog) (w := w) (base := base) F__law_times T W Z 
  have g__law_behind := ok__law_behind (P := l.prog) (w := w) (base := base) F__law_behind T W Z g__law_step F__law_step b__law_step m__law_step
  have g__law_word := ok__law_word (P := l.prog) (w := w) (base := base) F__law_word T W Z 
  have g__law_house_is := ok__law_house_is (P := l.prog) (w := w) (base := base) F__law_house_is T W Z g__law_row_is F__law_row_is b__law_row_is m__law_row_is
  have g__law_less := ok__law_less (P := l.prog) (w := w) (base := base) F__law_less T W Z 
  have g__law_cross := ok__law_cross (P := l.prog) (w := w) (base := base) F__law_cross T W Z 
  have g__law_times_of := ok__law_times_of (P := l.prog) (w := w) (base := base) F__law_times_of T W Z g__law_cross F__law_cross b__law_cross m__law_cross
  have g__law_back := ok__law_back (P := l.prog) (w := w) (base := base) F__law_back T W Z 
  have g__law_blank := ok__law_blank (P := l.prog) (w := w) (base := base) F__law_blank T W Z 
  have g__law_refused := ok__law_refused (P := l.prog) (w := w) (base := base) F__law_refused T W Z g_sums_less F_sums_less b_sums_less m_sums_less g_sums_times F_sums_times b_sums_times m_sums_times
  have g__law_refused_by_any := ok__law_refused_by_any (P := l.prog) (w := w) (base := base) F__law_refused_by_any T W Z g_sums_less F_sums_less b_sums_less m_sums_less g_sums_times F_sums_times b_sums_times m_sums_times
  have g__law_edges := ok__law_edges (P := l.prog) (w := w) (base := base) F__law_edges T W Z g_sums_less F_sums_less b_sums_less m_sums_less g_sums_times F_sums_times b_sums_times m_sums_times g__law_house_is F__law_house_is b__law_house_is m__law_house_is g__law_blank F__law_blank b__law_blank m__law_blank g__law_refused F__law_refused b__law_refused m__law_refused
  have g__law_worth := ok__law_worth (P := l.prog) (w := w) (base := base) F__law_worth T W Z g__law_times F__law_times b__law_times m__law_times g__law_behind F__law_behind b__law_behind m__law_behind
  have g__law_values := ok__law_values (P := l.prog) (w := w) (base := base) F__law_values T W Z g_worth F_worth b_worth m_worth g_sums_less F_sums_less b_sums_less m_sums_less g_sums_times F_sums_times b_sums_times m_sums_times g_sums_back F_sums_back b_sums_back m_sums_back g__law_worth F__law_worth b__law_worth m__law_worth
  have g__law_unlike := ok__law_unlike (P := l.prog) (w := w) (base := base) F__law_unlike T W Z g__law_refused F__law_refused b__law_refused m__law_refused g__law_refused_by_any F__law_refused_by_any b__law_refused_by_any m__law_refused_by_any
  have g_law := ok_law (P := l.prog) (w := w) (base := base) F_law T W Z g_sums_less F_sums_less b_sums_less m_sums_less g_sums_times F_sums_times b_sums_times m_sums_times g_sums_back F_sums_back b_sums_back m_sums_back g__law_cell F__law_cell b__law_cell m__law_cell g__law_prime F__law_prime b__law_prime m__law_prime g__law_house F__law_house b__law_house m__law_house g__law_word F__law_word b__law_word m__law_word g__law_house_is F__law_house_is b__law_house_is m__law_house_is g__law_less F__law_less b__law_less m__law_less g__law_times_of F__law_times_of b__law_times_of m__law_times_of g__law_back F__law_back b__law_back m__law_back g__law_edges F__law_edges b__law_edges m__law_edges g__law_values F__law_values b__law_values m__law_values g__law_unlike F__law_unlike b__law_unlike m__law_unlike
  exact g_law
theorem walk {l : PySem.W.OpenLaw} {q : Program} {loose : List Str} {XP : (Str -> Option Value) -> Heap -> Prop} {YP : World -> Heap -> Prop} {d : DefRec} {K : Params -> PySem.W.Frag} (hn : l.most = some 63) (hdf : d.params.defaults = [])
    (hY : ∀ (w : World) (h : Heap), YP w h -> (K w.params).In h)
    (F : ∀ (w : World) (mg : Str -> Option Value) (fa : Addr) (h : Heap), (K w.params).In h -> h.Ns mainGlobals mg -> mg d.name = some (.ref fa) ->
      ∃ fd : FuncData, (∀ (s : Shared) (u : Value), BindsTo s fd ⟨[u], []⟩ [("script", u)]) /\ ∀ base : Heap, (K w.params).In base -> base.Ns mainGlobals mg -> FnOk l.prog w (K w.params) mg base CX0 8 fa fd ["script"] (spLaw (K w.params))) :
    PySem.W.WalkO q loose XP YP l.row.toRowW d [] (fun f vs => PySem.call f vs) :=
  L2.walk_of (n := 63) (k := 8) (x := "script") (CX := fun _ => CX0) (sp := fun w => spLaw (K w.params)) hn (by decide) hdf ⟨rfl, by decide, by decide⟩ hY F (fun _ _ a ns hl _ hS => ⟨a, ns, rfl, hS, hl, fun _ => rfl⟩) fun _ _ _ _ _ z => z
end Mine
inductive PySem.W.Fast where
|tw1505595318479333227|tw8014830056045205308|tw1807273904133019092|tw17347460714457274185|tw6977575962806003266|tw3862656590840469519|tw9632902094829912960|tw7499564984693535880|tw655874469443686839|tw11534801792326851022|tw11740707483035851297|tw12282079804881164867|tw17277197036301498058|tw14787880797346290909|tw6623715668146703909|tw6873030709400995195|tw17032902070269730256|tw565444134314806636|tw18241239529636846103|tw15024337814170025889|tw11636663406135266691|tw3129562644347602261|tw12830763339756278012|tw11460642554998122144|tw1036746705296465049|tw11927607586662243241|tw16841438476096885309|tw16468888996547987299|tw10109395391022694819|tw13754429777827261067|tw15237228562760152805|tw5590259301004496087|tw13391702705160947701|tw11341613498585471396|tw11886518028161988574|tw10799228518512285185|tw3472332610421484987|tw13441786327013638886|tw3132520402162313997|tw7375351746489303398|tw5547010978960384321|tw14588689945859293280|tw12555097029448343660|tw2316350697803135135|tw13020909398354905316|tw10289459105536096315|tw8763493480484798668|tw6859077199601674532|tw15831478309075728780|tw14894469519680229479|tw9602977560656881596|tw11212019949735680497|tw9379500997000065|tw3578903310612125592|tw2451957401986913229|tw9761417906906450256|tw5120350220929583693|tw5861714547247241788|tw2763401986944391599|tw4353372296429211571|tw15127165123638458426|tw5765500513520695160|tw16638907145943684941|tw11618583639275431815|tw14913176362644067333|tw11885960367520249801|tw16231474861410695082|tw16417281277658435683|tw11328490059578330394|tw12544627989258009803|tw797296740121852552|tw8500175652949667104|tw4858733485006964135|tw8324938314154103075|tw14817826915859192274|tw14386261764160316758|tw3997466242475911370|tw9877024668178443165|tw1590187568124246803|tw14393480620099617918|tw13608499889454721618|tw14803289519278656076|tw8547333222019247330|tw6196750062441365946|tw5253786058756774904|tw2091134743692786626|tw3644952447136383558|tw15160967789097967154|tw5233649991656256678|tw2041195021003735025|tw4667893831201867205|tw317332959526308404|tw18440145799290251579|tw9293490588093391807|tw319070645888915672|tw13280639818716882285|tw12911567693782707664|tw16924985643657950621|tw11575460356318604052|tw11741913079989549790|tw8641825365009549082|tw13551945124450002407|tw9766792919522904640|tw14018891550129276554|tw12111592929721143337|tw3639748591122673336|tw13081338414014783827|tw6948060581751469550|tw5210265411682204397|tw16208911736877351793|tw4377469137426244296|tw8398745701833474813|tw13311011982784277178|tw12867866737403201808|tw10440482149914217574|tw2222626803284142719|tw2793496397183087725|tw1742298138589712614|tw14173442846385273289|tw3560261188778370102|tw15571578244594850505|tw12577454231937000382|tw11240190939859296927|tw4226117465852208626|tw5996612337677135846|tw13576281169829658501|tw12612497556208504544|tw5329581522120374348|tw16134115402124401733|tw18148790479804891157|tw13670167631522990358|tw1495771353164969947|tw16350429542355322553|tw4388383589895499040|tw8002778178972230481|tw10859370313373821789|tw17780491140070006328|tw5777367382125047293|tw6550377772838034685|tw3804165334358469226|tw13189078189823135892|tw13003970511572075981|tw10448058778663463680|tw9548874412217625258|tw13192028387447171518|tw6874288572789693752|tw13997278130674026198|tw3167360468911344449|tw17044375164287352140|tw2574366792363011660|tw1703526548426815221|tw10708995851883639711|tw5980947238625765744|tw9133308622352866540|tw10394268662510907196|tw5701294663926986057|tw2723778933664847704|tw9545559184667221824|tw4106627214333421330|tw16779803118805348748|tw13418860405278601658|tw6241930040372935497|tw15447957213046910721|tw18056874589885356326|tw16127387086213050931|tw2937627871484541484|tw4620659906063868128|tw13318942522901704435|tw14254564584453931248|tw12381518465280437452|tw1517312445936815501|tw3373991878850908345|tw8314549893592519952|tw9272622782842983321|tw15772904143478068812|tw11905762607393547364|tw8804775397148984401|tw2124371345526000683|tw16627174991614994908|tw12121686886471160297|tw303321067727527303|tw17882760567297007715|tw12926490712501709374|tw6396786856349677410|tw282438327180361131|tw490651025814164797|tw740687017623741893|tw1924429521893203961|tw8858502649467551188|tw937989696107319734|tw9197892452984945464|tw4608365307066074972|tw5306003236813987585|tw14695051069907557048|tw10151467007805769427|tw12193659224084275459|tw14333658491029737816|tw13242907763721620830|tw1539695488622971407|tw16274074214920027591|tw14706851825714212150|tw14377078125532925499|tw15064546147717522264|tw3297107029185254376|tw11108877027338295320|tw3735247959700635494|tw14952675142087103609|tw935811172007449101|tw392652103117101331|tw2634574467280599496|tw4574192539319534849|tw14854511040540606030|tw11498231248100182657|tw14439272951141668774|tw10190179634157487952|tw13498590274764933610|tw5853334055555091082|tw6309249624951464614|tw16159145305954060582|tw1629179649806575997|tw14188937770943791252|tw16023083607995330631|tw11528064733611370070|tw9035651345186141223|tw16019290525107398296|tw5900492290690980684|tw5031045169737502661|tw13019483230842191811|tw6148672495751807333|tw248628432892060200|tw14729129621626306577|tw8790703416633117718|tw15443481285093201513|tw468916715895267979|tw9089181934359684538|tw7846237283289457350|tw15837863741741435457|tw961103945665607907|tw4553733278422736921|tw10623717998911751722|tw464565064973564281|tw16523857300590546059|tw15908289903490743054|tw4218436901927031852|tw1385489185672244279|tw17599508337291143974|tw3748233026088982353|tw15244722319126865567|tw3129335074944580720|tw14413445637085146472|tw14195545330453307041|tw14433165093192156102|tw5155275459637277101|tw11260723637277243598|tw5231442843601017111|tw11606259948488702798|tw13302562609801083864|tw14133092633710474607|tw2466508599831439509|tw5898157957028219623|tw12546708785426096882|tw18159255690910674065|tw2155758981717021310|tw725236293674323028|tw3193734882959978119|tw16684677316309798411|tw1021750682358935960|tw17793652347211827423|tw2639719559845295705|tw8085329608284100441|tw12127560360968677969|tw1832766497425501338|tw7509580760686381367|tw10686721667992792984|tw79761683254590250|tw10171835393166564259|tw325963343407215005|tw12482220738606356562|tw8337547353458039870|tw17217265891241530205|tw12148460918683113096|tw464600269684239979|tw2337207083802797751|tw15927655506097509305|tw2979657256124569829|tw8175065625603946712|tw10034569545375157042|tw12919951851295623106|tw5972061576990038457|tw16154691684150768272|tw8142204761940435675|tw15052435583147218082|tw2112457531349775071|tw15512379407301356921|tw2994579217259010645|tw15324444944037214749|tw10744712615331654200|tw14158562210246508122|tw944832232806833179|tw7489227689875138593|tw3665163844604027211|tw7886190564120869131|tw7226081074973364399|tw416375393176507112|tw17954536813161838666|tw969592023297563055|tw15502267884076017866|tw16972235947939458271|tw10496758663367544095|tw17517733491574909738|tw7864088342910110001|tw13564691377455957525|tw16004273927532787435|tw5592574037196204952|tw5223272144188043638|tw6993786040285208332|tw1848870495902883305|tw5131707771693979961|tw11857992045033293682|tw14534442057955612900|tw17317838736508642257|tw8920795601097342029|tw12064047612105401730|tw15494755841287942968|tw15582406806536617510|tw4652252649038398877|tw13517662759309743043|tw668799271121976649|tw6009231852448148299|tw1468822802403647814|tw1915180843967436715|tw15402086960384979979|tw18172322603990922174|tw16566440359677366576|tw7415796669580771169|tw6352698205708920174|tw4481581662613367545|tw8699259175865625452|tw12267094013381742993|tw16281466601971165999|tw15114685142409634134|tw3368293941639053466|tw13044034660682906194|tw14717750036184095306
open PySem PySem.W PyProof.Rows
set_option maxRecDepth 100000 in
set_option maxHeartbeats 0 in
theorem PySem.Challenge.cw_guessroom_k66_less_times_back_holds : PySem.Challenge.rw_guessroom_k66_less_times_back.Holds := by
  w_on; o_law; k_head; (case hw => w_witness2)
  k_fill
  refine Mine.walk (l := PySem.Challenge.rw_guessroom_k66_less_times_back) rfl rfl (fun w h Y => PySem.W.kIn_of Y) ?F
  case F =>
    intro w mg fa h KX G hmg
    refine' Mine.all_mk KX G hmg ?q_MOST_NUMBERS ?a_scaled ?l_scaled ?c_scaled ?k_scaled ?a_product ?l_product ?c_product ?k_product ?a_is_word ?l_is_word ?c_is_word ?k_is_word ?a_check_word ?l_check_word ?c_check_word ?k_check_word ?a_made_of ?l_made_of ?c_made_of ?k_made_of ?a_check_size ?l_check_size ?c_check_size ?k_check_size ?a_stepped ?l_stepped ?c_stepped ?k_stepped ?a_rows_along ?l_rows_along ?c_rows_along ?k_rows_along ?a_row_behind ?l_row_behind ?c_row_behind ?k_row_behind ?a_worth ?l_worth ?c_worth ?k_worth ?a_check_as_many ?l_check_as_many ?c_check_as_many ?k_check_as_many ?a_table_less ?l_table_less ?c_table_less ?k_table_less ?a_less_of ?l_less_of ?c_less_of ?k_less_of ?a_sums_less ?l_sums_less ?c_sums_less ?k_sums_less ?a_row_times ?l_row_times ?c_row_times ?k_row_times ?a_table_times ?l_table_times ?c_table_times ?k_table_times ?a_sums_times ?l_sums_times ?c_sums_times ?k_sums_times ?a_table_back ?l_table_back ?c_table_back ?k_table_back ?a_sums_back ?l_sums_back ?c_sums_back ?k_sums_back ?a__law_cell ?l__law_cell ?c__law_cell ?k__law_cell ?a__law_is_prime ?l__law_is_prime ?c__law_is_prime ?k__law_is_prime ?a__law_prime ?l__law_prime ?c__law_prime ?k__law_prime ?a__law_whole ?l__law_whole ?c__law_whole ?k__law_whole ?a__law_number ?l__law_number ?c__law_number ?k__law_number ?a__law_row ?l__law_row ?c__law_row ?k__law_row ?a__law_row_is ?l__law_row_is ?c__law_row_is ?k__law_row_is ?a__law_house ?l__law_house ?c__law_house ?k__law_house ?a__law_step ?l__law_step ?c__law_step ?k__law_step ?a__law_times ?l__law_times ?c__law_times ?k__law_times ?a__law_behind ?l__law_behind ?c__law_behind ?k__law_behind ?a__law_word ?l__law_word ?c__law_word ?k__law_word ?a__law_house_is ?l__law_house_is ?c__law_house_is ?k__law_house_is ?a__law_less ?l__law_less ?c__law_less ?k__law_less ?a__law_cross ?l__law_cross ?c__law_cross ?k__law_cross ?a__law_times_of ?l__law_times_of ?c__law_times_of ?k__law_times_of ?a__law_back ?l__law_back ?c__law_back ?k__law_back ?a__law_blank ?l__law_blank ?c__law_blank ?k__law_blank ?a__law_refused ?l__law_refused ?c__law_refused ?k__law_refused ?a__law_refused_by_any ?l__law_refused_by_any ?c__law_refused_by_any ?k__law_refused_by_any ?a__law_edges ?l__law_edges ?c__law_edges ?k__law_edges ?a__law_worth ?l__law_worth ?c__law_worth ?k__law_worth ?a__law_values ?l__law_values ?c__law_values ?k__law_values ?a__law_unlike ?l__law_unlike ?c__law_unlike ?k__law_unlike ?a_law ?l_law ?c_law ?k_law ?z_ValueError ?z_all ?z_bool ?z_int ?z_isinstance ?z_len ?z_max ?z_min ?z_range ?z_reversed ?z_sum ?z_tuple ?z_zip ?m_AskError ?m_BadHouse ?m_BadWord ?x_BadWord ?ga_BadWord ?hk_BadWord ?cl_BadWord ?ca_BadWord ?mo_BadWord ?mb_BadWord ?e_BadWord ?v_BadWord ?ee_BadWord ?k_BadWord_AskError ?k_BadWord_BadHouse ?k_BadWord_BadWord ?x_BadHouse ?ga_BadHouse ?hk_BadHouse ?cl_BadHouse ?ca_BadHouse ?mo_BadHouse ?mb_BadHouse ?e_BadHouse ?v_BadHouse ?ee_BadHouse ?k_BadHouse_AskError ?k_BadHouse_BadHouse ?k_BadHouse_BadWord ?gs ?tk
    (case q_MOST_NUMBERS => k_is)
    (case a_scaled => k_is)
    (case l_scaled => k_is)
    (case c_scaled => k_is)
    (case k_scaled => k_is)
    (case a_product => k_is)
    (case l_product => k_is)
    (case c_product => k_is)
    (case k_product => k_is)
    (case a_is_word => k_is)
    (case l_is_word => k_is)
    (case c_is_word => k_is)
    (case k_is_word => k_is)
    (case a_check_word => k_is)
    (case l_check_word => k_is)
    (case c_check_word => k_is)
    (case k_check_word => k_is)
    (case a_made_of => k_is)
    (case l_made_of => k_is)
    (case c_made_of => k_is)
    (case k_made_of => k_is)
    (case a_check_size => k_is)
    (case l_check_size => k_is)
    (case c_check_size => k_is)
    (case k_check_size => k_is)
    (case a_stepped => k_is)
    (case l_stepped => k_is)
    (case c_stepped => k_is)
    (case k_stepped => k_is)
    (case a_rows_along => k_is)
    (case l_rows_along => k_is)
    (case c_rows_along => k_is)
    (case k_rows_along => k_is)
    (case a_row_behind => k_is)
    (case l_row_behind => k_is)
    (case c_row_behind => k_is)
    (case k_row_behind => k_is)
    (case a_worth => k_is)
    (case l_worth => k_is)
    (case c_worth => k_is)
    (case k_worth => k_is)
    (case a_check_as_many => k_is)
    (case l_check_as_many => k_is)
    (case c_check_as_many => k_is)
    (case k_check_as_many => k_is)
    (case a_table_less => k_is)
    (case l_table_less => k_is)
    (case c_table_less => k_is)
    (case k_table_less => k_is)
    (case a_less_of => k_is)
    (case l_less_of => k_is)
    (case c_less_of => k_is)
    (case k_less_of => k_is)
    (case a_sums_less => k_is)
    (case l_sums_less => k_is)
    (case c_sums_less => k_is)
    (case k_sums_less => k_is)
    (case a_row_times => k_is)
    (case l_row_times => k_is)
    (case c_row_times => k_is)
    (case k_row_times => k_is)
    (case a_table_times => k_is)
    (case l_table_times => k_is)
    (case c_table_times => k_is)
    (case k_table_times => k_is)
    (case a_sums_times => k_is)
    (case l_sums_times => k_is)
    (case c_sums_times => k_is)
    (case k_sums_times => k_is)
    (case a_table_back => k_is)
    (case l_table_back => k_is)
    (case c_table_back => k_is)
    (case k_table_back => k_is)
    (case a_sums_back => k_is)
    (case l_sums_back => k_is)
    (case c_sums_back => k_is)
    (case k_sums_back => k_is)
    (case a__law_cell => k_is)
    (case l__law_cell => k_is)
    (case c__law_cell => k_is)
    (case k__law_cell => k_is)
    (case a__law_is_prime => k_is)
    (case l__law_is_prime => k_is)
    (case c__law_is_prime => k_is)
    (case k__law_is_prime => k_is)
    (case a__law_prime => k_is)
    (case l__law_prime => k_is)
    (case c__law_prime => k_is)
    (case k__law_prime => k_is)
    (case a__law_whole => k_is)
    (case l__law_whole => k_is)
    (case c__law_whole => k_is)
    (case k__law_whole => k_is)
    (case a__law_number => k_is)
    (case l__law_number => k_is)
    (case c__law_number => k_is)
    (case k__law_number => k_is)
    (case a__law_row => k_is)
    (case l__law_row => k_is)
    (case c__law_row => k_is)
    (case k__law_row => k_is)
    (case a__law_row_is => k_is)
    (case l__law_row_is => k_is)
    (case c__law_row_is => k_is)
    (case k__law_row_is => k_is)
    (case a__law_house => k_is)
    (case l__law_house => k_is)
    (case c__law_house => k_is)
    (case k__law_house => k_is)
    (case a__law_step => k_is)
    (case l__law_step => k_is)
    (case c__law_step => k_is)
    (case k__law_step => k_is)
    (case a__law_times => k_is)
    (case l__law_times => k_is)
    (case c__law_times => k_is)
    (case k__law_times => k_is)
    (case a__law_behind => k_is)
    (case l__law_behind => k_is)
    (case c__law_behind => k_is)
    (case k__law_behind => k_is)
    (case a__law_word => k_is)
    (case l__law_word => k_is)
    (case c__law_word => k_is)
    (case k__law_word => k_is)
    (case a__law_house_is => k_is)
    (case l__law_house_is => k_is)
    (case c__law_house_is => k_is)
    (case k__law_house_is => k_is)
    (case a__law_less => k_is)
    (case l__law_less => k_is)
    (case c__law_less => k_is)
    (case k__law_less => k_is)
    (case a__law_cross => k_is)
    (case l__law_cross => k_is)
    (case c__law_cross => k_is)
    (case k__law_cross => k_is)
    (case a__law_times_of => k_is)
    (case l__law_times_of => k_is)
    (case c__law_times_of => k_is)
    (case k__law_times_of => k_is)
    (case a__law_back => k_is)
    (case l__law_back => k_is)
    (case c__law_back => k_is)
    (case k__law_back => k_is)
    (case a__law_blank => k_is)
    (case l__law_blank => k_is)
    (case c__law_blank => k_is)
    (case k__law_blank => k_is)
    (case a__law_refused => k_is)
    (case l__law_refused => k_is)
    (case c__law_refused => k_is)
    (case k__law_refused => k_is)
    (case a__law_refused_by_any => k_is)
    (case l__law_refused_by_any => k_is)
    (case c__law_refused_by_any => k_is)
    (case k__law_refused_by_any => k_is)
    (case a__law_edges => k_is)
    (case l__law_edges => k_is)
    (case c__law_edges => k_is)
    (case k__law_edges => k_is)
    (case a__law_worth => k_is)
    (case l__law_worth => k_is)
    (case c__law_worth => k_is)
    (case k__law_worth => k_is)
    (case a__law_values => k_is)
    (case l__law_values => k_is)
    (case c__law_values => k_is)
    (case k__law_values => k_is)
    (case a__law_unlike => k_is)
    (case l__law_unlike => k_is)
    (case c__law_unlike => k_is)
    (case k__law_unlike => k_is)
    (case a_law => k_is)
    (case l_law => k_is)
    (case c_law => k_is)
    (case k_law => k_is)
    (case z_ValueError => k_is)
    (case z_all => k_is)
    (case z_bool => k_is)
    (case z_int => k_is)
    (case z_isinstance => k_is)
    (case z_len => k_is)
    (case z_max => k_is)
    (case z_min => k_is)
    (case z_range => k_is)
    (case z_reversed => k_is)
    (case z_sum => k_is)
    (case z_tuple => k_is)
    (case z_zip => k_is)
    (case m_AskError => k_is)
    (case m_BadHouse => k_is)
    (case m_BadWord => k_is)
    (case x_BadWord => k_exc)
    (case ga_BadWord => k_is)
    (case hk_BadWord => k_is)
    (case cl_BadWord => k_is)
    (case ca_BadWord => k_is)
    (case mo_BadWord => k_is)
    (case mb_BadWord => k_is)
    (case e_BadWord => kts_exm)
    (case v_BadWord => kit_is)
    (case ee_BadWord => kts_exm)
    (case k_BadWord_AskError => kit_is)
    (case k_BadWord_BadHouse => kit_is)
    (case k_BadWord_BadWord => kit_is)
    (case x_BadHouse => k_exc)
    (case ga_BadHouse => k_is)
    (case hk_BadHouse => k_is)
    (case cl_BadHouse => k_is)
    (case ca_BadHouse => k_is)
    (case mo_BadHouse => k_is)
    (case mb_BadHouse => k_is)
    (case e_BadHouse => kts_exm)
    (case v_BadHouse => kit_is)
    (case ee_BadHouse => kts_exm)
    (case k_BadHouse_AskError => kit_is)
    (case k_BadHouse_BadHouse => kit_is)
    (case k_BadHouse_BadWord => kit_is)
    (case gs => k_is)
    (case tk => k_is)
