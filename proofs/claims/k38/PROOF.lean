import PyProof.Rows.All
import Wide.All
import OpenK.AllK
import Wide.FinOn
import Lean
import PyProof.EqAt
import PyProof.EqKinds
import PyProof.TupleCall
import KE.KRevIter
import PyProof.ListRange
import PyProof.TupleOfGen
import PyProof.Draws
import PyProof.EnumMake
import PyProof.EnumFor
import PyProof.NeKinds
import KE.KDictList
import PyProof.Rows.TupDisplay
import PyProof.ZipIter
import PyProof.Rows.ZipGen
import KE.KItemsList
import PyProof.Rows.SumAny
import PySem.Challenge.RW_guessroom_k38_the_first_wrong
set_option Elab.async false
set_option linter.all false
set_option maxRecDepth 100000
namespace L2
open PySem PySem.Spec PyProof.Rows
abbrev Key := Sum Int Str
def keyIs : Key -> Value -> Bool
  | .inl k, v => Value.isInt k v
  | .inr x, v => Value.isStrOf x v
def keyH (w : World) : Key -> Int
  | .inl k => hashInt k
  | .inr x => hashStr w x
theorem keyIs_shape : ∀ {k : Key} {v : Value}, keyIs k v = true -> (∃ i t, k = Sum.inl i /\ v = Value.int i t) \/ (∃ x t, k = Sum.inr x /\ v = Value.str x t)
  | .inl i, v, h => by
    obtain ⟨t, e⟩ := Value.isInt_shape (k := i) (v := v) h
    exact .inl ⟨i, t, rfl, e⟩
  | .inr x, v, h => by
    obtain ⟨t, e⟩ := Value.isStrOf_shape (x := x) (v := v) h
    exact .inr ⟨x, t, rfl, e⟩
theorem keyIs_int (i : Int) (t : Tok) : keyIs (.inl i) (.int i t) = true := by simp [keyIs, Value.isInt]
theorem keyIs_str (x : Str) (t : Tok) : keyIs (.inr x) (.str x t) = true := by simp [keyIs, Value.isStrOf]
theorem key_ll (a b : Int) : decide ((Sum.inl a : Key) = Sum.inl b) = (a == b) := by
  by_cases e : a = b
  . subst e; simp
  . have h : ¬ (Sum.inl a : Key) = Sum.inl b := fun q => e (Sum.inl.inj q)
    rw [decide_eq_false h]
    exact (beq_eq_false_iff_ne.mpr e).symm
theorem key_rr (a b : Str) : decide ((Sum.inr a : Key) = Sum.inr b) = decide (a = b) := by
  by_cases e : a = b
  . subst e; simp
  . have h : ¬ (Sum.inr a : Key) = Sum.inr b := fun q => e (Sum.inr.inj q)
    rw [decide_eq_false h, decide_eq_false e]
theorem key_lr (a : Int) (b : Str) : decide ((Sum.inl a : Key) = Sum.inr b) = false := decide_eq_false (fun q => nomatch q)
theorem key_rl (a : Str) (b : Int) : decide ((Sum.inr a : Key) = Sum.inl b) = false := decide_eq_false (fun q => nomatch q)
def mixKind (prog : Program) (w : World) : PySem.KeyKind prog w Key where
  is := keyIs
  hash := keyH w
  inj := fun v a b ha hb => by
    rcases keyIs_shape ha with ⟨i, t, rfl, rfl⟩ | ⟨x, t, rfl, rfl⟩
    . rcases keyIs_shape hb with ⟨j, u, rfl, e⟩ | ⟨y, u, rfl, e⟩
      . injection e with e1 _; rw [e1]
      . exact nomatch e
    . rcases keyIs_shape hb with ⟨j, u, rfl, e⟩ | ⟨y, u, rfl, e⟩
      . exact nomatch e
      . injection e with e1 _; rw [e1]
  byValue := fun k v h => by
    rcases keyIs_shape h with ⟨i, t, rfl, rfl⟩ | ⟨x, t, rfl, rfl⟩ <;> rfl
  pyHash := fun hv h => by
    rcases keyIs_shape hv with ⟨i, t, rfl, rfl⟩ | ⟨x, t, rfl, rfl⟩
    . exact wpAny_pyHash_int h
    . exact wpAny_pyHash_str h
  eqBool := fun hu hv h => by
    rcases keyIs_shape hu with ⟨i, t, rfl, rfl⟩ | ⟨x, t, rfl, rfl⟩
    . rcases keyIs_shape hv with ⟨j, u, rfl, rfl⟩ | ⟨y, u, rfl, rfl⟩
      . rw [key_ll] at h; exact wpAny_eqBool_int h
      . rw [key_lr] at h; exact SeqAt.EqAt.int_str i t y u _ _ _ _ h
    . rcases keyIs_shape hv with ⟨j, u, rfl, rfl⟩ | ⟨y, u, rfl, rfl⟩
      . rw [key_rl] at h; exact SeqAt.EqAt.str_int x t j u _ _ _ _ h
      . rw [key_rr] at h; exact wpAny_eqBool_str h
  «strs» := fun k x t v h => by
    rcases keyIs_shape h with ⟨i, u, rfl, e⟩ | ⟨y, u, rfl, e⟩
    . exact nomatch e
    . injection e with e1 _
      subst e1
      cases v <;> rfl
theorem mixKind_int (prog : Program) (w : World) (i : Int) (t : Tok) : (mixKind prog w).is (.inl i) (.int i t) = true := keyIs_int i t
theorem mixKind_str (prog : Program) (w : World) (x : Str) (t : Tok) : (mixKind prog w).is (.inr x) (.str x t) = true := keyIs_str x t
end L2
namespace L2
open PySem PySem.Spec PyProof.Rows
inductive V where
  | non | bl (b : Bool) | int (i : Int) | str (x : Str) | byt (b : Array UInt8) | flt (b : UInt64) | ref (a : Addr) | ty (n : String)
  deriving DecidableEq
def RelV : V -> Value -> Prop
  | .non, u => u = Value.none
  | .bl b, u => u = Value.bool b
  | .int i, u => ∃ t, u = Value.int i t
  | .str x, u => ∃ t, u = Value.str x t
  | .byt b, u => ∃ t, u = Value.bytes b t
  | .flt b, u => ∃ t, u = Value.float b t
  | .ref a, u => u = Value.ref a
  | .ty n, u => u = Value.type n
abbrev Vals : List V -> List Value -> Prop := Paired RelV
theorem Vals.length {xs : List V} {us : List Value} (r : Vals xs us) : xs.length = us.length := Paired.length r
theorem Vals.get : ∀ {xs : List V} {us : List Value} {i : Nat} {x : V}, Vals xs us -> xs[i]? = some x -> ∃ u, us[i]? = some u /\ RelV x u
  | _, _, _, _, .nil, e => by simp at e
  | _, _, 0, _, .cons r _, e => by simp at e; subst e; exact ⟨_, rfl, r⟩
  | _, _, i + 1, x, .cons _ t, e => by
    obtain ⟨u, h1, h2⟩ := Vals.get (i := i) (x := x) t (by simpa using e)
    exact ⟨u, by simpa using h1, h2⟩
theorem Vals.append : ∀ {xs ys : List V} {us ws : List Value}, Vals xs us -> Vals ys ws -> Vals (xs ++ ys) (us ++ ws)
  | _, _, _, _, .nil, s => s
  | _, _, _, _, .cons r t, s => .cons r (Vals.append t s)
theorem Vals.take : ∀ {xs : List V} {us : List Value} (n : Nat), Vals xs us -> Vals (xs.take n) (us.take n)
  | _, _, 0, _ => .nil
  | _, _, _ + 1, .nil => .nil
  | _, _, n + 1, .cons r t => .cons r (Vals.take n t)
theorem Vals.drop : ∀ {xs : List V} {us : List Value} (n : Nat), Vals xs us -> Vals (xs.drop n) (us.drop n)
  | _, _, 0, r => r
  | _, _, _ + 1, .nil => .nil
  | _, _, n + 1, .cons _ t => Vals.drop n t
def RelO : Option V -> Option Value -> Prop
  | some v, some u => RelV v u
  | none, none => True
  | _, _ => False
def KV {κ : Type} : List (κ × V) -> List (κ × Value) -> Prop := Paired fun (p : κ × V) (q : κ × Value) => p.1 = q.1 /\ RelV p.2 q.2
def kV : Key -> V
  | .inl i => .int i
  | .inr x => .str x
inductive HO where
  /-- a list -/
  | lst (xs : List V)
  /-- a tuple (never changes) -/
  | tup (xs : List V)
  /-- a dict whose keys are ints and texts; one whose keys are tuples of ints and texts (the empty one is both) -/
  | dK (kvs : List (Key × V)) | dT (kvs : List (List Key × V))
  /-- a set of ints: its members, its size -/
  | set (S : Int -> Bool) (n : Nat)
  /-- an instance of the class at C, its dict at dx, its attributes -/
  | ins (C dx : Addr) (fs : List (Str × V))
  /-- the dict of the instance at x -/
  | own (x : Addr)
  /-- the dict of an exception -/
  | xd (fs : List (Str × V))
  /-- a bound method, f of x -/
  | met (f x : Addr)
  /-- a range object lo, lo + 1, .. below hi -/
  | rng (lo hi : Int)
  /-- a thing that is known to the object (the script; a dict while a loop walks it): read, never written while it is so -/
  | frz (o : Obj) (u : HO)
  /-- a code object's table -/
  | tbl (ps : Array Value)
  /-- any other thing, by what is true of its one object (a def of one's own: SetO a S n := HO.ext fun h => ..) -/
  | ext (φ : Heap -> Prop)
abbrev Hp := Addr -> Option HO
def upd (H : Hp) (a : Addr) (o : HO) : Hp := fun b => if b = a then some o else H b
theorem upd_same {H : Hp} {a : Addr} {o : HO} : upd H a o a = some o := by unfold upd; rw [if_pos rfl]
theorem upd_ne {H : Hp} {a b : Addr} {o : HO} (h : b ≠ a) : upd H a o b = H b := by unfold upd; rw [if_neg h]
theorem ne_of {H : Hp} {a b : Addr} {o u : HO} (h : H a = some o) (h' : H b = some u) (d : o ≠ u) : a ≠ b := by
  intro e; subst e; rw [h] at h'; exact d (Option.some.inj h')
theorem ne_of_none {H : Hp} {a b : Addr} {o : HO} (h : H a = some o) (h' : H b = none) : a ≠ b := by
  intro e; subst e; rw [h] at h'; cases h'
section
variable (P : Program) (w : World)
def ObjOk (H : Hp) (h : Heap) (a : Addr) : HO -> Prop
  | .lst xs => xs.length <= sizeLine /\ ∃ (its : List Value) (n : Nat), Vals xs its /\ h.get? a = some { cls := .type "list", data := .seq its.toArray n }
  | .tup xs => xs.length <= sizeLine /\ ∃ its : List Value, Vals xs its /\ IsTup h a its.toArray
  | .dK kvs => kvs.length <= sizeLine /\ (a == sysModules) = false /\ ∃ vs, KV kvs vs /\ h.DictOf (mixKind P w) a vs
  | .dT kvs => kvs.length <= sizeLine /\ (a == sysModules) = false /\ ∃ xs : List (List Key × Addr × Value),
      Paired (fun (p : List Key × V) (q : List Key × Addr × Value) => p.1 = q.1 /\ H q.2.1 = some (.tup (p.1.map kV)) /\ RelV p.2 q.2.2) kvs xs /\
      ∃ o es ep, h.get? a = some o /\ o.ExactDict /\ o.data = .dict es ep /\ es.toList = xs.map (entryOfKey (tupleKind (mixKind P w))) /\ (xs.map (·.1)).Nodup
  | .set S n => h.SetOf (intKind P w) a S n
  | .ins C dx fs => H dx = some (.own a) /\ fs.length <= 1000 /\ dx ≠ a /\ h.get? a = some (PySem.W.instObj C dx) /\
      ∃ mA, h.Ns1 dx mA /\ (∀ f, RelO (fs.lookup f) (mA f)) /\ PySem.Within mA (fs.map (·.1))
  | .own _ => ∃ o, h.get? a = some o
  | .xd fs => ∃ mA, h.Ns1 a mA /\ ∀ f, RelO (fs.lookup f) (mA f)
  | .rng lo hi => ∃ t u v, h.get? a = some { cls := .type "range", data := .fields #[.int lo t, .int hi u, .int 1 v] }
  | .frz o u => h.get? a = some o /\ ObjOk H h a u
  | .tbl ps => h.get? a = some { cls := .none, data := .fields ps }
  | .met f x => h.get? a = some (PySem.W.methodObj (.ref f) (.ref x))
  | .ext φ => φ h /\ (∃ o, h.get? a = some o) /\ ∀ h1 h2 : Heap, φ h1 -> (∀ o, h1.get? a = some o -> h2.get? a = some o) -> φ h2
def HOk (H : Hp) (h : Heap) : Prop := ∀ a o, H a = some o -> ObjOk P w H h a o
end
section
variable {P : Program} {w : World} {H H' : Hp} {h h' : Heap} {a : Addr} {o : HO}
theorem ObjOk.lt (x : ObjOk P w H h a o) : a < h.objs.size := by
  cases o with
  | lst xs => obtain ⟨_, _, _, _, e⟩ := x; exact Heap.lt_size e
  | tup xs => obtain ⟨_, _, _, p⟩ := x; exact p.lt
  | dK kvs => obtain ⟨_, _, _, _, o, _, _, e, _⟩ := x; exact Heap.lt_size e
  | dT kvs => obtain ⟨_, _, _, _, o, _, _, e, _⟩ := x; exact Heap.lt_size e
  | set S n => obtain ⟨o, _, _, _, e, _⟩ := x; exact Heap.lt_size e
  | ins C dx fs => obtain ⟨_, _, _, e, _⟩ := x; exact Heap.lt_size e
  | own y => obtain ⟨_, e⟩ := x; exact Heap.lt_size e
  | xd fs => obtain ⟨_, ⟨_, _, _, e, _⟩, _⟩ := x; exact Heap.lt_size e
  | rng lo hi => obtain ⟨_, _, _, e⟩ := x; exact Heap.lt_size e
  | frz ob u => obtain ⟨e, _⟩ := x; exact Heap.lt_size e
  | tbl ps => exact Heap.lt_size (show h.get? a = some _ from x)
  | met f y => exact Heap.lt_size (show h.get? a = some _ from x)
  | ext φ => obtain ⟨_, ⟨_, e⟩, _⟩ := x; exact Heap.lt_size e
theorem Paired.mapP {α β : Type} {F G : α -> β -> Prop} : ∀ {l₁ : List α} {l₂ : List β}, Paired F l₁ l₂ -> (∀ a b, F a b -> G a b) -> Paired G l₁ l₂
  | _, _, .nil, _ => .nil
  | _, _, .cons r t, f => .cons (f _ _ r) (Paired.mapP t f)
theorem ObjOk.stay (x : ObjOk P w H h a o) (k : ∀ b u, (b = a \/ H b = some (.own a)) -> h.get? b = some u -> h'.get? b = some u)
    (ho : ∀ b, H b = some (.own a) -> H' b = some (.own a)) (ht : ∀ b xs, H b = some (.tup xs) -> H' b = some (.tup xs)) : ObjOk P w H' h' a o := by
  induction o with
  | lst xs => obtain ⟨z, its, n, r, e⟩ := x; exact ⟨z, its, n, r, k _ _ (.inl rfl) e⟩
  | tup xs => obtain ⟨z, its, r, ob, e, c⟩ := x; exact ⟨z, its, r, ob, k _ _ (.inl rfl) e, c⟩
  | dK kvs => obtain ⟨z, y, vs, r, ob, es, ep, e, c⟩ := x; exact ⟨z, y, vs, r, ob, es, ep, k _ _ (.inl rfl) e, c⟩
  | dT kvs =>
    obtain ⟨z, y, xs, r, ob, es, ep, e, c⟩ := x
    exact ⟨z, y, xs, Paired.mapP r fun p q z => ⟨z.1, ht _ _ z.2.1, z.2.2⟩, ob, es, ep, k _ _ (.inl rfl) e, c⟩
  | set S n => obtain ⟨ob, es, ep, t, e, c⟩ := x; exact ⟨ob, es, ep, t, k _ _ (.inl rfl) e, c⟩
  | ins C dx fs =>
    obtain ⟨d, z, ne, e, mA, ⟨od, es, ep, e2, c⟩, r⟩ := x
    exact ⟨ho _ d, z, ne, k _ _ (.inl rfl) e, mA, ⟨od, es, ep, k _ _ (.inr d) e2, c⟩, r⟩
  | own y => obtain ⟨ob, e⟩ := x; exact ⟨ob, k _ _ (.inl rfl) e⟩
  | xd fs => obtain ⟨mA, ⟨od, es, ep, e, c⟩, r⟩ := x; exact ⟨mA, ⟨od, es, ep, k _ _ (.inl rfl) e, c⟩, r⟩
  | rng lo hi => obtain ⟨t, u, v, e⟩ := x; exact ⟨t, u, v, k _ _ (.inl rfl) e⟩
  | frz ob u ih => obtain ⟨e, q⟩ := x; exact ⟨k _ _ (.inl rfl) e, ih q⟩
  | tbl ps =>
    have e : h.get? a = some { cls := .none, data := .fields ps } := x
    show h'.get? a = some { cls := .none, data := .fields ps }
    exact k a _ (.inl rfl) e
  | met f y =>
    have e : h.get? a = some (PySem.W.methodObj (.ref f) (.ref y)) := x
    show h'.get? a = some (PySem.W.methodObj (.ref f) (.ref y))
    exact k a _ (.inl rfl) e
  | ext φ => obtain ⟨p, ⟨o, e⟩, st⟩ := x; exact ⟨st _ _ p fun o q => k _ _ (.inl rfl) q, ⟨o, k _ _ (.inl rfl) e⟩, st⟩
theorem HOk.lt (x : HOk P w H h) (e : H a = some o) : a < h.objs.size := (x a o e).lt
theorem HOk.fresh (x : HOk P w H h) (e : h.objs.size <= a) : H a = none := by
  cases q : H a with
  | none => rfl
  | some u => exact absurd (Nat.lt_of_lt_of_le (x.lt q) e) (Nat.lt_irrefl _)
theorem HOk.kept (x : HOk P w H h) (k : ∀ b u, h.get? b = some u -> h'.get? b = some u) : HOk P w H h' := fun a o e =>
  (x a o e).stay (fun b u _ q => k b u q) (fun _ q => q) fun _ _ q => q
theorem HOk.laid (x : HOk P w H h) (k : ∀ b u, h.get? b = some u -> h'.get? b = some u) (hp : h.objs.size <= a) (new : ObjOk P w (upd H a o) h' a o) : HOk P w (upd H a o) h' := fun b u e => by
  have hn := x.fresh hp
  by_cases hb : b = a
  . subst hb; rw [upd_same] at e; cases e; exact new
  . rw [upd_ne hb] at e
    exact (x b u e).stay (fun c v _ q => k c v q) (fun c q => by rw [upd_ne (ne_of_none q hn)]; exact q) fun c xs q => by rw [upd_ne (ne_of_none q hn)]; exact q
end
def Rd (H : Hp) (a : Addr) (u : HO) : Prop := H a = some u \/ ∃ o, H a = some (.frz o u)
theorem Rd.ok {P : Program} {w : World} {H : Hp} {h : Heap} {a : Addr} {u : HO} (r : Rd H a u) (x : HOk P w H h) : ObjOk P w H h a u := by
  rcases r with r | ⟨o, r⟩
  . exact x a u r
  . obtain ⟨_, q⟩ := x a _ r
    exact q
def Mut : Option HO -> Prop
  | some (.lst _) => True
  | some (.dK _) => True
  | some (.dT _) => True
  | some (.set _ _) => True
  | some (.ins _ _ _) => True
  | some (.ext _) => True
  | _ => False
section
variable {P : Program} {w : World} {H : Hp} {h h' : Heap} {x e : Addr} {o' : HO}
theorem HOk.write (ok : HOk P w H h) (mu : Mut (H x)) (he : e = x \/ H e = some (.own x)) (k : ∀ b u, b ≠ e -> h.get? b = some u -> h'.get? b = some u) (heo : ∃ u, h'.get? e = some u)
    (new : ObjOk P w (upd H x o') h' x o') : HOk P w (upd H x o') h' := fun b u q => by
  have nown : ∀ c y, H c = some (.own y) -> c ≠ x := fun c y r z => by subst z; rw [r] at mu; exact mu
  have ntup : ∀ c xs, H c = some (.tup xs) -> c ≠ x := fun c xs r z => by subst z; rw [r] at mu; exact mu
  by_cases hb : b = x
  . subst hb; rw [upd_same] at q; cases q; exact new
  . rw [upd_ne hb] at q
    by_cases hbe : b = e
    . have q' : H b = some (.own x) := by
        rcases he with z | z
        . exact absurd (hbe.trans z) hb
        . rw [hbe]; exact z
      rw [q] at q'; cases q'
      obtain ⟨v, hv⟩ := heo
      exact ⟨v, by rw [hbe]; exact hv⟩
    . refine (ok b u q).stay (fun c v hc r => k c v ?_ r) (fun c r => by rw [upd_ne (nown c b r)]; exact r) fun c xs r => by rw [upd_ne (ntup c xs r)]; exact r
      rcases hc with rfl | hc
      . exact hbe
      . rintro rfl
        rcases he with z | z
        . exact nown c b hc z
        . rw [hc] at z; cases z; exact hb rfl
end
structure Un (fs ex : List Addr) (H H' : Hp) (h h' : Heap) : Prop where
  keep : ∀ b o, h.get? b = some o -> H b = none -> b ∉ fs -> b ∉ ex -> h'.get? b = some o
  slot : ∀ b o, h.get? b = some o -> H b = none -> b ∈ fs -> b ∉ ex -> ∃ sl, h'.get? b = some { o with slots := sl }
  free : ∀ b o, h.get? b = some o -> H b = none -> b ∉ ex -> H' b = none
  there : ∀ b o, h.get? b = some o -> b ∉ ex -> ∃ o', h'.get? b = some o'
  tups : ∀ b xs, H b = some (.tup xs) -> H' b = some (.tup xs)
  frzs : ∀ b o u, H b = some (.frz o u) -> H' b = some (.frz o u)
  tbls : ∀ b ps, H b = some (.tbl ps) -> ∃ more, H' b = some (.tbl (ps ++ more))
section
variable {fs fs' ex ex' : List Addr} {H H1 H2 : Hp} {h h1 h2 h' : Heap} {a x e : Addr} {o : HO}
theorem Un.any (u : Un fs ex H H1 h h1) {b : Addr} {ob : Obj} (q : h.get? b = some ob) (n : H b = none) (hx : b ∉ ex) : ∃ sl, h1.get? b = some { ob with slots := sl } := by
  by_cases hb : b ∈ fs
  . exact u.slot b ob q n hb hx
  . exact ⟨ob.slots, u.keep b ob q n hb hx⟩
theorem Un.kept (k : ∀ b u, h.get? b = some u -> h'.get? b = some u) : Un fs ex H H h h' :=
  ⟨fun b ob q _ _ _ => k b ob q, fun b ob q _ _ _ => ⟨ob.slots, k b ob q⟩, fun _ _ _ n _ => n, fun b ob q _ => ⟨ob, k b ob q⟩, fun _ _ q => q, fun _ _ _ q => q, fun _ ps q => ⟨#[], by rw [q]; simp⟩⟩
theorem Un.refl : Un fs ex H H h h := Un.kept fun _ _ q => q
theorem Un.laid (k : ∀ b u, h.get? b = some u -> h'.get? b = some u) (hp : h.objs.size <= a) (hn : H a = none) : Un fs ex H (upd H a o) h h' where
  keep := fun b u q _ _ _ => k b u q
  slot := fun b u q _ _ _ => ⟨u.slots, k b u q⟩
  free := fun b u q n _ => by rw [upd_ne (Nat.ne_of_lt (Nat.lt_of_lt_of_le (Heap.lt_size q) hp))]; exact n
  there := fun b u q _ => ⟨u, k b u q⟩
  tups := fun b xs q => by rw [upd_ne (ne_of_none q hn)]; exact q
  frzs := fun b u xs q => by rw [upd_ne (ne_of_none q hn)]; exact q
  tbls := fun b ps q => ⟨#[], by rw [upd_ne (ne_of_none q hn), q]; simp⟩
theorem Un.write (mu : Mut (H x)) (he : e = x \/ H e = some (.own x)) (k : ∀ b u, b ≠ e -> h.get? b = some u -> h'.get? b = some u) (heo : ∃ u, h'.get? e = some u) : Un fs ex H (upd H x o) h h' := by
  have hx : ∀ b, H b = none -> b ≠ x := fun b n z => by subst z; rw [n] at mu; exact mu
  have hb : ∀ b, H b = none -> b ≠ e := fun b n z => by
    subst z
    rcases he with r | r
    . exact hx b n r
    . rw [n] at r; cases r
  have hm : ∀ b u, H b = some u -> ¬ Mut (some u) -> b ≠ x := fun b u q nm z => by subst z; rw [q] at mu; exact nm mu
  refine ⟨fun b u q n _ _ => k b u (hb b n) q, fun b u q n _ _ => ⟨u.slots, k b u (hb b n) q⟩, fun b u q n _ => by rw [upd_ne (hx b n)]; exact n, fun b u q _ => ?_,
    fun b xs q => by rw [upd_ne (hm b _ q fun z => z)]; exact q, fun b u xs q => by rw [upd_ne (hm b _ q fun z => z)]; exact q, fun b ps q => ⟨#[], by rw [upd_ne (hm b _ q fun z => z), q]; simp⟩⟩
  by_cases hbe : b = e
  . subst hbe; exact heo
  . exact ⟨u, k b u hbe q⟩
end
def trk (h : Heap) (H : Hp) : List Addr := (List.range h.objs.size).filter fun a => (H a).isSome
def hidT (h : Heap) (H : Hp) : Heap := PySem.W.hideAll h (trk h H)
theorem hidT_size (h : Heap) (H : Hp) : (hidT h H).objs.size = h.objs.size := PySem.W.hideAll_size _ _
theorem hidT_get {h : Heap} {H : Hp} {b : Addr} {o : Obj} (e : h.get? b = some o) (n : H b = none) : (hidT h H).get? b = some o :=
  PySem.W.hideAll_get _ e fun hm => by
    have q : (H b).isSome = true := (List.mem_filter.mp hm).2
    rw [n] at q; simp at q
theorem of_hidT {h : Heap} {H : Hp} {b : Addr} {o : Obj} (e : (hidT h H).get? b = some o) : h.get? b = some o /\ H b = none := by
  have e' : h.get? b = some o := PySem.W.of_hideAll (trk h H) e
  refine ⟨e', ?_⟩
  cases q : H b with
  | none => rfl
  | some x =>
    have hm : b ∈ trk h H := List.mem_filter.mpr ⟨List.mem_range.mpr (Heap.lt_size e'), by simp [q]⟩
    have z : (hidT h H).get? b = none := PySem.W.hideAll_none (trk h H) hm
    rw [z] at e; cases e
def allNews (g h : Heap) (L : Addr) : List (Addr × Obj) := (List.range h.objs.size).filterMap fun a => if a = L \/ (g.get? a).isSome = true then none else (h.get? a).map fun o => (a, o)
def rest (g h : Heap) (L d : Addr) : List (Addr × Obj) := (allNews g h L).filter fun p => decide (p.1 ≠ d)
end L2
namespace L2
open PySem PySem.Spec PyProof.Rows
structure Mod (K : PySem.W.Frag) (mg : Str -> Option Value) (base : Heap) : Prop where
  kin : K.In base
  glob : base.Ns mainGlobals mg
  blt : ∃ mb, base.Ns builtinsNs mb /\ ∀ x : Str, x ≠ "__name__" -> mb x = bootBuiltins x
  nolimit : base.NoLimit
structure Cx where
  prog : Program
  w : World
  K : PySem.W.Frag
  mg : Str -> Option Value
  base : Heap
  A : Around
  N : List Str
  s₀ : Shared
  H₀ : Hp
  env : Env
  outer : List Env
  stack : List Env
  ex : List Addr
  fn : Str -> Bool
  calm : Bool
  pn : List (Addr × Obj)
  xe : Value -> Shared -> Prop
def frs (l : List Env) : List Addr := l.filterMap (·.frame)
abbrev Cx.fs (X : Cx) : List Addr := frs X.outer
def Vis (sc : Scope) (x : Str) : Prop := sc.names.lookup x = some .local \/ sc.names.lookup x = some .cell \/ sc.names.lookup x = some .free
def Loc (sc : Scope) (x : Str) : Prop := sc.names.lookup x = some .local \/ sc.names.lookup x = some .cell
def Look (env : Env) (h : Heap) (m : Str -> Option Value) (x : Str) (u : Value) : Prop :=
  (env.kindOf x = some .local /\ m x = some u) \/ ((env.kindOf x = some .cell \/ env.kindOf x = some .free) /\ ∃ c, env.cells.lookup x = some c /\ h.IsCell c (some u))
structure Cx.Ok (X : Cx) : Prop where
  mod : Mod X.K X.mg X.base
  kind : X.env.scope.kind = .function
  glob : X.env.globals = mainGlobals
  blt : X.env.builtins = builtinsNs
  above : X.s₀.heap.objs.size <= X.env.locals
  inj : ∀ x y c, X.env.cells.lookup x = some c -> X.env.cells.lookup y = some c -> x = y
  has : ∀ x, (X.env.kindOf x = some .cell \/ X.env.kindOf x = some .free) -> ∃ c, X.env.cells.lookup x = some c
  cab : ∀ x c, X.fn x = true -> X.env.cells.lookup x = some c -> X.s₀.heap.objs.size <= c
  hd : X.calm = true -> X.A.handled = none
  frames : X.A.frames = some X.stack
  stk : X.stack = X.outer \/ (X.stack = X.env :: X.outer /\ X.env.frame = some X.env.locals)
  exf : ∀ b ∈ X.ex, b ≠ X.env.locals /\ ∀ x c, X.env.cells.lookup x = some c -> c ≠ b
  bs : ∀ b o, X.base.get? b = some o -> X.s₀.heap.get? b = some o /\ X.H₀ b = none
  bsz : X.base.objs.size <= X.s₀.heap.objs.size
  noex : ∀ b o, X.base.get? b = some o -> b ∉ X.ex
  exfs : ∀ b ∈ X.ex, b ∉ X.fs
  funs : X.s₀.heap.FunFrames X.base X.outer
  frf : ∀ b ∈ X.fs, X.H₀ b = none
structure Inv (X : Cx) (pins : List (Addr × Obj)) (σ : List (Option V)) (H : Hp) (s : Shared) : Prop where
  ok : X.Ok
  os : s.os = X.s₀.os
  bare : AllBare s.gens
  base : Un X.fs X.ex X.H₀ H X.s₀.heap s.heap
  loc : ∃ m, s.heap.Ns X.env.locals m /\ ∀ (i : Nat) (x : Str) (v : V), X.N[i]? = some x -> σ[i]? = some (some v) -> Vis X.env.scope x -> ∃ u, RelV v u /\ Look X.env s.heap m x u
  cell : ∀ x c, X.env.cells.lookup x = some c -> ∃ v, s.heap.IsCell c v
  free : H X.env.locals = none
  freeC : ∀ x c, X.env.cells.lookup x = some c -> H c = none
  pin : ∀ p ∈ X.pn ++ pins, s.heap.get? p.1 = some p.2 /\ H p.1 = none /\ p.1 ≠ X.env.locals /\ p.1 ∉ X.fs /\ ∀ v, p.2.data ≠ .cell v
  hok : HOk X.prog X.w H s.heap
  len : σ.length = X.N.length
section
variable {X : Cx} {pins : List (Addr × Obj)} {σ : List (Option V)} {H H' : Hp} {s : Shared} {h' : Heap}
theorem Cx.Ok.nofr (ok : X.Ok) {b : Addr} {o : Obj} (e : X.base.get? b = some o) : b ∉ X.fs := fun hb => by
  have := (ok.funs.mem hb).1
  rw [e] at this; cases this
theorem Inv.bs (I : Inv X pins σ H s) : ∀ b o, X.base.get? b = some o -> s.heap.get? b = some o /\ H b = none := fun b o e =>
  ⟨I.base.keep b o (I.ok.bs b o e).1 (I.ok.bs b o e).2 (I.ok.nofr e) (I.ok.noex b o e), I.base.free b o (I.ok.bs b o e).1 (I.ok.bs b o e).2 (I.ok.noex b o e)⟩
theorem Inv.bk (I : Inv X pins σ H s) : ∀ b o, X.base.get? b = some o -> s.heap.get? b = some o := fun b o e => (I.bs b o e).1
theorem Inv.mod (I : Inv X pins σ H s) : Mod X.K X.mg X.base := I.ok.mod
theorem Inv.kIn (I : Inv X pins σ H s) : X.K.In s.heap := I.ok.mod.kin.keeps I.bk
theorem Inv.lt (I : Inv X pins σ H s) : X.env.locals < s.heap.objs.size := let ⟨_, hn, _⟩ := I.loc; hn.lt
theorem Inv.sz (I : Inv X pins σ H s) : X.s₀.heap.objs.size <= s.heap.objs.size := Nat.le_trans I.ok.above (Nat.le_of_lt I.lt)
theorem Inv.nofs (I : Inv X pins σ H s) {a : Addr} (h : s.heap.objs.size <= a) : a ∉ X.fs := fun hb => by
  obtain ⟨_, o, ho, _⟩ := I.ok.funs.mem hb
  exact absurd (Nat.lt_of_lt_of_le (Heap.lt_size ho) (Nat.le_trans I.sz h)) (Nat.lt_irrefl _)
theorem Inv.cne (I : Inv X pins σ H s) : ∀ x c, X.env.cells.lookup x = some c -> c ≠ X.env.locals := fun x c e z => by
  obtain ⟨v, o, ho, hd⟩ := I.cell x c e
  obtain ⟨m, ⟨o', es, ep, ho', hd', _⟩, _⟩ := I.loc
  rw [z, ho'] at ho; cases ho; rw [hd'] at hd; cases hd
theorem Inv.funs (I : Inv X pins σ H s) : s.heap.FunFrames X.base X.outer := by
  have all : ∀ (l : List Env), (∀ b ∈ frs l, b ∈ X.fs) -> X.s₀.heap.FunFrames X.base l -> s.heap.FunFrames X.base l := by
    intro l
    induction l with
    | nil => intro _ _; trivial
    | cons env r ih =>
      intro hs hl
      obtain ⟨hk, ⟨L, o, hf, hn, ho, hd⟩, hr⟩ := hl
      have hL : L ∈ X.fs := hs L (by unfold frs; rw [List.filterMap_cons, hf]; exact List.mem_cons_self)
      obtain ⟨sl, e⟩ := I.base.slot L o ho (I.ok.frf L hL) hL fun z => I.ok.exfs L z hL
      exact ⟨hk, ⟨L, _, hf, hn, e, hd⟩, ih (fun b hb => hs b (by unfold frs; rw [List.filterMap_cons, hf]; exact List.mem_cons_of_mem _ hb)) hr⟩
  exact all X.outer (fun _ hb => hb) I.ok.funs
theorem Inv.stack (I : Inv X pins σ H s) : s.heap.FunFrames X.base X.stack := by
  rcases I.ok.stk with e | ⟨e, hf⟩
  . rw [e]; exact I.funs
  . rw [e]
    obtain ⟨m, hn, _⟩ := I.loc
    refine .cons (by rw [I.ok.kind]; decide) hf hn ?_ I.funs
    exact Heap.get?_none_of_le (Nat.le_trans I.ok.bsz I.ok.above)
theorem Inv.stkSub (I : Inv X pins σ H s) : ∀ b ∈ frs X.stack, b ∈ X.env.locals :: X.fs := fun b hb => by
  rcases I.ok.stk with e | ⟨e, hf⟩
  . rw [e] at hb; exact List.mem_cons_of_mem _ hb
  . rw [e] at hb
    unfold frs at hb
    rw [List.filterMap_cons, hf] at hb
    exact hb
theorem Inv.stkFree (I : Inv X pins σ H s) : ∀ b ∈ frs X.stack, H b = none := fun b hb => by
  rcases List.mem_cons.mp (I.stkSub b hb) with e | hb
  . rw [e]; exact I.free
  . obtain ⟨_, o, ho, _⟩ := I.ok.funs.mem hb
    exact I.base.free b o ho (I.ok.frf b hb) fun z => I.ok.exfs b z hb
theorem Inv.step {g' : Array GenState} {t' : Nat} {d' : Drawn} {ch : List Addr} (I : Inv X pins σ H s)
    (hch : ∀ b ∈ ch, (b ∈ X.ex \/ X.s₀.heap.objs.size <= b) /\ b ≠ X.env.locals /\ (∀ x c, X.env.cells.lookup x = some c -> c ≠ b) /\ ∀ p ∈ X.pn ++ pins, p.1 ≠ b)
    (keep : ∀ b o, b ≠ X.env.locals -> b ∉ X.fs -> b ∉ ch -> s.heap.get? b = some o -> H b = none -> h'.get? b = some o)
    (slot : ∀ b o, b ≠ X.env.locals -> b ∈ X.fs -> b ∉ ch -> s.heap.get? b = some o -> H b = none -> ∃ sl, h'.get? b = some { o with slots := sl }) (free : ∀ b o, b ∉ ch -> s.heap.get? b = some o -> H b = none -> H' b = none)
    (there : ∀ b o, b ∉ ch -> s.heap.get? b = some o -> ∃ o', h'.get? b = some o')
    (tups : ∀ b xs, H b = some (.tup xs) -> H' b = some (.tup xs)) (frzs : ∀ b o u, H b = some (.frz o u) -> H' b = some (.frz o u)) (tbls : ∀ b ps, H b = some (.tbl ps) -> ∃ more, H' b = some (.tbl (ps ++ more)))
    (ns : ∀ m, s.heap.Ns X.env.locals m -> h'.Ns X.env.locals m) (hok : HOk X.prog X.w H' h') (hg : AllBare g') :
    Inv X pins σ H' { s with heap := h', gens := g', drawn := d', toks := t' } := by
  have neL : ∀ b o, X.s₀.heap.get? b = some o -> b ≠ X.env.locals := fun b o e => Nat.ne_of_lt (Nat.lt_of_lt_of_le (Heap.lt_size e) I.ok.above)
  have neC : ∀ b o, X.s₀.heap.get? b = some o -> b ∉ X.ex -> b ∉ ch := fun b o e hx hb => by
    rcases (hch b hb).1 with z | z
    . exact hx z
    . exact absurd (Nat.lt_of_lt_of_le (Heap.lt_size e) z) (Nat.lt_irrefl _)
  have cellK : ∀ x c, X.env.cells.lookup x = some c -> ∀ v, s.heap.IsCell c v -> h'.IsCell c v := fun x c e v ⟨o, ho, hd⟩ => by
    have nch : c ∉ ch := fun z => (hch c z).2.2.1 x c e rfl
    by_cases hc : c ∈ X.fs
    . obtain ⟨sl, q⟩ := slot c o (I.cne x c e) hc nch ho (I.freeC x c e)
      exact ⟨_, q, hd⟩
    . exact ⟨o, keep c o (I.cne x c e) hc nch ho (I.freeC x c e), hd⟩
  refine ⟨I.ok, I.os, hg, ⟨fun b o e n hb hx => ?_, fun b o e n hb hx => ?_, fun b o e n hx => ?_, fun b o e hx => ?_, fun b xs e => tups b xs (I.base.tups b xs e), fun b o xs e => frzs b o xs (I.base.frzs b o xs e), fun b ps e => ?_⟩, ?_, fun x c e => ?_, ?_, fun x c e => ?_, fun p hp => ?_, hok, I.len⟩
  . exact keep b o (neL b o e) hb (neC b o e hx) (I.base.keep b o e n hb hx) (I.base.free b o e n hx)
  . obtain ⟨sl, e1⟩ := I.base.slot b o e n hb hx
    obtain ⟨sl', e2⟩ := slot b _ (neL b o e) hb (neC b o e hx) e1 (I.base.free b o e n hx)
    exact ⟨sl', e2⟩
  . obtain ⟨o', e1⟩ := I.base.there b o e hx
    exact free b o' (neC b o e hx) e1 (I.base.free b o e n hx)
  . obtain ⟨o', e1⟩ := I.base.there b o e hx
    exact there b o' (neC b o e hx) e1
  . obtain ⟨m1, e1⟩ := I.base.tbls b ps e
    obtain ⟨m2, e2⟩ := tbls b _ e1
    exact ⟨m1 ++ m2, by rw [e2, Array.append_assoc]⟩
  . obtain ⟨m, hn, hl⟩ := I.loc
    refine ⟨m, ns m hn, fun i x v e1 e2 e3 => ?_⟩
    obtain ⟨u, r, l⟩ := hl i x v e1 e2 e3
    refine ⟨u, r, ?_⟩
    rcases l with l | ⟨k, c, e, z⟩
    . exact .inl l
    . exact .inr ⟨k, c, e, cellK x c e _ z⟩
  . obtain ⟨v, z⟩ := I.cell x c e
    exact ⟨v, cellK x c e v z⟩
  . obtain ⟨m, ⟨o, _, _, ho, _⟩, _⟩ := I.loc
    exact free _ o (fun z => (hch _ z).2.1 rfl) ho I.free
  . obtain ⟨v, o, ho, hd⟩ := I.cell x c e
    exact free c o (fun z => (hch c z).2.2.1 x c e rfl) ho (I.freeC x c e)
  . obtain ⟨e, n, ne, nf, d⟩ := I.pin p hp
    have nch : p.1 ∉ ch := fun z => (hch p.1 z).2.2.2 p hp rfl
    exact ⟨keep p.1 p.2 ne nf nch e n, free p.1 p.2 nch e n, ne, nf, d⟩
theorem Inv.un {t' : Nat} (I : Inv X pins σ H s) (u : Un X.fs [] H H' s.heap h') (hok : HOk X.prog X.w H' h') : Inv X pins σ H' { s with heap := h', toks := t' } := by
  obtain ⟨m, ⟨o, es, ep, ho, r⟩, _⟩ := id I.loc
  obtain ⟨sl, hL⟩ := u.any ho I.free (by simp)
  exact I.step (g' := s.gens) (d' := s.drawn) (ch := []) (fun _ z => nomatch z) (fun b o _ hb _ e n => u.keep b o e n hb (by simp)) (fun b o _ hb _ e n => u.slot b o e n hb (by simp)) (fun b o _ e n => u.free b o e n (by simp)) (fun b o _ e => u.there b o e (by simp)) u.tups u.frzs u.tbls (fun m' hm => by
    obtain ⟨o', es', ep', ho', r'⟩ := hm
    rw [ho] at ho'; cases ho'
    exact ⟨_, es', ep', hL, r'⟩) hok I.bare
theorem Inv.call {g' : Array GenState} {t' : Nat} {d' : Drawn} {ch : List Addr} (I : Inv X pins σ H s) (u : Un (frs X.stack) ch H H' s.heap h') (hok : HOk X.prog X.w H' h') (hg : AllBare g')
    (hch : ∀ b ∈ ch, (b ∈ X.ex \/ X.s₀.heap.objs.size <= b) /\ b ≠ X.env.locals /\ (∀ x c, X.env.cells.lookup x = some c -> c ≠ b) /\ ∀ p ∈ X.pn ++ pins, p.1 ≠ b) :
    Inv X pins σ H' { s with heap := h', gens := g', drawn := d', toks := t' } := by
  obtain ⟨m, ⟨o, es, ep, ho, r⟩, _⟩ := id I.loc
  obtain ⟨sl, hL⟩ := u.any ho I.free fun z => (hch _ z).2.1 rfl
  exact I.step (ch := ch) hch (fun b o hL hb hc e n => u.keep b o e n (fun z => (List.mem_cons.mp (I.stkSub b z)).elim hL hb) hc) (fun b o _ _ hc e n => u.any e n hc) (fun b o hc e n => u.free b o e n hc) (fun b o hc e => u.there b o e hc) u.tups u.frzs u.tbls (fun m' hm => by
    obtain ⟨o', es', ep', ho', r'⟩ := hm
    rw [ho] at ho'; cases ho'
    exact ⟨_, es', ep', hL, r'⟩) hok hg
theorem Inv.turned {t' : Nat} {it : Addr} (I : Inv X pins σ H s) (k : ∀ b o, b ≠ it -> s.heap.get? b = some o -> h'.get? b = some o) (hn : H it = none) (hL : it ≠ X.env.locals)
    (h1 : it ∈ X.ex \/ X.s₀.heap.objs.size <= it) (h2 : ∀ x c, X.env.cells.lookup x = some c -> c ≠ it) (h3 : ∀ p ∈ X.pn ++ pins, p.1 ≠ it) : Inv X pins σ H { s with heap := h', toks := t' } := by
  have nit : ∀ b u, H b = some u -> b ≠ it := fun b u e z => by rw [z, hn] at e; cases e
  refine I.step (g' := s.gens) (d' := s.drawn) (ch := [it]) (fun b hb => ?_) (fun b o _ _ hc e _ => k b o (fun z => hc (by simp [z])) e) (fun b o _ _ hc e _ => ⟨o.slots, k b o (fun z => hc (by simp [z])) e⟩) (fun _ _ _ _ n => n)
    (fun b o hc e => ⟨o, k b o (fun z => hc (by simp [z])) e⟩) (fun _ _ e => e) (fun _ _ _ e => e) (fun b ps e => ⟨#[], by rw [e]; simp⟩) (fun m hm => ?_) (fun b u e => ?_) I.bare
  . have e : b = it := by simpa using hb
    subst e
    exact ⟨h1, hL, h2, h3⟩
  . obtain ⟨o, es, ep, ho, r⟩ := hm
    exact ⟨o, es, ep, k _ o (Ne.symm hL) ho, r⟩
  . refine (I.hok b u e).stay (fun c v hc q => k c v ?_ q) (fun _ q => q) fun _ _ q => q
    rcases hc with z | z
    . rw [z]; exact nit b u e
    . exact nit c _ z
theorem Inv.tok (I : Inv X pins σ H s) (t : Nat) : Inv X pins σ H { s with toks := t } := I.un (h' := s.heap) (t' := t) Un.refl I.hok
theorem Inv.kept {t' : Nat} (I : Inv X pins σ H s) (k : ∀ b u, s.heap.get? b = some u -> h'.get? b = some u) : Inv X pins σ H { s with heap := h', toks := t' } := I.un (Un.kept k) (I.hok.kept k)
theorem Inv.laid {a : Addr} {o : HO} {t' : Nat} (I : Inv X pins σ H s) (k : ∀ b u, s.heap.get? b = some u -> h'.get? b = some u) (hp : s.heap.objs.size <= a) (new : ObjOk X.prog X.w (upd H a o) h' a o) :
    Inv X pins σ (upd H a o) { s with heap := h', toks := t' } := I.un (Un.laid k hp (I.hok.fresh hp)) (I.hok.laid k hp new)
theorem Inv.write {x e : Addr} {o : HO} {t' : Nat} (I : Inv X pins σ H s) (mu : Mut (H x)) (he : e = x \/ H e = some (.own x)) (k : ∀ b u, b ≠ e -> s.heap.get? b = some u -> h'.get? b = some u) (heo : ∃ u, h'.get? e = some u)
    (new : ObjOk X.prog X.w (upd H x o) h' x o) : Inv X pins σ (upd H x o) { s with heap := h', toks := t' } := I.un (Un.write mu he k heo) (I.hok.write mu he k heo new)
theorem Inv.pins_of {pins' : List (Addr × Obj)} (I : Inv X pins σ H s) (h : ∀ p ∈ pins', s.heap.get? p.1 = some p.2 /\ H p.1 = none /\ p.1 ≠ X.env.locals /\ p.1 ∉ X.fs /\ ∀ v, p.2.data ≠ .cell v) : Inv X pins' σ H s :=
  ⟨I.ok, I.os, I.bare, I.base, I.loc, I.cell, I.free, I.freeC, fun p hp => (List.mem_append.mp hp).elim (fun z => I.pin p (List.mem_append_left _ z)) (h p), I.hok, I.len⟩
theorem nodup_ix {N : List Str} (hN : N.Nodup) {i j : Nat} {x : Str} (a : N[i]? = some x) (b : N[j]? = some x) : i = j := by
  obtain ⟨h1, e1⟩ := List.getElem?_eq_some_iff.mp a
  obtain ⟨h2, e2⟩ := List.getElem?_eq_some_iff.mp b
  exact (List.getElem_inj hN).mp (e1.trans e2.symm)
theorem store_ok2 {M : Model} {A : Around} {E : Value -> Shared -> Prop} {i : Nat} {x : Str} {v : V} {u : Value} {Q : Unit -> Shared -> Prop} (I : Inv X pins σ H s) (hN : X.N.Nodup) (hi : X.N[i]? = some x) (hx : Loc X.env.scope x) (r : RelV v u)
    (h : ∀ s', Inv X pins (σ.set i (some v)) H s' -> (∃ a, Heap.SameBut a s.heap s'.heap /\ (a = X.env.locals \/ X.env.cells.lookup x = some a)) -> Q () s') (hf : X.fn x = true \/ X.env.scope.names.lookup x = some .local := by first | exact .inl rfl | exact .inr rfl | assumption) : wpAny M A (storeName X.env x u) Q E s := by
  obtain ⟨m, hn, hl⟩ := id I.loc
  have hcls : (X.env.scope.kind == .class || (X.env.scope.kind == .module && X.env.locals != X.env.globals)) = false := by rw [I.ok.kind]; rfl
  have hiσ : i < σ.length := by rw [I.len]; exact (List.getElem?_eq_some_iff.mp hi).1
  have cne := I.cne
  have tracked : ∀ {a : Addr} {h' : Heap}, (∃ o, s.heap.get? a = some o /\ H a = none) -> Heap.SameBut a s.heap h' -> HOk X.prog X.w H h' := fun {a h'} ha hs b ob e => by
    obtain ⟨_, _, hfree⟩ := ha
    refine (I.hok b ob e).stay (fun c w' hc q => (hs.2 c ?_).trans q) (fun _ q => q) fun _ _ q => q
    rintro rfl
    rcases hc with rfl | hc
    . rw [hfree] at e; cases e
    . rw [hfree] at hc; cases hc
  rcases hx with hk | hk
  . refine wpAny_storeName_local hk hn (fun h' hn' hs => ?_) hcls
    obtain ⟨oL, _, _, hoL, _⟩ := id hn
    refine h _ ⟨I.ok, I.os, I.bare, ⟨fun b o e n hb hx => ?_, fun b o e n hb hx => ?_, I.base.free, fun b o e hx => ?_, I.base.tups, I.base.frzs, I.base.tbls⟩, ⟨_, hn', fun j y v' e1 e2 e3 => ?_⟩, fun y c e => ?_, I.free, I.freeC, fun p hp => ?_, tracked ⟨oL, hoL, I.free⟩ hs, by simpa using I.len⟩ ⟨_, hs, .inl rfl⟩
    . exact (hs.2 b (Nat.ne_of_lt (Nat.lt_of_lt_of_le (Heap.lt_size e) I.ok.above))).trans (I.base.keep b o e n hb hx)
    . obtain ⟨sl, e1⟩ := I.base.slot b o e n hb hx
      exact ⟨sl, (hs.2 b (Nat.ne_of_lt (Nat.lt_of_lt_of_le (Heap.lt_size e) I.ok.above))).trans e1⟩
    . obtain ⟨o', e1⟩ := I.base.there b o e hx
      exact ⟨o', (hs.2 b (Nat.ne_of_lt (Nat.lt_of_lt_of_le (Heap.lt_size e) I.ok.above))).trans e1⟩
    . by_cases hj : j = i
      . subst hj
        rw [hi] at e1; cases e1
        rw [List.getElem?_set_self hiσ] at e2
        cases e2
        exact ⟨u, r, .inl ⟨hk, by simp⟩⟩
      . rw [List.getElem?_set_ne (Ne.symm hj)] at e2
        obtain ⟨u', r', q⟩ := hl j y v' e1 e2 e3
        refine ⟨u', r', ?_⟩
        rcases q with ⟨k, e⟩ | ⟨k, c, e, z⟩
        . refine .inl ⟨k, ?_⟩
          have : y ≠ x := fun e => hj (nodup_ix hN e1 (e ▸ hi))
          simp [this, e]
        . exact .inr ⟨k, c, e, z.sameBut hs (cne y c e)⟩
    . obtain ⟨w', z⟩ := I.cell y c e
      exact ⟨w', z.sameBut hs (cne y c e)⟩
    . obtain ⟨e, n, ne, nf, d⟩ := I.pin p hp
      exact ⟨(hs.2 p.1 ne).trans e, n, ne, nf, d⟩
  . have hfn : X.fn x = true := by
      rcases hf with z | z
      . exact z
      . rw [z] at hk; cases hk
    obtain ⟨c, hc⟩ := I.ok.has x (.inl hk)
    obtain ⟨w', z⟩ := I.cell x c hc
    refine wpAny_storeName_cell I.ok.kind hk hc z (fun h' hc' hs => ?_)
    obtain ⟨oc, hoc, hocd⟩ := id z
    refine h { s with heap := h' } ⟨I.ok, I.os, I.bare, ⟨fun b o e n hb hx => ?_, fun b o e n hb hx => ?_, I.base.free, fun b o e hx => ?_, I.base.tups, I.base.frzs, I.base.tbls⟩, ⟨m, hn.sameBut hs (Ne.symm (cne x c hc)), fun j y v' e1 e2 e3 => ?_⟩, fun y c' e => ?_, I.free, I.freeC, fun p hp => ?_, tracked ⟨oc, hoc, I.freeC x c hc⟩ hs, by simpa using I.len⟩ ⟨c, hs, .inr hc⟩
    . exact (hs.2 b (Nat.ne_of_lt (Nat.lt_of_lt_of_le (Heap.lt_size e) (I.ok.cab x c hfn hc)))).trans (I.base.keep b o e n hb hx)
    . obtain ⟨sl, e1⟩ := I.base.slot b o e n hb hx
      exact ⟨sl, (hs.2 b (Nat.ne_of_lt (Nat.lt_of_lt_of_le (Heap.lt_size e) (I.ok.cab x c hfn hc)))).trans e1⟩
    . obtain ⟨o', e1⟩ := I.base.there b o e hx
      exact ⟨o', (hs.2 b (Nat.ne_of_lt (Nat.lt_of_lt_of_le (Heap.lt_size e) (I.ok.cab x c hfn hc)))).trans e1⟩
    . by_cases hj : j = i
      . subst hj
        rw [hi] at e1; cases e1
        rw [List.getElem?_set_self hiσ] at e2
        cases e2
        exact ⟨u, r, .inr ⟨.inl hk, c, hc, hc'⟩⟩
      . rw [List.getElem?_set_ne (Ne.symm hj)] at e2
        obtain ⟨u', r', q⟩ := hl j y v' e1 e2 e3
        refine ⟨u', r', ?_⟩
        rcases q with q | ⟨k, c', e, z'⟩
        . exact .inl q
        . refine .inr ⟨k, c', e, z'.sameBut hs ?_⟩
          rintro rfl
          exact hj (nodup_ix hN e1 (I.ok.inj _ _ _ e hc ▸ hi))
    . by_cases hcc : c' = c
      . subst hcc; exact ⟨_, hc'⟩
      . obtain ⟨w2, z2⟩ := I.cell y c' e
        exact ⟨w2, z2.sameBut hs hcc⟩
    . obtain ⟨e, n, ne, nf, d⟩ := I.pin p hp
      refine ⟨(hs.2 p.1 ?_).trans e, n, ne, nf, d⟩
      intro q
      rw [q, hoc] at e
      have q' : oc = p.2 := Option.some.inj e
      exact d w' (by rw [<- q']; exact hocd)
theorem store_ok {M : Model} {A : Around} {E : Value -> Shared -> Prop} {i : Nat} {x : Str} {v : V} {u : Value} {Q : Unit -> Shared -> Prop} (I : Inv X pins σ H s) (hN : X.N.Nodup) (hi : X.N[i]? = some x) (hx : Loc X.env.scope x) (r : RelV v u)
    (h : ∀ s', Inv X pins (σ.set i (some v)) H s' -> Q () s') (hf : X.fn x = true \/ X.env.scope.names.lookup x = some .local := by first | exact .inl rfl | exact .inr rfl | assumption) : wpAny M A (storeName X.env x u) Q E s :=
  store_ok2 I hN hi hx r (fun s' I' _ => h s' I') hf
theorem Inv.call' {s' : Shared} {ch : List Addr} (I : Inv X pins σ H s) (ho : s'.os = s.os) (u : Un (frs X.stack) ch H H' s.heap s'.heap) (hok : HOk X.prog X.w H' s'.heap) (hg : AllBare s'.gens)
    (hch : ∀ b ∈ ch, (b ∈ X.ex \/ X.s₀.heap.objs.size <= b) /\ b ≠ X.env.locals /\ (∀ x c, X.env.cells.lookup x = some c -> c ≠ b) /\ ∀ p ∈ X.pn ++ pins, p.1 ≠ b) : Inv X pins σ H' s' := by
  obtain ⟨h', g', d', t', o'⟩ := s'
  have e : o' = s.os := ho
  subst e
  exact I.call (g' := g') (t' := t') (d' := d') u hok hg hch
end
abbrev XK := Value -> Option Addr -> Hp -> Prop
abbrev St := List (Option V)
abbrev VK := V -> Hp -> Prop
abbrev TE := St -> Hp -> VK -> Prop
abbrev TT := St -> Hp -> (Bool -> Hp -> Prop) -> Prop
abbrev TA := St -> Hp -> (List V -> Hp -> Prop) -> Prop
structure Ends where
  nx : St -> Hp -> Prop
  rt : VK
  bk : St -> Hp -> Prop := fun _ _ => False
  ct : St -> Hp -> Prop := fun _ _ => False
abbrev TS := Ends -> St -> Hp -> Prop
def EP (X : Cx) (pins : List (Addr × Obj)) (σ : St) (Q : VK) (u : Value) (s' : Shared) : Prop := ∃ v H', Inv X pins σ H' s' /\ RelV v u /\ Q v H'
def TP (X : Cx) (pins : List (Addr × Obj)) (σ : St) (Q : Bool -> Hp -> Prop) (b : Bool) (s' : Shared) : Prop := ∃ H', Inv X pins σ H' s' /\ Q b H'
def AP (X : Cx) (pins : List (Addr × Obj)) (σ : St) (Q : List V -> Hp -> Prop) (us : List Value) (s' : Shared) : Prop := ∃ vs H', Inv X pins σ H' s' /\ Vals vs us /\ Q vs H'
def SP (X : Cx) (pins : List (Addr × Obj)) (D : Ends) (f : Flow) (s' : Shared) : Prop :=
  match f with
  | .next => ∃ σ' H', Inv X pins σ' H' s' /\ D.nx σ' H'
  | .brk => ∃ σ' H', Inv X pins σ' H' s' /\ D.bk σ' H'
  | .cont => ∃ σ' H', Inv X pins σ' H' s' /\ D.ct σ' H'
  | .ret u => ∃ v σ' H', Inv X pins σ' H' s' /\ RelV v u /\ D.rt v H'
def PE (X : Cx) (e : Expr) (t : TE) : Prop :=
  ∀ (pins : List (Addr × Obj)) (s : Shared) (σ : St) (H : Hp) (Q : VK), Inv X pins σ H s -> t σ H Q -> wpAny (model X.prog X.w) X.A (eval e X.env) (EP X pins σ Q) X.xe s
def PT (X : Cx) (e : Expr) (t : TT) : Prop :=
  ∀ (pins : List (Addr × Obj)) (s : Shared) (σ : St) (H : Hp) (Q : Bool -> Hp -> Prop), Inv X pins σ H s -> t σ H Q -> wpAny (model X.prog X.w) X.A (isTrue e X.env (eval e X.env)) (TP X pins σ Q) X.xe s
def PW (X : Cx) (e : Expr) (t : TT) : Prop :=
  ∀ (whole : Sem Value) (pins : List (Addr × Obj)) (s : Shared) (σ : St) (H : Hp) (Q : Bool -> Hp -> Prop), Inv X pins σ H s -> t σ H Q -> wpAny (model X.prog X.w) X.A (isTrue e X.env whole) (TP X pins σ Q) X.xe s
theorem PW.pt {X : Cx} {e : Expr} {t : TT} (h : PW X e t) : PT X e t := h _
def PA (X : Cx) (es : List Expr) (t : TA) : Prop :=
  ∀ (pos : Pos) (pins : List (Addr × Obj)) (s : Shared) (σ : St) (H : Hp) (Q : List V -> Hp -> Prop), Inv X pins σ H s -> t σ H Q -> wpAny (model X.prog X.w) X.A (spliced (backTo pos (starEach es X.env))) (AP X pins σ Q) X.xe s
def PS (X : Cx) (st : Stmt) (t : TS) : Prop :=
  ∀ (pins : List (Addr × Obj)) (s : Shared) (σ : St) (H : Hp) (D : Ends), Inv X pins σ H s -> t D σ H -> wpAny (model X.prog X.w) X.A (exec st X.env) (SP X pins D) X.xe s
def PSs (X : Cx) (st : List Stmt) (t : TS) : Prop :=
  ∀ (pins : List (Addr × Obj)) (s : Shared) (σ : St) (H : Hp) (D : Ends), Inv X pins σ H s -> t D σ H -> wpAny (model X.prog X.w) X.A (execs st X.env) (SP X pins D) X.xe s
theorem thn {α : Type} {t : Sem α} {Q Q' : α -> Shared -> Prop} {M : Model} {A : Around} {E : Value -> Shared -> Prop} {s : Shared} (h : wpAny M A t Q E s) (hQ : ∀ a s, Q a s -> Q' a s) : wpAny M A t Q' E s := wpAny_mono h hQ fun _ _ x => x
end L2
namespace L2
open PySem PySem.Spec PyProof.Rows
section
variable {X : Cx}
def tVar (i : Nat) : TE := fun σ H Q => ∃ v, σ[i]? = some (some v) /\ Q v H
def tC (v : V) : TE := fun _ H Q => Q v H
theorem pe_var {i : Nat} {x : Str} {pos : Pos} (hN : X.N[i]? = some x) (hv : Vis X.env.scope x) (hd : (x == ("__debug__" : Str)) = false := by decide) (hcd : (x == ("__classdict__" : Str)) = false := by decide) : PE X (.Name x pos) (tVar i) := by
  intro pins s σ H Q I h
  obtain ⟨v, e, h⟩ := h
  obtain ⟨m, hn, hl⟩ := I.loc
  obtain ⟨u, r, l⟩ := hl i x v hN e hv
  have fin : EP X pins σ Q u s := ⟨v, H, I, r, h⟩
  rcases l with ⟨hk, hm⟩ | ⟨hk, c, hc, hcell⟩
  . exact wpAny_Name (wpAny_loadName_local I.ok.kind hk hn hm fin) hd
  . rcases hk with hk | hk
    . exact wpAny_Name (wpAny_loadName_cell I.ok.kind hk hc hcell fin) hd
    . exact wpAny_Name (wpAny_loadName_free I.ok.kind hk hc hcell fin hcd) hd
theorem pe_int {i j pos} : PE X (.Constant (.int i) j pos) (tC (.int i)) := fun _ _ _ H _ I h => wpAny_Constant_int ⟨.int i, H, I.tok _, ⟨_, rfl⟩, h⟩
theorem pe_bl {b j pos} : PE X (.Constant (.bool b) j pos) (tC (.bl b)) := fun _ _ _ H _ I h => Constant_bool ⟨.bl b, H, I, rfl, h⟩
theorem pe_non {j pos} : PE X (.Constant .none j pos) (tC .non) := fun _ _ _ H _ I h => Constant_none ⟨.non, H, I, rfl, h⟩
theorem pe_str {x j pos} : PE X (.Constant (.str x) j pos) (tC (.str x)) := fun _ _ _ H _ I h => Calls.Constant_str ⟨.str x, H, I.tok _, ⟨_, rfl⟩, h⟩
def Gl (X : Cx) (x : Str) : Prop := X.env.kindOf x = some .globalImplicit
theorem ld_glob {E : Value -> Shared -> Prop} {pins : List (Addr × Obj)} {s : Shared} {σ : St} {H : Hp} {x : Str} {u : Value} {pos : Pos} {Q : Value -> Shared -> Prop} (I : Inv X pins σ H s) (hg : Gl X x) (hm : X.mg x = some u) (h : Q u s)
    (hd : (x == ("__debug__" : Str)) = false := by decide) : wpAny (model X.prog X.w) X.A (eval (.Name x pos) X.env) Q E s :=
  Calls.Name_function_global I.ok.kind hg (Calls.loadGlobal_global (by rw [I.ok.glob]; exact I.mod.glob.keeps I.bk) hm h) hd
theorem ld_blt {E : Value -> Shared -> Prop} {pins : List (Addr × Obj)} {s : Shared} {σ : St} {H : Hp} {x : Str} {u : Value} {pos : Pos} {Q : Value -> Shared -> Prop} (I : Inv X pins σ H s) (hg : Gl X x) (hm : X.mg x = none) (hv : bootBuiltins x = some u) (h : Q u s)
    (hn : x ≠ "__name__" := by decide) (hd : (x == ("__debug__" : Str)) = false := by decide) : wpAny (model X.prog X.w) X.A (eval (.Name x pos) X.env) Q E s := by
  obtain ⟨mb, h1, h2⟩ := I.mod.blt
  exact Calls.Name_function_global I.ok.kind hg (Calls.loadGlobal_builtin (by rw [I.ok.glob]; exact I.mod.glob.keeps I.bk) hm (by rw [I.ok.blt]; exact h1.keeps I.bk) ((h2 x hn).trans hv) h) hd
theorem pe_glob {x : Str} {v : V} {u : Value} {pos : Pos} (hg : Gl X x) (hm : X.mg x = some u) (r : RelV v u) (hd : (x == ("__debug__" : Str)) = false := by decide) : PE X (.Name x pos) (tC v) :=
  fun _ _ _ H _ I h => ld_glob I hg hm ⟨v, H, I, r, h⟩ hd
theorem pe_bltn {x : Str} {v : V} {u : Value} {pos : Pos} (hg : Gl X x) (hm : X.mg x = none) (hv : bootBuiltins x = some u) (r : RelV v u) (hn : x ≠ "__name__" := by decide) (hd : (x == ("__debug__" : Str)) = false := by decide) : PE X (.Name x pos) (tC v) :=
  fun _ _ _ H _ I h => ld_blt I hg hm hv ⟨v, H, I, r, h⟩ hn hd
variable {a b : Expr} {ta tb : TE} {pos : Pos}
def PC (X : Cx) (op : CmpOp) (a b : Expr) (t : TE) : Prop :=
  ∀ (pins : List (Addr × Obj)) (s : Shared) (σ : St) (H : Hp) (Q : VK), Inv X pins σ H s -> t σ H Q ->
    wpAny (model X.prog X.w) X.A (eval a X.env) (fun v s₁ => wpAny (model X.prog X.w) X.A (eval b X.env) (fun u s₂ => wpAny (model X.prog X.w) X.A (compareOp op v u) (EP X pins σ Q) X.xe s₂) X.xe s₁) X.xe s
theorem nobehind (b : Expr) {op : CmpOp} (h : op ≠ .In) (h2 : op ≠ .NotIn) : behindInMarks op b = false := by
  have e1 : (op == CmpOp.In) = false := by cases op <;> first | rfl | exact absurd rfl h
  have e2 : (op == CmpOp.NotIn) = false := by cases op <;> first | rfl | exact absurd rfl h2
  cases b <;> simp [behindInMarks, e1, e2]
def tB (t : TE) : TT := fun σ H Q => t σ H fun x H1 => ∃ c, x = .bl c /\ Q c H1
theorem pt_cmp {op : CmpOp} {t : TE} (h : PC X op a b t) (h1 : behindInMarks op b = false := by first | exact nobehind _ (by decide) (by decide) | rfl) : PT X (.Compare a [op] [b] pos) (tB t) := by
  intro pins s σ H Q I hw
  refine wpAny_isTrue_Compare1 (thn (h pins s σ H _ I hw) fun v s1 h1 => thn h1 fun u s2 h2 => thn h2 fun c s3 ⟨x, H1, I1, r1, q1⟩ => ?_) h1
  obtain ⟨d, rfl, q⟩ := q1
  cases r1
  exact wpAny_truthy_bool ⟨H1, I1, q⟩
theorem pt_val {e : Expr} {t : TE} (h : PE X e t) (he : ∀ whole, isTrue e X.env whole = (do let v <- whole; standAt e.pos; holding [v] (truthy v)) := by intro _; rfl) : PT X e (tB t) := by
  intro pins s σ H Q I hw
  refine isTrue_plain (thn (h pins s σ H _ I hw) fun v s1 ⟨x, H1, I1, r1, q1⟩ => ?_) (he _)
  obtain ⟨d, rfl, q⟩ := q1
  cases r1
  exact wpAny_truthy_bool ⟨H1, I1, q⟩
variable {tA tB' : TT} {rest : List Expr}
def tOr (t u : TT) : TT := fun σ H Q => t σ H fun c H1 => if c = true then Q true H1 else u σ H1 Q
def tNot (t : TT) : TT := fun σ H Q => t σ H fun c H1 => Q (!c) H1
theorem pw_or1 (ha : PT X a tA) : PW X (.BoolOp .Or [a] pos) tA := by
  intro wh pins s σ H Q I h
  refine isTrue_or (thn (ha pins s σ H Q I h) fun c s1 e => ?_)
  cases c with
  | false => exact isTrue_or_nil e
  | true => exact e
theorem pw_or (ha : PT X a tA) (hb : PW X (.BoolOp .Or (b :: rest) pos) tB') : PW X (.BoolOp .Or (a :: b :: rest) pos) (tOr tA tB') := by
  intro wh pins s σ H Q I h
  refine isTrue_or (thn (ha pins s σ H _ I h) fun c s1 ⟨H1, I1, q1⟩ => ?_)
  cases c with
  | true => exact ⟨H1, I1, q1⟩
  | false => exact hb wh pins s1 σ H1 Q I1 q1
theorem pt_not (ha : PT X a tA) : PT X (.UnaryOp .Not a pos) (tNot tA) := by
  intro pins s σ H Q I h
  exact isTrue_not (ha pins s σ H (fun c H1 => Q (!c) H1) I h)
def tAndV (ta tb : TE) : TE := fun σ H Q => ta σ H fun x H1 => ∃ c, x = .bl c /\ if c = true then tb σ H1 Q else Q (.bl false) H1
theorem pe_one {op} {t : TE} (h : PE X a t) : PE X (.BoolOp op [a] pos) t := fun pins s σ H Q I hw => BoolOp_one (h pins s σ H Q I hw)
theorem pe_and (ha : PE X a ta) (hb : PE X (.BoolOp .And (b :: rest) pos) tb) : PE X (.BoolOp .And (a :: b :: rest) pos) (tAndV ta tb) := by
  intro pins s σ H Q I h
  refine BoolOp_and (thn (ha pins s σ H _ I h) fun v s1 ⟨x, H1, I1, r1, q1⟩ => ?_)
  obtain ⟨c, rfl, q1⟩ := q1
  cases r1
  refine wpAny_truthy_bool ?_
  cases c with
  | true => exact hb pins s1 σ H1 Q I1 q1
  | false => exact ⟨.bl false, H1, I1, rfl, q1⟩
end
end L2
namespace L2
open PySem PySem.Spec PyProof.Rows
def SqL (K : PySem.W.Frag) (H : Hp) (a : Addr) (xs : List V) : Prop :=
  Rd H a (.lst xs) \/
    ∃ (o : Obj) (its : Array Value) (n : Nat), K.lookup a = some o /\ o.cls = .type "list" /\ o.dict = none /\ o.data = .seq its n /\ its.size <= sizeLine /\ Vals xs its.toList
def SqT (K : PySem.W.Frag) (H : Hp) (a : Addr) (xs : List V) : Prop :=
  Rd H a (.tup xs) \/
    ∃ (o : Obj) (its : Array Value) (n : Nat), K.lookup a = some o /\ o.cls = .type "tuple" /\ o.data = .seq its n /\ its.size <= sizeLine /\ Vals xs its.toList
def absV : Value -> Option V
  | .none => some .non
  | .bool b => some (.bl b)
  | .int i _ => some (.int i)
  | .str x _ => some (.str x)
  | .bytes b _ => some (.byt b)
  | .float b _ => some (.flt b)
  | .ref a => some (.ref a)
  | .type n => some (.ty n)
  | _ => none
theorem RelV.abs {x : V} {u : Value} (r : RelV x u) : absV u = some x := by
  cases x with
  | non => cases r; rfl
  | bl _ => cases r; rfl
  | int _ => obtain ⟨t, rfl⟩ := r; rfl
  | str _ => obtain ⟨t, rfl⟩ := r; rfl
  | byt _ => obtain ⟨t, rfl⟩ := r; rfl
  | flt _ => obtain ⟨t, rfl⟩ := r; rfl
  | ref _ => cases r; rfl
  | ty _ => cases r; rfl
theorem RelV.inj {x y : V} {u : Value} (r : RelV x u) (q : RelV y u) : x = y := Option.some.inj (r.abs.symm.trans q.abs)
theorem Vals.inj : ∀ {xs ys : List V} {us : List Value}, Vals xs us -> Vals ys us -> xs = ys
  | _, _, _, .nil, .nil => rfl
  | _, _, _, .cons r t, .cons r' t' => by rw [r.inj r', Vals.inj t t']
section
variable {X : Cx} {pins : List (Addr × Obj)} {σ : St} {H : Hp} {s : Shared} {a : Addr} {xs ys : List V}
theorem SqL.of {K : PySem.W.Frag} (h : H a = some (.lst xs)) : SqL K H a xs := .inl (.inl h)
theorem SqT.of {K : PySem.W.Frag} (h : H a = some (.tup xs)) : SqT K H a xs := .inl (.inl h)
theorem Inv.list (I : Inv X pins σ H s) (h : SqL X.K H a xs) : ∃ its : List Value, Vals xs its /\ PlainL s.heap a its.toArray /\ xs.length <= sizeLine := by
  rcases h with h | ⟨o, its, n, hk, hc, hd, hs, hz, r⟩
  . obtain ⟨z, its, n, r, e⟩ := h.ok I.hok
    exact ⟨its, r, ⟨_, n, e, rfl, rfl, rfl⟩, z⟩
  . refine ⟨its.toList, r, ⟨o, n, I.kIn a o hk, hc, hd, by simpa using hs⟩, ?_⟩
    have e := r.length
    simp only [Array.length_toList] at e
    omega
theorem Inv.tuple (I : Inv X pins σ H s) (h : SqT X.K H a xs) : ∃ its : List Value, Vals xs its /\ IsTup s.heap a its.toArray /\ xs.length <= sizeLine := by
  rcases h with h | ⟨o, its, n, hk, hc, hs, hz, r⟩
  . obtain ⟨z, its, r, p⟩ := h.ok I.hok
    exact ⟨its, r, p, z⟩
  . refine ⟨its.toList, r, ⟨o, I.kIn a o hk, hc, n, by simpa using hs⟩, ?_⟩
    have e := r.length
    simp only [Array.length_toList] at e
    omega
theorem Inv.list_inj (I : Inv X pins σ H s) (h : SqL X.K H a xs) (h' : SqL X.K H a ys) : xs = ys := by
  obtain ⟨its, r, ⟨o, n, e, _, _, d⟩, _⟩ := I.list h
  obtain ⟨its', r', ⟨o', n', e', _, _, d'⟩, _⟩ := I.list h'
  rw [e] at e'; cases e'
  rw [d] at d'
  injection d' with d1 _
  have : its = its' := by simpa using congrArg Array.toList d1
  subst this
  exact r.inj r'
theorem Inv.tuple_inj (I : Inv X pins σ H s) (h : SqT X.K H a xs) (h' : SqT X.K H a ys) : xs = ys := by
  obtain ⟨its, r, ⟨o, e, _, n, d⟩, _⟩ := I.tuple h
  obtain ⟨its', r', ⟨o', e', _, n', d'⟩, _⟩ := I.tuple h'
  rw [e] at e'; cases e'
  rw [d] at d'
  injection d' with d1 _
  have : its = its' := by simpa using congrArg Array.toList d1
  subst this
  exact r.inj r'
end
abbrev Cx.wish (X : Cx) (E : Value -> Shared -> Prop) : Cx := { X with xe := E }
abbrev Cx.nox (X : Cx) : Cx := X.wish fun _ _ => False
theorem Cx.Ok.wish {X : Cx} (ok : X.Ok) (E : Value -> Shared -> Prop) : (X.wish E).Ok :=
  ⟨ok.mod, ok.kind, ok.glob, ok.blt, ok.above, ok.inj, ok.has, ok.cab, ok.hd, ok.frames, ok.stk, ok.exf, ok.bs, ok.bsz, ok.noex, ok.exfs, ok.funs, ok.frf⟩
theorem Cx.Ok.unwish {X : Cx} {E : Value -> Shared -> Prop} (ok : (X.wish E).Ok) : X.Ok :=
  ⟨ok.mod, ok.kind, ok.glob, ok.blt, ok.above, ok.inj, ok.has, ok.cab, ok.hd, ok.frames, ok.stk, ok.exf, ok.bs, ok.bsz, ok.noex, ok.exfs, ok.funs, ok.frf⟩
section
variable {X : Cx} {pins : List (Addr × Obj)} {σ : St} {H : Hp} {s : Shared} {E : Value -> Shared -> Prop}
theorem Inv.wish (I : Inv X pins σ H s) (E : Value -> Shared -> Prop) : Inv (X.wish E) pins σ H s := ⟨I.ok.wish E, I.os, I.bare, I.base, I.loc, I.cell, I.free, I.freeC, I.pin, I.hok, I.len⟩
theorem Inv.unwish (I : Inv (X.wish E) pins σ H s) : Inv X pins σ H s := ⟨I.ok.unwish, I.os, I.bare, I.base, I.loc, I.cell, I.free, I.freeC, I.pin, I.hok, I.len⟩
theorem SP.unwish {D : Ends} {f : Flow} {s' : Shared} (h : SP (X.wish E) pins D f s') : SP X pins D f s' := by
  cases f with
  | next => obtain ⟨σ', H', I, q⟩ := h; exact ⟨σ', H', I.unwish, q⟩
  | brk => obtain ⟨σ', H', I, q⟩ := h; exact ⟨σ', H', I.unwish, q⟩
  | cont => obtain ⟨σ', H', I, q⟩ := h; exact ⟨σ', H', I.unwish, q⟩
  | ret u => obtain ⟨v, σ', H', I, r, q⟩ := h; exact ⟨v, σ', H', I.unwish, r, q⟩
theorem PSs.nox {st : List Stmt} {t : TS} (h : PSs X.nox st t) : PSs X st t := fun pins s σ H D I hw =>
  wpAny_mono (h pins s σ H D (I.wish _) hw) (fun _ _ q => q.unwish) fun _ _ z => False.elim z
end
section
variable {X : Cx} {st : Stmt} {rest : List Stmt} {t u : TS} {e : Expr} {te : TE} {pos : Pos}
def tNext : TS := fun D σ H => D.nx σ H
def tSeq (t u : TS) : TS := fun D σ H => t { D with nx := u D } σ H
theorem pss_nil : PSs X [] tNext := fun _ _ σ H _ I h => wpAny_execs_nil ⟨σ, H, I, h⟩
theorem pss_cons (h1 : PS X st t) (h2 : PSs X rest u) : PSs X (st :: rest) (tSeq t u) := by
  intro pins s σ H D I h
  refine wpAny_execs_cons (thn (h1 pins s σ H { D with nx := u D } I h) fun f s1 q => ?_)
  cases f with
  | next =>
    obtain ⟨σ', H', I', q⟩ := q
    exact h2 pins s1 σ' H' D I' q
  | ret v => exact q
  | brk => exact q
  | cont => exact q
theorem pss_one (h1 : PS X st t) : PSs X [st] t := by
  intro pins s σ H D I h
  refine wpAny_execs_cons (thn (h1 pins s σ H D I h) fun f s1 q => ?_)
  cases f with
  | next => exact wpAny_execs_nil q
  | ret v => exact q
  | brk => exact q
  | cont => exact q
theorem Inv.quiet {pins : List (Addr × Obj)} {σ : St} {H : Hp} {s : Shared} (I : Inv X pins σ H s) : interactive X.env = false := by simp [interactive, I.ok.kind]
def tDrop (te : TE) : TS := fun D σ H => te σ H fun _ H1 => D.nx σ H1
theorem ps_expr (he : PE X e te) (hs : swapsWith e none pos.line X.env = pure false := by rfl) : PS X (.Expr e pos) (tDrop te) := by
  intro pins s σ H D I h
  exact wpAny_Expr_any (thn (he pins s σ H _ I h) fun v s1 ⟨x, H1, I1, r1, q1⟩ => ⟨σ, H1, I1, q1⟩) I.quiet hs
def tRet (te : TE) : TS := fun D σ H => te σ H D.rt
theorem ps_ret (he : PE X e te) : PS X (.Return (some e) pos) (tRet te) := by
  intro pins s σ H D I h
  exact wpAny_Return_some (thn (he pins s σ H _ I h) fun v s1 ⟨x, H1, I1, r1, q1⟩ => ⟨x, σ, H1, I1, r1, q1⟩)
def tIfS (c : TT) (t u : TS) : TS := fun D σ H => c σ H fun b H1 => if b = true then t D σ H1 else u D σ H1
theorem ps_if {c : Expr} {a b : List Stmt} {tc : TT} (hc : PT X c tc) (ha : PSs X a t) (hb : PSs X b u) : PS X (.If c a b pos) (tIfS tc t u) := by
  intro pins s σ H D I h
  refine wpAny_If (thn (hc pins s σ H _ I h) fun d s1 ⟨H1, I1, q1⟩ => ?_)
  cases d with
  | true => exact ha pins s1 σ H1 D I1 q1
  | false => exact hb pins s1 σ H1 D I1 q1
def tNever : TS := fun _ _ _ => False
theorem ps_never : PS X st tNever := fun _ _ _ _ _ _ h => h.elim
end
abbrev TG := V -> St -> Hp -> (St -> Hp -> Prop) -> Prop
abbrev TGs := List V -> St -> Hp -> (St -> Hp -> Prop) -> Prop
def PG (X : Cx) (target : Expr) (t : TG) : Prop :=
  ∀ (pins : List (Addr × Obj)) (s : Shared) (σ : St) (H : Hp) (v : V) (u : Value) (Q : St -> Hp -> Prop), Inv X pins σ H s -> RelV v u -> t v σ H Q ->
    wpAny (model X.prog X.w) X.A (assign target X.env u) (fun _ s' => ∃ σ' H', Inv X pins σ' H' s' /\ Q σ' H') X.xe s
def PGs (X : Cx) (ts : List Expr) (t : TGs) : Prop :=
  ∀ (pins : List (Addr × Obj)) (s : Shared) (σ : St) (H : Hp) (vs : List V) (us : List Value) (Q : St -> Hp -> Prop), Inv X pins σ H s -> Vals vs us -> t vs σ H Q ->
    wpAny (model X.prog X.w) X.A (assignInOrder ((assignEach ts X.env).map (·.2)) us) (fun _ s' => ∃ σ' H', Inv X pins σ' H' s' /\ Q σ' H') X.xe s
section
variable {X : Cx} {pos : Pos}
def gName (i : Nat) : TG := fun v σ H Q => Q (σ.set i (some v)) H
theorem pg_name {i : Nat} {x : Str} (hN : X.N.Nodup) (hi : X.N[i]? = some x) (hx : Loc X.env.scope x) (hf : X.fn x = true \/ X.env.scope.names.lookup x = some .local := by first | exact .inl rfl | exact .inr rfl | assumption) : PG X (.Name x pos) (gName i) := by
  intro pins s σ H v u Q I r h
  exact wpAny_assign_Name (store_ok I hN hi hx r (fun s' I' => ⟨_, H, I', h⟩) hf)
def gNil : TGs := fun vs σ H Q => vs = [] /\ Q σ H
def gCons (t : TG) (u : TGs) : TGs := fun vs σ H Q => ∃ v r, vs = v :: r /\ t v σ H fun σ' H' => u r σ' H' Q
theorem pgs_nil : PGs X [] gNil := by
  intro pins s σ H vs us Q I r h
  obtain ⟨e, h⟩ := h
  subst e
  cases r
  exact assignInOrder_nil ⟨σ, H, I, h⟩
theorem pgs_cons {e : Expr} {es : List Expr} {t : TG} {u : TGs} (h1 : PG X e t) (h2 : PGs X es u)
    (hs : (assignEach (e :: es) X.env).map (·.2) = assign e X.env :: (assignEach es X.env).map (·.2) := by rfl) : PGs X (e :: es) (gCons t u) := by
  intro pins s σ H vs us Q I r h
  obtain ⟨v, vr, e1, h⟩ := h
  subst e1
  cases r with
  | cons r rr =>
    rw [hs]
    refine assignInOrder_cons (thn (h1 pins s σ H _ _ _ I r h) fun _ s1 ⟨σ1, H1, I1, q1⟩ => ?_)
    exact h2 pins s1 σ1 H1 _ _ Q I1 rr q1
def gTup (K : PySem.W.Frag) (n : Nat) (t : TGs) : TG := fun v σ H Q => ∃ a xs, v = .ref a /\ SqT K H a xs /\ xs.length = n /\ t xs σ H Q
theorem pg_tup {es : List Expr} {k : Nat} {t : TGs} {n : Nat} (hc : X.calm = true) (h : PGs X es t)
    (hn : (assignEach es X.env).length = n := by rfl) (hst : (assignEach es X.env).findIdx? (·.1) = none := by rfl) : PG X (.Tuple es k pos) (gTup X.K n t) := by
  intro pins s σ H v u Q I r hw
  obtain ⟨a, xs, e1, hq, hl, hw⟩ := hw
  subst e1
  cases r
  obtain ⟨its, rv, ht, hz⟩ := I.tuple hq
  refine assign_Tuple_tuple (I.ok.hd hc) ht (by simp [hn, <- hl, rv.length]) hst fun h' hx => ?_
  have I1 : Inv X pins σ H { s with heap := h' } := I.kept (t' := s.toks) fun b o e => hx b o (Nat.ne_of_lt (Heap.lt_size e)) e
  exact h pins _ σ H xs _ Q I1 (by simpa using rv) hw
def tAsg (te : TE) (g : TG) : TS := fun D σ H => te σ H fun x H1 => g x σ H1 D.nx
theorem ps_set {i : Nat} {x : Str} {e : Expr} {te : TE} {pos' : Pos} (hN : X.N.Nodup) (hi : X.N[i]? = some x) (hx : Loc X.env.scope x) (he : PE X e te) (hs : swapsWith e (some (.Name x pos')) pos.line X.env = pure false := by rfl) (hf : X.fn x = true \/ X.env.scope.names.lookup x = some .local := by first | exact .inl rfl | exact .inr rfl | assumption) :
    PS X (.Assign [.Name x pos'] e pos) (tAsg te (gName i)) := by
  intro pins s σ H D I h
  refine wpAny_Assign_Name (thn (he pins s σ H _ I h) fun v s1 ⟨y, H1, I1, r1, q1⟩ => ?_) hs
  exact store_ok I1 hN hi hx r1 (fun s2 I2 => ⟨_, H1, I2, q1⟩) hf
end
section
variable {X : Cx} {pos : Pos}
end
structure It where
  go : Nat -> Hp -> Prop
  yld : Nat -> Hp -> V -> Hp -> Prop
  stop : Nat -> Hp -> Prop
def FpOk (X : Cx) (pins : List (Addr × Obj)) (H : Hp) (b : Addr) : Prop :=
  H b = none /\ b ≠ X.env.locals /\ b ∉ X.fs /\ (b ∈ X.ex \/ X.s₀.heap.objs.size <= b) /\ (∀ x c, X.env.cells.lookup x = some c -> c ≠ b) /\ ∀ p ∈ X.pn ++ pins, p.1 ≠ b
theorem Inv.fpOk {X : Cx} {pins : List (Addr × Obj)} {σ : St} {H H' : Hp} {s : Shared} {b : Addr} (I : Inv X pins σ H s) (hb : s.heap.objs.size <= b) (hn : H' b = none) : FpOk X pins H' b := by
  refine ⟨hn, Nat.ne_of_gt (Nat.lt_of_lt_of_le I.lt hb), I.nofs hb, .inr (Nat.le_trans I.sz hb), fun x c e z => ?_, fun p hp z => ?_⟩
  . obtain ⟨v, q⟩ := I.cell x c e
    exact absurd (Nat.lt_of_lt_of_le q.lt (by rw [z]; exact hb)) (Nat.lt_irrefl _)
  . exact absurd (Nat.lt_of_lt_of_le (Heap.lt_size (I.pin p hp).1) (by rw [z]; exact hb)) (Nat.lt_irrefl _)
structure Turn (P : Program) (w : World) (K : PySem.W.Frag) (tg : Expr) (J : It) (fp : List Addr) (it : Addr) (tn : Nat -> Heap -> Prop) : Prop where
  mem : it ∈ fp
  obj : ∀ i h, tn i h -> ∀ b ∈ fp, ∃ o, h.get? b = some o /\ ∀ v, o.data ≠ .cell v
  keep : ∀ i h h', tn i h -> (∀ b ∈ fp, ∀ o, h.get? b = some o -> h'.get? b = some o) -> tn i h'
  item : ∀ (X : Cx), X.prog = P -> X.w = w -> X.K = K -> X.calm = true -> ∀ (i : Nat) (pins : List (Addr × Obj)) (s : Shared) (σ : St) (H : Hp) (E : Value -> Shared -> Prop), Inv X pins σ H s -> (∀ b ∈ fp, FpOk X pins H b) -> tn i s.heap -> J.go i H ->
    wpAny (model P w) X.A (pyNext (.ref it)) (fun r s1 => ∃ u, r = some u /\
      wpAny (model P w) X.A (letOwnedTupleGo tg (.ref it) u) (fun _ s2 => ∃ x H', Inv X pins σ H' s2 /\ RelV x u /\ J.yld i H x H' /\ tn (i + 1) s2.heap /\ ∀ b ∈ fp, H' b = none) E s1) E s
  done : ∀ (X : Cx), X.prog = P -> X.w = w -> X.K = K -> X.calm = true -> ∀ (i : Nat) (pins : List (Addr × Obj)) (s : Shared) (σ : St) (H : Hp) (E : Value -> Shared -> Prop), Inv X pins σ H s -> (∀ b ∈ fp, FpOk X pins H b) -> tn i s.heap -> J.stop i H ->
    wpAny (model P w) X.A (pyNext (.ref it)) (fun r s1 => r = none /\ Inv X pins σ H s1) E s
  self : ∀ (A : Around) (i : Nat) (s : Shared) (Q : Value -> Shared -> Prop) (E : Value -> Shared -> Prop), tn i s.heap -> Q (.ref it) s -> wpAny (model P w) A (pyIter (.ref it)) Q E s
abbrev TI := St -> Hp -> (It -> Hp -> Prop) -> Prop
def PIE (X : Cx) (pins : List (Addr × Obj)) (σ : St) (tg : Expr) (R : It -> Hp -> Prop) (itv : Value) (s2 : Shared) : Prop :=
  ∃ (it : Addr) (fp : List Addr) (tn : Nat -> Heap -> Prop) (J : It) (H' : Hp), itv = .ref it /\ Inv X pins σ H' s2 /\ Turn X.prog X.w X.K tg J fp it tn /\ tn 0 s2.heap /\ (∀ b ∈ fp, FpOk X pins H' b) /\ R J H'
def PI (X : Cx) (tg iter : Expr) (wi : TI) : Prop :=
  ∀ (pins : List (Addr × Obj)) (s : Shared) (σ : St) (H : Hp) (R : It -> Hp -> Prop), Inv X pins σ H s -> wi σ H R ->
    wpAny (model X.prog X.w) X.A (eval iter X.env) (fun v s1 => wpAny (model X.prog X.w) X.A (pyIter v) (PIE X pins σ tg R) X.xe s1) X.xe s
theorem go_of {M : Model} {A : Around} {E : Value -> Shared -> Prop} {s : Shared} {tg : Expr} {it : Addr} {u : Value} {o : Obj} {n : String} {vs : Array Value} {Q : Unit -> Shared -> Prop} (ho : s.heap.get? it = some o) (hc : o.cls = .type n) (hd : o.data = .fields vs)
    (hn : ["enumerate", "zip", "dict_itemiterator", "dict_reverseitemiterator", "odict_iterator", "itertools.zip_longest", "itertools.pairwise"].contains n = false) (hQ : Q () s) : wpAny M A (letOwnedTupleGo tg (.ref it) u) Q E s := by
  unfold letOwnedTupleGo
  cases tg <;> first
    | exact wpAny_pure hQ
    | (cases u <;> first
        | exact wpAny_pure hQ
        | (refine wpAny_bind (wpAny_load ho ?_)
           rw [hc, hd]
           show wpAny M A (if (["enumerate", "zip", "dict_itemiterator", "dict_reverseitemiterator", "odict_iterator", "itertools.zip_longest", "itertools.pairwise"].contains n && vs[0]? == some (rawInt _)) = true then _ else _) Q E s
           rw [if_neg (by intro h; rw [hn, Bool.false_and] at h; cases h)]
           exact wpAny_pure hQ))
def Itl (K : PySem.W.Frag) (a : Addr) : It :=
  ⟨fun i H => ∃ xs x, SqL K H a xs /\ xs[i]? = some x, fun i H x H' => H' = H /\ ∀ xs, SqL K H a xs -> xs[i]? = some x, fun i H => ∃ xs, SqL K H a xs /\ xs.length <= i⟩
def Itt (K : PySem.W.Frag) (a : Addr) : It :=
  ⟨fun i H => ∃ xs x, SqT K H a xs /\ xs[i]? = some x, fun i H x H' => H' = H /\ ∀ xs, SqT K H a xs -> xs[i]? = some x, fun i H => ∃ xs, SqT K H a xs /\ xs.length <= i⟩
def Itr (lo : Int) (n : Nat) : It := ⟨fun i _ => i < n, fun i H x H' => H' = H /\ x = .int (lo + i), fun i _ => n <= i⟩
theorem turn_list {P : Program} {w : World} {K : PySem.W.Frag} {tg : Expr} (a it : Addr) : Turn P w K tg (Itl K a) [it] it (fun i h => h.IsListIter it a i) where
  mem := by simp
  obj := fun i h st b hb => by
    have e : b = it := by simpa using hb
    subst e
    obtain ⟨o, e, c, d⟩ := st
    exact ⟨o, e, fun v z => by rw [d] at z; cases z⟩
  keep := fun i h h' st k => st.at fun o e => k it (by simp) o e
  item := by
    intro X hP hw hK hc i pins s σ H E I hf st hg
    subst hP hw hK
    obtain ⟨xs, x, hq, hx⟩ := hg
    obtain ⟨its, rv, p, hz⟩ := I.list hq
    obtain ⟨u, hu, ru⟩ := rv.get hx
    obtain ⟨f0, f1, f2, f3, f4, f5⟩ := hf it (by simp)
    refine wpAny_pyNext_list_item st p.isList (x := u) (by simpa using hu) fun h' st' sb => ?_
    have I1 : Inv X pins σ H { s with heap := h' } := I.turned (t' := s.toks) (fun b o hb e => (sb.2 b hb).trans e) f0 f1 f3 f4 f5
    obtain ⟨o, e, c, d⟩ := id st'
    exact ⟨u, rfl, go_of (s := { s with heap := h' }) e c d (by decide) ⟨x, H, I1, ru, ⟨rfl, fun ys hy => by rw [I.list_inj hy hq]; exact hx⟩, st', fun b hb => (hf b hb).1⟩⟩
  done := by
    intro X hP hw hK hc i pins s σ H E I hf st hg
    subst hP hw hK
    obtain ⟨xs, hq, hx⟩ := hg
    obtain ⟨its, rv, p, hz⟩ := I.list hq
    obtain ⟨f0, f1, f2, f3, f4, f5⟩ := hf it (by simp)
    have hl := rv.length
    exact wpAny_pyNext_list_end (I.ok.hd hc) st p.isList (by simp; omega) fun h' eb => ⟨rfl, I.turned (t' := s.toks) (fun b o hb e => eb b o hb e) f0 f1 f3 f4 f5⟩
  self := fun _ _ _ _ _ st h => wpAny_pyIter_listiter st h
theorem turn_tuple {P : Program} {w : World} {K : PySem.W.Frag} {tg : Expr} (a it : Addr) : Turn P w K tg (Itt K a) [it] it (fun i h => h.IsTupleIter it a i) where
  mem := by simp
  obj := fun i h st b hb => by
    have e : b = it := by simpa using hb
    subst e
    obtain ⟨o, e, c, d⟩ := st
    exact ⟨o, e, fun v z => by rw [d] at z; cases z⟩
  keep := fun i h h' st k => st.at fun o e => k it (by simp) o e
  item := by
    intro X hP hw hK hc i pins s σ H E I hf st hg
    subst hP hw hK
    obtain ⟨xs, x, hq, hx⟩ := hg
    obtain ⟨its, rv, p, hz⟩ := I.tuple hq
    obtain ⟨u, hu, ru⟩ := rv.get hx
    obtain ⟨f0, f1, f2, f3, f4, f5⟩ := hf it (by simp)
    refine wpAny_pyNext_tuple_item st (show s.heap.IsTuple a its.toArray from p) (x := u) (by simpa using hu) fun h' st' sb => ?_
    have I1 : Inv X pins σ H { s with heap := h' } := I.turned (t' := s.toks) (fun b o hb e => (sb.2 b hb).trans e) f0 f1 f3 f4 f5
    obtain ⟨o, e, c, d⟩ := id st'
    exact ⟨u, rfl, go_of (s := { s with heap := h' }) e c d (by decide) ⟨x, H, I1, ru, ⟨rfl, fun ys hy => by rw [I.tuple_inj hy hq]; exact hx⟩, st', fun b hb => (hf b hb).1⟩⟩
  done := by
    intro X hP hw hK hc i pins s σ H E I hf st hg
    subst hP hw hK
    obtain ⟨xs, hq, hx⟩ := hg
    obtain ⟨its, rv, p, hz⟩ := I.tuple hq
    obtain ⟨f0, f1, f2, f3, f4, f5⟩ := hf it (by simp)
    have hl := rv.length
    exact wpAny_pyNext_tuple_end (I.ok.hd hc) st (show s.heap.IsTuple a its.toArray from p) (by simp; omega) fun h' eb => ⟨rfl, I.turned (t' := s.toks) (fun b o hb e => eb b o hb e) f0 f1 f3 f4 f5⟩
  self := fun _ _ _ _ _ st h => wpAny_pyIter_tupleiter st h
theorem turn_range {P : Program} {w : World} {K : PySem.W.Frag} {tg : Expr} (it : Addr) (lo : Int) (n : Nat) : Turn P w K tg (Itr lo n) [it] it (fun i h => IsRangeIter h it (lo + (i : Nat) * 1) ((n : Int) - (i : Nat)) 1) where
  mem := by simp
  obj := fun i h st b hb => by
    have e : b = it := by simpa using hb
    subst e
    exact ⟨_, st, fun v z => by
      have z' : Data.fields _ = Data.cell v := z
      cases z'⟩
  keep := fun i h h' st k => k it (by simp) _ st
  item := by
    intro X hP hw hK hc i pins s σ H E I hf st hg
    subst hP hw hK
    obtain ⟨f0, f1, f2, f3, f4, f5⟩ := hf it (by simp)
    have W := Walks.range (prog := X.prog) (w := X.w) (I.ok.hd hc) it lo 1 n
    refine W.item i s _ _ hg st fun v h' tk hv st' kk => ?_
    obtain ⟨t, rfl⟩ := hv
    have I1 : Inv X pins σ H { s with heap := h', toks := tk } := I.turned (fun b o hb e => kk b o (by simpa using hb) e) f0 f1 f3 f4 f5
    refine ⟨_, rfl, go_of (s := { s with heap := h', toks := tk }) (n := "range_iterator") st' rfl rfl (by decide) ⟨.int (lo + i), H, I1, ⟨t, ?_⟩, ⟨rfl, rfl⟩, st', fun b hb => (hf b hb).1⟩⟩
    rw [Int.mul_one]
  done := by
    intro X hP hw hK hc i pins s σ H E I hf st hg
    subst hP hw hK
    obtain ⟨f0, f1, f2, f3, f4, f5⟩ := hf it (by simp)
    exact wpAny_pyNext_range_end (I.ok.hd hc) st (by have : n <= i := hg; omega) fun h' eb => ⟨rfl, I.turned (t' := s.toks) (fun b o hb e => eb b o hb e) f0 f1 f3 f4 f5⟩
  self := fun _ _ _ _ _ st h => wpAny_pyIter_rangeiter st h
end L2
namespace L2
open PySem PySem.Spec PyProof.Rows
section
variable {X : Cx} {tg : Expr}
def iList (K : PySem.W.Frag) (tl : TE) : TI := fun σ H R => tl σ H fun x H1 => ∃ a, x = .ref a /\ (∃ xs, SqL K H1 a xs) /\ R (Itl K a) H1
def iTup (K : PySem.W.Frag) (tl : TE) : TI := fun σ H R => tl σ H fun x H1 => ∃ a, x = .ref a /\ (∃ xs, SqT K H1 a xs) /\ R (Itt K a) H1
theorem pi_list {l : Expr} {tl : TE} (hl : PE X l tl) : PI X tg l (iList X.K tl) := by
  intro pins s σ H R I h
  refine thn (hl pins s σ H _ I h) fun v s1 ⟨x, H1, I1, r1, q1⟩ => ?_
  obtain ⟨a, e, ⟨xs, hq⟩, q⟩ := q1
  subst e
  cases r1
  obtain ⟨its, rv, p, hz⟩ := I1.list hq
  refine wpAny_pyIter_list p.isList ?_
  refine ⟨s1.heap.objs.size, [s1.heap.objs.size], _, _, H1, rfl, I1.kept (t' := s1.toks) fun b o e => Heap.get?_push_of_some _ e, turn_list a _, ⟨_, Heap.get?_push_size _ rfl, rfl, rfl⟩, fun b hb => ?_, q⟩
  have e : b = s1.heap.objs.size := by simpa using hb
  subst e
  exact I1.fpOk (Nat.le_refl _) (I1.hok.fresh (Nat.le_refl _))
theorem pi_tup {l : Expr} {tl : TE} (hl : PE X l tl) : PI X tg l (iTup X.K tl) := by
  intro pins s σ H R I h
  refine thn (hl pins s σ H _ I h) fun v s1 ⟨x, H1, I1, r1, q1⟩ => ?_
  obtain ⟨a, e, ⟨xs, hq⟩, q⟩ := q1
  subst e
  cases r1
  obtain ⟨its, rv, p, hz⟩ := I1.tuple hq
  refine wpAny_pyIter_tuple (show s1.heap.IsTuple a its.toArray from p) ?_
  refine ⟨s1.heap.objs.size, [s1.heap.objs.size], _, _, H1, rfl, I1.kept (t' := s1.toks) fun b o e => Heap.get?_push_of_some _ e, turn_tuple a _, ⟨_, Heap.get?_push_size _ rfl, rfl, rfl⟩, fun b hb => ?_, q⟩
  have e : b = s1.heap.objs.size := by simpa using hb
  subst e
  exact I1.fpOk (Nat.le_refl _) (I1.hok.fresh (Nat.le_refl _))
theorem range_it {pins : List (Addr × Obj)} {σ : St} {H : Hp} {s : Shared} {R : It -> Hp -> Prop} {E : Value -> Shared -> Prop} {lo hi : Int} {t u v : Tok} {tk : Nat} (I : Inv X pins σ H s) (h1 : -(2 ^ 62) <= lo) (h2 : lo < 2 ^ 62) (h3 : -(2 ^ 62) <= hi) (h4 : hi < 2 ^ 62)
    (q : R (Itr lo (hi - lo).toNat) H) : wpAny (model X.prog X.w) X.A (pyIter (.ref s.heap.objs.size)) (PIE X pins σ tg R) E { s with heap := s.heap.push { cls := .type "range", data := .fields #[.int lo t, .int hi u, .int 1 v] }, toks := tk } := by
  refine wpAny_pyIter_range (IsRange.new ..) (small_one h1 h2 h3 h4) ?_
  have I1 : Inv X pins σ H { s with heap := s.heap.push { cls := .type "range", data := .fields #[.int lo t, .int hi u, .int 1 v] }, toks := tk } := I.kept fun b o e => Heap.get?_push_of_some _ e
  refine ⟨(s.heap.push { cls := .type "range", data := .fields #[.int lo t, .int hi u, .int 1 v] }).objs.size, [(s.heap.push { cls := .type "range", data := .fields #[.int lo t, .int hi u, .int 1 v] }).objs.size], _, _, H, rfl,
    I1.kept (t' := tk) fun b o e => Heap.get?_push_of_some _ e, turn_range _ lo (hi - lo).toNat, ?_, fun b hb => ?_, q⟩
  . have e1 : lo + ((0 : Nat) : Int) * 1 = lo := by simp
    have e2 : (((hi - lo).toNat : Nat) : Int) - ((0 : Nat) : Int) = Builtin.Range.rangeSize lo hi 1 := by rw [rangeSize_one]; split <;> omega
    show IsRangeIter _ _ (lo + ((0 : Nat) : Int) * 1) ((((hi - lo).toNat : Nat) : Int) - ((0 : Nat) : Int)) 1
    rw [e1, e2]
    exact Heap.get?_push_size _ rfl
  . have e : b = (s.heap.push { cls := .type "range", data := .fields #[.int lo t, .int hi u, .int 1 v] }).objs.size := by simpa using hb
    subst e
    exact I1.fpOk (Nat.le_refl _) (I1.hok.fresh (Nat.le_refl _))
def iRng1 (ta : TA) : TI := fun σ H R => ta σ H fun vs H1 => ∃ j : Int, vs = [.int j] /\ -(2 ^ 62) <= j /\ j < 2 ^ 62 /\ R (Itr 0 j.toNat) H1
theorem pi_range1 {a : Expr} {ta : TA} {p pos : Pos} (hg : Gl X "range") (hm : X.mg "range" = none) (ha : PA X [a] ta) (hs : starEach [a] X.env = [(false, eval a X.env)] := by rfl) : PI X tg (.Call (.Name "range" p) [a] [] pos) (iRng1 ta) := by
  intro pins s σ H R I h
  refine Call_ (ld_blt I hg hm boot_range (PyProof.Rows.callWith_type1 (thn (ha pos pins s σ H _ I h) fun us s1 ⟨vs, H1, I1, r1, q1⟩ => ?_) hs rfl))
  obtain ⟨j, e, q1, q2, q⟩ := q1
  subst e
  cases r1 with
  | cons r rr =>
    cases rr
    obtain ⟨t, rfl⟩ := r
    exact call_range_1 (range_it I1 (by omega) (by omega) q1 q2 (by simpa using q))
def tFor (wi : TI) (g : TG) (tb : TS) : TS := fun D σ H => wi σ H fun J H1 => ∃ W : Nat -> Nat -> St -> Hp -> Prop, (∃ m, W 0 m σ H1) /\ ∀ i m σ H, W i m σ H ->
  (J.stop i H /\ D.nx σ H) \/ (J.go i H /\ ∃ N : St -> Hp -> Prop, (∀ σ' H', N σ' H' -> ∃ m', m' < m /\ W (i + 1) m' σ' H') /\ ∀ x H', J.yld i H x H' -> g x σ H' fun σ2 H2 => tb { D with nx := N, ct := N, bk := D.nx } σ2 H2)
def pinsAt (fp : List Addr) (h : Heap) : List (Addr × Obj) := fp.filterMap fun b => (h.get? b).map fun o => (b, o)
theorem mem_pinsAt {fp : List Addr} {h : Heap} {b : Addr} {o : Obj} (hb : b ∈ fp) (e : h.get? b = some o) : (b, o) ∈ pinsAt fp h := List.mem_filterMap.mpr ⟨b, hb, by rw [e]; rfl⟩
theorem of_pinsAt {fp : List Addr} {h : Heap} {p : Addr × Obj} (hp : p ∈ pinsAt fp h) : p.1 ∈ fp /\ h.get? p.1 = some p.2 := by
  obtain ⟨b, hb, e⟩ := List.mem_filterMap.mp hp
  cases q : h.get? b with
  | none => rw [q] at e; cases e
  | some o =>
    rw [q] at e
    have e' : (b, o) = p := Option.some.inj e
    subst e'
    exact ⟨hb, q⟩
theorem Inv.pinned {pins : List (Addr × Obj)} {σ : St} {H : Hp} {s : Shared} {fp : List Addr} (I : Inv X pins σ H s) (hf : ∀ b ∈ fp, FpOk X pins H b) (ho : ∀ b ∈ fp, ∃ o, s.heap.get? b = some o /\ ∀ v, o.data ≠ .cell v) : Inv X (pins ++ pinsAt fp s.heap) σ H s :=
  I.pins_of fun p hp => (List.mem_append.mp hp).elim (fun z => I.pin p (List.mem_append_right _ z)) fun z => by
    obtain ⟨hb, e⟩ := of_pinsAt z
    obtain ⟨f0, f1, f2, _⟩ := hf p.1 hb
    obtain ⟨o, e', d⟩ := ho p.1 hb
    rw [e] at e'; cases e'
    exact ⟨e, f0, f1, f2, d⟩
theorem Inv.unpinned {pins pl : List (Addr × Obj)} {σ : St} {H : Hp} {s : Shared} (I : Inv X (pins ++ pl) σ H s) : Inv X pins σ H s := I.pins_of fun p hp => I.pin p (List.mem_append_right _ (List.mem_append_left _ hp))
theorem ps_for {iter : Expr} {body : List Stmt} {wi : TI} {g : TG} {tb : TS} {pos : Pos} (hp : PassesOwn (model X.prog X.w) X.A X.env X.xe) (hc : X.calm = true) (hi : PI X tg iter wi) (hg : PG X tg g) (hb : PSs X body tb)
    (hs : ∀ x, foldedSetIterable iter X.env x = pure x := by intro _; rfl) : PS X (.For tg iter body [] pos) (tFor wi g tb) := by
  intro pins s σ H D I h
  refine wpAny_For (thn (hi pins s σ H _ I h) fun v s1 h1 => thn h1 fun itv s2 h2 => ?_) hs
  obtain ⟨it, fp, tn, J, H2, e, I2, T, st2, f2, W, ⟨m0, w0⟩, turn⟩ := h2
  subst e
  -- what stays true of the iterator's objects through the loop
  have stat : ∀ {H' : Hp}, (∀ b ∈ fp, H' b = none) -> ∀ b ∈ fp, FpOk X pins H' b := fun hn b hb => ⟨hn b hb, (f2 b hb).2⟩
  refine codeAny_forLoop_any (fun n s' => ∃ i σ' H', Inv X pins σ' H' s' /\ tn i s'.heap /\ (∀ b ∈ fp, H' b = none) /\ W i n σ' H') ?_ m0 ⟨0, σ, H2, I2, st2, fun b hb => (f2 b hb).1, w0⟩
  rintro n s3 ⟨i, σ3, H3, I3, st3, fr3, w3⟩
  rcases turn i n σ3 H3 w3 with ⟨stop, qn⟩ | ⟨go, N, hN, step⟩
  . refine wpAny_passesOwn hp (thn (T.done X rfl rfl rfl hc i pins s3 σ3 H3 X.xe I3 (stat fr3) st3 stop) fun r s4 ⟨hr, I4⟩ => ?_)
    subst hr
    exact wpAny_execs_nil ⟨σ3, H3, I4, qn⟩
  . refine wpAny_passesOwn hp (thn (T.item X rfl rfl rfl hc i pins s3 σ3 H3 X.xe I3 (stat fr3) st3 go) fun r s4 ⟨u, hr, h4⟩ => ?_)
    subst hr
    refine wpAny_passesOwn hp (thn h4 fun _ s5 ⟨x, H5, I5, r5, y5, st5, fr5⟩ => ?_)
    have I5' := I5.pinned (stat fr5) (T.obj _ _ st5)
    refine wpAny_passesOwn hp (thn (hg _ s5 σ3 H5 x u _ I5' r5 (step x H5 y5)) fun _ s6 ⟨σ6, H6, I6, q6⟩ => ?_)
    refine wpAny_passesOwn hp (thn (hb _ s6 σ6 H6 _ I6 q6) fun f s7 q7 => ?_)
    have again : ∀ {σ7 : St} {H7 : Hp}, Inv X (pins ++ pinsAt fp s5.heap) σ7 H7 s7 -> N σ7 H7 -> ∃ m, m < n /\ ∃ i σ' H', Inv X pins σ' H' s7 /\ tn i s7.heap /\ (∀ b ∈ fp, H' b = none) /\ W i m σ' H' := fun {σ7 H7} I7 n7 => by
      obtain ⟨m', hm, w7⟩ := hN σ7 H7 n7
      refine ⟨m', hm, i + 1, σ7, H7, I7.unpinned, T.keep _ _ _ st5 fun b hb o e => (I7.pin (b, o) (List.mem_append_right _ (List.mem_append_right _ (mem_pinsAt hb e)))).1, fun b hb => ?_, w7⟩
      obtain ⟨o, e, d⟩ := T.obj _ _ st5 b hb
      exact (I7.pin (b, o) (List.mem_append_right _ (List.mem_append_right _ (mem_pinsAt hb e)))).2.1
    cases f with
    | next => obtain ⟨σ7, H7, I7, n7⟩ := q7; exact again I7 n7
    | cont => obtain ⟨σ7, H7, I7, n7⟩ := q7; exact again I7 n7
    | brk => obtain ⟨σ7, H7, I7, q7⟩ := q7; exact ⟨σ7, H7, I7.unpinned, q7⟩
    | ret v => obtain ⟨x7, σ7, H7, I7, r7, q7⟩ := q7; exact ⟨x7, σ7, H7, I7.unpinned, r7, q7⟩
end
theorem for_list {K : PySem.W.Frag} {a : Addr} {xs : List V} {g : TG} {tb : TS} {D : Ends} {σ : St} {H : Hp} (Pv : Nat -> St -> Hp -> Prop) (h0 : Pv 0 σ H) (hl : ∀ i σ H, i <= xs.length -> Pv i σ H -> SqL K H a xs)
    (hs : ∀ i x σ H, xs[i]? = some x -> Pv i σ H -> g x σ H fun σ2 H2 => tb { D with nx := Pv (i + 1), ct := Pv (i + 1), bk := D.nx } σ2 H2) (hd : ∀ σ H, Pv xs.length σ H -> D.nx σ H) :
    ∃ W : Nat -> Nat -> St -> Hp -> Prop, (∃ m, W 0 m σ H) /\ ∀ i m σ H, W i m σ H ->
      ((Itl K a).stop i H /\ D.nx σ H) \/ ((Itl K a).go i H /\ ∃ N : St -> Hp -> Prop, (∀ σ' H', N σ' H' -> ∃ m', m' < m /\ W (i + 1) m' σ' H') /\ ∀ x H', (Itl K a).yld i H x H' -> g x σ H' fun σ2 H2 => tb { D with nx := N, ct := N, bk := D.nx } σ2 H2) := by
  refine ⟨fun i m σ H => m = xs.length - i /\ i <= xs.length /\ Pv i σ H, ⟨xs.length, by simp, Nat.zero_le _, h0⟩, ?_⟩
  rintro i m σ H ⟨rfl, hi, p⟩
  have q := hl i σ H hi p
  by_cases hlt : i < xs.length
  . refine .inr ⟨⟨xs, xs[i], q, by simp [hlt]⟩, Pv (i + 1), fun σ' H' p' => ⟨xs.length - (i + 1), by omega, rfl, hlt, p'⟩, fun x H' y => ?_⟩
    obtain ⟨e, y⟩ := y
    subst e
    exact hs i x σ _ (y xs q) p
  . have e : i = xs.length := by omega
    subst e
    exact .inl ⟨⟨xs, q, Nat.le_refl _⟩, hd σ H p⟩
theorem for_tup {K : PySem.W.Frag} {a : Addr} {xs : List V} {g : TG} {tb : TS} {D : Ends} {σ : St} {H : Hp} (Pv : Nat -> St -> Hp -> Prop) (h0 : Pv 0 σ H) (hl : ∀ i σ H, i <= xs.length -> Pv i σ H -> SqT K H a xs)
    (hs : ∀ i x σ H, xs[i]? = some x -> Pv i σ H -> g x σ H fun σ2 H2 => tb { D with nx := Pv (i + 1), ct := Pv (i + 1), bk := D.nx } σ2 H2) (hd : ∀ σ H, Pv xs.length σ H -> D.nx σ H) :
    ∃ W : Nat -> Nat -> St -> Hp -> Prop, (∃ m, W 0 m σ H) /\ ∀ i m σ H, W i m σ H ->
      ((Itt K a).stop i H /\ D.nx σ H) \/ ((Itt K a).go i H /\ ∃ N : St -> Hp -> Prop, (∀ σ' H', N σ' H' -> ∃ m', m' < m /\ W (i + 1) m' σ' H') /\ ∀ x H', (Itt K a).yld i H x H' -> g x σ H' fun σ2 H2 => tb { D with nx := N, ct := N, bk := D.nx } σ2 H2) := by
  refine ⟨fun i m σ H => m = xs.length - i /\ i <= xs.length /\ Pv i σ H, ⟨xs.length, by simp, Nat.zero_le _, h0⟩, ?_⟩
  rintro i m σ H ⟨rfl, hi, p⟩
  have q := hl i σ H hi p
  by_cases hlt : i < xs.length
  . refine .inr ⟨⟨xs, xs[i], q, by simp [hlt]⟩, Pv (i + 1), fun σ' H' p' => ⟨xs.length - (i + 1), by omega, rfl, hlt, p'⟩, fun x H' y => ?_⟩
    obtain ⟨e, y⟩ := y
    subst e
    exact hs i x σ _ (y xs q) p
  . have e : i = xs.length := by omega
    subst e
    exact .inl ⟨⟨xs, q, Nat.le_refl _⟩, hd σ H p⟩
theorem for_range {lo : Int} {n : Nat} {g : TG} {tb : TS} {D : Ends} {σ : St} {H : Hp} (Pv : Nat -> St -> Hp -> Prop) (h0 : Pv 0 σ H)
    (hs : ∀ i σ H, i < n -> Pv i σ H -> g (.int (lo + i)) σ H fun σ2 H2 => tb { D with nx := Pv (i + 1), ct := Pv (i + 1), bk := D.nx } σ2 H2) (hd : ∀ σ H, Pv n σ H -> D.nx σ H) :
    ∃ W : Nat -> Nat -> St -> Hp -> Prop, (∃ m, W 0 m σ H) /\ ∀ i m σ H, W i m σ H ->
      ((Itr lo n).stop i H /\ D.nx σ H) \/ ((Itr lo n).go i H /\ ∃ N : St -> Hp -> Prop, (∀ σ' H', N σ' H' -> ∃ m', m' < m /\ W (i + 1) m' σ' H') /\ ∀ x H', (Itr lo n).yld i H x H' -> g x σ H' fun σ2 H2 => tb { D with nx := N, ct := N, bk := D.nx } σ2 H2) := by
  refine ⟨fun i m σ H => m = n - i /\ i <= n /\ Pv i σ H, ⟨n, by simp, Nat.zero_le _, h0⟩, ?_⟩
  rintro i m σ H ⟨rfl, hi, p⟩
  by_cases hlt : i < n
  . refine .inr ⟨hlt, Pv (i + 1), fun σ' H' p' => ⟨n - (i + 1), by omega, rfl, hlt, p'⟩, fun x H' y => ?_⟩
    obtain ⟨e, y⟩ := y
    subst e y
    exact hs i σ _ hlt p
  . have e : i = n := by omega
    subst e
    exact .inl ⟨Nat.le_refl _, hd σ H p⟩
end L2
namespace L2
open PySem PySem.Spec PyProof.Rows
abbrev R2 := V -> V -> Hp -> VK -> Prop
def OpR (X : Cx) (f : Value -> Value -> Sem Value) (r : R2) : Prop :=
  ∀ (pins : List (Addr × Obj)) (s : Shared) (σ : St) (H : Hp) (x y : V) (v u : Value) (Q : VK), Inv X pins σ H s -> RelV x v -> RelV y u -> r x y H Q ->
    wpAny (model X.prog X.w) X.A (f v u) (EP X pins σ Q) X.xe s
def UnR (X : Cx) (f : Value -> Sem Value) (r : V -> Hp -> VK -> Prop) : Prop :=
  ∀ (pins : List (Addr × Obj)) (s : Shared) (σ : St) (H : Hp) (x : V) (v : Value) (Q : VK), Inv X pins σ H s -> RelV x v -> r x H Q ->
    wpAny (model X.prog X.w) X.A (f v) (EP X pins σ Q) X.xe s
def CallR (X : Cx) (f : Value) (r : List V -> Hp -> VK -> Prop) : Prop :=
  ∀ (pins : List (Addr × Obj)) (s : Shared) (σ : St) (H : Hp) (xs : List V) (us : List Value) (Q : VK), Inv X pins σ H s -> Vals xs us -> r xs H Q ->
    wpAny (model X.prog X.w) X.A (call f us) (EP X pins σ Q) X.xe s
def tOp (r : R2) (ta tb : TE) : TE := fun σ H Q => ta σ H fun x H1 => tb σ H1 fun y H2 => r x y H2 Q
def tUn (r : V -> Hp -> VK -> Prop) (ta : TE) : TE := fun σ H Q => ta σ H fun x H1 => r x H1 Q
def rI (C : Int -> Int -> Prop) (g : Int -> Int -> V) : R2 := fun x y H Q => ∃ i j, x = .int i /\ y = .int j /\ C i j /\ Q (g i j) H
def rI0 (g : Int -> Int -> V) : R2 := fun x y H Q => ∃ i j, x = .int i /\ y = .int j /\ Q (g i j) H
def rU (g : Int -> V) : V -> Hp -> VK -> Prop := fun x H Q => ∃ i, x = .int i /\ Q (g i) H
section
variable {X : Cx} {a b c : Expr} {ta tb tc : TE} {pos : Pos}
theorem binT (ha : PE X a ta) (hb : PE X b tb) {pins : List (Addr × Obj)} {s : Shared} {σ : St} {H : Hp} {R : V -> V -> Hp -> Prop} (I : Inv X pins σ H s)
    (h : ta σ H fun x H1 => tb σ H1 fun y H2 => R x y H2) {Q : Value -> Shared -> Prop} {f : Value -> Value -> Sem Value}
    (hf : ∀ v u s2 x y H2, Inv X pins σ H2 s2 -> RelV x v -> RelV y u -> R x y H2 -> wpAny (model X.prog X.w) X.A (f v u) Q X.xe s2) :
    wpAny (model X.prog X.w) X.A (eval a X.env) (fun v s₁ => wpAny (model X.prog X.w) X.A (eval b X.env) (fun u s₂ => wpAny (model X.prog X.w) X.A (f v u) Q X.xe s₂) X.xe s₁) X.xe s := by
  refine thn (ha pins s σ H _ I h) fun v s1 ⟨x, H1, I1, r1, q1⟩ => ?_
  refine thn (hb pins s1 σ H1 _ I1 q1) fun u s2 ⟨y, H2, I2, r2, q2⟩ => ?_
  exact hf v u s2 x y H2 I2 r1 r2 q2
theorem pe_op {op : Operator} {r : R2} (ho : OpR X (binaryOp op) r) (ha : PE X a ta) (hb : PE X b tb) : PE X (.BinOp a op b pos) (tOp r ta tb) := by
  intro pins s σ H Q I h
  exact wpAny_BinOp (binT ha hb I h fun v u s2 x y H2 I2 rx ry q => ho pins s2 σ H2 x y v u Q I2 rx ry q)
theorem pe_un {op : UnaryOp} {r : V -> Hp -> VK -> Prop} (ho : UnR X (unaryOp op) r) (ha : PE X a ta) : PE X (.UnaryOp op a pos) (tUn r ta) := by
  intro pins s σ H Q I h
  exact UnaryOp_ (thn (ha pins s σ H _ I h) fun v s1 ⟨x, H1, I1, r1, q1⟩ => ho pins s1 σ H1 x v Q I1 r1 q1)
theorem opI {f : Value -> Value -> Sem Value} {C : Int -> Int -> Prop} {g : Int -> Int -> Int}
    (rule : ∀ (i j : Int) (t u : Tok) (s : Shared) (Q : Value -> Shared -> Prop) (E : Value -> Shared -> Prop), C i j -> Q (.int (g i j) s.toks) { s with toks := s.toks + 1 } -> wpAny (model X.prog X.w) X.A (f (.int i t) (.int j u)) Q E s) :
    OpR X f (rI C fun i j => .int (g i j)) := by
  intro pins s σ H x y v u Q I rx ry h
  obtain ⟨i, j, rfl, rfl, hc, q⟩ := h
  obtain ⟨t, rfl⟩ := rx
  obtain ⟨t', rfl⟩ := ry
  exact rule i j t t' s _ _ hc ⟨.int (g i j), H, I.tok _, ⟨_, rfl⟩, q⟩
theorem opI0 {f : Value -> Value -> Sem Value} {g : Int -> Int -> Int}
    (rule : ∀ (i j : Int) (t u : Tok) (s : Shared) (Q : Value -> Shared -> Prop) (E : Value -> Shared -> Prop), Q (.int (g i j) s.toks) { s with toks := s.toks + 1 } -> wpAny (model X.prog X.w) X.A (f (.int i t) (.int j u)) Q E s) :
    OpR X f (rI0 fun i j => .int (g i j)) := by
  intro pins s σ H x y v u Q I rx ry h
  obtain ⟨i, j, rfl, rfl, q⟩ := h
  obtain ⟨t, rfl⟩ := rx
  obtain ⟨t', rfl⟩ := ry
  exact rule i j t t' s _ _ ⟨.int (g i j), H, I.tok _, ⟨_, rfl⟩, q⟩
theorem opB0 {f : Value -> Value -> Sem Value} {g : Int -> Int -> Bool}
    (rule : ∀ (i j : Int) (t u : Tok) (s : Shared) (Q : Value -> Shared -> Prop) (E : Value -> Shared -> Prop), Q (.bool (g i j)) s -> wpAny (model X.prog X.w) X.A (f (.int i t) (.int j u)) Q E s) :
    OpR X f (rI0 fun i j => .bl (g i j)) := by
  intro pins s σ H x y v u Q I rx ry h
  obtain ⟨i, j, rfl, rfl, q⟩ := h
  obtain ⟨t, rfl⟩ := rx
  obtain ⟨t', rfl⟩ := ry
  exact rule i j t t' s _ _ ⟨.bl (g i j), H, I, rfl, q⟩
def CDiv (i j : Int) : Prop := 0 < j /\ j < 1073741824
def CPow (i j : Int) : Prop := 0 <= j /\ j <= 1000000 /\ i.natAbs < 2 ^ 64
def CMul (i j : Int) : Prop := (-(2 ^ 64) < i /\ i < 2 ^ 64) \/ (-(2 ^ 64) < j /\ j < 2 ^ 64)
theorem CMul.ok {i j : Int} (h : CMul i j) : IntMulOk i j := by
  rcases h with ⟨h1, h2⟩ | ⟨h1, h2⟩
  . exact .of_left (intBits_le_64 h1 h2)
  . exact .of_right (intBits_le_64 h1 h2)
theorem op_add : OpR X (binaryOp .Add) (rI0 fun i j => .int (i + j)) := opI0 fun _ _ _ _ _ _ _ q => add_int q
theorem op_mul : OpR X (binaryOp .Mult) (rI CMul fun i j => .int (i * j)) := opI fun _ _ _ _ _ _ _ hc q => mul_int q hc.ok
theorem op_fdiv : OpR X (binaryOp .FloorDiv) (rI CDiv fun i j => .int (i / j)) := opI fun i j _ _ _ _ _ hc q => by
  have h1 : (0 : Int) < j := hc.1
  have h2 : j < 1073741824 := hc.2
  exact floordiv_int (by omega) (by rw [Int.fdiv_eq_ediv_of_nonneg i (by omega)]; exact q) (.inl (PyProof.noPylong_small (by omega)))
theorem op_mod : OpR X (binaryOp .Mod) (rI (fun _ j => 0 < j) fun i j => .int (i % j)) := opI fun i j _ _ _ _ _ hc q => by
  have h1 : (0 : Int) < j := hc
  exact mod_int' (by omega) (by rw [Int.fmod_eq_emod_of_nonneg i (by omega)]; exact q)
theorem op_pow : OpR X (binaryOp .Pow) (rI CPow fun i j => .int (i ^ j.toNat)) := opI fun _ _ _ _ _ _ _ hc q => pow_int_small hc.1 hc.2.1 hc.2.2 q
theorem unI {f : Value -> Sem Value} {g : Int -> Int}
    (rule : ∀ (i : Int) (t : Tok) (s : Shared) (Q : Value -> Shared -> Prop) (E : Value -> Shared -> Prop), Q (.int (g i) s.toks) { s with toks := s.toks + 1 } -> wpAny (model X.prog X.w) X.A (f (.int i t)) Q E s) :
    UnR X f (rU fun i => .int (g i)) := by
  intro pins s σ H x v Q I rx h
  obtain ⟨i, rfl, q⟩ := h
  obtain ⟨t, rfl⟩ := rx
  exact rule i t s _ _ ⟨.int (g i), H, I.tok _, ⟨_, rfl⟩, q⟩
theorem un_neg : UnR X (unaryOp .USub) (rU fun i => .int (-i)) := unI fun _ _ _ _ _ q => neg_int q
end
def scal : V -> V -> Bool
  | .non, .non => true | .non, .int _ => true | .int _, .non => true | .non, .bl _ => true | .bl _, .non => true | .non, .str _ => true | .str _, .non => true
  | .int _, .int _ => true | .bl _, .bl _ => true | .str _, .str _ => true | .byt _, .byt _ => true
  | .int _, .str _ => true | .str _, .int _ => true | .bl _, .str _ => true | .str _, .bl _ => true
  | _, _ => false
def rEq : R2 := fun x y H Q => scal x y = true /\ Q (.bl (decide (x = y))) H
def rNe : R2 := fun x y H Q => scal x y = true /\ Q (.bl (!decide (x = y))) H
theorem dec_int {i j : Int} : decide (V.int i = V.int j) = (i == j) := by
  rw [Bool.eq_iff_iff]
  simp
theorem dec_bl {i j : Bool} : decide (V.bl i = V.bl j) = (i == j) := by
  rw [Bool.eq_iff_iff]
  simp
theorem dec_str {i j : Str} : decide (V.str i = V.str j) = (i == j) := by
  rw [Bool.eq_iff_iff]
  simp
theorem dec_byt {i j : Array UInt8} : decide (V.byt i = V.byt j) = (i.toList == j.toList) := by
  rw [Bool.eq_iff_iff]
  cases i
  cases j
  simp
section
variable {X : Cx} {a b c : Expr} {ta tb tc : TE} {pos : Pos}
theorem fin_bl {pins : List (Addr × Obj)} {σ : St} {H : Hp} {s : Shared} {Q : VK} {k k' : Bool} (I : Inv X pins σ H s) (q : Q (.bl k) H) (e : k = k') : EP X pins σ Q (.bool k') s := by
  subst e
  exact ⟨.bl k, H, I, rfl, q⟩
theorem op_eq : OpR X (compareOp .Eq) rEq := by
  intro pins s σ H x y v u Q I rx ry h
  obtain ⟨hs, q⟩ := h
  cases x with
  | non =>
    cases rx
    cases y with
    | non => cases ry; exact PySem.EqNone.eq_none_none (fin_bl I q (by simp))
    | bl j => cases ry; exact PySem.EqNone.eq_none_bool (fin_bl I q (by simp))
    | int j => obtain ⟨t', rfl⟩ := ry; exact PySem.EqNone.eq_none_int (fin_bl I q (by simp))
    | str j => obtain ⟨t', rfl⟩ := ry; exact PySem.EqNone.eq_none_str (fin_bl I q (by simp))
    | _ => exact absurd (show false = true from hs) Bool.false_ne_true
  | bl i =>
    cases rx
    cases y with
    | non => cases ry; exact PySem.EqNone.eq_bool_none (fin_bl I q (by simp))
    | bl j => cases ry; exact eq_bool (fin_bl I q dec_bl)
    | str j => obtain ⟨t', rfl⟩ := ry; exact PySem.EqMixed.eq_bool_str (fin_bl I q (by simp))
    | _ => exact absurd (show false = true from hs) Bool.false_ne_true
  | int i =>
    obtain ⟨t, rfl⟩ := rx
    cases y with
    | non => cases ry; exact PySem.EqNone.eq_int_none (fin_bl I q (by simp))
    | int j => obtain ⟨t', rfl⟩ := ry; exact eq_int (fin_bl I q dec_int)
    | str j => obtain ⟨t', rfl⟩ := ry; exact PySem.EqMixed.eq_int_str (fin_bl I q (by simp))
    | _ => exact absurd (show false = true from hs) Bool.false_ne_true
  | str i =>
    obtain ⟨t, rfl⟩ := rx
    cases y with
    | non => cases ry; exact PySem.EqNone.eq_str_none (fin_bl I q (by simp))
    | bl j => cases ry; exact PySem.EqMixed.eq_str_bool (fin_bl I q (by simp))
    | int j => obtain ⟨t', rfl⟩ := ry; exact PySem.EqMixed.eq_str_int (fin_bl I q (by simp))
    | str j => obtain ⟨t', rfl⟩ := ry; exact eq_str (fin_bl I q dec_str)
    | _ => exact absurd (show false = true from hs) Bool.false_ne_true
  | byt i =>
    obtain ⟨t, rfl⟩ := rx
    cases y with
    | byt j => obtain ⟨t', rfl⟩ := ry; exact PySem.W.eq_bytes (fin_bl I q dec_byt)
    | _ => exact absurd (show false = true from hs) Bool.false_ne_true
  | _ => cases y <;> exact absurd (show false = true from hs) Bool.false_ne_true
theorem op_ne : OpR X (compareOp .NotEq) rNe := by
  intro pins s σ H x y v u Q I rx ry h
  obtain ⟨hs, q⟩ := h
  cases x with
  | non =>
    cases rx
    cases y with
    | non => cases ry; exact PySem.EqNone.ne_none_none (fin_bl I q (by simp))
    | bl j => cases ry; exact PySem.EqNone.ne_none_bool (fin_bl I q (by simp))
    | int j => obtain ⟨t', rfl⟩ := ry; exact PySem.EqNone.ne_none_int (fin_bl I q (by simp))
    | str j => obtain ⟨t', rfl⟩ := ry; exact PySem.EqNone.ne_none_str (fin_bl I q (by simp))
    | _ => exact absurd (show false = true from hs) Bool.false_ne_true
  | bl i =>
    cases rx
    cases y with
    | non => cases ry; exact PySem.EqNone.ne_bool_none (fin_bl I q (by simp))
    | bl j => cases ry; exact ne_bool (fin_bl I q (congrArg not dec_bl))
    | str j => obtain ⟨t', rfl⟩ := ry; exact PySem.EqMixed.ne_bool_str (fin_bl I q (by simp))
    | _ => exact absurd (show false = true from hs) Bool.false_ne_true
  | int i =>
    obtain ⟨t, rfl⟩ := rx
    cases y with
    | non => cases ry; exact PySem.EqNone.ne_int_none (fin_bl I q (by simp))
    | int j => obtain ⟨t', rfl⟩ := ry; exact ne_int (fin_bl I q (congrArg not dec_int))
    | str j => obtain ⟨t', rfl⟩ := ry; exact PySem.EqMixed.ne_int_str (fin_bl I q (by simp))
    | _ => exact absurd (show false = true from hs) Bool.false_ne_true
  | str i =>
    obtain ⟨t, rfl⟩ := rx
    cases y with
    | non => cases ry; exact PySem.EqNone.ne_str_none (fin_bl I q (by simp))
    | bl j => cases ry; exact PySem.EqMixed.ne_str_bool (fin_bl I q (by simp))
    | int j => obtain ⟨t', rfl⟩ := ry; exact PySem.EqMixed.ne_str_int (fin_bl I q (by simp))
    | str j => obtain ⟨t', rfl⟩ := ry; exact ne_str (fin_bl I q (congrArg not dec_str))
    | _ => exact absurd (show false = true from hs) Bool.false_ne_true
  | byt i =>
    obtain ⟨t, rfl⟩ := rx
    cases y with
    | byt j => obtain ⟨t', rfl⟩ := ry; exact PySem.W.ne_bytes (fin_bl I q (congrArg not dec_byt))
    | _ => exact absurd (show false = true from hs) Bool.false_ne_true
  | _ => cases y <;> exact absurd (show false = true from hs) Bool.false_ne_true
theorem op_lt : OpR X (compareOp .Lt) (rI0 fun i j => .bl (decide (i < j))) := opB0 fun _ _ _ _ _ _ _ q => lt_int q
theorem op_le : OpR X (compareOp .LtE) (rI0 fun i j => .bl (decide (i <= j))) := opB0 fun _ _ _ _ _ _ _ q => le_int q
theorem op_isN : OpR X (compareOp .Is) (fun x y H Q => y = .non /\ Q (.bl (decide (x = .non))) H) := by
  intro pins s σ H x y v u Q I rx ry h
  obtain ⟨rfl, q⟩ := h
  cases ry
  refine is_none_gen (fin_bl I q ?_)
  cases x <;> first
    | (cases rx; rfl)
    | (obtain ⟨t, rfl⟩ := rx; rfl)
theorem nomark (b : Expr) {op : CmpOp} (h : op ≠ .In := by decide) (h2 : op ≠ .NotIn := by decide) : behindInMarks op b = false := by
  have e1 : (op == CmpOp.In) = false := by cases op <;> first | rfl | exact absurd rfl h
  have e2 : (op == CmpOp.NotIn) = false := by cases op <;> first | rfl | exact absurd rfl h2
  cases b <;> simp [behindInMarks, e1, e2]
theorem pe_cmpR {op : CmpOp} {r : R2} (ho : OpR X (compareOp op) r) (ha : PE X a ta) (hb : PE X b tb) (hm : behindInMarks op b = false) : PE X (.Compare a [op] [b] pos) (tOp r ta tb) := by
  intro pins s σ H Q I h
  exact wpAny_Compare1 (binT ha hb I h fun v u s2 x y H2 I2 rx ry q => ho pins s2 σ H2 x y v u Q I2 rx ry q) hm
def tTest (t : TE) : TT := fun σ H Q => t σ H fun x H' => ∃ k, x = .bl k /\ Q k H'
theorem pt_cmpR {op : CmpOp} {r : R2} (ho : OpR X (compareOp op) r) (ha : PE X a ta) (hb : PE X b tb) (hm : behindInMarks op b = false) : PT X (.Compare a [op] [b] pos) (tTest (tOp r ta tb)) := by
  intro pins s σ H Q I h
  refine wpAny_isTrue_Compare1 (thn (ha pins s σ H _ I h) fun v s1 ⟨x, H1, I1, r1, q1⟩ => thn (hb pins s1 σ H1 _ I1 q1) fun u s2 ⟨y, H2, I2, r2, q2⟩ =>
    thn (ho pins s2 σ H2 x y v u _ I2 r1 r2 q2) fun c s3 ⟨z, H3, I3, r3, k, e, q3⟩ => ?_) hm
  subst e
  cases r3
  exact wpAny_truthy_bool ⟨H3, I3, q3⟩
def tChain (r r' : R2) (ta tb tc : TE) : TE := fun σ H Q => ta σ H fun x H1 => tb σ H1 fun y H2 => r x y H2 fun z H3 => ∃ k, z = .bl k /\
  (if k = true then tc σ H3 fun w' H4 => r' y w' H4 Q else Q (.bl false) H3)
theorem pe_chain {op op' : CmpOp} {r r' : R2} (ho : OpR X (compareOp op) r) (ho' : OpR X (compareOp op') r') (ha : PE X a ta) (hb : PE X b tb) (hc : PE X c tc)
    (hm : lastMarks [op, op'] [b, c] = false := by with_unfolding_all rfl) : PE X (.Compare a [op, op'] [b, c] pos) (tChain r r' ta tb tc) := by
  intro pins s σ H Q I h
  refine Compare_chain (thn (ha pins s σ H _ I h) fun v s1 ⟨x, H1, I1, r1, q1⟩ => chain_link (thn (hb pins s1 σ H1 _ I1 q1) fun u s2 ⟨y, H2, I2, r2, q2⟩ =>
    thn (ho pins s2 σ H2 x y v u _ I2 r1 r2 q2) fun d s3 ⟨z, H3, I3, r3, k, e, q3⟩ => ?_)) hm
  subst e
  cases r3
  refine wpAny_truthy_bool ?_
  cases k with
  | false => exact ite_ff ⟨.bl false, H3, I3, rfl, q3⟩
  | true => exact ite_tt (chain_last (thn (hc pins s3 σ H3 _ I3 q3) fun w' s4 ⟨z', H4, I4, r4, q4⟩ => ho' pins s4 σ H4 y z' u w' Q I4 r2 r4 q4))
theorem line63 : (sizeLine : Nat) < 2 ^ 63 := by rw [sizeLine_eq]; decide
theorem vals1 {x : V} {us : List Value} (r : Vals [x] us) : ∃ u, us = [u] /\ RelV x u := by
  cases r with
  | cons r1 r2 => cases r2; exact ⟨_, rfl, r1⟩
theorem vals2 {x y : V} {us : List Value} (r : Vals [x, y] us) : ∃ u w', us = [u, w'] /\ RelV x u /\ RelV y w' := by
  cases r with
  | cons r1 r2 =>
    cases r2 with
    | cons r3 r4 => cases r4; exact ⟨_, _, rfl, r1, r3⟩
end
end L2
namespace L2
open PySem PySem.Spec PyProof.Rows
structure ObjM (h : Heap) (x dx C : Addr) (mA : Str -> Option Value) : Prop where
  obj : h.get? x = some (PySem.W.instObj C dx)
  ns : h.Ns1 dx mA
  ne : dx ≠ x
theorem lookIn_ns {h : Heap} {dx : Addr} {mA : Str -> Option Value} (n : h.Ns1 dx mA) : ∃ od, h.get? dx = some od /\ ∀ name, PySem.W.lookIn name od = some (mA name) := by
  obtain ⟨o, es, ep, ho, hd, hk, _, hm⟩ := n
  refine ⟨o, ho, fun name => ?_⟩
  have e := hm name
  unfold nsFind findBy at e
  rw [<- Array.find?_toList] at e
  unfold PySem.W.lookIn
  rw [hd]
  dsimp only
  split
  . rename_i y q
    rw [q] at e
    exact congrArg some e
  . rename_i q
    rw [q] at e
    have a : es.toList.any (·.refKey) = false := by
      rw [List.any_eq_false]
      intro y hy
      obtain ⟨z, t, hkey⟩ := hk y (Array.mem_toList_iff.mp hy)
      simp [DictEntry.refKey, hkey]
    have a' : ¬ es.toList.any (·.refKey) = true := by rw [a]; exact Bool.false_ne_true
    rw [if_neg a']
    exact congrArg some e
theorem ObjM.look {h : Heap} {x dx C : Addr} {mA : Str -> Option Value} (I : ObjM h x dx C mA) : ∃ od, PySem.W.InstAt h x (PySem.W.instObj C dx) C (some od) /\ ∀ name, PySem.W.lookIn name od = some (mA name) :=
  let ⟨od, ho, hl⟩ := lookIn_ns I.ns
  ⟨od, ⟨I.obj, rfl, rfl, ho⟩, hl⟩
section
variable {prog : Program} {w : World} {A : Around} {E : Value -> Shared -> Prop} {s : Shared} {K : PySem.W.Frag} {x dx C f : Addr} {mA : Str -> Option Value} {name : Str} {v : Value}
theorem get_map {expr : Bool} {Q : Value -> Shared -> Prop} (X : K.In s.heap) (I : ObjM s.heap x dx C mA) (hg : PySem.W.plainGet K C name = true) (hh : PySem.W.hasDictIn K C = true)
    (ha : PySem.W.findIn K (.ref C) name = some none) (hv : mA name = some v) (hv' : PySem.W.handedIn v = true) (h : Q v { s with toks := s.toks + 1 }) :
    wpAny (model prog w) A (getAttr (.ref x) name expr) Q E s := by
  obtain ⟨od, J, hl⟩ := I.look
  exact PySem.W.get_value X J (PySem.W.plainGet_of hg).1 (PySem.W.findObj_own hh ha rfl (by rw [hl, hv])) hv' h
theorem get_meth {pl : Sem Bool} {Q : Value × List Value -> Shared -> Prop} (X : K.In s.heap) (I : ObjM s.heap x dx C mA) (hg : PySem.W.plainGet K C name = true)
    (hf : PySem.W.findIn K (.ref C) name = some (some (.ref f))) (ht : PySem.W.isFn K (.ref f) = true) (hv : mA name = none) (h : Q (.ref f, [.ref x]) s) :
    wpAny (model prog w) A (getMethod (.ref x) name pl) Q E s := by
  obtain ⟨od, J, hl⟩ := I.look
  exact PySem.W.method_fn X J (PySem.W.plainGet_of hg).1 (PySem.W.plainGet_of hg).2 hf (beq_iff_eq.mp ht) (by show (PySem.W.lookIn name od).map (·.isSome) = some false; rw [hl, hv]; rfl) h
theorem set_map {ns : List Str} {Q : Unit -> Shared -> Prop} (X : K.In s.heap) (I : ObjM s.heap x dx C mA)
    (hs : PySem.W.findIn K (.ref C) "__setattr__" = some (some (.builtin "object.__setattr__"))) (hp : PySem.W.plainOver K C = true) (ht : PySem.W.takerIn K C name = some none) (hh : PySem.W.hasDictIn K C = true)
    (hw : PySem.Within mA ns) (hsz : ns.length <= sizeLine)
    (h : ∀ h', ObjM h' x dx C (fun y => if y = name then some v else mA y) -> Heap.SameBut dx s.heap h' -> Q () { s with heap := h', toks := s.toks + 2 }) :
    wpAny (model prog w) A (setAttr (.ref x) name v) Q E s := by
  obtain ⟨od, J, hl⟩ := I.look
  refine PySem.W.set_plain X J hs (PySem.W.osa_open (s := { s with toks := s.toks + 1 }) (r := none) X J hp ht fun b => ?_)
  obtain ⟨cd, hc, hd'⟩ := PySem.W.any_some hh
  have hx : s.heap.get? x = some ⟨.ref C, some dx, .plain, #[]⟩ := I.obj
  refine wpAny_bind (wpAny_pure (wpAny_bind (wpAny_bind (wpAny_loadPart hx (wpAny_bind (PySem.W.Looks.here (s := { s with toks := s.toks + 1 }) (PySem.W.looks_clsIn X hc) ?_))))))
  rw [hd']
  refine wpAny_pure (a := some dx) (wpAny_bind (wpAny_pure (wpAny_bind ?_)))
  refine wpAny_nsSet1 (s := { s with toks := s.toks + 1 }) I.ns fun h' hn2 hs2 => ?_
  obtain ⟨oD, esD, epD, hoD, hdD, hcD⟩ := hn2.count (PySem.Within.cons name v hw)
  refine wpAny_bind (wpAny_lookBehind hoD (by rw [hdD]; exact pastItsLine_dict (Nat.le_trans hcD (by rw [List.length_cons]; omega))) ?_)
  exact wpAny_pure (h _ ⟨(hs2.2 _ (Ne.symm I.ne)).trans I.obj, hn2, I.ne⟩ hs2)
theorem make_map {R : Result -> Shared -> Prop} {vs : List Value} {kw : List (Str × Value)} (X : K.In s.heap) (hm : PySem.W.makesIn K C = true)
    (hi : PySem.W.findIn K (.ref C) "__init__" = some (some (.ref f))) (hf : PySem.W.typeIn K (.ref f) = some (.type "function"))
    (h : codeAny (model prog w) (A.under (.builtin "type.__call__" ⟨.ref C :: vs, kw⟩)) (.call (.ref f) ⟨.ref (s.heap.objs.size + 1) :: vs, kw⟩) (PySem.W.InitBack (s.heap.objs.size + 1) R)
      { s with heap := (s.heap.push PySem.W.emptyDict).push (PySem.W.instObj C s.heap.objs.size) }) :
    codeAny (model prog w) A (.call (.ref C) ⟨vs, kw⟩) R s := by
  obtain ⟨hh, g, d, t, os⟩ := s
  exact PySem.W.make_core (PySem.W.makes_of X hm) (PySem.W.looks_findIn X hi) (fun self => PySem.W.bind_fn X self hf) (.inl rfl) h
end
def putF (f : Str) (v : V) : List (Str × V) -> List (Str × V)
  | [] => [(f, v)]
  | (g, x) :: r => if g = f then (g, v) :: r else (g, x) :: putF f v r
theorem lookup_putF (f g : Str) (v : V) : ∀ fs : List (Str × V), (putF f v fs).lookup g = if g = f then some v else fs.lookup g
  | [] => by
    show List.lookup g [(f, v)] = _
    by_cases h : g = f
    . have hb : (g == f) = true := beq_iff_eq.mpr h
      simp only [List.lookup, hb, if_pos h]
    . have hb : (g == f) = false := beq_eq_false_iff_ne.mpr h
      simp only [List.lookup, hb, if_neg h]
  | (k, x) :: r => by
    have ih := lookup_putF f g v r
    rw [show putF f v ((k, x) :: r) = (if k = f then (k, v) :: r else (k, x) :: putF f v r) from rfl]
    by_cases hk : k = f
    . rw [if_pos hk]
      by_cases h : g = k
      . have hb : (g == k) = true := beq_iff_eq.mpr h
        simp only [List.lookup, hb, if_pos (h.trans hk)]
      . have hb : (g == k) = false := beq_eq_false_iff_ne.mpr h
        simp only [List.lookup, hb, if_neg (fun e : g = f => h (e.trans hk.symm))]
    . rw [if_neg hk]
      by_cases h : g = k
      . have hb : (g == k) = true := beq_iff_eq.mpr h
        simp only [List.lookup, hb, if_neg (fun e : g = f => hk (h.symm.trans e))]
      . have hb : (g == k) = false := beq_eq_false_iff_ne.mpr h
        simp only [List.lookup, hb]
        exact ih
theorem keys_putF (f : Str) (v : V) : ∀ fs : List (Str × V), f ∈ (putF f v fs).map (·.1) /\ ∀ g, g ∈ fs.map (·.1) -> g ∈ (putF f v fs).map (·.1)
  | [] => ⟨by simp [putF], fun g h => by simp at h⟩
  | (k, x) :: r => by
    obtain ⟨i1, i2⟩ := keys_putF f v r
    rw [show putF f v ((k, x) :: r) = (if k = f then (k, v) :: r else (k, x) :: putF f v r) from rfl]
    by_cases hk : k = f
    . rw [if_pos hk]
      subst hk
      exact ⟨by simp, fun g h => by simpa using h⟩
    . rw [if_neg hk]
      refine ⟨?_, fun g h => ?_⟩
      . rw [List.map_cons]
        exact List.mem_cons_of_mem _ i1
      . rw [List.map_cons] at h ⊢
        rcases List.mem_cons.mp h with e | e
        . exact List.mem_cons.mpr (.inl e)
        . exact List.mem_cons_of_mem _ (i2 g e)
theorem length_putF (f : Str) (v : V) : ∀ fs : List (Str × V), (putF f v fs).length <= fs.length + 1
  | [] => by simp [putF]
  | (k, x) :: r => by
    have ih := length_putF f v r
    rw [show putF f v ((k, x) :: r) = (if k = f then (k, v) :: r else (k, x) :: putF f v r) from rfl]
    by_cases hk : k = f
    . rw [if_pos hk, List.length_cons, List.length_cons]; omega
    . rw [if_neg hk, List.length_cons, List.length_cons]; omega
theorem RelO.some_of {v : V} {o : Option Value} (r : RelO (some v) o) : ∃ u, o = some u /\ RelV v u := by
  cases o with
  | none => exact (show False from r).elim
  | some u => exact ⟨u, rfl, r⟩
theorem RelO.none_of {o : Option Value} (r : RelO none o) : o = none := by
  cases o with
  | none => rfl
  | some u => exact (show False from r).elim
theorem handed_of {v : V} {u : Value} (r : RelV v u) : PySem.W.handedIn u = true := by
  cases v with
  | non => cases (show u = Value.none from r); rfl
  | bl b => cases (show u = Value.bool b from r); rfl
  | int i => obtain ⟨t, e⟩ := (show ∃ t, u = Value.int i t from r); cases e; rfl
  | str x => obtain ⟨t, e⟩ := (show ∃ t, u = Value.str x t from r); cases e; rfl
  | byt b => obtain ⟨t, e⟩ := (show ∃ t, u = Value.bytes b t from r); cases e; rfl
  | flt b => obtain ⟨t, e⟩ := (show ∃ t, u = Value.float b t from r); cases e; rfl
  | ref a => cases (show u = Value.ref a from r); rfl
  | ty n => cases (show u = Value.type n from r); rfl
section
variable {P : Program} {w : World} {H H' : Hp} {h h' : Heap} {a C dx : Addr} {fs fs' : List (Str × V)}
theorem ins_get (hok : HOk P w H h) (e : H a = some (.ins C dx fs)) : ∃ mA, ObjM h a dx C mA /\ (∀ f, RelO (fs.lookup f) (mA f)) /\ PySem.Within mA (fs.map (·.1)) /\ fs.length <= 1000 /\ H dx = some (.own a) := by
  obtain ⟨d, z, ne, ob, mA, n, r, q⟩ := (show ObjOk P w H h a (.ins C dx fs) from hok a _ e)
  exact ⟨mA, ⟨ob, n, ne⟩, r, q, z, d⟩
end
structure Cls (K : PySem.W.Frag) (C : Addr) : Prop where
  pg : PySem.W.plainGet K C Str.empty = true
  hd : PySem.W.hasDictIn K C = true
  po : PySem.W.plainOver K C = true
  sa : PySem.W.findIn K (.ref C) "__setattr__" = some (some (.builtin "object.__setattr__"))
theorem Cls.get {K : PySem.W.Frag} {C : Addr} (c : Cls K C) (f : Str) : PySem.W.plainGet K C f = true := c.pg
def NoAttr (K : PySem.W.Frag) (C : Addr) (f : Str) : Prop := PySem.W.findIn K (.ref C) f = some none
theorem NoAttr.taker {K : PySem.W.Frag} {C : Addr} {f : Str} (n : NoAttr K C f) : PySem.W.takerIn K C f = some none := by
  unfold PySem.W.takerIn
  rw [show PySem.W.findIn K (.ref C) f = some none from n]
  rfl
structure Meth (K : PySem.W.Frag) (C : Addr) (m : Str) (f : Addr) : Prop where
  at_ : PySem.W.findIn K (.ref C) m = some (some (.ref f))
  fn : PySem.W.isFn K (.ref f) = true
  kp : PySem.W.keepIn K (.ref f) = true
section
variable {X : Cx} {pins : List (Addr × Obj)} {σ : St} {H : Hp} {s : Shared} {a C dx : Addr} {fs : List (Str × V)} {f : Str} {v : V} {A : Around} {E : Value -> Shared -> Prop}
theorem getattr_ok {b : Bool} {Q : Value -> Shared -> Prop} (I : Inv X pins σ H s) (e : H a = some (.ins C dx fs)) (c : Cls X.K C) (n : NoAttr X.K C f) (l : fs.lookup f = some v)
    (h : ∀ u s', Inv X pins σ H s' -> RelV v u -> Q u s') : wpAny (model X.prog X.w) A (getAttr (.ref a) f b) Q E s := by
  obtain ⟨mA, O, r, _, _, _⟩ := ins_get I.hok e
  obtain ⟨u, hu, ru⟩ := RelO.some_of (v := v) (o := mA f) (by rw [<- l]; exact r f)
  exact get_map I.kIn O (c.get f) c.hd n hu (handed_of ru) (h u _ (I.tok _) ru)
theorem getmeth_ok {m : Str} {g : Addr} {pl : Sem Bool} {Q : Value × List Value -> Shared -> Prop} (I : Inv X pins σ H s) (e : H a = some (.ins C dx fs)) (c : Cls X.K C) (k : Meth X.K C m g) (l : fs.lookup m = none)
    (h : Q (.ref g, [.ref a]) s) : wpAny (model X.prog X.w) A (getMethod (.ref a) m pl) Q E s := by
  obtain ⟨mA, O, r, _, _, _⟩ := ins_get I.hok e
  have hn : mA m = none := RelO.none_of (by rw [<- l]; exact r m)
  exact get_meth I.kIn O (c.get m) k.at_ k.fn hn h
theorem setattr_ok {y : V} {u : Value} {Q : Unit -> Shared -> Prop} (I : Inv X pins σ H s) (e : H a = some (.ins C dx fs)) (c : Cls X.K C) (n : NoAttr X.K C f) (hl : fs.length < 1000) (ry : RelV y u)
    (h : ∀ s', Inv X pins σ (upd H a (.ins C dx (putF f y fs))) s' -> Q () s') : wpAny (model X.prog X.w) A (setAttr (.ref a) f u) Q E s := by
  obtain ⟨mA, O, r, wi, _, ho⟩ := ins_get I.hok e
  have hz : (fs.map (·.1)).length <= sizeLine := by rw [List.length_map, sizeLine_eq]; omega
  refine set_map I.kIn O c.sa c.po n.taker c.hd wi hz fun h' O' sb => h _ ?_
  have hd : ∃ o, h'.get? dx = some o := let ⟨o, _, _, e', _⟩ := O'.ns; ⟨o, e'⟩
  refine I.write (x := a) (e := dx) (by rw [e]; exact True.intro) (.inr ho) (fun b q hb z => (sb.2 b hb).trans z) hd ?_
  refine ⟨by rw [upd_ne O.ne]; exact ho, ?_, O.ne, O'.obj, _, O'.ns, fun g => ?_, fun g hg => ?_⟩
  . have := length_putF f y fs; omega
  . show RelO ((putF f y fs).lookup g) (if g = f then some u else mA g)
    rw [lookup_putF]
    by_cases q : g = f
    . rw [if_pos q, if_pos q]; exact ry
    . rw [if_neg q, if_neg q]; exact r g
  . by_cases q : g = f
    . rw [q]; exact (keys_putF f y fs).1
    . refine (keys_putF f y fs).2 g (wi g fun z => hg ?_)
      show (if g = f then some u else mA g) = none
      rw [if_neg q]; exact z
theorem Inv.made (I : Inv X pins σ H s) : Inv X pins σ (upd (upd H s.heap.objs.size (.own (s.heap.objs.size + 1))) (s.heap.objs.size + 1) (.ins C s.heap.objs.size []))
    { s with heap := (s.heap.push PySem.W.emptyDict).push (PySem.W.instObj C s.heap.objs.size) } := by
  have e1 : (s.heap.push PySem.W.emptyDict).get? s.heap.objs.size = some PySem.W.emptyDict := Heap.get?_push_size s.heap rfl
  have e2 : ((s.heap.push PySem.W.emptyDict).push (PySem.W.instObj C s.heap.objs.size)).get? (s.heap.objs.size + 1) = some (PySem.W.instObj C s.heap.objs.size) := by
    have := Heap.get?_push_size (s.heap.push PySem.W.emptyDict) (o := PySem.W.instObj C s.heap.objs.size) rfl
    rwa [Heap.size_push] at this
  have e3 : (s.heap.push PySem.W.emptyDict).Ns s.heap.objs.size (fun _ => none) := ⟨PySem.W.emptyDict, #[], _, e1, rfl, (fun e he => absurd he (by simp)), fun _ => rfl⟩
  have I1 := I.laid (a := s.heap.objs.size) (o := .own (s.heap.objs.size + 1)) (h' := s.heap.push PySem.W.emptyDict) (t' := s.toks) (fun b u q => Heap.get?_push_of_some _ q) (Nat.le_refl _) ⟨_, e1⟩
  refine I1.laid (a := s.heap.objs.size + 1) (o := .ins C s.heap.objs.size []) (t' := s.toks) (fun b u q => Heap.get?_push_of_some _ q) (Nat.le_of_eq (Heap.size_push _ _)) ?_
  have ne : s.heap.objs.size ≠ s.heap.objs.size + 1 := Nat.ne_of_lt (Nat.lt_succ_self _)
  refine ⟨by rw [upd_ne ne, upd_same], Nat.zero_le _, ne, e2, fun _ => none, (Heap.Ns1.of_empty e3).at fun o q => Heap.get?_push_of_some _ q, fun _ => True.intro, fun y hy => absurd rfl hy⟩
theorem attr_of {prog : Program} {w : World} {env : Env} {e : Expr} {f : Str} {pos : Pos} {s : Shared} {Q : Value -> Shared -> Prop} (hb : attributeBase e f env (eval e env) = eval e env)
    (h : wpAny (model prog w) A (eval e env) (fun o s₁ => wpAny (model prog w) A (getAttr o f true) Q E s₁) E s) : wpAny (model prog w) A (eval (.Attribute e f pos) env) Q E s :=
  Attribute_any_ h (by rw [arm_eval_Attribute, hb])
end
def tFld (K : PySem.W.Frag) (ta : TE) (f : Str) : TE := fun σ H Q => ta σ H fun x H1 => ∃ a C dx fs v, x = .ref a /\ H1 a = some (.ins C dx fs) /\ Cls K C /\ NoAttr K C f /\ fs.lookup f = some v /\ Q v H1
def sFld (K : PySem.W.Frag) (ta tv : TE) (f : Str) : TS := fun D σ H => tv σ H fun y H1 => ta σ H1 fun x H2 => ∃ a C dx fs, x = .ref a /\ H2 a = some (.ins C dx fs) /\ Cls K C /\ NoAttr K C f /\ fs.length < 1000 /\
  D.nx σ (upd H2 a (.ins C dx (putF f y fs)))
section
variable {X : Cx} {o e value : Expr} {f : Str} {pos pos' tpos : Pos} {ta tv : TE}
theorem pe_fld (he : PE X e ta) (hb : attributeBase e f X.env (eval e X.env) = eval e X.env) : PE X (.Attribute e f pos) (tFld X.K ta f) := by
  intro pins s σ H Q I h
  refine attr_of hb (thn (he pins s σ H _ I h) fun u s1 ⟨x, H1, I1, rx, a, C, dx, fs, v, ex, ea, c, n, l, q⟩ => ?_)
  subst ex
  obtain rfl : u = Value.ref a := rx
  exact getattr_ok I1 ea c n l fun u' s2 I2 ru => ⟨v, H1, I2, ru, q⟩
theorem ps_fld (ha : PE X o ta) (hv : PE X value tv) (hs : swapsWith value (some (.Attribute o f pos')) pos.line X.env = pure false) : PS X (.Assign [.Attribute o f pos'] value pos) (sFld X.K ta tv f) := by
  intro pins s σ H D I h
  refine plainObj_wpAny_Assign_Attribute (thn (hv pins s σ H _ I h) fun u s1 ⟨y, H1, I1, ry, q⟩ => thn (ha pins s1 σ H1 _ I1 q) fun ov s2 ⟨x, H2, I2, rx, a, C, dx, fs, ex, ea, c, n, l, q2⟩ => ?_) hs
  subst ex
  obtain rfl : ov = Value.ref a := rx
  exact setattr_ok I2 ea c n l ry fun s3 I3 => ⟨σ, _, I3, q2⟩
end
section
variable {X : Cx} {pins : List (Addr × Obj)} {σ : St} {H : Hp} {s : Shared} {A : Around} {E : Value -> Shared -> Prop} {Q : Value -> Shared -> Prop} {c : Value} {b : Bool}
inductive TyOf (K : PySem.W.Frag) (H : Hp) : V -> Value -> Prop where
  | non : TyOf K H .non (.type "NoneType")
  | bl (x : Bool) : TyOf K H (.bl x) (.type "bool")
  | int (i : Int) : TyOf K H (.int i) (.type "int")
  | str (x : Str) : TyOf K H (.str x) (.type "str")
  | flt (x : UInt64) : TyOf K H (.flt x) (.type "float")
  | lst {a : Addr} {xs : List V} (e : H a = some (.lst xs)) : TyOf K H (.ref a) (.type "list")
  | frz {a : Addr} {o : Obj} {xs : List V} (e : H a = some (.frz o (.lst xs))) : TyOf K H (.ref a) (.type "list")
  | tup {a : Addr} {xs : List V} (e : H a = some (.tup xs)) : TyOf K H (.ref a) (.type "tuple")
  | dK {a : Addr} {kvs : List (Key × V)} (e : H a = some (.dK kvs)) : TyOf K H (.ref a) (.type "dict")
  | dT {a : Addr} {kvs : List (List Key × V)} (e : H a = some (.dT kvs)) : TyOf K H (.ref a) (.type "dict")
  | ins {a C dx : Addr} {fs : List (Str × V)} (e : H a = some (.ins C dx fs)) (cl : Cls K C) (ha : PySem.W.findIn K (.ref C) "__class__" = some (some (.builtin "object.__class__")))
      (hn : PySem.W.specialIn K (.builtin "object.__class__") "__get__" = some (some (.builtin "getset_descriptor.__get__"))) (htk : PySem.W.takesIn K (.builtin "object.__class__") = some true)
      (hm : PySem.W.mroIn K C (.type "object") = some true) : TyOf K H (.ref a) (.ref C)
theorem isinst_ok {x : V} {u t : Value} (I : Inv X pins σ H s) (rx : RelV x u) (ty : TyOf X.K H x t) (e : PySem.W.kitOne X.K t c = some b) (h : ∀ tk, Q (.bool b) { s with toks := tk }) :
    wpAny (model X.prog X.w) A (call (.builtin "isinstance") [u, c]) Q E s := by
  cases ty with
  | non => cases (show u = Value.none from rx); exact PySem.W.kia_one PySem.W.kitx_none I.kIn True.intro e (fun z => nomatch z) h
  | bl y => cases (show u = Value.bool y from rx); exact PySem.W.kia_one PySem.W.kitx_bool I.kIn True.intro e (fun z => nomatch z) h
  | int i => obtain ⟨t, q⟩ := (show ∃ t, u = Value.int i t from rx); cases q; exact PySem.W.kia_one PySem.W.kitx_int I.kIn True.intro e (fun z => nomatch z) h
  | str y => obtain ⟨t, q⟩ := (show ∃ t, u = Value.str y t from rx); cases q; exact PySem.W.kia_one PySem.W.kitx_str I.kIn True.intro e (fun z => nomatch z) h
  | flt y => obtain ⟨t, q⟩ := (show ∃ t, u = Value.float y t from rx); cases q; exact PySem.W.kia_one PySem.W.kitx_float I.kIn True.intro e (fun z => nomatch z) h
  | @lst a xs ea =>
    cases (show u = Value.ref a from rx)
    obtain ⟨_, _, n, _, h1⟩ := (show ObjOk X.prog X.w H s.heap a (.lst xs) from I.hok a _ ea)
    exact PySem.W.kia_one PySem.W.kitx_list I.kIn ⟨_, h1, rfl⟩ e (fun z => nomatch z) h
  | @frz a ob xs ea =>
    cases (show u = Value.ref a from rx)
    obtain ⟨_, _, _, n, _, h1⟩ := (show ObjOk X.prog X.w H s.heap a (.frz ob (.lst xs)) from I.hok a _ ea)
    exact PySem.W.kia_one PySem.W.kitx_list I.kIn ⟨_, h1, rfl⟩ e (fun z => nomatch z) h
  | @tup a xs ea =>
    cases (show u = Value.ref a from rx)
    obtain ⟨_, _, _, p⟩ := (show ObjOk X.prog X.w H s.heap a (.tup xs) from I.hok a _ ea)
    obtain ⟨o, h1, h2, _⟩ := p
    exact PySem.W.kia_one PySem.W.kitx_tuple I.kIn ⟨o, h1, h2⟩ e (fun z => nomatch z) h
  | @dK a kvs ea =>
    cases (show u = Value.ref a from rx)
    obtain ⟨_, _, vs, _, p⟩ := (show ObjOk X.prog X.w H s.heap a (.dK kvs) from I.hok a _ ea)
    obtain ⟨o, es, ep, h1, h2, _⟩ := p
    exact PySem.W.kia_one PySem.W.kitx_dict I.kIn ⟨o, h1, h2.1⟩ e (fun z => nomatch z) h
  | @dT a kvs ea =>
    cases (show u = Value.ref a from rx)
    obtain ⟨_, _, xs, _, o, es, ep, h1, h2, _⟩ := (show ObjOk X.prog X.w H s.heap a (.dT kvs) from I.hok a _ ea)
    exact PySem.W.kia_one PySem.W.kitx_dict I.kIn ⟨o, h1, h2.1⟩ e (fun z => nomatch z) h
  | @ins a C dx fs ea cl ha hn htk hm =>
    cases (show u = Value.ref a from rx)
    obtain ⟨mA, O, _⟩ := ins_get I.hok ea
    obtain ⟨od, J, _⟩ := O.look
    exact PySem.W.kia_one (PySem.W.kitx_own (cl.get _) cl.hd ha hn htk hm) I.kIn J e (fun z => nomatch z) h
end
end L2
namespace L2
open PySem PySem.Spec PyProof.Rows
structure Room (k : Nat) (A : Around) : Prop where
  hd : A.handled = none
  dp : A.depth + 3 * k + 5 < recursionLimit
  un : A.units + 16 * k + 200 < cLine
theorem Room.mono {j k : Nat} {A : Around} (r : Room k A) (h : j <= k) : Room j A := ⟨r.hd, by have := r.dp; omega, by have := r.un; omega⟩
theorem Room.deeper {k : Nat} {A : Around} (r : Room (k + 1) A) (env : Env) : Room k (A.deeper env) :=
  ⟨r.hd, by have := r.dp; show A.depth + 1 + 3 * k + 5 < _; omega, by have := r.un; show A.units + 3 + 16 * k + 200 < _; omega⟩
theorem make_depth {A : Around} {C : Addr} {us : List Value} {kw : List (Str × Value)} : (A.under (.builtin "type.__call__" ⟨.ref C :: us, kw⟩)).depth = A.depth + 1 := by
  first | rfl | simp [Around.under, Code.weight, Code.isCreation, Code.isGuard, Code.isCaller, Code.frames, Code.isFrame, guardIds]
theorem make_units {A : Around} {C : Addr} {us : List Value} {kw : List (Str × Value)} : (A.under (.builtin "type.__call__" ⟨.ref C :: us, kw⟩)).units = A.units + 1 := by
  first | rfl | simp [Around.under, Code.cUnits, Code.frames, Code.isFrame]
theorem Room.make {k : Nat} {A : Around} (r : Room (k + 1) A) (C : Addr) (us : List Value) (kw : List (Str × Value)) : Room k (A.under (.builtin "type.__call__" ⟨.ref C :: us, kw⟩)) :=
  ⟨r.hd, by have := r.dp; rw [make_depth]; omega, by have := r.un; rw [make_units]; omega⟩
theorem Room.depth {k : Nat} {A : Around} (r : Room k A) : A.depth < recursionLimit := by have := r.dp; omega
theorem Room.units {k : Nat} {A : Around} (r : Room k A) : A.units + 64 < cLine := by have := r.un; omega
def tNil : TA := fun _ H Q => Q [] H
def tCons (ta : TE) (tr : TA) : TA := fun σ H Q => ta σ H fun x H1 => tr σ H1 fun xs H2 => Q (x :: xs) H2
section
variable {X : Cx} {e : Expr} {es : List Expr} {te : TE} {t : TA} {pos : Pos}
theorem pa_nil : PA X [] tNil := fun _ _ _ _ H Q I h => Calls.spliced_nil ⟨[], H, I, .nil, h⟩
theorem pa_cons (ha : PE X e te) (hr : PA X es t) (hs : starEach (e :: es) X.env = (false, eval e X.env) :: starEach es X.env := by rfl) : PA X (e :: es) (tCons te t) := by
  intro pos pins s σ H Q I h
  rw [hs]
  show wpAny _ _ (spliced ((false, eval e X.env) :: backTo pos (starEach es X.env))) _ _ s
  refine Calls.spliced_cons (thn (ha pins s σ H _ I h) fun u s1 ⟨x, H1, I1, r1, q1⟩ => ?_)
  exact thn (hr pos pins s1 σ H1 _ I1 q1) fun us s2 ⟨xs, H2, I2, r2, q2⟩ => ⟨x :: xs, H2, I2, .cons r1 r2, q2⟩
def tTup (t : TA) : TE := fun σ H Q => t σ H fun xs H1 => xs.length <= sizeLine /\ ∀ p, H1 p = none -> Q (.ref p) (upd H1 p (.tup xs))
def tLst (t : TA) : TE := fun σ H Q => t σ H fun xs H1 => xs.length <= sizeLine /\ ∀ p, H1 p = none -> Q (.ref p) (upd H1 p (.lst xs))
theorem pe_tup {x1} (h : PA X es t) : PE X (.Tuple es x1 pos) (tTup t) := by
  intro pins s σ H Q I hq
  refine wpAny_Tuple_spliced (thn (h pos pins s σ H _ I hq) fun us s1 ⟨xs, H1, I1, r, z, q⟩ => ⟨by rw [<- r.length]; exact z, ?_⟩)
  have hf : H1 s1.heap.objs.size = none := I1.hok.fresh (Nat.le_refl _)
  refine ⟨.ref s1.heap.objs.size, upd H1 s1.heap.objs.size (.tup xs), I1.laid (t' := s1.toks) (fun b u e => Heap.get?_push_of_some _ e) (Nat.le_refl _) ?_, rfl, q _ hf⟩
  exact ⟨z, us, r, ⟨_, Heap.get?_push_size _ rfl, rfl, _, rfl⟩⟩
theorem pe_lst (h : PA X es t) : PE X (.List es pos) (tLst t) := by
  intro pins s σ H Q I hq
  refine wpAny_List_spliced (thn (h pos pins s σ H _ I hq) fun us s1 ⟨xs, H1, I1, r, z, q⟩ => ⟨by rw [<- r.length]; exact z, ?_⟩)
  have hf : H1 s1.heap.objs.size = none := I1.hok.fresh (Nat.le_refl _)
  refine ⟨.ref s1.heap.objs.size, upd H1 s1.heap.objs.size (.lst xs), I1.laid (t' := s1.toks) (fun b u e => Heap.get?_push_of_some _ e) (Nat.le_refl _) ?_, rfl, q _ hf⟩
  exact ⟨z, us, 0, r, Heap.get?_push_size _ rfl⟩
end
abbrev Sp := List V -> Hp -> VK -> XK -> Prop
abbrev CXT := List Env -> Hp -> Shared -> XK -> Value -> Shared -> Prop
structure Env0 (P : Program) (w : World) (K : PySem.W.Frag) (mg : Str -> Option Value) (base : Heap) (A : Around) (outer : List Env) (s : Shared) (H : Hp) : Prop where
  frames : A.frames = some outer
  mod : Mod K mg base
  bs : ∀ b o, base.get? b = some o -> s.heap.get? b = some o /\ H b = none
  bsz : base.objs.size <= s.heap.objs.size
  funs : s.heap.FunFrames base outer
  frf : ∀ b ∈ frs outer, H b = none
  hok : HOk P w H s.heap
  bare : AllBare s.gens
def CE (outer : List Env) (P : Program) (w : World) (H : Hp) (s : Shared) (Q : VK) (u : Value) (s' : Shared) : Prop :=
  ∃ v H', s'.os = s.os /\ AllBare s'.gens /\ Un (frs outer) [] H H' s.heap s'.heap /\ HOk P w H' s'.heap /\ RelV v u /\ Q v H'
def CR (CX : CXT) (outer : List Env) (P : Program) (w : World) (H : Hp) (s : Shared) (Q : VK) (E : XK) (r : Result) (s' : Shared) : Prop :=
  match r with
  | .ok (.ret u) => CE outer P w H s Q u s'
  | .ok _ => False
  | .error e => CX outer H s E e s'
structure FnOk (P : Program) (w : World) (K : PySem.W.Frag) (mg : Str -> Option Value) (base : Heap) (CX : CXT) (k : Nat) (f : Addr) (fd : FuncData) (ps : List Str) (sp : Sp) : Prop where
  len : ∀ vs H Q E, sp vs H Q E -> vs.length = ps.length
  run : ∀ (A : Around) (outer : List Env) (s : Shared) (H : Hp) (args : Args) (us : List Value) (vs : List V) (Q : VK) (E : XK), Room k A -> Env0 P w K mg base A outer s H -> BindsTo s fd args (ps.zip us) -> Vals vs us -> sp vs H Q E ->
    codeAny (model P w) A (.call (.ref f) args) (CR CX outer P w H s Q E) s
theorem Env0.make {P : Program} {w : World} {K : PySem.W.Frag} {mg : Str -> Option Value} {base : Heap} {A : Around} {outer : List Env} {s : Shared} {H : Hp} (e : Env0 P w K mg base A outer s H) (C : Addr) (us : List Value) (kw : List (Str × Value)) :
    Env0 P w K mg base (A.under (.builtin "type.__call__" ⟨.ref C :: us, kw⟩)) outer s H := ⟨by first | exact e.frames | (simpa [Around.under, Code.envs, Code.isFrame, pushEnvs] using e.frames), e.mod, e.bs, e.bsz, e.funs, e.frf, e.hok, e.bare⟩
section
variable {X : Cx} {pins : List (Addr × Obj)} {σ : St} {H : Hp} {s s' : Shared}
theorem Inv.env0 (I : Inv X pins σ H s) : Env0 X.prog X.w X.K X.mg X.base X.A X.stack s H :=
  ⟨I.ok.frames, I.ok.mod, I.bs, Nat.le_trans I.ok.bsz I.sz, I.stack, I.stkFree, I.hok, I.bare⟩
theorem Inv.after {Q : VK} {u : Value} (I : Inv X pins σ H s) (h : CE X.stack X.prog X.w H s Q u s') : EP X pins σ Q u s' := by
  obtain ⟨v, H', os, bare, un, hok, r, q⟩ := h
  obtain ⟨hh, g, d, t, os'⟩ := s'
  obtain rfl : os' = s.os := os
  exact ⟨v, H', I.call (h' := hh) (g' := g) (d' := d) (t' := t) (ch := []) un hok bare (fun b z => absurd z (by simp)), r, q⟩
end
def tCall (sp : Sp) (dvs : List V) (E : XK) (t : TA) : TE := fun σ H Q => t σ H fun vs H1 => sp (vs ++ dvs) H1 Q E
def tMeth (C : Addr) (m : Str) (sp : Sp) (dvs : List V) (E : XK) (ta : TE) (t : TA) : TE := fun σ H Q => ta σ H fun x H1 => ∃ a dx fs, x = .ref a /\ H1 a = some (.ins C dx fs) /\ fs.lookup m = none /\
  t σ H1 fun vs H2 => sp (x :: (vs ++ dvs)) H2 Q E
def tMake (C : Addr) (sp : Sp) (dvs : List V) (E : XK) (t : TA) : TE := fun σ H Q => t σ H fun vs H1 => ∀ x dx, H1 x = none -> H1 dx = none -> dx ≠ x ->
  sp (.ref x :: (vs ++ dvs)) (upd (upd H1 dx (.own x)) x (.ins C dx [])) (fun v H2 => v = .non /\ Q (.ref x) H2) E
def Binds (K : PySem.W.Frag) (fd : FuncData) (ps : List Str) (ds : List Value) : Prop :=
  ∀ (s : Shared) (us : List Value), K.In s.heap -> (us ++ ds).length = ps.length -> BindsTo s fd ⟨us, []⟩ (ps.zip (us ++ ds))
theorem Binds.all {K : PySem.W.Frag} {fd : FuncData} {ps : List Str} (h : ∀ us : List Value, us.length = ps.length -> bindArgs fd ⟨us, []⟩ = pure (ps.zip us)) : Binds K fd ps [] := fun s us _ hl => by
  rw [List.append_nil] at hl ⊢
  exact .of_eq (h us hl)
def Passes (CX : CXT) (X : Cx) (E : XK) : Prop := ∀ (pins : List (Addr × Obj)) (σ : St) (H : Hp) (s : Shared) (e : Value) (s' : Shared), Inv X pins σ H s -> CX X.stack H s E e s' -> X.xe e s'
section
variable {X : Cx} {CX : CXT} {k : Nat} {f C : Addr} {fd : FuncData} {ps : List Str} {sp : Sp} {dvs : List V} {ds : List Value} {E : XK} {x m : Str} {p pos apos : Pos} {e o : Expr} {es : List Expr} {ta : TE} {t : TA}
theorem run_fn {pins : List (Addr × Obj)} {σ : St} {H : Hp} {s : Shared} {Q : VK} {us : List Value} {vs : List V} (F : FnOk X.prog X.w X.K X.mg X.base CX k f fd ps sp) (hr : Room k X.A) (hb : Binds X.K fd ps ds) (hd : Vals dvs ds) (hx : Passes CX X E)
    (I : Inv X pins σ H s) (r : Vals vs us) (h : sp (vs ++ dvs) H Q E) : wpAny (model X.prog X.w) X.A (call (.ref f) us) (EP X pins σ Q) X.xe s := by
  have r2 : Vals (vs ++ dvs) (us ++ ds) := r.append hd
  have hl : (us ++ ds).length = ps.length := by rw [<- r2.length]; exact F.len _ _ _ _ h
  refine wpAny_call (codeAny_mono (F.run X.A X.stack s H ⟨us, []⟩ (us ++ ds) (vs ++ dvs) Q E hr I.env0 (hb s us I.kIn hl) r2 h) fun r s' hq => ?_)
  cases r with
  | error e => exact hx pins σ H s e s' I hq
  | ok fl =>
    cases fl with
    | ret u => exact I.after hq
    | next => exact False.elim hq
    | brk => exact False.elim hq
    | cont => exact False.elim hq
theorem pe_call (F : FnOk X.prog X.w X.K X.mg X.base CX k f fd ps sp) (hr : Room k X.A) (hg : Gl X x) (hm : X.mg x = some (.ref f)) (hk : PySem.W.keepIn X.K (.ref f) = true) (hb : Binds X.K fd ps ds) (hd : Vals dvs ds) (hx : Passes CX X E)
    (ha : PA X (e :: es) t) (hdb : (x == ("__debug__" : Str)) = false := by decide) (he : starEach (e :: es) X.env = (false, eval e X.env) :: starEach es X.env := by rfl) (hpl : (backTo pos (starEach es X.env)).any (·.1) = false := by rfl) :
    PE X (.Call (.Name x p) (e :: es) [] pos) (tCall sp dvs E t) := by
  intro pins s σ H Q I h
  refine wpAny_Call_Name_kw (ld_glob I hg hm ?_ hdb)
  refine PySem.W.callWith_K (h₀ := X.base) I.ok.mod.kin hk (thn (ha pos pins s σ H _ I h) fun us s1 ⟨vs, H1, I1, r, q⟩ => ⟨I1.kIn, ?_⟩) he hpl
  exact run_fn F hr hb hd hx I1 r q
theorem pe_meth {pl : Sem Bool} (he : PE X o ta) (c : Cls X.K C) (hm : Meth X.K C m f) (F : FnOk X.prog X.w X.K X.mg X.base CX k f fd ps sp) (hr : Room k X.A) (hb : Binds X.K fd ps ds) (hd : Vals dvs ds) (hx : Passes CX X E) (ha : PA X (e :: es) t)
    (hst : starEach (e :: es) X.env = (false, eval e X.env) :: starEach es X.env := by rfl) (hpl : (backTo pos (starEach es X.env)).any (·.1) = false := by rfl)
    (ht : eval (.Call (.Attribute o m apos) (e :: es) [] pos) X.env = (do
      let ov <- eval o X.env
      standAt apos.atName
      let (f, first) <- holding [ov] (getMethod ov m pl)
      callWith pos f first (backTo pos (starEach (e :: es) X.env)) (backToKw pos (keywordEach [] X.env))) := by rfl) :
    PE X (.Call (.Attribute o m apos) (e :: es) [] pos) (tMeth C m sp dvs E ta t) := by
  intro pins s σ H Q I h
  refine PySem.W.methodCall_KW (pl := pl) (thn (he pins s σ H _ I h) fun u s1 ⟨x, H1, I1, rx, a, dx, fs, ex, ea, l, q⟩ => ?_) ht
  subst ex
  obtain rfl : u = Value.ref a := rx
  refine getmeth_ok I1 ea c hm l ?_
  refine PySem.W.callWith_K (first := [.ref a]) (h₀ := X.base) I.ok.mod.kin hm.kp (thn (ha pos pins s1 σ H1 _ I1 q) fun us s2 ⟨vs, H2, I2, r, q2⟩ => ⟨I2.kIn, ?_⟩) hst hpl
  exact run_fn (us := .ref a :: us) (vs := .ref a :: vs) F hr hb hd hx I2 (.cons rfl r) q2
theorem pe_meth0 {pl : Sem Bool} (he : PE X o ta) (c : Cls X.K C) (hm : Meth X.K C m f) (F : FnOk X.prog X.w X.K X.mg X.base CX k f fd ps sp) (hr : Room k X.A) (hb : Binds X.K fd ps ds) (hd : Vals dvs ds) (hx : Passes CX X E)
    (ht : eval (.Call (.Attribute o m apos) [] [] pos) X.env = (do
      let ov <- eval o X.env
      standAt apos.atName
      let (f, first) <- holding [ov] (getMethod ov m pl)
      callWith pos f first (backTo pos (starEach [] X.env)) (backToKw pos (keywordEach [] X.env))) := by rfl) :
    PE X (.Call (.Attribute o m apos) [] [] pos) (tMeth C m sp dvs E ta tNil) := by
  intro pins s σ H Q I h
  refine PySem.W.methodCall_KW (pl := pl) (thn (he pins s σ H _ I h) fun u s1 ⟨x, H1, I1, rx, a, dx, fs, ex, ea, l, q⟩ => ?_) ht
  subst ex
  obtain rfl : u = Value.ref a := rx
  refine getmeth_ok I1 ea c hm l ?_
  exact PySem.W.callWith_K0 (first := [.ref a]) I1.kIn hm.kp (run_fn (us := [.ref a]) (vs := [.ref a]) F hr hb hd hx I1 (.cons rfl .nil) q)
structure Mk (K : PySem.W.Frag) (C f : Addr) : Prop where
  makes : PySem.W.makesIn K C = true
  init : PySem.W.findIn K (.ref C) "__init__" = some (some (.ref f))
  fn : PySem.W.isFn K (.ref f) = true
  kp : PySem.W.keepIn K (.ref C) = true
theorem run_make {pins : List (Addr × Obj)} {σ : St} {H : Hp} {s : Shared} {Q : VK} {us : List Value} {vs : List V} (M : Mk X.K C f) (F : FnOk X.prog X.w X.K X.mg X.base CX k f fd ps sp) (hr : Room (k + 1) X.A) (hb : Binds X.K fd ps ds) (hd : Vals dvs ds)
    (hx : Passes CX X E) (I : Inv X pins σ H s) (r : Vals vs us)
    (h : ∀ x dx, H x = none -> H dx = none -> dx ≠ x -> sp (.ref x :: (vs ++ dvs)) (upd (upd H dx (.own x)) x (.ins C dx [])) (fun v H2 => v = .non /\ Q (.ref x) H2) E) :
    wpAny (model X.prog X.w) X.A (call (.ref C) us) (EP X pins σ Q) X.xe s := by
  have hq := h (s.heap.objs.size + 1) s.heap.objs.size (I.hok.fresh (Nat.le_succ _)) (I.hok.fresh (Nat.le_refl _)) (Nat.ne_of_lt (Nat.lt_succ_self _))
  have I2 := Inv.made (C := C) I
  have r2 : Vals (V.ref (s.heap.objs.size + 1) :: (vs ++ dvs)) (Value.ref (s.heap.objs.size + 1) :: (us ++ ds)) := .cons rfl (r.append hd)
  have hl : (Value.ref (s.heap.objs.size + 1) :: us ++ ds).length = ps.length := by
    have e := r2.length
    rw [F.len _ _ _ _ hq] at e
    exact e.symm
  refine wpAny_call (make_map (f := f) I.kIn M.makes M.init (beq_iff_eq.mp M.fn) (codeAny_mono (F.run _ X.stack _ _ ⟨Value.ref (s.heap.objs.size + 1) :: us, []⟩ (Value.ref (s.heap.objs.size + 1) :: (us ++ ds)) _ _ E (hr.make C us [])
    (I2.env0.make C us []) (hb _ (Value.ref (s.heap.objs.size + 1) :: us) I2.kIn hl) r2 hq) fun r s' hq' => ?_))
  cases r with
  | error e => exact hx pins σ _ _ e s' I2 hq'
  | ok fl =>
    cases fl with
    | ret u =>
      obtain ⟨v, H', I3, rv, ev, q3⟩ := I2.after hq'
      subst ev
      exact ⟨rv, ⟨V.ref (s.heap.objs.size + 1), H', I3, rfl, q3⟩⟩
    | next => exact False.elim hq'
    | brk => exact False.elim hq'
    | cont => exact False.elim hq'
theorem pe_make (M : Mk X.K C f) (F : FnOk X.prog X.w X.K X.mg X.base CX k f fd ps sp) (hr : Room (k + 1) X.A) (hg : Gl X x) (hm : X.mg x = some (.ref C)) (hb : Binds X.K fd ps ds) (hd : Vals dvs ds) (hx : Passes CX X E)
    (ha : PA X (e :: es) t) (hdb : (x == ("__debug__" : Str)) = false := by decide) (he : starEach (e :: es) X.env = (false, eval e X.env) :: starEach es X.env := by rfl) (hpl : (backTo pos (starEach es X.env)).any (·.1) = false := by rfl) :
    PE X (.Call (.Name x p) (e :: es) [] pos) (tMake C sp dvs E t) := by
  intro pins s σ H Q I h
  refine wpAny_Call_Name_kw (ld_glob I hg hm ?_ hdb)
  refine PySem.W.callWith_K (h₀ := X.base) I.ok.mod.kin M.kp (thn (ha pos pins s σ H _ I h) fun us s1 ⟨vs, H1, I1, r, q⟩ => ⟨I1.kIn, ?_⟩) he hpl
  exact run_make M F hr hb hd hx I1 r q
end
section
variable {X : Cx} {CX : CXT} {k : Nat} {f C : Addr} {fd : FuncData} {ps ks : List Str} {sp : Sp} {E : XK} {x m : Str} {p pos apos kpos : Pos} {e o : Expr} {es : List Expr} {kws : List Keyword} {te ta : TE} {t tk : TA} {nm : Option Str}
variable {g : List Value -> List Value -> List Value} {gV : List V -> List V -> List V}
end
structure FnScope (N P : List Str) (sc : Scope) : Prop where
  kind : sc.kind = .function
  co : sc.isCoroutine = false
  gen : sc.isGenerator = false
  nd : N.Nodup
  pre : N.take P.length = P
  par : ∀ x ∈ P, sc.names.lookup x = some .local \/ sc.names.lookup x = some .cell
  nofree : ∀ y ∈ sc.names, y.2 ≠ .free
theorem bindL_out {kindOf : Str -> Option NameKind} {x : Str} : ∀ {binds : List (Str × Value)} {m : Str -> Option Value}, (∀ v, (x, v) ∉ binds) -> bindL kindOf binds m x = m x
  | [], _, _ => rfl
  | (n, v) :: r, m, h => by
    unfold bindL
    rw [bindL_out fun w hw => h w (List.mem_cons_of_mem _ hw)]
    split
    . have : x ≠ n := by rintro rfl; exact h v List.mem_cons_self
      simp [this]
    . rfl
theorem bindC_out {kindOf : Str -> Option NameKind} {x : Str} : ∀ {binds : List (Str × Value)} {m : Str -> Option Value}, (∀ v, (x, v) ∉ binds) -> bindC kindOf binds m x = m x
  | [], _, _ => rfl
  | (n, v) :: r, m, h => by
    unfold bindC
    rw [bindC_out fun w hw => h w (List.mem_cons_of_mem _ hw)]
    split
    . rfl
    . have : x ≠ n := by rintro rfl; exact h v List.mem_cons_self
      simp [this]
theorem bindL_get {kindOf : Str -> Option NameKind} {x : Str} {v : Value} : ∀ {P : List Str} {vs : List Value} {i : Nat} {m : Str -> Option Value}, P.Nodup -> P[i]? = some x -> vs[i]? = some v -> kindOf x = some .local ->
    bindL kindOf (P.zip vs) m x = some v
  | [], _, _, _, _, h, _, _ => by simp at h
  | _ :: _, [], _, _, _, _, h, _ => by simp at h
  | p :: P, w :: vs, 0, m, nd, h1, h2, hk => by
    simp at h1 h2; subst h1; subst h2
    show bindL kindOf ((p, w) :: P.zip vs) m p = _
    unfold bindL
    rw [bindL_out fun v hv => (List.nodup_cons.mp nd).1 (List.of_mem_zip hv).1, if_pos hk]
    simp
  | p :: P, w :: vs, i + 1, m, nd, h1, h2, hk => by
    show bindL kindOf ((p, w) :: P.zip vs) m x = _
    unfold bindL
    exact bindL_get (i := i) (List.nodup_cons.mp nd).2 (by simpa using h1) (by simpa using h2) hk
theorem bindC_get {kindOf : Str -> Option NameKind} {x : Str} {v : Value} : ∀ {P : List Str} {vs : List Value} {i : Nat} {m : Str -> Option Value}, P.Nodup -> P[i]? = some x -> vs[i]? = some v -> kindOf x ≠ some .local ->
    bindC kindOf (P.zip vs) m x = some v
  | [], _, _, _, _, h, _, _ => by simp at h
  | _ :: _, [], _, _, _, _, h, _ => by simp at h
  | p :: P, w :: vs, 0, m, nd, h1, h2, hk => by
    simp at h1 h2; subst h1; subst h2
    show bindC kindOf ((p, w) :: P.zip vs) m p = _
    unfold bindC
    rw [bindC_out fun v hv => (List.nodup_cons.mp nd).1 (List.of_mem_zip hv).1, if_neg hk]
    simp
  | p :: P, w :: vs, i + 1, m, nd, h1, h2, hk => by
    show bindC kindOf ((p, w) :: P.zip vs) m x = _
    unfold bindC
    exact bindC_get (i := i) (List.nodup_cons.mp nd).2 (by simpa using h1) (by simpa using h2) hk
def start (N : List Str) (vs : List V) : St := vs.map some ++ List.replicate (N.length - vs.length) none
def cxOf (CX : CXT) (P : Program) (w : World) (K : PySem.W.Frag) (mg : Str -> Option Value) (base : Heap) (N : List Str) (qual : Str) (scope : Scope) (f : Addr) (cd : Value) (A : Around) (outer : List Env) (s : Shared) (H : Hp) (E : XK) : Cx where
  prog := P
  w := w
  K := K
  mg := mg
  base := base
  A := A.deeper (envOfC qual scope s.heap.objs.size f cd)
  N := N
  s₀ := s
  H₀ := H
  env := envOfC qual scope s.heap.objs.size f cd
  outer := outer
  stack := envOfC qual scope s.heap.objs.size f cd :: outer
  ex := []
  calm := true
  fn := fun _ => true
  pn := []
  xe := fun e s' => wpAny (model P w) (A.deeper (envOfC qual scope s.heap.objs.size f cd)) (leaving (envOfC qual scope s.heap.objs.size f cd) e) (fun _ s'' => CX outer H s E e s'') (fun e' s'' => CX outer H s E e' s'') s'
theorem cell_has {sc : Scope} {n : Nat} {x : Str} (h : sc.names.lookup x = some .cell) : ∃ c, (cellsFrom n sc.names []).lookup x = some c := by
  have q := PySem.W.cellsFrom_some sc.names n [] (.inl h)
  exact Option.isSome_iff_exists.mp q
theorem inv_start {CX : CXT} {P : Program} {w : World} {K : PySem.W.Frag} {mg : Str -> Option Value} {base : Heap} {N ps : List Str} {qual : Str} {scope : Scope} {f : Addr} {cd : Value} {A : Around} {outer : List Env} {s s1 : Shared} {H : Hp} {E : XK} {us : List Value} {vs : List V}
    (S : FnScope N ps scope) (hd : A.handled = none) (e0 : Env0 P w K mg base A outer s H) (hl : vs.length = ps.length) (r : Vals vs us)
    (x : InCallC s s.heap.objs.size (bindL (envOfC qual scope s.heap.objs.size f cd).kindOf (ps.zip us) fun _ => none) (cellsFrom (s.heap.objs.size + 1) scope.names []) (bindC (envOfC qual scope s.heap.objs.size f cd).kindOf (ps.zip us) fun _ => none) s1) :
    Inv (cxOf CX P w K mg base N qual scope f cd A outer s H E) [] (start N vs) H s1 := by
  have hpl : ps.length <= N.length := by have := congrArg List.length S.pre; rw [List.length_take] at this; omega
  obtain ⟨h1, tk, rfl, hk⟩ := x.done
  have noA : ∀ b : Addr, b ∉ (cxOf CX P w K mg base N qual scope f cd A outer s H E).ex := fun b z => absurd (show b ∈ ([] : List Addr) from z) (by simp)
  refine ⟨⟨e0.mod, S.kind, rfl, rfl, Nat.le_refl _, fun y z c h1 h2 => ?_, fun y hy => ?_, fun y c _ h => ?_, fun _ => hd, Around.frames_deeper e0.frames, .inr ⟨rfl, rfl⟩, fun b z => absurd z (noA b), e0.bs, e0.bsz, fun b _ _ => noA b, fun b z => absurd z (noA b), e0.funs, e0.frf⟩,
    rfl, e0.bare, Un.kept hk, ⟨_, x.toInCall.ns, fun i y v h1 h2 h3 => ?_⟩, fun y c h => ⟨_, x.cell y c h⟩, e0.hok.fresh (Nat.le_refl _), fun y c h => ?_, fun p hp => absurd (show p ∈ ([] : List (Addr × Obj)) from hp) (by simp), e0.hok.kept hk, ?_⟩
  . exact name_of_addr x.apart (PySem.mem_of_lookup h1) (PySem.mem_of_lookup h2)
  . have hy : scope.names.lookup y = some .cell \/ scope.names.lookup y = some .free := hy
    rcases hy with hy | hy
    . exact cell_has hy
    . exact absurd rfl (S.nofree _ (PySem.mem_of_lookup hy))
  . exact Nat.le_of_lt (x.above y c (PySem.mem_of_lookup h))
  . have hi : i < vs.length := by
      unfold start at h2
      by_cases hi : i < vs.length
      . exact hi
      . rw [List.getElem?_append_right (by simpa using hi)] at h2
        rw [List.getElem?_replicate] at h2
        split at h2 <;> cases h2
    have ha : vs[i]? = some v := by
      unfold start at h2
      rw [List.getElem?_append_left (by simpa using hi), List.getElem?_map] at h2
      cases e : vs[i]? with
      | none => rw [e] at h2; cases h2
      | some a => rw [e] at h2; cases h2; rfl
    obtain ⟨u, hu, rv⟩ := r.get ha
    have hp : ps[i]? = some y := by
      rw [<- S.pre, List.getElem?_take_of_lt (by omega)]; exact h1
    have ndP : ps.Nodup := by rw [<- S.pre]; exact S.nd.sublist (List.take_sublist _ _)
    refine ⟨u, rv, ?_⟩
    rcases S.par y (List.mem_of_getElem? hp) with k | k
    . exact .inl ⟨k, bindL_get ndP hp hu k⟩
    . obtain ⟨c, e⟩ := cell_has (n := s.heap.objs.size + 1) k
      refine .inr ⟨.inl k, c, e, ?_⟩
      have q := x.cell y c e
      rw [bindC_get ndP hp hu (by show scope.names.lookup y ≠ _; rw [k]; decide)] at q
      exact q
  . exact e0.hok.fresh (Nat.le_of_lt (x.above y c (PySem.mem_of_lookup h)))
  . unfold start
    show _ = N.length
    rw [List.length_append, List.length_map, List.length_replicate]
    omega
theorem fn_of {CX : CXT} {P : Program} {w : World} {K : PySem.W.Frag} {mg : Str -> Option Value} {base : Heap} {k : Nat} {f : Addr} {name qual : Str} {params : Arguments} {body : List Stmt} {scope : Scope} {dV kV doc pm cdv ct oc : Value} {an od : Option Addr}
    {osl : Array (Option Value)} {N ps : List Str} {sp : Sp} (lk : K.lookup f = some ⟨oc, od, .func (PySem.W.fnOf name qual params body scope dV kV doc pm an cdv ct), osl⟩) (hcd : PySem.W.codeIn K cdv qual = true) (S : FnScope N ps scope)
    (len : ∀ vs H Q E, sp vs H Q E -> vs.length = ps.length)
    (hbody : ∀ (A : Around) (outer : List Env) (s : Shared) (H : Hp) (vs : List V) (Q : VK) (E : XK), Room k (A.deeper (envOfC qual scope s.heap.objs.size f cdv)) -> sp vs H Q E ->
      ∃ t, PSs (cxOf CX P w K mg base N qual scope f cdv A outer s H E) body t /\ t { nx := fun _ H' => Q .non H', rt := Q } (start N vs) H) :
    FnOk P w K mg base CX (k + 1) f (PySem.W.fnOf name qual params body scope dV kV doc pm an cdv ct) ps sp := by
  refine ⟨len, fun A outer s H args us vs Q E hr e0 hb r hsp => ?_⟩
  have hl := len _ _ _ _ hsp
  have KX : K.In s.heap := e0.mod.kin.keeps fun b o e => (e0.bs b o e).1
  have lim : s.heap.NoLimit := e0.mod.nolimit.keeps fun b o e => (e0.bs b o e).1
  have hkind : ∀ y ∈ ps.zip us, scope.names.lookup y.1 = some .local \/ (scope.names.lookup y.1 = some .cell /\ ((cellsFrom (s.heap.objs.size + 1) scope.names []).lookup y.1).isSome = true) := fun ⟨n, v⟩ hy => by
    rcases S.par n (List.of_mem_zip hy).1 with q | q
    . exact .inl q
    . exact .inr ⟨q, PySem.W.cellsFrom_some _ _ _ (.inl q)⟩
  refine codeAny_call_function hr.depth (KX _ _ lk) rfl S.co S.gen rfl (PySem.W.codeRec_of KX hcd) (hb _ _ _ _ ?_)
  refine wpAny_newFunctionEnv_cells S.kind hkind fun env he s1 x => ?_
  subst he
  refine ⟨lim.keeps x.toInCall.keep, codeAny_func ?_⟩
  obtain ⟨t, ht, hq⟩ := hbody A outer s H vs Q E (hr.deeper _) hsp
  have I : Inv (cxOf CX P w K mg base N qual scope f cdv A outer s H E) [] (start N vs) H s1 := inv_start S hr.hd e0 hl r x
  refine wpAny_mono (ht [] s1 (start N vs) H _ I hq) (fun fl s' hs => ?_) fun e s' hs => hs
  have fin : ∀ {σ' : St} {H' : Hp} {v : V} {u : Value}, Inv (cxOf CX P w K mg base N qual scope f cdv A outer s H E) [] σ' H' s' -> RelV v u -> Q v H' -> CE outer P w H s Q u s' :=
    fun {σ' H' v u} J rv q => ⟨v, H', J.os, J.bare, J.base, J.hok, rv, q⟩
  cases fl with
  | ret u =>
    obtain ⟨v, σ', H', J, rv, q⟩ := hs
    exact fin J rv q
  | next =>
    obtain ⟨σ', H', J, q⟩ := hs
    exact fin (v := V.non) (u := Value.none) J rfl q
  | brk =>
    obtain ⟨_, _, _, q⟩ := hs
    exact False.elim q
  | cont =>
    obtain ⟨_, _, _, q⟩ := hs
    exact False.elim q
end L2
namespace L2
open PySem PySem.Spec PyProof.Rows
section
variable {X : Cx} {x : Str} {p pos : Pos} {e : Expr} {es : List Expr} {t : TA} {id T : String} {r : List V -> Hp -> VK -> Prop}
def tCB (r : List V -> Hp -> VK -> Prop) (t : TA) : TE := fun σ H Q => t σ H fun vs H1 => r vs H1 Q
theorem pe_callB (hc : CallR X (.builtin id) r) (hg : Gl X x) (hm : X.mg x = none) (hv : bootBuiltins x = some (.builtin id)) (ha : PA X (e :: es) t) (hn : x ≠ "__name__" := by decide) (hdb : (x == ("__debug__" : Str)) = false := by decide)
    (he : starEach (e :: es) X.env = (false, eval e X.env) :: starEach es X.env := by rfl) (hpl : (backTo pos (starEach es X.env)).any (·.1) = false := by rfl) : PE X (.Call (.Name x p) (e :: es) [] pos) (tCB r t) := by
  intro pins s σ H Q I h
  refine wpAny_Call_Name_kw (ld_blt I hg hm hv ?_ hn hdb)
  exact PyProof.Rows.callWith_builtin1 (thn (ha pos pins s σ H _ I h) fun us s1 ⟨vs, H1, I1, r1, q1⟩ => hc pins s1 σ H1 vs us Q I1 r1 q1) he hpl
theorem pe_callTy (hc : CallR X (.type T) r) (hg : Gl X x) (hm : X.mg x = none) (hv : bootBuiltins x = some (.type T)) (ha : PA X (e :: es) t) (hn : x ≠ "__name__" := by decide) (hdb : (x == ("__debug__" : Str)) = false := by decide)
    (he : starEach (e :: es) X.env = (false, eval e X.env) :: starEach es X.env := by rfl) (hpl : (backTo pos (starEach es X.env)).any (·.1) = false := by rfl) : PE X (.Call (.Name x p) (e :: es) [] pos) (tCB r t) := by
  intro pins s σ H Q I h
  refine wpAny_Call_Name_kw (ld_blt I hg hm hv ?_ hn hdb)
  exact PyProof.Rows.callWith_type1 (thn (ha pos pins s σ H _ I h) fun us s1 ⟨vs, H1, I1, r1, q1⟩ => hc pins s1 σ H1 vs us Q I1 r1 q1) he hpl
end
end L2
namespace HT
open PySem PyProof.Rows
section
open PySem.SeqAt
open PySem.AutoSeq1 (wpAny_loadPart')
open PySem.MeetsSeq PySem.MeetsSeq2 PySem.MeetsSeq3
end
section
variable {prog : Program} {w : World} {A : Around} {E : Value -> Shared -> Prop} {s : Shared}
theorem cat_tup {t b : Addr} {vs ws : List Value} {Q : Value -> Shared -> Prop} (ht : IsTup s.heap t vs.toArray) (hb : IsTup s.heap b ws.toArray) (hv : vs ≠ [])
    (h1 : ws = [] -> Q (.ref t) s) (h2 : ws ≠ [] -> Q (.ref s.heap.objs.size) { s with heap := s.heap.push { cls := .type "tuple", data := .seq (vs ++ ws).toArray } })
    (hsz : vs.length + ws.length <= sizeLine) : wpAny (model prog w) A (binaryOp .Add (.ref t) (.ref b)) Q E s := by
  obtain ⟨⟨cls, dd, data, sl⟩, ho, hc, n, hd⟩ := id ht
  obtain ⟨⟨cls2, dd2, data2, sl2⟩, ho2, hc2, n2, hd2⟩ := id hb
  simp only at hc hd hc2 hd2
  subst hc hd hc2 hd2
  have e : vs.toArray ++ ws.toArray = (vs ++ ws).toArray := by simp
  by_cases hw : ws = []
  . exact concat_meets ⟨_, ho, rfl⟩ ⟨_, ho2, rfl⟩ noFill_tuple_add seq_tuple_add PySem.F.slot_tuple_add PySem.F.entry_tuple_add (PySem.F.args_tuple_add_2 _ _)
      (tuple_addW1 t b vs.toArray ws.toArray n n2 dd dd2 sl sl2 (by simpa using hv) (by simp [hw])) ⟨ho, ho2, h1 hw⟩
  . refine concat_meets ⟨_, ho, rfl⟩ ⟨_, ho2, rfl⟩ noFill_tuple_add seq_tuple_add PySem.F.slot_tuple_add PySem.F.entry_tuple_add (PySem.F.args_tuple_add_2 _ _)
      (tuple_addW2 t b vs.toArray ws.toArray n n2 dd dd2 sl sl2 (by simpa using hv) (by simpa using hw) (by rw [List.size_toArray, List.size_toArray]; exact hsz)) ⟨ho, ho2, ?_⟩
    rw [e]
    exact h2 hw
def sIx (n d : Nat) : Option Int -> Nat
  | none => d
  | some v => if v < 0 then (v + (n : Int)).toNat else min v.toNat n
theorem sIx_none (n d : Nat) : sIx n d none = d := rfl
theorem sIx_nat (n d k : Nat) : sIx n d (some (k : Int)) = min k n := by
  show (if (k : Int) < 0 then ((k : Int) + (n : Int)).toNat else min (k : Int).toNat n) = min k n
  rw [if_neg (by omega), Int.toNat_natCast]
end
end HT
namespace L2
open PySem PySem.Spec PyProof.Rows
abbrev TO := St -> Hp -> (Option Int -> Hp -> Prop) -> Prop
def PO (X : Cx) (e : Option Expr) (t : TO) : Prop :=
  ∀ (pins : List (Addr × Obj)) (s : Shared) (σ : St) (H : Hp) (Q : Option Int -> Hp -> Prop), Inv X pins σ H s -> t σ H Q ->
    wpAny (model X.prog X.w) X.A (evalPart e X.env) (fun u s' => ∃ o H', Inv X pins σ H' s' /\ IsPart u o /\ Q o H') X.xe s
def tNoPart : TO := fun _ H Q => Q none H
def tPart (t : TE) : TO := fun σ H Q => t σ H fun x H1 => ∃ i, x = .int i /\ Q (some i) H1
section
variable {X : Cx} {e : Expr} {te : TE} {lo hi : Option Expr} {tl th : TO} {pos p2 : Pos}
theorem po_none : PO X none tNoPart := by
  intro pins s σ H Q I h
  rw [evalPart_none]
  exact wpAny_pure ⟨none, H, I, .none, h⟩
theorem po_some (h : PE X e te) : PO X (some e) (tPart te) := by
  intro pins s σ H Q I hw
  rw [evalPart_some]
  refine thn (h pins s σ H _ I hw) fun u s1 ⟨x, H1, I1, r1, q1⟩ => ?_
  obtain ⟨i, rfl, q⟩ := q1
  obtain ⟨t, rfl⟩ := r1
  exact ⟨some i, H1, I1, .int i t, q⟩
def SlR (X : Cx) (r : V -> Option Int -> Option Int -> Hp -> VK -> Prop) : Prop :=
  ∀ (pins : List (Addr × Obj)) (s : Shared) (σ : St) (H : Hp) (x : V) (v vl vu : Value) (lo hi : Option Int) (sl : Addr) (Q : VK), Inv X pins σ H s -> RelV x v -> s.heap.IsSliceOf sl vl vu .none -> IsPart vl lo -> IsPart vu hi -> r x lo hi H Q ->
    ∃ T id, typeLookup (.type T) "__getitem__" = pure (some (.builtin id)) /\ s.TypeIs v T /\ wpAny (model X.prog X.w) X.A (getItem v (.ref sl)) (EP X pins σ Q) X.xe s
def tSl (r : V -> Option Int -> Option Int -> Hp -> VK -> Prop) (te : TE) (tl th : TO) : TE := fun σ H Q => te σ H fun x H1 => tl σ H1 fun l H2 => th σ H2 fun u H3 => r x l u H3 Q
theorem pe_slice {r : V -> Option Int -> Option Int -> Hp -> VK -> Prop} (hr : SlR X r) (he : PE X e te) (hl : PO X lo tl) (hu : PO X hi th) : PE X (.Subscript e (.Slice lo hi none p2) pos) (tSl r te tl th) := by
  intro pins s σ H Q I h
  refine Subscript_ (thn (he pins s σ H _ I h) fun v s1 ⟨x, H1, I1, r1, q1⟩ => ?_)
  refine wpAny_Slice (thn (hl pins s1 σ H1 _ I1 q1) fun vl s2 ⟨l, H2, I2, pl, q2⟩ => thn (hu pins s2 σ H2 _ I2 q2) fun vu s3 ⟨u, H3, I3, pu, q3⟩ => ?_)
  rw [evalPart_none]
  refine wpAny_pure ?_
  have I4 : Inv X pins σ H3 { s3 with heap := s3.heap.push { cls := .type "slice", data := .fields #[vl, vu, .none] } } := I3.kept (t' := s3.toks) fun b ob q => Heap.get?_push_of_some _ q
  obtain ⟨T, id, hT, ht, hg⟩ := hr pins { s3 with heap := s3.heap.push { cls := .type "slice", data := .fields #[vl, vu, .none] } } σ H3 x v vl vu l u s3.heap.objs.size Q I4 r1 (Heap.IsSliceOf.new ..) pl pu q3
  show wpAny (model X.prog X.w) X.A (subscriptTail e (.Slice lo hi none p2) v (.ref s3.heap.objs.size)) (EP X pins σ Q) X.xe { s3 with heap := s3.heap.push { cls := .type "slice", data := .fields #[vl, vu, .none] } }
  exact tail_any (ops := [.ref s3.heap.objs.size, v]) ht hT hg (by with_unfolding_all rfl)
def cutV (xs : List V) (lo hi : Option Int) : List V := (xs.drop (HT.sIx xs.length 0 lo)).take (HT.sIx xs.length xs.length hi - HT.sIx xs.length 0 lo)
theorem cutV_length (xs : List V) (lo hi : Option Int) : (cutV xs lo hi).length <= xs.length := by
  unfold cutV
  rw [List.length_take, List.length_drop]
  omega
def rCatT (K : PySem.W.Frag) : R2 := fun x y H Q => ∃ a b xs ys, x = .ref a /\ y = .ref b /\ SqT K H a xs /\ SqT K H b ys /\ xs ≠ [] /\ xs.length + ys.length <= sizeLine /\
  (ys = [] -> Q (.ref a) H) /\ (ys ≠ [] -> ∀ p, H p = none -> Q (.ref p) (upd H p (.tup (xs ++ ys))))
theorem Vals.nil_iff {xs : List V} {us : List Value} (r : Vals xs us) : us = [] ↔ xs = [] := by
  cases r with
  | nil => simp
  | cons _ _ => simp
theorem op_catT : OpR X (binaryOp .Add) (rCatT X.K) := by
  intro pins s σ H x y v u Q I rx ry h
  obtain ⟨a, b, xs, ys, rfl, rfl, ha, hb, hx, hz, q1, q2⟩ := h
  cases rx
  cases ry
  obtain ⟨its, r1, p1, _⟩ := I.tuple ha
  obtain ⟨its2, r2, p2, _⟩ := I.tuple hb
  refine HT.cat_tup p1 p2 (fun z => hx (r1.nil_iff.mp z)) (fun z => ⟨.ref a, H, I, rfl, q1 (r2.nil_iff.mp z)⟩) (fun z => ?_) (by rw [<- r1.length, <- r2.length]; exact hz)
  refine ⟨.ref s.heap.objs.size, _, I.laid (t' := s.toks) (o := .tup (xs ++ ys)) (fun b ob q => Heap.get?_push_of_some _ q) (Nat.le_refl _) ?_, rfl, q2 (fun w => z (r2.nil_iff.mpr w)) _ (I.hok.fresh (Nat.le_refl _))⟩
  exact ⟨by rw [List.length_append]; exact hz, _, r1.append r2, IsTup.new _ _⟩
end
end L2
namespace L2
open PySem PySem.Spec PyProof.Rows
def ixN (n : Nat) (i : Int) : Option Nat := if 0 <= i then (if i < n then some i.toNat else none) else if -(n : Int) <= i then some (i + n).toNat else none
def atI {α : Type} (xs : List α) (i : Int) : Option α := (ixN xs.length i).bind fun j => xs[j]?
theorem ixN_seq {n : Nat} {i : Int} {j : Nat} (h : ixN n i = some j) : seqIndex? i n = some j /\ j < n /\ -(n : Int) <= i /\ i < n := by
  unfold ixN at h
  by_cases h0 : 0 <= i
  . rw [if_pos h0] at h
    by_cases h1 : i < n
    . rw [if_pos h1] at h
      have e : i.toNat = j := Option.some.inj h
      exact ⟨by rw [seqIndex_of h0 h1, e], by omega, by omega, h1⟩
    . rw [if_neg h1] at h; cases h
  . rw [if_neg h0] at h
    by_cases h1 : -(n : Int) <= i
    . rw [if_pos h1] at h
      have e : (i + n).toNat = j := Option.some.inj h
      exact ⟨by rw [seqIndex_neg (by omega) h1, e], by omega, h1, by omega⟩
    . rw [if_neg h1] at h; cases h
theorem atI_get {α : Type} {xs : List α} {i : Int} {v : α} (h : atI xs i = some v) : ∃ j, seqIndex? i xs.length = some j /\ xs[j]? = some v /\ j < xs.length /\ -(xs.length : Int) <= i /\ i < xs.length := by
  unfold atI at h
  cases e : ixN xs.length i with
  | none => rw [e] at h; cases h
  | some j =>
    rw [e] at h
    obtain ⟨h1, h2, h3, h4⟩ := ixN_seq e
    exact ⟨j, h1, h, h2, h3, h4⟩
theorem atI_nat {α : Type} {xs : List α} {j : Nat} {v : α} (h : xs[j]? = some v) : atI xs (j : Int) = some v := by
  have hj : j < xs.length := (List.getElem?_eq_some_iff.mp h).1
  have e : ixN xs.length (j : Int) = some j := by
    unfold ixN
    rw [if_pos (by omega), if_pos (by omega)]; simp
  unfold atI; rw [e]; exact h
def PlainIx (b : Expr) : Prop := ∀ o i, subscripted b false o i = operate [o, i] (getItem o i)
def IxR (X : Cx) (r : R2) : Prop :=
  ∀ (value slice : Expr) (pins : List (Addr × Obj)) (s : Shared) (σ : St) (H : Hp) (x y : V) (v u : Value) (Q : VK), Inv X pins σ H s -> RelV x v -> RelV y u -> r x y H Q ->
    subscripted slice false v u = operate [v, u] (getItem v u) -> wpAny (model X.prog X.w) X.A (subscriptTail value slice v u) (EP X pins σ Q) X.xe s
def MtR (X : Cx) (id : String) (r : V -> List V -> Hp -> VK -> Prop) : Prop :=
  ∀ (pins : List (Addr × Obj)) (s : Shared) (σ : St) (H : Hp) (x : V) (xs : List V) (v : Value) (us : List Value) (Q : VK), Inv X pins σ H s -> RelV x v -> Vals xs us -> r x xs H Q ->
    wpAny (model X.prog X.w) X.A (call (.builtin id) (v :: us)) (EP X pins σ Q) X.xe s
section
variable {X : Cx} {a b : Expr} {ta tb : TE} {pos : Pos}
theorem pe_ix {r : R2} (hr : IxR X r) (ha : PE X a ta) (hb : PE X b tb) (hs : PlainIx b) : PE X (.Subscript a b pos) (tOp r ta tb) := by
  intro pins s σ H Q I h
  exact Subscript_ (binT ha hb I h fun v u s2 x y H2 I2 rx ry q => hr a b pins s2 σ H2 x y v u Q I2 rx ry q (hs _ _))
def rIxL (K : PySem.W.Frag) : R2 := fun x y H Q => ∃ p xs i v, x = .ref p /\ y = .int i /\ SqL K H p xs /\ atI xs i = some v /\ Q v H
def rIxT (K : PySem.W.Frag) : R2 := fun x y H Q => ∃ p xs i v, x = .ref p /\ y = .int i /\ SqT K H p xs /\ atI xs i = some v /\ Q v H
theorem ix_list : IxR X (rIxL X.K) := by
  intro value slice pins s σ H x y v u Q I rx ry h hs
  obtain ⟨p, xs, i, z, rfl, rfl, hq, he, q⟩ := h
  cases rx
  obtain ⟨t, rfl⟩ := ry
  obtain ⟨its, r, pl, hz⟩ := I.list hq
  obtain ⟨j, h1, h2, h3, h4, h5⟩ := atI_get he
  obtain ⟨w, ew, rw'⟩ := r.get h2
  have hl := r.length
  have hn := line63
  have fin : EP X pins σ Q w s := ⟨z, H, I, rw', q⟩
  by_cases h0 : 0 <= i
  . have hj : i.toNat = j := by
      rw [seqIndex_of h0 h5] at h1
      exact Option.some.inj h1
    exact item_listR pl.isList h0 (by omega) (by rw [hj]; simpa using ew) fin hs
  . have hj : (i + (its.toArray.size : Int)).toNat = j := by
      rw [seqIndex_neg (by omega) h4] at h1
      rw [List.size_toArray, <- hl]
      exact Option.some.inj h1
    exact subscriptTail_builtinR (x := w) pl.isList.typeIs slot_list_getitem.lookup
      (wpAny_getItem_list_neg (Q := fun r s' => r = w /\ EP X pins σ Q r s') pl.isList (by omega) (by rw [List.size_toArray] <;> omega) (by omega) (by rw [hj]; simpa using ew) ⟨rfl, fin⟩) hs
theorem ix_tup : IxR X (rIxT X.K) := by
  intro value slice pins s σ H x y v u Q I rx ry h hs
  obtain ⟨p, xs, i, z, rfl, rfl, hq, he, q⟩ := h
  cases rx
  obtain ⟨t, rfl⟩ := ry
  obtain ⟨its, r, pl, hz⟩ := I.tuple hq
  obtain ⟨j, h1, h2, h3, h4, h5⟩ := atI_get he
  obtain ⟨w, ew, rw'⟩ := r.get h2
  have hl := r.length
  have hn := line63
  have fin : EP X pins σ Q w s := ⟨z, H, I, rw', q⟩
  exact subscriptTail_builtinR (x := w) pl.typeIs slot_tuple_getitem.lookup
    (getItem_tuple (j := j) (Q := fun r s' => r = w /\ EP X pins σ Q r s') pl (by omega) (by omega) (by rw [List.size_toArray, <- hl]; exact h1) (by simpa using ew) ⟨rfl, fin⟩) hs
theorem slice_bounds (lo hi : Option Int) (n : Nat) : (sliceBounds lo hi none n).1 = ((HT.sIx n 0 lo : Nat) : Int) /\ (sliceBounds lo hi none n).2.1 = ((HT.sIx n n hi : Nat) : Int) /\ (sliceBounds lo hi none n).2.2 = 1 := by
  refine ⟨?_, ?_, rfl⟩
  . cases lo with
    | none => simp [sliceBounds, HT.sIx]
    | some i =>
      simp only [sliceBounds, HT.sIx, Option.getD_none, show (1 : Int) > 0 by decide, if_true]
      by_cases h : i < 0
      . simp only [h, if_true] <;> omega
      . simp only [h, if_false] <;> omega
  . cases hi with
    | none => simp [sliceBounds, HT.sIx]
    | some i =>
      simp only [sliceBounds, HT.sIx, Option.getD_none, show (1 : Int) > 0 by decide, if_true]
      by_cases h : i < 0
      . simp only [h, if_true] <;> omega
      . simp only [h, if_false] <;> omega
theorem slicePick_cut (its : List Value) (lo hi : Option Int) : slicePick its.toArray lo hi none = ((its.drop (HT.sIx its.length 0 lo)).take (HT.sIx its.length its.length hi - HT.sIx its.length 0 lo)).toArray := by
  obtain ⟨h1, h2, h3⟩ := slice_bounds lo hi its.toArray.size
  unfold slicePick
  rw [h1, h2, h3]
  simp only [sliceRange_one, pick_run, List.size_toArray] <;> rfl
def rSlL (K : PySem.W.Frag) : V -> Option Int -> Option Int -> Hp -> VK -> Prop := fun x lo hi H Q => ∃ a xs, x = .ref a /\ SqL K H a xs /\ ∀ p, H p = none -> Q (.ref p) (upd H p (.lst (cutV xs lo hi)))
theorem sl_list : SlR X (rSlL X.K) := by
  intro pins s σ H x v vl vu lo hi sl Q I rx hs pl pu h
  obtain ⟨a, xs, rfl, hx, q⟩ := h
  cases rx
  obtain ⟨its, r, ht, hz⟩ := I.list hx
  have hlen := r.length
  refine ⟨"list", _, slot_list_getitem.lookup, ht.isList.typeIs, ?_⟩
  refine wpAny_getItem_list_slice ht.isList hs pl pu .none (by simp) ?_ (by rw [List.size_toArray] <;> omega)
  rw [slicePick_cut, <- hlen]
  refine ⟨.ref s.heap.objs.size, _, I.laid (t' := s.toks) (o := .lst (cutV xs lo hi)) (fun b ob q => Heap.get?_push_of_some _ q) (Nat.le_refl _) ?_, rfl, q _ (I.hok.fresh (Nat.le_refl _))⟩
  exact ⟨Nat.le_trans (cutV_length xs lo hi) hz, _, 0, (r.drop (HT.sIx xs.length 0 lo)).take (HT.sIx xs.length xs.length hi - HT.sIx xs.length 0 lo), Heap.get?_push_size _ rfl⟩
def flatV : V -> Bool
  | .non => true
  | .bl _ => true
  | .int _ => true
  | .str _ => true
  | _ => false
def eqV : V -> V -> Bool
  | .non, .non => true
  | .bl a, .bl b => a == b
  | .bl a, .int b => (if a then 1 else 0) == b
  | .int a, .bl b => a == (if b then 1 else 0)
  | .int a, .int b => a == b
  | .str a, .str b => a == b
  | _, _ => false
theorem eqAt_V {A : Around} {s : Shared} {y x : V} {u v : Value} (ry : RelV y u) (rx : RelV x v) (fy : flatV y = true) (fx : flatV x = true) : SeqAt.EqAt A s u v (eqV y x) := by
  cases y with
  | non =>
    cases ry
    cases x with
    | non => cases rx; exact SeqAt.EqAt.same _
    | bl b => cases rx; exact SeqAt.EqAt.none_bool b
    | int b => obtain ⟨t, rfl⟩ := rx; exact SeqAt.EqAt.none_int b t
    | str b => obtain ⟨t, rfl⟩ := rx; exact SeqAt.EqAt.none_str b t
    | _ => exact absurd (show false = true from fx) Bool.false_ne_true
  | bl a =>
    cases ry
    cases x with
    | non => cases rx; exact SeqAt.EqAt.bool_none a
    | bl b => cases rx; exact SeqAt.EqAt.bool_bool a b
    | int b => obtain ⟨t, rfl⟩ := rx; exact SeqAt.EqAt.bool_int a b t
    | str b => obtain ⟨t, rfl⟩ := rx; exact SeqAt.EqAt.bool_str a b t
    | _ => exact absurd (show false = true from fx) Bool.false_ne_true
  | int a =>
    obtain ⟨t', rfl⟩ := ry
    cases x with
    | non => cases rx; exact SeqAt.EqAt.int_none a t'
    | bl b => cases rx; exact SeqAt.EqAt.int_bool a t' b
    | int b => obtain ⟨t, rfl⟩ := rx; exact SeqAt.EqAt.int_int a t' b t
    | str b => obtain ⟨t, rfl⟩ := rx; exact SeqAt.EqAt.int_str a t' b t
    | _ => exact absurd (show false = true from fx) Bool.false_ne_true
  | str a =>
    obtain ⟨t', rfl⟩ := ry
    cases x with
    | non => cases rx; exact SeqAt.EqAt.str_none a t'
    | bl b => cases rx; exact SeqAt.EqAt.str_bool a t' b
    | int b => obtain ⟨t, rfl⟩ := rx; exact SeqAt.EqAt.str_int a t' b t
    | str b => obtain ⟨t, rfl⟩ := rx; exact SeqAt.EqAt.str_str a t' b t
    | _ => exact absurd (show false = true from fx) Bool.false_ne_true
  | _ => exact absurd (show false = true from fy) Bool.false_ne_true
theorem call_len_seq : CallR X (.builtin "len") (fun xs H Q => ∃ p ys, xs = [.ref p] /\ (SqL X.K H p ys \/ SqT X.K H p ys) /\ Q (.int ys.length) H) := by
  intro pins s σ H xs us Q I r h
  obtain ⟨p, ys, rfl, hq, q⟩ := h
  obtain ⟨u, rfl, rx⟩ := vals1 r
  cases rx
  have hn := line63
  rcases hq with hq | hq
  . obtain ⟨its, r', pl, hz⟩ := I.list hq
    have hlen := r'.length
    exact Calls.call_len_list pl.isList (by simp only [List.size_toArray] <;> omega) ⟨.int ys.length, H, I.tok _, ⟨s.toks + 1, by rw [List.size_toArray, hlen]⟩, q⟩
  . obtain ⟨its, r', pl, hz⟩ := I.tuple hq
    have hlen := r'.length
    exact len_tuple pl (by simp only [List.size_toArray] <;> omega) ⟨.int ys.length, H, I.tok _, ⟨s.toks + 1, by rw [List.size_toArray, hlen]⟩, q⟩
theorem call_tuple_of : CallR X (.type "tuple") (fun xs H Q => ∃ p ys, xs = [.ref p] /\ ((SqL X.K H p ys /\ ∀ l, H l = none -> Q (.ref l) (upd H l (.tup ys))) \/ (SqT X.K H p ys /\ Q (.ref p) H))) := by
  intro pins s σ H xs us Q I r h
  obtain ⟨p, ys, rfl, h⟩ := h
  obtain ⟨u, rfl, rx⟩ := vals1 r
  cases rx
  rcases h with ⟨hq, q⟩ | ⟨hq, q⟩
  . obtain ⟨its, r', pl, hz⟩ := I.list hq
    have hlen := r'.length
    refine call_tuple_list pl.isList (fun h' kp => ?_) (by simp only [List.size_toArray] <;> omega)
    have I1 : Inv X pins σ H { s with heap := h' } := I.kept (t' := s.toks) kp
    have I2 : Inv X pins σ (upd H h'.objs.size (.tup ys)) { s with heap := h'.push { cls := .type "tuple", data := .seq its.toArray } } :=
      I1.laid (t' := s.toks) (fun b o e => Heap.get?_push_of_some _ e) (Nat.le_refl _) (show ObjOk X.prog X.w _ _ _ (.tup ys) from ⟨hz, its, r', IsTup.new _ _⟩)
    exact ⟨.ref h'.objs.size, _, I2, rfl, q _ (I1.hok.fresh (Nat.le_refl _))⟩
  . obtain ⟨its, r', pl, hz⟩ := I.tuple hq
    exact call_tuple_same pl ⟨.ref p, H, I, rfl, q⟩
def tyV (K : PySem.W.Frag) (T : String) (x : V) (H : Hp) : Prop := match x with
  | .str _ => T = "str"
  | .int _ => T = "int"
  | .ref p => (T = "list" /\ ∃ xs, SqL K H p xs) \/ (T = "tuple" /\ ∃ o, K.lookup p = some o /\ o.cls = .type "tuple" /\ o.dict = none) \/
      (T = "dict" /\ ((∃ kvs, H p = some (.dK kvs)) \/ ∃ kvs, H p = some (.dT kvs))) \/ (T = "set" /\ ∃ S n, H p = some (.set S n))
  | _ => False
theorem tyV_is {pins : List (Addr × Obj)} {σ : St} {H : Hp} {s : Shared} {T : String} {x : V} {v : Value} (I : Inv X pins σ H s) (r : RelV x v) (ty : tyV X.K T x H) :
    s.TypeIs v T /\ ∀ a, v = .ref a -> ∃ ob, s.heap.get? a = some ob /\ ob.dict = none := by
  cases x with
  | str z =>
    obtain ⟨t, rfl⟩ := r
    cases (show T = "str" from ty)
    exact ⟨typeIs_str s z t, fun _ e => nomatch e⟩
  | int i =>
    obtain ⟨t, rfl⟩ := r
    cases (show T = "int" from ty)
    exact ⟨typeIs_int s i t, fun _ e => nomatch e⟩
  | ref p =>
    cases r
    rcases ty with ⟨rfl, xs, hq⟩ | ⟨rfl, o, hk, hc, hd⟩ | ⟨rfl, hk⟩ | ⟨rfl, S, n, hk⟩
    . obtain ⟨its, _, pl, _⟩ := I.list hq
      refine ⟨pl.isList.typeIs, fun a e => ?_⟩
      cases e
      obtain ⟨o, n, e, c, hd, _⟩ := pl
      exact ⟨o, e, hd⟩
    . refine ⟨⟨o, I.kIn p o hk, hc⟩, fun a e => ?_⟩
      cases e
      exact ⟨o, I.kIn _ o hk, hd⟩
    . have z : ∃ o, s.heap.get? p = some o /\ o.ExactDict := by
        rcases hk with ⟨kvs, hk⟩ | ⟨kvs, hk⟩
        . obtain ⟨_, _, _, _, o, _, _, e, ex, _⟩ := I.hok p _ hk
          exact ⟨o, e, ex⟩
        . obtain ⟨_, _, _, _, o, _, _, e, ex, _⟩ := I.hok p _ hk
          exact ⟨o, e, ex⟩
      obtain ⟨o, e, ex⟩ := z
      refine ⟨⟨o, e, ex.1⟩, fun a e2 => ?_⟩
      cases e2
      exact ⟨o, e, ex.2.1⟩
    . obtain ⟨o, _, _, _, e, ex, _⟩ := I.hok p _ hk
      refine ⟨⟨o, e, ex.1⟩, fun a e2 => ?_⟩
      cases e2
      exact ⟨o, e, ex.2.1⟩
  | _ => exact False.elim ty
def tBM (K : PySem.W.Frag) (T : String) (r : V -> List V -> Hp -> VK -> Prop) (to : TE) (t : TA) : TE := fun σ H Q => to σ H fun x H1 => tyV K T x H1 /\ t σ H1 fun xs H2 => r x xs H2 Q
variable {o e : Expr} {es : List Expr} {to : TE} {t : TA} {name : Str} {apos cpos : Pos} {T id : String} {r : V -> List V -> Hp -> VK -> Prop}
theorem pe_bm (pa : PlainAttrs T) (slot : Slot T name id) (hty : typeOf (.builtin id) = pure (.type "method_descriptor")) (hm : MtR X id r) (ho : PE X o to) (ha : PA X (e :: es) t)
    (hbase : attributeBase o name X.env (eval o X.env) = eval o X.env := by rfl)
    (hfew : ((backTo cpos (starEach (e :: es) X.env)).all (fun x => !x.1) && (backToKw cpos (keywordEach [] X.env)).all (fun x => x.1.isSome)
      && decide ((e :: es).length + ([] : List Keyword).length + (if ([] : List Keyword).isEmpty then 0 else 1) < 30)) = true := by rfl)
    (hline : (apos.endLine == cpos.line) = true := by rfl) (hs : starEach (e :: es) X.env = (false, eval e X.env) :: starEach es X.env := by rfl) (hplain : (backTo cpos (starEach es X.env)).any (·.1) = false := by rfl) :
    PE X (.Call (.Attribute o name apos) (e :: es) [] cpos) (tBM X.K T r to t) := by
  intro pins s σ H Q I h
  refine wpAny_Call_method_late hbase hfew hline rfl (thn (ho pins s σ H _ I h) fun v s1 ⟨x, H1, I1, r1, ty, q1⟩ => ?_)
  obtain ⟨h1, h2⟩ := tyV_is I1 r1 ty
  refine ⟨T, id, pa, slot, hty, h1, h2, ?_⟩
  have hA := ha cpos pins s1 σ H1 _ I1 q1
  rw [hs] at hA ⊢
  refine Calls.callWith_builtin (by show (false || (backTo cpos (starEach es X.env)).any (·.1)) = false; rw [hplain] <;> rfl) (Calls.evalArgs_plain ?_)
  exact thn hA fun us s2 ⟨vs, H2, I2, r2, q2⟩ => hm pins s2 σ H2 x vs v us Q I2 r1 r2 q2
/- xs.append(e), list.index on a module's tuple .. are MtR facts of 06m -/
end
end L2
namespace L2
open PySem PySem.Spec PyProof.Rows
def MtM (X : Cx) (id : String) (r : V -> List V -> Hp -> VK -> Prop) : Prop :=
  ∀ (pins : List (Addr × Obj)) (s : Shared) (σ : St) (H : Hp) (x : V) (xs : List V) (v : Value) (us : List Value) (Q : VK), Inv X pins σ H s -> RelV x v -> Vals xs us -> r x xs H Q ->
    wpAny (model X.prog X.w) X.A (call (.builtin id) (v :: us)) (EP X pins σ Q) X.xe s
theorem Vals.one : ∀ {x : V} {us : List Value}, Vals [x] us -> ∃ u, us = [u] /\ RelV x u
  | _, _, .cons r .nil => ⟨_, rfl, r⟩
theorem Vals.rep {xs : List V} {us : List Value} (h : Vals xs us) : ∀ k : Nat, Vals (List.replicate k xs).flatten (List.replicate k us).flatten
  | 0 => .nil
  | k + 1 => by
    rw [List.replicate_succ, List.replicate_succ, List.flatten_cons, List.flatten_cons]
    exact Vals.append h (Vals.rep h k)
theorem foldl_rep (its : List Value) : ∀ (k : Nat) (acc : List Value),
    List.foldl (fun x1 x2 => x1 ++ x2) acc.toArray (List.replicate k its.toArray) = (acc ++ (List.replicate k its).flatten).toArray
  | 0, acc => by simp
  | k + 1, acc => by
    have e : acc.toArray ++ its.toArray = (acc ++ its).toArray := by simp
    have e2 : (acc ++ its) ++ (List.replicate k its).flatten = acc ++ (List.replicate (k + 1) its).flatten := by
      rw [List.replicate_succ, List.flatten_cons, List.append_assoc]
    rw [<- e2, <- foldl_rep its k (acc ++ its), <- e, List.replicate_succ, List.foldl_cons]
section
variable {X : Cx} {pins : List (Addr × Obj)} {σ : St} {H : Hp} {s : Shared} {l b : Addr} {xs ys zs : List V}
theorem Inv.lset {its its' : List Value} {n : Nat} {f : Array Value -> Array Value} {t' : Nat} (I : Inv X pins σ H s) (hH : H l = some (.lst xs))
    (e : s.heap.get? l = some { cls := .type "list", data := .seq its.toArray n }) (hf : f its.toArray = its'.toArray) (hv : Vals ys its') (hz : ys.length <= sizeLine) :
    Inv X pins σ (upd H l (.lst ys)) { s with heap := s.heap.update l (Obj.mapSeq f), toks := t' } := by
  have q := PySem.IsL.update e f
  rw [hf] at q
  refine I.write (x := l) (e := l) (by rw [hH]; exact trivial) (.inl rfl) (fun b' u hb hu => (Heap.get?_update_other s.heap (Obj.mapSeq f) (Ne.symm hb)).trans hu) ⟨_, q⟩ ?_
  exact ⟨hz, its', _, hv, q⟩
theorem Inv.lstM (I : Inv X pins σ H s) (hH : H l = some (.lst xs)) : xs.length <= sizeLine /\ ∃ (its : List Value) (n : Nat), Vals xs its /\ xs.length = its.length /\ s.heap.get? l = some { cls := .type "list", data := .seq its.toArray n } := by
  obtain ⟨z, its, n, r, e⟩ := I.hok l _ hH
  exact ⟨z, its, n, r, r.length, e⟩
end
section
variable {X : Cx}
def rAppend : V -> List V -> Hp -> VK -> Prop := fun x vs H Q => ∃ l xs y, x = .ref l /\ vs = [y] /\ H l = some (.lst xs) /\ xs.length < sizeLine /\ Q .non (upd H l (.lst (xs ++ [y])))
theorem mt_append : MtM X "list.append" rAppend := by
  intro pins s σ H x vs v us Q I rx rv h
  obtain ⟨l, xs, y, rfl, rfl, hH, hz, q⟩ := h
  cases rx
  obtain ⟨u, rfl, ru⟩ := rv.one
  obtain ⟨z, its, n, r, hl, e⟩ := I.lstM hH
  refine call_meets F.slot_list_append ⟨_, e, rfl⟩ F.entry_list_append (F.args_list_append_2 _ _) (PySem.list_append l its.toArray n u (by rw [List.size_toArray]; omega)) ⟨e, ?_⟩
  refine ⟨.non, _, I.lset (its' := its ++ [u]) hH e (by simp) (r.append (.cons ru .nil)) ?_, rfl, q⟩
  rw [List.length_append, List.length_singleton]
  omega
theorem len_rep {α : Type} (xs : List α) (k : Nat) : (List.replicate k xs).flatten.length = k * xs.length := by
  induction k with
  | zero => simp
  | succ k ih => rw [List.replicate_succ, List.flatten_cons, List.length_append, ih, Nat.succ_mul, Nat.add_comm]
end
section
variable {prog : Program} {w : World} {A : Around} {E : Value -> Shared -> Prop} {s : Shared}
end
section
variable {X : Cx}
end
end L2
namespace Att
open PySem PySem.W PySem.Calls PyProof.Rows
theorem ints_of_wellAll {P : Params} {h : Heap} : ∀ (ns : List Int) (vs : List Value), WellAll P h vs (ns.map WData.int) -> IntsAre vs ns := by
  intro ns
  induction ns with
  | nil =>
    intro vs w
    rw [List.map_nil] at w
    cases w
    exact .nil
  | cons n ns ih =>
    intro vs w
    rw [List.map_cons] at w
    cases w with
    | cons a b =>
      cases a
      exact .cons _ _ (ih _ b)
theorem script_of {l : OpenLaw} {n : Nat} (hn : l.most = some n) {P : Params} {h : Heap} {args : List WData} {vals : List Value}
    (hpre : l.row.toRowW.claim.pre args = true) (hwl : WellAll P h vals args) :
    ∃ a vs ns, vals = [Value.ref a] /\ args = [WData.list (ns.map WData.int)] /\ h.get? a = some { cls := .type "list", data := .seq vs.toArray } /\ IntsAre vs ns /\ ns.length <= n := by
  have hsh : WShape.hasAll [] args [.list .int] = true := (pre_splitW hpre).1
  have hc : l.pre.holds [] { args := args } = true := (pre_splitW hpre).2
  obtain ⟨d, r, rfl, h1, h2⟩ := hasAllW_cons hsh
  obtain rfl := hasAllW_nil h2
  obtain ⟨xs, rfl, h3⟩ := hasW_list h1
  obtain ⟨ns, rfl⟩ := items_int h3
  have hlen : ns.length <= n := by
    unfold OpenLaw.pre at hc
    have h4 : (WTm.not (.lt (.lit (.int (n : Int))) (.len (.arg 0)))).holds [] { args := [.list (ns.map .int)] } = true := by
      have h4 := (holds_andW hc).1
      rw [hn] at h4
      exact h4
    have h5 := condW_of h4 (w_not (w_lt w_lit (w_len_list (w_arg rfl))))
    rw [List.length_map] at h5
    refine Nat.le_of_not_lt fun q => ?_
    have q' : (n : Int) < ((ns.length : Nat) : Int) := by omega
    first
      | (rw [decide_eq_true q'] at h5; exact absurd h5 (by decide))
      | (simp at h5; omega)
  cases hwl with
  | cons w1 w2 =>
    cases w2
    cases w1 with
    | list ho hall => exact ⟨_, _, ns, rfl, rfl, ho, ints_of_wellAll ns _ hall, hlen⟩
theorem post_true (l : OpenLaw) (args : List WData) : l.row.toRowW.claim.post args (.bool true) args = true :=
  postW_of (r := l.row.toRowW) (X := (true == true))
    (show WShape.has [] (.bool true) .bool = true by first | rfl | decide | simp [WShape.has, WShape.arms, WShape.armsAll])
    (show (WTm.eq .res (.lit (.bool true))).value [] { args := args, res := some (.bool true), after := args } = some (.bool (true == true)) from w_eq_bool (w_res rfl) w_lit) rfl
theorem attach_call {l : OpenLaw} {n : Nat} {q : Program} {loose : List Str} {XP : (Str -> Option Value) -> Heap -> Prop} {YP : World -> Heap -> Prop} {d : DefRec}
    (hn : l.most = some n) (hdf : d.params.defaults = [])
    (call : ∀ (w : World) (s₀ s₁ : Shared) (mg mb : Str -> Option Value) (fa : Addr) (o : Obj) (pm cd doc : Value) (a : Addr) (vs : List Value) (ns : List Int),
      Ground q loose [] XP w s₀ mg mb s₁.heap -> YP w s₁.heap ->
      s₁.heap.get? fa = some o -> o.data = .func (docDef d.name d.params d.body d.scope pm cd doc) -> s₁.heap.CodeRec cd d.name -> mg d.name = some (.ref fa) ->
      s₁.heap.get? a = some { cls := .type "list", data := .seq vs.toArray } -> IntsAre vs ns -> ns.length <= n -> s₁.gens = #[] ->
      codeAny (model l.prog w) callerA (.call (.ref fa) ⟨[.ref a], []⟩) (fun r s' => r = .ok (.ret (.bool true)) /\ OldK s₁.heap s'.heap /\ s'.os = s₁.os /\ AllBare s'.gens) s₁) :
    WalkO q loose XP YP l.row.toRowW d [] (fun f vs => PySem.call f vs) := by
  intro w s₀ s₁ mg mb G Y fa o pm cd doc dV kV ho hd hcd hD hmg hg args vals as hpre hlay hrd hwl hlo
  obtain rfl : dV = .none := Dflts.none hD hdf
  obtain rfl : kV = .none := Dflts.noKw hD
  obtain ⟨a, vs, ns, rfl, rfl, hobj, hints, hlen⟩ := script_of hn hpre hwl
  refine enter_call (codeAny_mono (call w s₀ s₁ mg mb fa o pm cd doc a vs ns G Y ho (fd_plain hd) hcd hmg hobj hints hlen hg) fun r s' hq => ?_)
  obtain ⟨rfl, h2, h3, h4⟩ := hq
  exact ⟨.inl ⟨.bool true, .bool true, [], rfl, fun _ => rfl, .bool true, post_true l _, fun _ => ⟨List.Pairwise.nil, fun _ hm => (nomatch hm)⟩⟩, h2, h3, h4⟩
section
variable {prog : Program} {w : World} {A : Around} {E : Value -> Shared -> Prop} {s : Shared} {K : Frag}
end
end Att
namespace L2
open PySem PySem.Spec PyProof.Rows
theorem vals_ints : ∀ {vs : List Value} {ns : List Int}, IntsAre vs ns -> Vals (ns.map V.int) vs
  | _, _, .nil => .nil
  | _, _, .cons n t h => .cons ⟨t, rfl⟩ (vals_ints h)
def Only (H : Hp) : Prop := ∀ b, H b = none \/ ∃ o xs, H b = some (.frz o (.lst xs))
theorem law_call {P : Program} {w : World} {K : PySem.W.Frag} {mg mb : Str -> Option Value} {CX : CXT} {k : Nat} {fa a : Addr} {fd : FuncData} {x : Str} {sp : Sp} {s₁ : Shared} {vs : List Value} {ns : List Int}
    (KX : K.In s₁.heap) (hns : s₁.heap.Ns mainGlobals mg) (hb : s₁.heap.Ns builtinsNs mb) (hbb : ∀ x : Str, x ≠ "__name__" -> mb x = bootBuiltins x) (hlim : s₁.heap.NoLimit) (hg : s₁.gens = #[])
    (ha : s₁.heap.get? a = some { cls := .type "list", data := .seq vs.toArray }) (hi : IntsAre vs ns) (hl : ns.length <= sizeLine) (hr : Room k callerA)
    (F : ∀ base : Heap, K.In base -> base.Ns mainGlobals mg -> FnOk P w K mg base CX k fa fd [x] sp) (hbind : ∀ (s : Shared) (u : Value), BindsTo s fd ⟨[u], []⟩ [(x, u)])
    (hsp : ∀ H : Hp, Only H -> SqL K H a (ns.map V.int) -> sp [.ref a] H (fun v _ => v = .bl true) fun _ _ _ => False)
    (hCX : ∀ H e s', CX [] H s₁ (fun _ _ _ => False) e s' -> False) :
    codeAny (model P w) callerA (.call (.ref fa) ⟨[.ref a], []⟩) (fun r s' => r = .ok (.ret (.bool true)) /\ OldK s₁.heap s'.heap /\ s'.os = s₁.os /\ AllBare s'.gens) s₁ := by
  have rv := vals_ints hi
  have lenV := hi.length
  -- from an abstract heap in which nothing but the script may be tracked
  have core : ∀ H : Hp, Only H -> SqL K H a (ns.map V.int) -> HOk P w H s₁.heap -> (∀ b, H b ≠ none -> b = a) -> (H a ≠ none -> K.lookup a = none) ->
      codeAny (model P w) callerA (.call (.ref fa) ⟨[.ref a], []⟩) (fun r s' => r = .ok (.ret (.bool true)) /\ OldK s₁.heap s'.heap /\ s'.os = s₁.os /\ AllBare s'.gens) s₁ := by
    intro H hO hS hok hA hK
    have base_of : ∀ {b : Addr} {o : Obj}, s₁.heap.get? b = some o -> H b = none -> (hidT s₁.heap H).get? b = some o := fun e n => hidT_get e n
    have noA : ∀ {b : Addr} {o : Obj} {es : Array DictEntry} {ep : Nat}, s₁.heap.get? b = some o -> o.data = .dict es ep -> H b = none := fun {b o es ep} e d => by
      cases q : H b with
      | none => rfl
      | some u =>
        have e' : b = a := hA b (by rw [q]; simp)
        subst e'
        rw [ha] at e; cases e
        have d' : Data.seq vs.toArray _ = Data.dict es ep := d
        cases d'
    have nsK : ∀ {b : Addr} {m : Str -> Option Value}, s₁.heap.Ns b m -> (hidT s₁.heap H).Ns b m := fun {b m} ⟨o, es, ep, e, d, r⟩ => ⟨o, es, ep, base_of e (noA e d), d, r⟩
    have hKb : K.In (hidT s₁.heap H) := fun b o e => base_of (KX b o e) (by
      cases q : H b with
      | none => rfl
      | some u =>
        have e' : b = a := hA b (by rw [q]; simp)
        subst e'
        rw [hK (by rw [q]; simp)] at e; cases e)
    have hM : Mod K mg (hidT s₁.heap H) := ⟨hKb, nsK hns, ⟨mb, nsK hb, hbb⟩, let ⟨mc, h1, h2⟩ := hlim; ⟨mc, nsK h1, h2⟩⟩
    have e0 : Env0 P w K mg (hidT s₁.heap H) callerA [] s₁ H := ⟨rfl, hM, fun b o e => of_hidT e, Nat.le_of_eq (hidT_size _ _), trivial, fun b hb => absurd (show b ∈ ([] : List Addr) from hb) (by simp), hok, .of_eq hg⟩
    refine codeAny_mono ((F _ hKb (nsK hns)).run callerA [] s₁ H ⟨[.ref a], []⟩ [.ref a] [.ref a] _ _ hr e0 (hbind s₁ (.ref a)) (.cons rfl .nil) (hsp H hO hS)) fun r s' h => ?_
    cases r with
    | error e => exact (hCX H e s' h).elim
    | ok fl =>
      cases fl with
      | next => exact False.elim h
      | brk => exact False.elim h
      | cont => exact False.elim h
      | ret u =>
        obtain ⟨v, H', os, bare, un, hok', r', q⟩ := h
        have q' : v = .bl true := q
        subst q'
        obtain rfl : u = Value.bool true := r'
        refine ⟨rfl, OldK.of_keep fun b o e => ?_, os, bare⟩
        cases q : H b with
        | none => exact un.keep b o e q (by intro z; exact absurd (show b ∈ ([] : List Addr) from z) (by simp)) (by simp)
        | some u =>
          rcases hO b with z | ⟨ob, xs, z⟩
          . rw [q] at z; cases z
          . have z2 := un.frzs b ob _ z
            obtain ⟨e1, _⟩ := hok b _ z
            obtain ⟨e2, _⟩ := hok' b _ z2
            rw [e] at e1; cases e1
            exact e2
  cases hk : K.lookup a with
  | some o =>
    -- the script is one of the module's own objects
    have e := KX a o hk
    rw [ha] at e
    cases e
    refine core (fun _ => none) (fun _ => .inl rfl) (.inr ⟨_, vs.toArray, _, hk, rfl, rfl, rfl, by rw [List.size_toArray, lenV]; exact hl, by simpa using rv⟩) (fun b u z => by have z' : (none : Option HO) = some u := z; cases z') (fun b z => absurd rfl z) fun z => absurd rfl z
  | none =>
    refine core (fun b => if b = a then some (.frz { cls := .type "list", data := .seq vs.toArray } (.lst (ns.map V.int))) else none) (fun b => ?_) (.inl (.inr ⟨{ cls := .type "list", data := .seq vs.toArray }, if_pos rfl⟩)) (fun b u z => ?_) (fun b z => ?_) fun _ => hk
    . by_cases hb : b = a
      . exact .inr ⟨_, _, if_pos hb⟩
      . exact .inl (if_neg hb)
    . by_cases hb : b = a
      . have z' := (if_pos hb).symm.trans z
        cases z'
        subst hb
        exact ⟨ha, by rw [List.length_map]; exact hl, vs, _, rv, ha⟩
      . have z' := (if_neg hb).symm.trans z
        cases z'
    . by_cases hb : b = a
      . exact hb
      . exact absurd (if_neg hb) z
end L2
namespace L2
open PySem PySem.Spec PyProof.Rows
theorem walk_of {l : PySem.W.OpenLaw} {n k : Nat} {q : Program} {loose : List Str} {XP : (Str -> Option Value) -> Heap -> Prop} {YP : World -> Heap -> Prop} {d : DefRec} {K : Params -> PySem.W.Frag} {CX : World -> CXT} {sp : World -> Sp} {x : Str}
    (hn : l.most = some n) (hn2 : n <= sizeLine) (hdf : d.params.defaults = []) (hr : Room k callerA)
    (hY : ∀ (w : World) (h : Heap), YP w h -> (K w.params).In h)
    (F : ∀ (w : World) (mg : Str -> Option Value) (fa : Addr) (h : Heap), (K w.params).In h -> h.Ns mainGlobals mg -> mg d.name = some (.ref fa) ->
      ∃ fd : FuncData, (∀ (s : Shared) (u : Value), BindsTo s fd ⟨[u], []⟩ [(x, u)]) /\
        ∀ base : Heap, (K w.params).In base -> base.Ns mainGlobals mg -> FnOk l.prog w (K w.params) mg base (CX w) k fa fd [x] (sp w))
    (hsp : ∀ (w : World) (H : Hp) (a : Addr) (ns : List Int), ns.length <= n -> Only H -> SqL (K w.params) H a (ns.map V.int) -> sp w [.ref a] H (fun v _ => v = .bl true) fun _ _ _ => False)
    (hCX : ∀ (w : World) (H : Hp) (s : Shared) (e : Value) (s' : Shared), CX w [] H s (fun _ _ _ => False) e s' -> False) :
    PySem.W.WalkO q loose XP YP l.row.toRowW d [] (fun f vs => PySem.call f vs) := by
  refine Att.attach_call hn hdf fun w s₀ s₁ mg mb fa o pm cd doc a vs ns G Y ho hd hcd hmg hobj hints hlen hg => ?_
  have KX := hY w _ Y
  obtain ⟨fd, hb, hF⟩ := F w mg fa _ KX G.T.g hmg
  exact law_call KX G.T.g G.T.b G.T.builtins G.T.nolimit hg hobj hints (Nat.le_trans hlen hn2) hr hF hb (fun H hO hS => hsp w H a ns hlen hO hS) fun H e s' => hCX w H s₁ e s'
end L2
namespace L2
open PySem PySem.Spec PyProof.Rows
def inClass (s : Stmt) (j : Nat) : Stmt := match s with
  | .ClassDef _ _ _ body _ _ _ _ _ _ _ => body.getD j (.Pass ⟨0, 0, 0, 0⟩)
  | _ => .Pass ⟨0, 0, 0, 0⟩
def defArgs (s : Stmt) : Arguments := match s with
  | .FunctionDef _ a _ _ _ _ _ _ _ _ => a
  | _ => { posonlyargs := [], args := [], vararg := none, kwonlyargs := [], kw_defaults := [], kwarg := none, defaults := [] }
def defBody (s : Stmt) : List Stmt := match s with
  | .FunctionDef _ _ b _ _ _ _ _ _ _ => b
  | _ => []
def defScope (s : Stmt) : Scope := match s with
  | .FunctionDef _ _ _ _ _ _ sc _ _ _ => sc
  | _ => { kind := .function, names := [], isGenerator := false, isCoroutine := false }
abbrev CX0 : CXT := fun _ _ _ _ _ _ => False
abbrev E0 : XK := fun _ _ _ => False
theorem pass0 {X : Cx} : Passes CX0 X E0 := fun _ _ _ _ _ _ _ h => h.elim
structure Fun (K : PySem.W.Frag) (x qual : Str) (st : Stmt) (f : Addr) (fd : FuncData) : Prop where
  ex : ∃ (oc : Value) (od : Option Addr) (kV doc pm : Value) (an : Option Addr) (cdv ct : Value) (osl : Array (Option Value)),
    fd = PySem.W.fnOf x qual (defArgs st) (defBody st) (defScope st) .none kV doc pm an cdv ct /\ K.lookup f = some ⟨oc, od, .func fd, osl⟩ /\ PySem.W.codeIn K cdv qual = true
  kp : PySem.W.keepIn K (.ref f) = true
section
variable {P : Program} {w : World} {K : PySem.W.Frag} {mg : Str -> Option Value} {base : Heap}
theorem Fun.ok {x qual : Str} {st : Stmt} {f : Addr} {fd : FuncData} {N ps : List Str} {k : Nat} {sp : Sp} (F : Fun K x qual st f fd) (S : FnScope N ps (defScope st)) (len : ∀ vs H Q E, sp vs H Q E -> vs.length = ps.length)
    (hbody : ∀ (cdv : Value) (A : Around) (outer : List Env) (s : Shared) (H : Hp) (vs : List V) (Q : VK) (E : XK), Room k (A.deeper (envOfC qual (defScope st) s.heap.objs.size f cdv)) -> sp vs H Q E ->
      ∃ t, PSs (cxOf CX0 P w K mg base N qual (defScope st) f cdv A outer s H E).nox (defBody st) t /\ t { nx := fun _ H' => Q .non H', rt := Q } (start N vs) H) : FnOk P w K mg base CX0 (k + 1) f fd ps sp := by
  obtain ⟨oc, od, kV, doc, pm, an, cdv, ct, osl, rfl, lk, hcd⟩ := F.ex
  refine fn_of lk hcd S len fun A outer s H vs Q E hr hsp => ?_
  obtain ⟨t, h, q⟩ := hbody cdv A outer s H vs Q E hr hsp
  exact ⟨t, h.nox, q⟩
theorem Fun.binds {x qual : Str} {st : Stmt} {f : Addr} {fd : FuncData} {ps : List Str} (F : Fun K x qual st f fd)
    (h : ∀ (kV doc pm : Value) (an : Option Addr) (cdv ct : Value) (us : List Value), us.length = ps.length -> bindArgs (PySem.W.fnOf x qual (defArgs st) (defBody st) (defScope st) .none kV doc pm an cdv ct) ⟨us, []⟩ = pure (ps.zip us)) : Binds K fd ps [] := by
  obtain ⟨oc, od, kV, doc, pm, an, cdv, ct, osl, rfl, lk, hcd⟩ := F.ex
  exact .all (h kV doc pm an cdv ct)
theorem fun_mk {x qual : Str} {st : Stmt} {f : Addr} {oc : Value} {od an : Option Addr} {osl : Array (Option Value)} {kV doc pm cdv ct : Value} (l : K.lookup f = some ⟨oc, od, .func (PySem.W.fnOf x qual (defArgs st) (defBody st) (defScope st) .none kV doc pm an cdv ct), osl⟩)
    (c : PySem.W.codeIn K cdv qual = true) (k : PySem.W.keepIn K (.ref f) = true) : Fun K x qual st f (PySem.W.fnOf x qual (defArgs st) (defBody st) (defScope st) .none kV doc pm an cdv ct) := ⟨⟨oc, od, kV, doc, pm, an, cdv, ct, osl, rfl, l, c⟩, k⟩
end
theorem hu_of {A : Around} {k : Nat} (hr : Room k A) : A.units + 1 < cLine := Nat.lt_of_le_of_lt (Nat.add_le_add_left (by decide : 1 <= 64) _) hr.units
section
variable {X : Cx}
theorem pv (i : Nat) {x : Str} {pos : Pos} (hN : X.N[i]? = some x := by rfl) (hv : Vis X.env.scope x := by first | exact Or.inl rfl | exact Or.inr (Or.inl rfl) | exact Or.inr (Or.inr rfl)) (hd : (x == ("__debug__" : Str)) = false := by decide)
    (hcd : (x == ("__classdict__" : Str)) = false := by decide) : PE X (.Name x pos) (tVar i) := pe_var hN hv hd hcd
end
theorem ite2 {c A B : Prop} [Decidable c] (h1 : c -> A) (h2 : ¬ c -> B) : if c then A else B := by
  by_cases h : c
  . rw [if_pos h]
    exact h1 h
  . rw [if_neg h]
    exact h2 h
def Same (H H' : Hp) : Prop := ∀ b o, H b = some o -> H' b = some o
theorem Same.refl (H : Hp) : Same H H := fun _ _ h => h
theorem Same.trans {H H1 H2 : Hp} (a : Same H H1) (b : Same H1 H2) : Same H H2 := fun c o h => b c o (a c o h)
theorem Same.free {H H' : Hp} (e : Same H H') {l : Addr} (h : H' l = Option.none) : H l = Option.none := by
  cases q : H l with
  | none => rfl
  | some o =>
    rw [e l o q] at h
    cases h
theorem Same.seq {K : PySem.W.Frag} {H H' : Hp} {a : Addr} {xs : List V} (e : Same H H') (h : SqL K H a xs) : SqL K H' a xs := by
  rcases h with (h | ⟨o, h⟩) | h
  . exact .inl (.inl (e _ _ h))
  . exact .inl (.inr ⟨o, e _ _ h⟩)
  . exact .inr h
end L2
set_option Elab.async false
set_option linter.all false
set_option maxRecDepth 100000
set_option maxHeartbeats 4000000
namespace L2
open PySem PySem.Spec PyProof.Rows
section
variable {κ : Type} [DecidableEq κ]
def valV (kvs : List (κ × V)) (k : κ) : Option V := (kvs.find? fun kv => decide (kv.1 = k)).map (·.2)
def putK (kvs : List (κ × V)) (k : κ) (v : V) : List (κ × V) :=
  if (kvs.any fun kv => decide (kv.1 = k)) = true then kvs.map (fun kv => if kv.1 = k then (kv.1, v) else kv) else kvs ++ [(k, v)]
theorem valV_pos {p : κ × V} {r : List (κ × V)} {k : κ} (e : p.1 = k) : valV (p :: r) k = some p.2 := by simp [valV, List.find?_cons, e]
theorem valV_neg {p : κ × V} {r : List (κ × V)} {k : κ} (e : ¬ p.1 = k) : valV (p :: r) k = valV r k := by simp [valV, List.find?_cons, e]
theorem valV_any (k : κ) : ∀ kvs : List (κ × V), (kvs.any fun kv => decide (kv.1 = k)) = (valV kvs k).isSome
  | [] => rfl
  | p :: r => by
    rw [List.any_cons]
    by_cases e : p.1 = k
    . simp only [valV_pos e, decide_eq_true e, Bool.true_or, Option.isSome_some]
    . rw [valV_neg e, decide_eq_false e, Bool.false_or]; exact valV_any k r
theorem length_putK (kvs : List (κ × V)) (k : κ) (v : V) : (putK kvs k v).length <= kvs.length + 1 := by
  unfold putK
  split
  . rw [List.length_map]; omega
  . rw [List.length_append, List.length_cons, List.length_nil]; omega
theorem RelO.isSome_eq {o : Option V} {u : Option Value} (r : RelO o u) : o.isSome = u.isSome := by
  cases o with
  | none => cases u with
    | none => rfl
    | some _ => exact (show False from r).elim
  | some _ => cases u with
    | none => exact (show False from r).elim
    | some _ => rfl
theorem RelO.getD {o : Option V} {u : Option Value} {d : V} {d' : Value} (r : RelO o u) (rd : RelV d d') : RelV (o.getD d) (u.getD d') := by
  cases o with
  | none => cases u with
    | none => exact rd
    | some _ => exact (show False from r).elim
  | some _ => cases u with
    | none => exact (show False from r).elim
    | some _ => exact r
theorem KV.val {kvs : List (κ × V)} {vs : List (κ × Value)} (r : KV kvs vs) (k : κ) : RelO (valV kvs k) (valueAt vs k) := by
  unfold KV at r
  induction r with
  | nil => exact True.intro
  | @cons p q ps qs h t ih =>
    obtain ⟨h1, h2⟩ := h
    by_cases e : p.1 = k
    . have e' : q.1 = k := h1.symm.trans e
      have b : valueAt (q :: qs) k = some q.2 := by simp [valueAt, List.find?_cons, e']
      rw [valV_pos e, b]; exact h2
    . have e' : ¬ q.1 = k := fun z => e (h1.trans z)
      have b : valueAt (q :: qs) k = valueAt qs k := by simp [valueAt, List.find?_cons, e']
      rw [valV_neg e, b]; exact ih
theorem KV.any {kvs : List (κ × V)} {vs : List (κ × Value)} (r : KV kvs vs) (k : κ) : (kvs.any fun kv => decide (kv.1 = k)) = vs.any fun kv => decide (kv.1 = k) := by
  unfold KV at r
  induction r with
  | nil => rfl
  | cons h t ih => rw [List.any_cons, List.any_cons, ih, h.1]
theorem KV.repl {kvs : List (κ × V)} {vs : List (κ × Value)} (r : KV kvs vs) (k : κ) {y : V} {u : Value} (ry : RelV y u) :
    KV (kvs.map fun kv => if kv.1 = k then (kv.1, y) else kv) (vs.map fun kv => if kv.1 = k then (kv.1, u) else kv) := by
  unfold KV at r ⊢
  induction r with
  | nil => exact .nil
  | @cons p q ps qs h t ih =>
    rw [List.map_cons, List.map_cons]
    refine .cons ?_ ih
    obtain ⟨h1, h2⟩ := h
    by_cases e : p.1 = k
    . rw [if_pos e, if_pos (h1.symm.trans e)]; exact ⟨h1, ry⟩
    . rw [if_neg e, if_neg (fun z => e (h1.trans z))]; exact ⟨h1, h2⟩
theorem KV.put {kvs : List (κ × V)} {vs : List (κ × Value)} (r : KV kvs vs) (k : κ) {y : V} {u : Value} (ry : RelV y u) : KV (putK kvs k y) (stored vs k u) := by
  unfold putK stored
  rw [r.any k]
  by_cases e : (vs.any fun kv => decide (kv.1 = k)) = true
  . rw [if_pos e, if_pos e]; exact r.repl k ry
  . rw [if_neg e, if_neg e]; exact Paired.snoc r ⟨rfl, ry⟩
theorem KV.length {kvs : List (κ × V)} {vs : List (κ × Value)} (r : KV kvs vs) : kvs.length = vs.length := Paired.length r
end
theorem kV_is {P : Program} {w : World} {k : Key} {u : Value} (r : RelV (kV k) u) : (mixKind P w).is k u = true := by
  cases k with
  | inl i => obtain ⟨t, e⟩ := (show ∃ t, u = Value.int i t from r); subst e; exact mixKind_int P w i t
  | inr x => obtain ⟨t, e⟩ := (show ∃ t, u = Value.str x t from r); subst e; exact mixKind_str P w x t
theorem items_are {P : Program} {w : World} : ∀ {ks : List Key} {us : List Value}, Vals (ks.map kV) us -> ItemsAre (mixKind P w) ks us
  | [], _, r => by rw [List.map_nil] at r; cases r; exact .nil
  | k :: ks, _, r => by
    rw [List.map_cons] at r
    cases r with
    | cons h t => exact .cons (kV_is h) (items_are t)
abbrev KT (H : Hp) : List (List Key × V) -> List (List Key × Addr × Value) -> Prop := Paired fun p q => p.1 = q.1 /\ H q.2.1 = some (.tup (p.1.map kV)) /\ RelV p.2 q.2.2
theorem KT.val {H : Hp} {kvs : List (List Key × V)} {xs : List (List Key × Addr × Value)} (r : KT H kvs xs) (k : List Key) : RelO (valV kvs k) ((atKey xs k).map (·.2)) := by
  induction r with
  | nil => exact True.intro
  | @cons p q ps qs h t ih =>
    obtain ⟨h1, _, h2⟩ := h
    by_cases e : p.1 = k
    . have e' : q.1 = k := h1.symm.trans e
      have b : atKey (q :: qs) k = some q.2 := by simp [atKey, List.find?_cons, e']
      rw [valV_pos e, b]; exact h2
    . have e' : ¬ q.1 = k := fun z => e (h1.trans z)
      have b : atKey (q :: qs) k = atKey qs k := by simp [atKey, List.find?_cons, e']
      rw [valV_neg e, b]; exact ih
theorem KT.repl {H : Hp} {kvs : List (List Key × V)} {xs : List (List Key × Addr × Value)} (r : KT H kvs xs) (k : List Key) {y : V} {u : Value} (ry : RelV y u) :
    KT H (kvs.map fun kv => if kv.1 = k then (kv.1, y) else kv) (xs.map (putAt k u)) := by
  induction r with
  | nil => exact .nil
  | @cons p q ps qs h t ih =>
    rw [List.map_cons, List.map_cons]
    refine .cons ?_ ih
    obtain ⟨h1, h2, h3⟩ := h
    unfold putAt
    by_cases e : p.1 = k
    . rw [if_pos e, if_pos (h1.symm.trans e)]; exact ⟨h1, h2, ry⟩
    . rw [if_neg e, if_neg (fun z => e (h1.trans z))]; exact ⟨h1, h2, h3⟩
theorem KT.put {H : Hp} {kvs : List (List Key × V)} {xs : List (List Key × Addr × Value)} (r : KT H kvs xs) (k : List Key) {b : Addr} {y : V} {u : Value} (hb : H b = some (.tup (k.map kV))) (ry : RelV y u) :
    KT H (putK kvs k y) (storedH xs k b u) := by
  have e : (kvs.any fun kv => decide (kv.1 = k)) = (atKey xs k).isSome := by
    rw [valV_any, (r.val k).isSome_eq, Option.isSome_map]
  unfold putK storedH
  rw [e]
  by_cases q : (atKey xs k).isSome = true
  . rw [if_pos q, if_pos q]; exact r.repl k ry
  . rw [if_neg q, if_neg q]; exact Paired.snoc r ⟨rfl, hb, ry⟩
theorem KT.keeps {H H' : Hp} {kvs : List (List Key × V)} {xs : List (List Key × Addr × Value)} (r : KT H kvs xs) (ht : ∀ b ys, H b = some (.tup ys) -> H' b = some (.tup ys)) : KT H' kvs xs :=
  Paired.mapP r fun _ _ z => ⟨z.1, ht _ _ z.2.1, z.2.2⟩
section
variable {P : Program} {w : World} {H : Hp} {h : Heap} {a : Addr}
theorem rd_of {u : HO} (ok : HOk P w H h) (e : Rd H a u) : ObjOk P w H h a u := e.ok ok
theorem dk_rd {kvs : List (Key × V)} (ok : HOk P w H h) (e : Rd H a (.dK kvs)) : kvs.length <= sizeLine /\ (a == sysModules) = false /\ ∃ vs, KV kvs vs /\ h.DictOf (mixKind P w) a vs :=
  show ObjOk P w H h a (.dK kvs) from rd_of ok e
theorem dk_of {kvs : List (Key × V)} (ok : HOk P w H h) (e : H a = some (.dK kvs)) : kvs.length <= sizeLine /\ (a == sysModules) = false /\ ∃ vs, KV kvs vs /\ h.DictOf (mixKind P w) a vs := dk_rd ok (.inl e)
theorem key_of {ks : List Key} (ok : HOk P w H h) (e : H a = some (.tup (ks.map kV))) : (tupleKind (mixKind P w)).is h ks a := by
  obtain ⟨_, its, r, o, h1, h2, n, h3⟩ := (show ObjOk P w H h a (.tup (ks.map kV)) from ok a _ e)
  exact ⟨o, its.toArray, n, h1, h2, h3, by simpa using items_are r⟩
theorem dt_rd {kvs : List (List Key × V)} (ok : HOk P w H h) (e : Rd H a (.dT kvs)) : kvs.length <= sizeLine /\ (a == sysModules) = false /\
    ∃ xs, KT H kvs xs /\ h.DictOfH (tupleKind (mixKind P w)) a xs := by
  obtain ⟨z, y, xs, r, o, es, ep, h1, h2, h3, h4, h5⟩ := (show ObjOk P w H h a (.dT kvs) from rd_of ok e)
  refine ⟨z, y, xs, r, o, es, ep, h1, h2, h3, h4, fun x hx => ?_, h5⟩
  have all : ∀ {l : List (List Key × V)} {m : List (List Key × Addr × Value)}, KT H l m -> ∀ x ∈ m, (tupleKind (mixKind P w)).is h x.1 x.2.1 := by
    intro l m q
    induction q with
    | nil => intro x hx; exact nomatch hx
    | @cons p q ps qs hq t ih =>
      intro x hx
      rcases List.mem_cons.mp hx with e | hx
      . subst e
        exact key_of ok (by rw [<- hq.1]; exact hq.2.1)
      . exact ih x hx
  exact all r x hx
theorem dt_of {kvs : List (List Key × V)} (ok : HOk P w H h) (e : H a = some (.dT kvs)) : kvs.length <= sizeLine /\ (a == sysModules) = false /\
    ∃ xs, KT H kvs xs /\ h.DictOfH (tupleKind (mixKind P w)) a xs := dt_rd ok (.inl e)
end
def DGet (H : Hp) (a : Addr) (y : V) (r : Option V) : Prop :=
  (∃ kvs k, Rd H a (.dK kvs) /\ y = kV k /\ r = valV kvs k) \/ ∃ kvs k b, Rd H a (.dT kvs) /\ y = .ref b /\ H b = some (.tup (k.map kV)) /\ r = valV kvs k
def DPut (H : Hp) (a : Addr) (y v : V) (H' : Hp) : Prop :=
  (∃ kvs k, H a = some (.dK kvs) /\ y = kV k /\ kvs.length < sizeLine /\ H' = upd H a (.dK (putK kvs k v))) \/
  ∃ kvs k b, H a = some (.dT kvs) /\ y = .ref b /\ H b = some (.tup (k.map kV)) /\ kvs.length < sizeLine /\ H' = upd H a (.dT (putK kvs k v))
theorem DGet.t {H : Hp} {a b : Addr} {kvs : List (List Key × V)} {k : List Key} (e : H a = some (.dT kvs)) (eb : H b = some (.tup (k.map kV))) : DGet H a (.ref b) (valV kvs k) := .inr ⟨kvs, k, b, .inl e, rfl, eb, rfl⟩
theorem DPut.t {H : Hp} {a b : Addr} {kvs : List (List Key × V)} {k : List Key} {v : V} (e : H a = some (.dT kvs)) (eb : H b = some (.tup (k.map kV))) (hl : kvs.length < sizeLine) :
    DPut H a (.ref b) v (upd H a (.dT (putK kvs k v))) := .inr ⟨kvs, k, b, e, rfl, eb, hl, rfl⟩
section
variable {X : Cx} {pins : List (Addr × Obj)} {σ : St} {H : Hp} {s : Shared} {a : Addr} {y v : V} {u r : Value} {o : Option V} {A : Around} {E : Value -> Shared -> Prop}
theorem Inv.big (I : Inv X pins σ H s) : sysModules < s.heap.objs.size := by
  have h : mainGlobals < s.heap.objs.size := (I.mod.glob.keeps I.bk).lt
  exact Nat.lt_trans (by decide) h
theorem d_notIn {Q : Value -> Shared -> Prop} (hu : A.units + 1 < cLine) (I : Inv X pins σ H s) (g : DGet H a y o) (ry : RelV y u) (h : ∀ s', Inv X pins σ H s' -> Q (.bool (!o.isSome)) s') :
    wpAny (model X.prog X.w) A (compareOp .NotIn u (.ref a)) Q E s := by
  rcases g with ⟨kvs, k, e, ey, l⟩ | ⟨kvs, k, b, e, ey, eb, l⟩
  . subst ey
    obtain ⟨z, hd, vs, rel, dd⟩ := dk_rd I.hok e
    refine wpAny_notIn_of (kV_is ry) hd dd.mapOf ?_
    rw [<- (rel.val k).isSome_eq, <- l]
    exact h _ (I.tok _)
  . subst ey
    cases (show u = Value.ref b from ry)
    obtain ⟨z, hd, xs, rel, dd⟩ := dt_rd I.hok e
    refine wpAny_notIn_heap (tupleKind_room_in1 hu) (key_of I.hok eb) hd dd ?_
    have q := (rel.val k).isSome_eq
    rw [Option.isSome_map] at q
    rw [<- q, <- l]
    exact h _ (I.tok _)
theorem d_write {h' : Heap} {t' : Nat} {ob : HO} (I : Inv X pins σ H s) (mu : Mut (H a)) (hs : Heap.SameBut a s.heap h') (he : ∃ q, h'.get? a = some q) (new : ObjOk X.prog X.w (upd H a ob) h' a ob) :
    Inv X pins σ (upd H a ob) { s with heap := h', toks := t' } :=
  I.write (x := a) (e := a) mu (.inl rfl) (fun b q hb z => (hs.2 b hb).trans z) he new
theorem dk_new {P : Program} {w : World} {H' : Hp} {h' : Heap} {kvs : List (Key × V)} {vs : List (Key × Value)} (z : kvs.length <= sizeLine) (hd : (a == sysModules) = false) (rel : KV kvs vs) (dd : h'.DictOf (mixKind P w) a vs) :
    ObjOk P w H' h' a (.dK kvs) := ⟨z, hd, vs, rel, dd⟩
theorem d_setItem {H' : Hp} {Q : Unit -> Shared -> Prop} (hu : A.units + 1 < cLine) (I : Inv X pins σ H s) (g : DPut H a y v H') (ry : RelV y u) (rv : RelV v r) (h : ∀ s', Inv X pins σ H' s' -> Q () s') :
    wpAny (model X.prog X.w) A (setItem (.ref a) u r) Q E s := by
  rcases g with ⟨kvs, k, e, ey, l, eH⟩ | ⟨kvs, k, b, e, ey, eb, l, eH⟩
  . subst ey eH
    obtain ⟨z, hd, vs, rel, dd⟩ := dk_of I.hok e
    have hz : vs.length <= sizeLine := by rw [<- rel.length]; exact z
    have hl : (putK kvs k v).length <= sizeLine := by have := length_putK kvs k v; omega
    refine wpAny_setItem_pairs (hsz := hz) (kV_is ry) dd fun h' dd' hs => h _ ?_
    have he : ∃ q, h'.get? a = some q := let ⟨q, _, _, hq, _⟩ := dd'; ⟨q, hq⟩
    exact d_write I (by rw [e]; exact True.intro) hs he (dk_new hl hd (rel.put k rv) dd')
  . subst ey eH
    cases (show u = Value.ref b from ry)
    obtain ⟨z, hd, xs, rel, dd⟩ := dt_of I.hok e
    have hz : xs.length <= sizeLine := by rw [<- Paired.length rel]; exact z
    have hl : (putK kvs k v).length <= sizeLine := by have := length_putK kvs k v; omega
    refine wpAny_setItem_heap (hsz := hz) (tupleKind_room_in1 hu) (key_of I.hok eb) dd fun h' dd' hs => h _ ?_
    obtain ⟨q, es, ep, hq, h2, h3, h4, _, h5⟩ := dd'
    refine d_write I (by rw [e]; exact True.intro) hs ⟨q, hq⟩ ⟨hl, hd, _, (rel.put k eb rv).keeps fun c ys ec => ?_, q, es, ep, hq, h2, h3, h4, h5⟩
    rw [upd_ne (ne_of ec e (fun z => nomatch z))]
    exact ec
end
section
variable {X : Cx} {pins : List (Addr × Obj)} {σ : St} {H : Hp} {s : Shared} {a : Addr} {kvs : List (Key × V)} {k : Key} {u : Value} {A : Around} {E : Value -> Shared -> Prop}
end
def tDNotIn (ty td : TE) : TE := fun σ H Q => ty σ H fun y H1 => td σ H1 fun x H2 => ∃ a o, x = .ref a /\ DGet H2 a y o /\ Q (.bl (!o.isSome)) H2
def sDPut (td ty tv : TE) : TS := fun D σ H => tv σ H fun v H1 => td σ H1 fun x H2 => ty σ H2 fun y H3 => ∃ a H4, x = .ref a /\ DPut H3 a y v H4 /\ D.nx σ H4
section
variable {X : Cx} {o i e value : Expr} {pos pos' tpos : Pos} {td ty tv : TE}
theorem pc_dnotin (hu : X.A.units + 1 < cLine) (hi : PE X i ty) (ho : PE X o td) : PC X .NotIn i o (tDNotIn ty td) := by
  intro pins s σ H Q I h
  refine thn (hi pins s σ H _ I h) fun iv s1 ⟨y, H1, I1, ry, q1⟩ => thn (ho pins s1 σ H1 _ I1 q1) fun u s2 ⟨x, H2, I2, rx, a, ov, ex, g, q2⟩ => ?_
  subst ex
  obtain rfl : u = Value.ref a := rx
  exact d_notIn hu I2 g ry fun s3 I3 => ⟨.bl (!ov.isSome), H2, I3, rfl, q2⟩
theorem ps_dput (hu : X.A.units + 1 < cLine) (ho : PE X o td) (hi : PE X i ty) (hv : PE X value tv) (hs : swapsWith value (some (.Subscript o i pos')) pos.line X.env = pure false) :
    PS X (.Assign [.Subscript o i pos'] value pos) (sDPut td ty tv) := by
  intro pins s σ H D I h
  refine wpAny_Assign_Subscript (thn (hv pins s σ H _ I h) fun r s1 ⟨v, H1, I1, rv, q1⟩ => thn (ho pins s1 σ H1 _ I1 q1) fun u s2 ⟨x, H2, I2, rx, q2⟩ => thn (hi pins s2 σ H2 _ I2 q2) fun iv s3 ⟨y, H3, I3, ry, a, H4, ex, g, q3⟩ => ?_) hs
  subst ex
  obtain rfl : u = Value.ref a := rx
  exact d_setItem hu I3 g ry rv fun s4 I4 => ⟨σ, H4, I4, q3⟩
end
theorem dt_empty {P : Program} {w : World} {H : Hp} (h : Heap) (hb : sysModules < h.objs.size) : ObjOk P w H (h.push { cls := .type "dict", data := .dict #[] }) h.objs.size (.dT []) :=
  ⟨Nat.zero_le _, beq_eq_false_iff_ne.mpr (Ne.symm (Nat.ne_of_lt hb)), [], .nil, _, #[], 0, Heap.get?_push_size _ rfl, ⟨rfl, rfl, rfl⟩, rfl, rfl, List.nodup_nil⟩
def tDNewT : TE := fun _ H Q => ∀ p, H p = none -> Q (.ref p) (upd H p (.dT []))
section
variable {X : Cx} {pos : Pos}
theorem pe_dnewT : PE X (.Dict [] [] pos) tDNewT := fun pins s σ H Q I h =>
  wpAny_Dict_empty ⟨.ref s.heap.objs.size, _, I.laid (a := s.heap.objs.size) (o := .dT []) (t' := s.toks) (fun _ _ q => Heap.get?_push_of_some _ q) (Nat.le_refl _) (dt_empty s.heap I.big), rfl, h _ (I.hok.fresh (Nat.le_refl _))⟩
end
structure M2 (X : Cx) (o : Expr) (m : Str) (apos : Pos) (e f : Expr) (cpos : Pos) : Prop where
  base : attributeBase o m X.env (eval o X.env) = eval o X.env
  few : ((backTo cpos (starEach [e, f] X.env)).all (fun x => !x.1) && (backToKw cpos (keywordEach [] X.env)).all (fun x => x.1.isSome)
    && decide (([e, f] : List Expr).length + ([] : List Keyword).length + (if ([] : List Keyword).isEmpty then 0 else 1) < 30)) = true
  line : (apos.endLine == cpos.line) = true
  trees : backTo cpos (starEach [e, f] X.env) = [(false, eval e X.env), (false, eval f X.env)]
def IsD (H : Hp) (a : Addr) : Prop := (∃ kvs, Rd H a (.dK kvs)) \/ ∃ kvs, Rd H a (.dT kvs)
theorem isD_at {X : Cx} {pins : List (Addr × Obj)} {σ : St} {H : Hp} {s : Shared} {a : Addr} (I : Inv X pins σ H s) (d : IsD H a) :
    s.TypeIs (.ref a) "dict" /\ (∀ b, Value.ref a = .ref b -> ∃ ob, s.heap.get? b = some ob /\ ob.dict = none) /\ (a == sysModules) = false := by
  rcases d with ⟨kvs, e⟩ | ⟨kvs, e⟩
  . obtain ⟨_, hd, vs, _, dd⟩ := dk_rd I.hok e
    refine ⟨dd.typeIs, fun b q => ?_, hd⟩
    cases q
    obtain ⟨ob, _, _, h1, h2, _⟩ := dd
    exact ⟨ob, h1, h2.2.1⟩
  . obtain ⟨_, hd, xs, _, dd⟩ := dt_rd I.hok e
    refine ⟨dd.typeIs, fun b q => ?_, hd⟩
    cases q
    obtain ⟨ob, _, _, h1, h2, _⟩ := dd
    exact ⟨ob, h1, h2.2.1⟩
section
variable {X : Cx} {pins : List (Addr × Obj)} {σ : St} {H : Hp} {s : Shared} {a : Addr} {y d : V} {u r : Value} {o : Option V} {A : Around} {E : Value -> Shared -> Prop}
theorem d_get2 {Q : Value -> Shared -> Prop} (hu : A.units + 1 < cLine) (I : Inv X pins σ H s) (g : DGet H a y o) (ry : RelV y u) (rd : RelV d r) (h : ∀ w' s', Inv X pins σ H s' -> RelV (o.getD d) w' -> Q w' s') :
    wpAny (model X.prog X.w) A (call (.builtin "dict.get") [.ref a, u, r]) Q E s := by
  rcases g with ⟨kvs, k, e, ey, l⟩ | ⟨kvs, k, b, e, ey, eb, l⟩
  . subst ey
    obtain ⟨z, hd, vs, rel, dd⟩ := dk_rd I.hok e
    refine call_meetsIn PySem.F.slot_dict_get dd.typeIs PySem.F.entry_dict_get (PySem.F.args_dict_get_3 _ _ _) (meets_dict_get_default (mixKind X.prog X.w) a (kV_is ry) hd r) ⟨_, dd.mapOf, h _ _ (I.tok _) ?_⟩
    rw [l]
    exact (rel.val k).getD rd
  . subst ey
    cases (show u = Value.ref b from ry)
    obtain ⟨z, hd, xs, rel, dd⟩ := dt_rd I.hok e
    refine call_meetsIn PySem.F.slot_dict_get dd.typeIs PySem.F.entry_dict_get (PySem.F.args_dict_get_3 _ _ _) (meetsH_dict_get_default (tupleKind (mixKind X.prog X.w)) a b hd r) ⟨tupleKind_room_in1 hu, k, xs, key_of I.hok eb, dd, h _ _ (I.tok _) ?_⟩
    rw [l]
    exact (rel.val k).getD rd
end
def tDGet2 (td ty tx : TE) : TE := fun σ H Q => td σ H fun x H1 => ∃ a, x = .ref a /\ IsD H1 a /\ ty σ H1 fun y H2 => tx σ H2 fun z H3 => ∃ o, DGet H3 a y o /\ Q (o.getD z) H3
section
variable {X : Cx} {o e f : Expr} {apos cpos : Pos} {td ty tx : TE}
theorem pe_dget2 (hu : X.A.units + 1 < cLine) (ho : PE X o td) (he : PE X e ty) (hf : PE X f tx) (m : M2 X o "get" apos e f cpos) : PE X (.Call (.Attribute o "get" apos) [e, f] [] cpos) (tDGet2 td ty tx) := by
  intro pins s σ H Q I h
  refine wpAny_Call_method m.base m.few m.line PySem.F.plainAttrs_dict PySem.F.slot_dict_get PySem.F.type_dict_get (thn (ho pins s σ H _ I h) fun u s1 ⟨x, H1, I1, rx, a, ex, d, q1⟩ => ?_)
  subst ex
  obtain rfl : u = Value.ref a := rx
  obtain ⟨t1, t2, _⟩ := isD_at I1 d
  refine ⟨t1, t2, ?_⟩
  rw [m.trees]
  refine Calls.callWith_builtin rfl (Calls.evalArgs_plain (Calls.spliced_cons (thn (he pins s1 σ H1 _ I1 q1) fun iv s2 ⟨y, H2, I2, ry, q2⟩ =>
    Calls.spliced_cons (thn (hf pins s2 σ H2 _ I2 q2) fun fv s3 ⟨z, H3, I3, rz, ov, g, q3⟩ => Calls.spliced_nil ?_))))
  exact d_get2 hu I3 g ry rz fun w' s4 I4 rw' => ⟨_, H3, I4, rw', q3⟩
end
section
variable {X : Cx} {pins : List (Addr × Obj)} {σ : St} {H : Hp} {s : Shared} {a : Addr} {kvs : List (Key × V)} {A : Around} {E : Value -> Shared -> Prop}
end
section
variable {X : Cx} {pins : List (Addr × Obj)} {σ : St} {H : Hp} {s : Shared} {a : Addr} {y : V} {u : Value} {A : Around} {E : Value -> Shared -> Prop}
end
end L2
set_option Elab.async false
set_option linter.all false
set_option maxRecDepth 100000
set_option maxHeartbeats 4000000
namespace L2
open PySem PySem.Spec PyProof.Rows
def clOf (env : Env) : List (Str × NameKind) -> List (Str × Addr) -> List (Str × Addr)
  | [], acc => acc
  | (n, k) :: r, acc => if (k == .free) = true then clOf env r ((n, (env.cells.lookup n).getD 0) :: acc) else clOf env r acc
theorem closure_eq {env : Env} {scope : Scope} (h : ∀ p ∈ scope.names, p.2 = .free -> ∃ c, env.cells.lookup p.1 = some c) : closureFor scope env = pure (clOf env scope.names []) := by
  have go : ∀ (l : List (Str × NameKind)) (acc : List (Str × Addr)), (∀ p ∈ l, p.2 = .free -> ∃ c, env.cells.lookup p.1 = some c) ->
      (forIn l acc fun (x : Str × NameKind) (cs : List (Str × Addr)) => (if (x.2 == .free) = true then do let c <- cellOf env x.1; pure (ForInStep.yield ((x.1, c) :: cs)) else pure (ForInStep.yield cs) : Sem (ForInStep (List (Str × Addr))))) = (pure (clOf env l acc) : Sem (List (Str × Addr))) := by
    intro l
    induction l with
    | nil => intro acc _; rfl
    | cons p r ih =>
      intro acc hl
      obtain ⟨n, k⟩ := p
      rw [List.forIn_cons]
      by_cases hk : (k == .free) = true
      . obtain ⟨c, hc⟩ := hl (n, k) List.mem_cons_self (by simpa using hk)
        have e1 : cellOf env n = pure c := by unfold cellOf; rw [hc]
        have ih' := ih ((n, c) :: acc) fun q hq => hl q (List.mem_cons_of_mem _ hq)
        show ((if (k == .free) = true then do let c <- cellOf env n; pure (ForInStep.yield ((n, c) :: acc)) else pure (ForInStep.yield acc) : Sem _) >>= _) = _
        rw [if_pos hk, e1]
        show (forIn r ((n, c) :: acc) _ : Sem _) = _
        rw [clOf, if_pos hk, hc]
        exact ih'
      . have ih' := ih acc fun q hq => hl q (List.mem_cons_of_mem _ hq)
        show ((if (k == .free) = true then do let c <- cellOf env n; pure (ForInStep.yield ((n, c) :: acc)) else pure (ForInStep.yield acc) : Sem _) >>= _) = _
        rw [if_neg hk]
        show (forIn r acc _ : Sem _) = _
        rw [clOf, if_neg hk]
        exact ih'
  have e := go scope.names [] h
  unfold closureFor
  show (forIn scope.names [] _ >>= fun cs => pure cs : Sem _) = _
  have e2 : (forIn scope.names [] (fun (x : Str × NameKind) (r : List (Str × Addr)) => (match x with
      | (name, kind) => if (kind == .free) = true then do let c <- cellOf env name; pure (ForInStep.yield ((name, c) :: r)) else do pure PUnit.unit; pure (ForInStep.yield r) : Sem (ForInStep (List (Str × Addr)))))) = (pure (clOf env scope.names []) : Sem (List (Str × Addr))) := e
  exact congrArg (fun z => z >>= fun cs => pure cs) e2
theorem clOf_mem {env : Env} : ∀ (l : List (Str × NameKind)) (acc : List (Str × Addr)), (∀ p ∈ l, p.2 = .free -> ∃ c, env.cells.lookup p.1 = some c) -> (∀ q ∈ acc, env.cells.lookup q.1 = some q.2) -> ∀ q ∈ clOf env l acc, env.cells.lookup q.1 = some q.2
  | [], _, _, ha, q, hq => ha q hq
  | (n, k) :: r, acc, hl, ha, q, hq => by
    unfold clOf at hq
    by_cases hk : (k == .free) = true
    . rw [if_pos hk] at hq
      obtain ⟨c, hc⟩ := hl (n, k) List.mem_cons_self (by simpa using hk)
      refine clOf_mem r _ (fun p hp => hl p (List.mem_cons_of_mem _ hp)) (fun p hp => ?_) q hq
      rcases List.mem_cons.mp hp with rfl | hp
      . show env.cells.lookup n = some ((env.cells.lookup n).getD 0)
        rw [hc]; rfl
      . exact ha p hp
    . rw [if_neg hk] at hq
      exact clOf_mem r _ (fun p hp => hl p (List.mem_cons_of_mem _ hp)) ha q hq
theorem clOf_has {env : Env} : ∀ (l : List (Str × NameKind)) (acc : List (Str × Addr)) (x : Str), ((x, NameKind.free) ∈ l \/ ∃ c, (x, c) ∈ acc) -> ∃ c, (x, c) ∈ clOf env l acc
  | [], _, _, h => by
    rcases h with h | h
    . cases h
    . exact h
  | (n, k) :: r, acc, x, h => by
    unfold clOf
    by_cases hk : (k == .free) = true
    . rw [if_pos hk]
      refine clOf_has r _ x ?_
      rcases h with h | ⟨c, h⟩
      . rcases List.mem_cons.mp h with h | h
        . cases h
          exact .inr ⟨_, List.mem_cons_self⟩
        . exact .inl h
      . exact .inr ⟨c, List.mem_cons_of_mem _ h⟩
    . rw [if_neg hk]
      refine clOf_has r _ x ?_
      rcases h with h | h
      . rcases List.mem_cons.mp h with h | h
        . cases h
          exact absurd rfl hk
        . exact .inl h
      . exact .inr h
theorem lookup_some_of_mem {β : Type} : ∀ {l : List (Str × β)} {x : Str} {c : β}, (x, c) ∈ l -> ∃ c', l.lookup x = some c'
  | [], _, _, h => by cases h
  | (n, d) :: r, x, c, h => by
    by_cases hx : (x == n) = true
    . exact ⟨d, by rw [List.lookup_cons, hx]⟩
    . rcases List.mem_cons.mp h with h | h
      . cases h; exact absurd (beq_self_eq_true _) hx
      . obtain ⟨c', e⟩ := lookup_some_of_mem h
        exact ⟨c', by rw [List.lookup_cons]; simp only [Bool.not_eq_true] at hx; rw [hx]; exact e⟩
def relF (env : Env) : Str × NameKind -> Str × NameKind := fun (n, k) => if (k == NameKind.free && env.scope.kind == .function && env.kindOf n == some .cell) then (n, NameKind.cell) else (n, k)
theorem relF_yes {env : Env} {n : Str} {k : NameKind} (h : (k == NameKind.free && env.scope.kind == .function && env.kindOf n == some .cell) = true) : relF env (n, k) = (n, .cell) := if_pos h
theorem relF_no {env : Env} {n : Str} {k : NameKind} (h : ¬ (k == NameKind.free && env.scope.kind == .function && env.kindOf n == some .cell) = true) : relF env (n, k) = (n, k) := if_neg h
theorem relabel_kind {env : Env} : ∀ {names : List (Str × NameKind)} {x : Str} {k : NameKind}, (∀ y ∈ names, y.2 ≠ .cell) ->
    (names.map (relF env)).lookup x = some k -> (k = .cell \/ k = .free) -> (x, NameKind.free) ∈ names
  | [], _, _, _, h, _ => by simp at h
  | (n, k') :: r, x, k, hc, h, hk => by
    have ih := @relabel_kind env r x k (fun y hy => hc y (List.mem_cons_of_mem _ hy))
    rw [List.map_cons] at h
    by_cases hb : (k' == NameKind.free && env.scope.kind == .function && env.kindOf n == some .cell) = true
    . rw [relF_yes hb, List.lookup_cons] at h
      cases hx : x == n with
      | true =>
        have e : x = n := by simpa using hx
        subst e
        have e2 : k' = .free := by
          simp only [Bool.and_eq_true] at hb
          simpa using hb.1.1
        subst e2
        exact List.mem_cons_self
      | false =>
        rw [hx] at h
        exact List.mem_cons_of_mem _ (ih h hk)
    . rw [relF_no hb, List.lookup_cons] at h
      cases hx : x == n with
      | true =>
        rw [hx] at h
        have e : x = n := by simpa using hx
        subst e
        have e2 : k' = k := Option.some.inj h
        subst e2
        rcases hk with rfl | rfl
        . exact absurd rfl (hc _ List.mem_cons_self)
        . exact List.mem_cons_self
      | false =>
        rw [hx] at h
        exact List.mem_cons_of_mem _ (ih h hk)
theorem relabel_free {env : Env} : ∀ {names : List (Str × NameKind)} {x : Str}, names.lookup x = some .free ->
    ∃ k, (k = NameKind.cell \/ k = NameKind.free) /\ (names.map (relF env)).lookup x = some k
  | [], _, h => by simp at h
  | (n, k') :: r, x, h => by
    have ih := @relabel_free env r x
    rw [List.lookup_cons] at h
    rw [List.map_cons]
    cases hx : x == n with
    | true =>
      rw [hx] at h
      have e2 : k' = .free := Option.some.inj h
      subst e2
      by_cases hb : ((NameKind.free : NameKind) == NameKind.free && env.scope.kind == .function && env.kindOf n == some .cell) = true
      . exact ⟨.cell, .inl rfl, by rw [relF_yes hb, List.lookup_cons, hx]⟩
      . exact ⟨.free, .inr rfl, by rw [relF_no hb, List.lookup_cons, hx]⟩
    | false =>
      rw [hx] at h
      obtain ⟨k, hk, e⟩ := ih h
      refine ⟨k, hk, ?_⟩
      by_cases hb : (k' == NameKind.free && env.scope.kind == .function && env.kindOf n == some .cell) = true
      . rw [relF_yes hb, List.lookup_cons, hx]; exact e
      . rw [relF_no hb, List.lookup_cons, hx]; exact e
end L2
set_option Elab.async false
set_option linter.all false
set_option maxRecDepth 100000
set_option maxHeartbeats 4000000
namespace L2
open PySem PySem.Spec PyProof.Rows
section
variable {prog : Program} {w : World} {A : Around} {R : Result -> Shared -> Prop} {s : Shared}
abbrev cpW (prog : Program) (w : World) (A : Around) (R : Result -> Shared -> Prop) (env : Env) {α : Type} (m : Sem α) (Q : α -> Shared -> Prop) : Shared -> Prop := wpAny (model prog w) A m Q (notedBy (model prog w) A env fun e t => R (.error e) t)
theorem compLoop_gen {elt target iter : Expr} {ifs : List Expr} {scope : Scope} {pos : Pos} {it acc : Value} {env : Env} (I : Nat -> Shared -> Prop)
    (turn : ∀ n s, I n s -> cpW prog w A R env (pyNext it) (fun r s => match r with
      | none => R (.ok .next) s
      | some v => cpW prog w A R env (letOwnedTupleGo target it v) (fun _ => cpW prog w A R env (assign target env v) fun _ => cpW prog w A R env (forIn ifs true fun c r => if r = true then do let ok <- isTrue c env (eval c env); pure (ForInStep.yield ok) else pure (ForInStep.yield r)) fun ok s =>
          if ok = true then cpW prog w A R env (eval elt env) (fun x => cpW prog w A R env (call (.builtin "list.append") [acc, x]) fun _ t => ∃ m, m < n /\ I m t) s else ∃ m, m < n /\ I m s) s) s)
    (n : Nat) (h : I n s) : codeAny (model prog w) A (.compLoop (.ListComp elt [⟨target, iter, ifs, 0⟩] scope pos) 0 it acc env) R s := by
  have mono : ∀ {α β : Type} {m : Sem α} {f : α -> Sem β} {Q : α -> Shared -> Prop} {Q' : β -> Shared -> Prop} {s : Shared}, cpW prog w A R env m Q s -> (∀ a t, Q a t -> cpW prog w A R env (f a) Q' t) -> cpW prog w A R env (m >>= f) Q' s := fun h k => wpAny_bind (wpAny_mono h k fun _ _ e => e)
  refine codeAny_loop rfl I (fun n s hI => wpAny_noted ?_) n h
  rw [compTurn_list]
  refine wpAny_bind (wpAny_standAt (mono (turn n s hI) fun r s1 h1 => ?_))
  cases r with
  | none => exact wpAny_pure h1
  | some v =>
    refine mono h1 fun _ _ h2 => mono h2 fun _ _ h3 => mono h3 fun ok s4 h4 => ?_
    cases ok with
    | false => exact wpAny_pure ⟨rfl, h4⟩
    | true => exact wpAny_bind (mono h4 fun _ _ h5 => mono h5 fun _ _ h6 => wpAny_pure (wpAny_pure ⟨rfl, h6⟩))
end
abbrev Cx.blk (X : Cx) (N : List Str) (sc : Scope) (C : Addr) (s₀ : Shared) (H₀ : Hp) (ex : List Addr) : Cx :=
  { X with N := N, env := compEnvC sc (clOf X.env sc.names []) C X.env, outer := X.stack, s₀ := s₀, H₀ := H₀, ex := ex, fn := fun _ => false, pn := [], xe := fun _ _ => False }
structure BlkSc (X : Cx) (sc : Scope) : Prop where
  kind : sc.kind = .function
  nocell : ∀ y ∈ sc.names, y.2 ≠ .cell
  loc : ∀ y ∈ sc.names, y.2 = .local -> sc.names.lookup y.1 = some .local
  free : ∀ y ∈ sc.names, y.2 = .free -> X.env.kindOf y.1 = some .cell \/ X.env.kindOf y.1 = some .free
abbrev Caps := List (Str × Option Nat)
def Caps.names (c : Caps) : List Str := c.map (·.1)
def Caps.st (c : Caps) (σ : St) : St := c.map fun p => p.2.bind fun j => (σ[j]?).join
def CapsOk (N : List Str) (sc : Scope) : Caps -> Prop
  | [] => True
  | (_, none) :: r => CapsOk N sc r
  | (x, some j) :: r => (N[j]? = some x /\ sc.names.lookup x = some .free) /\ CapsOk N sc r
theorem CapsOk.get {N : List Str} {sc : Scope} : ∀ {c : Caps} {i : Nat} {x : Str} {j : Nat}, CapsOk N sc c -> c[i]? = some (x, some j) -> N[j]? = some x /\ sc.names.lookup x = some .free
  | [], _, _, _, _, h => by simp at h
  | (y, none) :: r, 0, x, j, _, h => by simp at h
  | (y, none) :: r, i + 1, x, j, ok, h => CapsOk.get (c := r) (i := i) ok (by simpa using h)
  | (y, some k) :: r, 0, x, j, ok, h => by
    simp only [List.getElem?_cons_zero, Option.some.injEq, Prod.mk.injEq] at h
    obtain ⟨rfl, rfl⟩ := h
    exact ok.1
  | (y, some k) :: r, i + 1, x, j, ok, h => CapsOk.get (c := r) (i := i) ok.2 (by simpa using h)
section
variable {X : Cx} {pins : List (Addr × Obj)} {σ : St} {H : Hp} {s : Shared} {sc : Scope} {fp : List Addr}
theorem blk_cells (I : Inv X pins σ H s) (S : BlkSc X sc) : ∀ p ∈ sc.names, p.2 = .free -> ∃ c, X.env.cells.lookup p.1 = some c := fun p hp e => I.ok.has p.1 (S.free p hp e)
theorem blk_lookup (I : Inv X pins σ H s) (S : BlkSc X sc) {x : Str} {c : Addr} (h : (clOf X.env sc.names []).lookup x = some c) : X.env.cells.lookup x = some c :=
  clOf_mem sc.names [] (blk_cells I S) (fun q hq => by cases hq) (x, c) (PySem.mem_of_lookup h)
theorem blk_ok {N : List Str} {C : Addr} (I : Inv X pins σ H s) (S : BlkSc X sc) (hC : s.heap.objs.size <= C) (hf : ∀ b ∈ fp, FpOk X pins H b) (ho : ∀ b ∈ fp, ∃ o, s.heap.get? b = some o) : (X.blk N sc C s H fp).Ok where
  mod := I.ok.mod
  kind := S.kind
  glob := I.ok.glob
  blt := I.ok.blt
  above := hC
  inj := fun x y c h1 h2 => I.ok.inj x y c (blk_lookup I S h1) (blk_lookup I S h2)
  has := fun x hx => by
    have hx' : (x, NameKind.free) ∈ sc.names := by
      rcases hx with hx | hx
      . exact relabel_kind (env := X.env) S.nocell hx (.inl rfl)
      . exact relabel_kind (env := X.env) S.nocell hx (.inr rfl)
    obtain ⟨c, hc⟩ := clOf_has (env := X.env) sc.names [] x (.inl hx')
    exact lookup_some_of_mem hc
  cab := fun x c h => absurd (show false = true from h) Bool.false_ne_true
  hd := I.ok.hd
  frames := I.ok.frames
  stk := .inl rfl
  exf := fun b hb => by
    obtain ⟨o, ho⟩ := ho b hb
    refine ⟨Nat.ne_of_lt (Nat.lt_of_lt_of_le (Heap.lt_size ho) hC), fun x c h => (hf b hb).2.2.2.2.1 x c (blk_lookup I S h)⟩
  bs := I.bs
  bsz := Nat.le_trans I.ok.bsz I.sz
  noex := fun b o e hb => by
    rcases (hf b hb).2.2.2.1 with z | z
    . exact I.ok.noex b o e z
    . exact absurd (Nat.lt_of_lt_of_le (Heap.lt_size (I.ok.bs b o e).1) z) (Nat.lt_irrefl _)
  exfs := fun b hb z => by
    rcases List.mem_cons.mp (I.stkSub b z) with e | e
    . exact (hf b hb).2.1 e
    . exact (hf b hb).2.2.1 e
  funs := I.stack
  frf := I.stkFree
theorem blk_start {c : Caps} {C : Addr} {s4 : Shared} {m : Str -> Option Value} (I : Inv X pins σ H s) (S : BlkSc X sc) (hc : CapsOk X.N sc c) (hC : s.heap.objs.size <= C) (hf : ∀ b ∈ fp, FpOk X pins H b) (ho : ∀ b ∈ fp, ∃ o, s.heap.get? b = some o)
    (hos : s4.os = s.os) (hb : s4.gens = s.gens) (hk : ∀ b o, s.heap.get? b = some o -> s4.heap.get? b = some o) (hn : s4.heap.Ns C m) : Inv (X.blk c.names sc C s H fp) [] (c.st σ) H s4 where
  ok := blk_ok I S hC hf ho
  os := hos
  bare := by rw [hb]; exact I.bare
  base := Un.kept hk
  loc := by
    refine ⟨m, hn, fun i x v h1 h2 hv => ?_⟩
    have h1' : (c.map (·.1))[i]? = some x := h1
    have h2' : (c.map fun p => p.2.bind fun j => (σ[j]?).join)[i]? = some (some v) := h2
    rw [List.getElem?_map] at h1' h2'
    cases e : c[i]? with
    | none => rw [e] at h1'; cases h1'
    | some p =>
      obtain ⟨y, oj⟩ := p
      rw [e] at h1' h2'
      have e1 : y = x := Option.some.inj h1'
      subst e1
      have e2 : (oj.bind fun j => (σ[j]?).join) = some v := Option.some.inj h2'
      cases oj with
      | none => cases e2
      | some j =>
        have e3 : (σ[j]?).join = some v := e2
        have e4 : σ[j]? = some (some v) := by
          cases q : σ[j]? with
          | none => rw [q] at e3; cases e3
          | some z => rw [q] at e3; exact congrArg some e3
        obtain ⟨k1, k2⟩ := CapsOk.get hc e
        have k3 : X.env.kindOf y = some .cell \/ X.env.kindOf y = some .free := S.free (y, .free) (PySem.mem_of_lookup k2) rfl
        have vis : Vis X.env.scope y := by
          rcases k3 with k | k
          . exact .inr (.inl k)
          . exact .inr (.inr k)
        obtain ⟨mX, hnX, hl⟩ := I.loc
        obtain ⟨u, r, l⟩ := hl j y v k1 e4 vis
        refine ⟨u, r, ?_⟩
        rcases l with ⟨k, _⟩ | ⟨_, ca, hca, z⟩
        . rcases k3 with k' | k' <;> (rw [k] at k'; cases k')
        . obtain ⟨kd, hkd, ek⟩ := relabel_free (env := X.env) k2
          have hk2 : (compEnvC sc (clOf X.env sc.names []) C X.env).kindOf y = some kd := ek
          obtain ⟨c', hc'⟩ := clOf_has (env := X.env) sc.names [] y (.inl (PySem.mem_of_lookup k2))
          obtain ⟨c2, hc2⟩ := lookup_some_of_mem hc'
          have e5 := blk_lookup I S hc2
          rw [hca] at e5
          have e6 : ca = c2 := Option.some.inj e5
          subst e6
          refine .inr ⟨?_, ca, hc2, ?_⟩
          . rcases hkd with rfl | rfl
            . exact .inl hk2
            . exact .inr hk2
          . obtain ⟨oc, hoc, hd⟩ := z
            exact ⟨oc, hk _ _ hoc, hd⟩
  cell := fun x ca h => by
    obtain ⟨v, oc, hoc, hd⟩ := I.cell x ca (blk_lookup I S h)
    exact ⟨v, oc, hk _ _ hoc, hd⟩
  free := I.hok.fresh hC
  freeC := fun x ca h => I.freeC x ca (blk_lookup I S h)
  pin := fun p hp => absurd (show p ∈ ([] : List (Addr × Obj)) from hp) (by simp)
  hok := I.hok.kept hk
  len := by show (c.map _).length = (c.map _).length; rw [List.length_map, List.length_map]
theorem HOk.track {P : Program} {w : World} {H : Hp} {h : Heap} {a : Addr} {o : HO} (x : HOk P w H h) (hn : H a = none) (new : ObjOk P w (upd H a o) h a o) : HOk P w (upd H a o) h := fun b u e => by
  by_cases hb : b = a
  . subst hb; rw [upd_same] at e; cases e; exact new
  . rw [upd_ne hb] at e
    exact (x b u e).stay (fun c v _ q => q) (fun c q => by rw [upd_ne (ne_of_none q hn)]; exact q) fun c xs q => by rw [upd_ne (ne_of_none q hn)]; exact q
theorem Un.track {fs ex : List Addr} {H H' : Hp} {h h' : Heap} {a : Addr} {o : HO} (u : Un fs ex H H' h h') (ha : h.objs.size <= a) (hn : H' a = none) : Un fs ex H (upd H' a o) h h' where
  keep := u.keep
  slot := u.slot
  free := fun b ob q n hx => by rw [upd_ne (Nat.ne_of_lt (Nat.lt_of_lt_of_le (Heap.lt_size q) ha))]; exact u.free b ob q n hx
  there := u.there
  tups := fun b xs q => by rw [upd_ne (ne_of_none (u.tups b xs q) hn)]; exact u.tups b xs q
  frzs := fun b ob xs q => by rw [upd_ne (ne_of_none (u.frzs b ob xs q) hn)]; exact u.frzs b ob xs q
  tbls := fun b ps q => by
    obtain ⟨more, e⟩ := u.tbls b ps q
    exact ⟨more, by rw [upd_ne (ne_of_none e hn)]; exact e⟩
theorem blk_end {c : Caps} {C D : Addr} {s' : Shared} {σ' : St} {H' : Hp} {o : HO} (I : Inv X pins σ H s) (J : Inv (X.blk c.names sc C s H fp) [] σ' H' s') (hf : ∀ b ∈ fp, FpOk X pins H b) (hD : s.heap.objs.size <= D) (hn : H' D = none)
    (new : ObjOk X.prog X.w (upd H' D o) s'.heap D o) : Inv X pins σ (upd H' D o) s' := by
  have u : Un (frs X.stack) fp H H' s.heap s'.heap := J.base
  exact I.call' J.os (u.track hD hn) (J.hok.track hn new) J.bare fun b hb => ⟨(hf b hb).2.2.2.1, (hf b hb).2.1, (hf b hb).2.2.2.2.1, (hf b hb).2.2.2.2.2⟩
end
def PF (X : Cx) (ifs : List Expr) (t : TT) : Prop :=
  ∀ (pins : List (Addr × Obj)) (s : Shared) (σ : St) (H : Hp) (Q : Bool -> Hp -> Prop), Inv X pins σ H s -> t σ H Q ->
    wpAny (model X.prog X.w) X.A (forIn ifs true fun c r => if r = true then do let ok <- isTrue c X.env (eval c X.env); pure (ForInStep.yield ok) else pure (ForInStep.yield r)) (TP X pins σ Q) X.xe s
def tTrue : TT := fun _ H Q => Q true H
theorem pf_nil {X : Cx} : PF X [] tTrue := fun _ _ _ H _ I h => wpAny_tests_nil ⟨H, I, h⟩
def tComp (wi : TI) (cp : Caps) (g : TG) (tc : TT) (te : TE) : TE := fun σ H Q => wi σ H fun J H1 => ∃ W : Nat -> Nat -> List V -> St -> Hp -> Prop, (∃ m, W 0 m [] (cp.st σ) H1) /\ ∀ i m ys σ' H', W i m ys σ' H' ->
  ys.length < sizeLine /\ ((J.stop i H' /\ ∀ D, H' D = none -> Q (.ref D) (upd H' D (.lst ys))) \/ (J.go i H' /\ ∃ N : List V -> St -> Hp -> Prop, (∀ zs σ2 H2, N zs σ2 H2 -> ∃ m', m' < m /\ W (i + 1) m' zs σ2 H2) /\ ∀ x H2, J.yld i H' x H2 -> g x σ' H2 fun σ2 H3 => tc σ2 H3 fun b H4 =>
    if b = true then te σ2 H4 fun v H5 => N (ys ++ [v]) σ2 H5 else N ys σ2 H4))
section
variable {X : Cx} {tg iter elt : Expr} {ifs : List Expr} {sc : Scope} {pos : Pos} {wi : TI} {cp : Caps} {g : TG} {tc : TT} {te : TE}
theorem comp_core (hc : X.calm = true) (S : BlkSc X sc) (hcp : CapsOk X.N sc cp)
    (hg : ∀ C s₀ H₀ ex, PG (X.blk cp.names sc C s₀ H₀ ex) tg g) (hf : ∀ C s₀ H₀ ex, PF (X.blk cp.names sc C s₀ H₀ ex) ifs tc) (he : ∀ C s₀ H₀ ex, PE (X.blk cp.names sc C s₀ H₀ ex) elt te)
    {pins : List (Addr × Obj)} {σ : St} {H : Hp} {s : Shared} {J : It} {it : Addr} {fp : List Addr} {tn : Nat -> Heap -> Prop} {Q : VK} {RR : Value -> Addr -> Result -> Shared -> Prop} {E : Value -> Shared -> Prop}
    (I : Inv X pins σ H s) (T : Turn X.prog X.w X.K tg J fp it tn) (st : tn 0 s.heap) (fpo : ∀ b ∈ fp, FpOk X pins H b)
    (hw : ∃ W : Nat -> Nat -> List V -> St -> Hp -> Prop, (∃ m, W 0 m [] (cp.st σ) H) /\ ∀ i m ys σ' H', W i m ys σ' H' ->
      ys.length < sizeLine /\ ((J.stop i H' /\ ∀ D, H' D = none -> Q (.ref D) (upd H' D (.lst ys))) \/ (J.go i H' /\ ∃ N : List V -> St -> Hp -> Prop, (∀ zs σ2 H2, N zs σ2 H2 -> ∃ m', m' < m /\ W (i + 1) m' zs σ2 H2) /\ ∀ x H2, J.yld i H' x H2 -> g x σ' H2 fun σ2 H3 => tc σ2 H3 fun b H4 =>
        if b = true then te σ2 H4 fun v H5 => N (ys ++ [v]) σ2 H5 else N ys σ2 H4)))
    (hR : ∀ D C s' H' (m : Str -> Option Value), Inv X pins σ H' s' -> Q (.ref D) H' -> s'.heap.Ns C m -> H' C = none -> C ≠ X.env.locals -> X.s₀.heap.objs.size <= C -> (∀ x c, X.env.cells.lookup x = some c -> c ≠ C) -> (∀ p ∈ X.pn ++ pins, p.1 ≠ C) -> RR (.ref D) C (.ok .next) s') :
    wpAny (model X.prog X.w) X.A (newList []) (fun acc s₃ => wpAny (model X.prog X.w) X.A (newFunctionEnv sc X.env.globals (clOf X.env sc.names []) [] X.env.qual none .none (some X.env)) (fun cenv s₄ =>
      codeAny (model X.prog X.w) X.A (.compStart (.ListComp elt [⟨tg, iter, ifs, 0⟩] sc pos) 0 (.ref it) acc { cenv with scope := relabel sc X.env }) (RR acc cenv.locals) s₄) E s₃) E s := by
  obtain ⟨W, ⟨m0, w0⟩, turn⟩ := hw
  refine wpAny_newObj_type (wpAny_newFunctionEnv S.nocell (by intro y hy; simp at hy) (fun h₁ hns₁ hsb₁ => ?_) S.kind)
  dsimp only at hns₁ hsb₁ ⊢
  generalize hH2 : s.heap.push { cls := .type "list", dict := none, data := .seq ([] : List Value).toArray } = H2 at hns₁ hsb₁ ⊢
  have hC : H2.objs.size = s.heap.objs.size + 1 := by rw [<- hH2, Heap.size_push]
  have hDC : s.heap.objs.size ≠ H2.objs.size := by rw [hC]; exact Nat.ne_of_lt (Nat.lt_succ_self _)
  have hCle : s.heap.objs.size <= H2.objs.size := by rw [hC]; exact Nat.le_succ _
  have below : ∀ b, b < s.heap.objs.size -> b ≠ H2.objs.size := fun b hb => by rw [hC]; exact Nat.ne_of_lt (Nat.lt_succ_of_lt hb)
  have old : ∀ b o, s.heap.get? b = some o -> h₁.get? b = some o := fun b o e => hsb₁.extBut b o (below b (Heap.lt_size e)) (Heap.get?_push_of_some _ (hH2 ▸ Heap.get?_push_of_some _ e))
  have hacc : h₁.get? s.heap.objs.size = some { cls := .type "list", data := .seq ([] : List Value).toArray 0 } := hsb₁.extBut _ _ hDC (Heap.get?_push_of_some _ (hH2 ▸ Heap.get?_push_size _ rfl))
  have hst₁ : tn 0 h₁ := T.keep 0 _ _ st fun b _ o e => old b o e
  have hobj : ∀ b ∈ fp, ∃ o, s.heap.get? b = some o := fun b hb => let ⟨o, e, _⟩ := T.obj 0 _ st b hb; ⟨o, e⟩
  have J0 : Inv (X.blk cp.names sc H2.objs.size s H fp) [] (cp.st σ) H { s with heap := h₁, toks := s.toks + ([] : List (Str × Value)).length } := blk_start I S hcp hCle fpo hobj rfl rfl old hns₁
  have nfs : ∀ b, s.heap.objs.size <= b -> b ∉ frs X.stack := fun b hb z => by
    rcases List.mem_cons.mp (I.stkSub b z) with e | e
    . exact absurd (Nat.lt_of_lt_of_le I.lt (by rw [<- e]; exact hb)) (Nat.lt_irrefl _)
    . exact I.nofs hb e
  have ncell : ∀ b, s.heap.objs.size <= b -> ∀ x c, X.env.cells.lookup x = some c -> c ≠ b := fun b hb x c e z => by
    obtain ⟨v, q⟩ := I.cell x c e
    exact absurd (Nat.lt_of_lt_of_le q.lt (by rw [z]; exact hb)) (Nat.lt_irrefl _)
  have fpb : ∀ {pins' : List (Addr × Obj)} {H' : Hp}, (∀ b ∈ fp, H' b = none) -> (∀ p ∈ pins', p.1 ∉ fp) -> ∀ b ∈ fp, FpOk (X.blk cp.names sc H2.objs.size s H fp) pins' H' b := fun {pins' H'} hn hp b hb => by
    obtain ⟨o, e⟩ := hobj b hb
    refine ⟨hn b hb, below b (Heap.lt_size e), fun z => ?_, .inl hb, fun x c h => (fpo b hb).2.2.2.2.1 x c (blk_lookup I S h), fun p hp' z => ?_⟩
    . rcases List.mem_cons.mp (I.stkSub b z) with e | e
      . exact (fpo b hb).2.1 e
      . exact (fpo b hb).2.2.1 e
    . have hp'' : p ∈ pins' := by simpa using hp'
      exact hp p hp'' (by rw [z]; exact hb)
  have loop : ∀ s₃ : Shared, s₃ = { s with heap := h₁, toks := s.toks + ([] : List (Str × Value)).length } ->
      codeAny (model X.prog X.w) X.A (.compLoop (.ListComp elt [⟨tg, iter, ifs, 0⟩] sc pos) 0 (.ref it) (.ref s.heap.objs.size) (compEnvC sc (clOf X.env sc.names []) H2.objs.size X.env))
        (RR (.ref s.heap.objs.size) H2.objs.size) s₃ := by
    rintro s₃ rfl
    refine compLoop_gen (fun n s' => ∃ i σ' H' ys its k, Inv (X.blk cp.names sc H2.objs.size s H fp) [] σ' H' s' /\ tn i s'.heap /\ (∀ b ∈ fp, H' b = none) /\ H' s.heap.objs.size = none /\
      s'.heap.get? s.heap.objs.size = some { cls := .type "list", data := .seq its.toArray k } /\ Vals ys its /\ W i n ys σ' H') ?_ m0
      ⟨0, _, H, [], [], 0, J0, hst₁, fun b hb => (fpo b hb).1, I.hok.fresh (Nat.le_refl _), hacc, .nil, w0⟩
    rintro n s3 ⟨i, σ3, H3, ys, its, k, I3, st3, fr3, hD3, e3, rv, w3⟩
    obtain ⟨hz, tr⟩ := turn i n ys σ3 H3 w3
    have hlen := rv.length
    -- the accumulator stands still while anything else runs
    have dpin : ∀ p ∈ [(s.heap.objs.size, ({ cls := .type "list", data := .seq its.toArray k } : Obj))], p.1 ∉ fp := fun p hp z => by
      have e : p = _ := List.mem_singleton.mp hp
      subst e
      obtain ⟨o, e⟩ := hobj _ z
      exact absurd (Heap.lt_size e) (Nat.lt_irrefl _)
    have I3' : Inv (X.blk cp.names sc H2.objs.size s H fp) [(s.heap.objs.size, ({ cls := .type "list", data := .seq its.toArray k } : Obj))] σ3 H3 s3 := I3.pins_of fun p hp => by
      have e : p = _ := List.mem_singleton.mp hp
      subst e
      exact ⟨e3, hD3, hDC, nfs _ (Nat.le_refl _), fun v z => by cases z⟩
    have stat : ∀ b ∈ fp, FpOk (X.blk cp.names sc H2.objs.size s H fp) [(s.heap.objs.size, ({ cls := .type "list", data := .seq its.toArray k } : Obj))] H3 b := fpb fr3 dpin
    rcases tr with ⟨stop, qn⟩ | ⟨go, N, hN, step⟩
    . refine thn (T.done (X.blk cp.names sc H2.objs.size s H fp) rfl rfl rfl hc i _ s3 σ3 H3 _ I3' stat st3 stop) fun r s4 ⟨hr, I4⟩ => ?_
      subst hr
      obtain ⟨e4, n4, _⟩ := I4.pin (s.heap.objs.size, ({ cls := .type "list", data := .seq its.toArray k } : Obj)) (by simp)
      have new : ObjOk X.prog X.w (upd H3 s.heap.objs.size (.lst ys)) s4.heap s.heap.objs.size (.lst ys) := ⟨Nat.le_of_lt hz, its, k, rv, e4⟩
      obtain ⟨mC, hnC, _⟩ := I4.loc
      have I4' : Inv (X.blk cp.names sc H2.objs.size s H fp) [] σ3 H3 s4 := I4.pins_of fun p hp => by cases hp
      have I5 := blk_end I I4' fpo (Nat.le_refl _) n4 new
      refine hR _ _ s4 _ mC I5 (qn _ n4) hnC ?_ (Nat.ne_of_gt (Nat.lt_of_lt_of_le I.lt hCle)) (Nat.le_trans I.sz hCle) (ncell _ hCle) fun p hp z => ?_
      . rw [upd_ne (Ne.symm hDC)]; exact I4.free
      . exact absurd (Nat.lt_of_lt_of_le (Heap.lt_size (I.pin p hp).1) (by rw [z]; exact hCle)) (Nat.lt_irrefl _)
    . refine thn (T.item (X.blk cp.names sc H2.objs.size s H fp) rfl rfl rfl hc i _ s3 σ3 H3 _ I3' stat st3 go) fun r s4 ⟨u, hr, h4⟩ => ?_
      subst hr
      refine thn h4 fun _ s5 ⟨x, H5, I5, r5, y5, st5, fr5⟩ => ?_
      have I5' := I5.pinned (fpb fr5 dpin) (T.obj _ _ st5)
      have fin : ∀ {σ7 : St} {H7 : Hp} {s7 : Shared}, Inv (X.blk cp.names sc H2.objs.size s H fp) ([(s.heap.objs.size, ({ cls := .type "list", data := .seq its.toArray k } : Obj))] ++ pinsAt fp s5.heap) σ7 H7 s7 ->
          s7.heap.get? s.heap.objs.size = some { cls := .type "list", data := .seq its.toArray k } /\ H7 s.heap.objs.size = none /\ (∀ b ∈ fp, H7 b = none) /\ ∀ b ∈ fp, ∀ o, s5.heap.get? b = some o -> s7.heap.get? b = some o := fun {σ7 H7 s7} I7 => by
        obtain ⟨e7, n7, _⟩ := I7.pin (s.heap.objs.size, ({ cls := .type "list", data := .seq its.toArray k } : Obj)) (by simp)
        refine ⟨e7, n7, fun b hb => ?_, fun b hb o e => ?_⟩
        . obtain ⟨o, e, _⟩ := T.obj _ _ st5 b hb
          exact (I7.pin (b, o) (List.mem_append_right _ (List.mem_append_right _ (mem_pinsAt hb e)))).2.1
        . exact (I7.pin (b, o) (List.mem_append_right _ (List.mem_append_right _ (mem_pinsAt hb e)))).1
      refine wpAny_mono (hg _ _ _ _ _ s5 σ3 H5 x u _ I5' r5 (step x H5 y5)) (fun _ s6 ⟨σ6, H6, I6, q6⟩ => ?_) fun _ _ z => False.elim z
      refine wpAny_mono (hf _ _ _ _ _ s6 σ6 H6 _ I6 q6) (fun ok s7 ⟨H7, I7, q7⟩ => ?_) fun _ _ z => False.elim z
      cases ok with
      | false =>
        rw [if_neg Bool.false_ne_true]
        rw [if_neg Bool.false_ne_true] at q7
        obtain ⟨m', hm, w7⟩ := hN _ _ _ q7
        obtain ⟨e7, n7, fr7, k7⟩ := fin I7
        exact ⟨m', hm, i + 1, σ6, H7, ys, its, k, I7.pins_of (fun p hp => by cases hp), T.keep _ _ _ st5 k7, fr7, n7, e7, rv, w7⟩
      | true =>
        rw [if_pos rfl]
        rw [if_pos rfl] at q7
        refine wpAny_mono (he _ _ _ _ _ s7 σ6 H7 _ I7 q7) (fun v s8 ⟨y, H8, I8, r8, q8⟩ => ?_) fun _ _ z => False.elim z
        obtain ⟨m', hm, w8⟩ := hN _ _ _ q8
        obtain ⟨e8, n8, fr8, k8⟩ := fin I8
        refine call_meets F.slot_list_append ⟨_, e8, rfl⟩ F.entry_list_append (F.args_list_append_2 _ _) (PySem.list_append s.heap.objs.size its.toArray k v (by rw [List.size_toArray]; omega)) ⟨e8, ?_⟩
        obtain ⟨k', q⟩ : ∃ k', (s8.heap.update s.heap.objs.size (Obj.mapSeq fun x => x.push v)).get? s.heap.objs.size = some { cls := .type "list", data := .seq (its ++ [v]).toArray k' } := ⟨_, by
          have q := PySem.IsL.update e8 fun x => x.push v
          have e : (its ++ [v]).toArray = its.toArray.push v := by simp
          rw [e]
          exact q⟩
        have I8' : Inv (X.blk cp.names sc H2.objs.size s H fp) [] σ6 H8 s8 := I8.pins_of fun p hp => by cases hp
        have I9 : Inv (X.blk cp.names sc H2.objs.size s H fp) [] σ6 H8 { s8 with heap := s8.heap.update s.heap.objs.size (Obj.mapSeq fun x => x.push v), toks := s8.toks } :=
          I8'.turned (it := s.heap.objs.size) (fun b o hb e => (Heap.get?_update_other _ _ (Ne.symm hb)).trans e) n8 hDC (.inr (Nat.le_refl _)) (fun x c e => ncell _ (Nat.le_refl _) x c (blk_lookup I S e)) (fun p hp => by cases hp)
        refine ⟨m', hm, i + 1, σ6, H8, ys ++ [y], its ++ [v], k', I9, T.keep (i + 1) s5.heap _ st5 (fun b hb o e => ?_), fr8, n8, q, rv.append (.cons r8 .nil), w8⟩
        . refine (Heap.get?_update_other _ _ ?_).trans (k8 b hb o e)
          intro z
          obtain ⟨ob, eb⟩ := hobj b hb
          exact absurd (Heap.lt_size eb) (by rw [<- z]; exact Nat.lt_irrefl _)
  exact codeAny_compStart_list (loop _ rfl) (T.self _ 0 _ _ _ hst₁ (loop _ rfl))
theorem pe_comp (hc : X.calm = true) (S : BlkSc X sc) (hcp : CapsOk X.N sc cp) (hi : PI X tg iter wi)
    (hg : ∀ C s₀ H₀ ex, PG (X.blk cp.names sc C s₀ H₀ ex) tg g) (hf : ∀ C s₀ H₀ ex, PF (X.blk cp.names sc C s₀ H₀ ex) ifs tc) (he : ∀ C s₀ H₀ ex, PE (X.blk cp.names sc C s₀ H₀ ex) elt te)
    (hs : ∀ x, foldedSetIterable iter X.env x = pure x := by intro _; rfl) : PE X (.ListComp elt [⟨tg, iter, ifs, 0⟩] sc pos) (tComp wi cp g tc te) := by
  intro pins s σ H Q I h
  rw [eval_ListComp]
  refine wpAny_comprehension_free (use := none) rfl hs (closure_eq (blk_cells I S)) S.kind S.loc (thn (hi pins s σ H _ I h) fun xv s₁ h₁ => thn h₁ fun itv s₂ h₂ => ?_)
  obtain ⟨it, fp, tn, J, H2, e, I2, T, st2, f2, hw⟩ := h₂
  subst e
  refine comp_core (RR := fun acc C => compPost (model X.prog X.w) X.A X.xe none (EP X pins σ Q) acc C) hc S hcp hg hf he I2 T st2 f2 hw ?_
  intro D C s' H' m I' q hn hC hL hz hcl hp
  exact ⟨m, hn, fun h' hs' => ⟨.ref D, H', I'.turned (t' := s'.toks) (it := C) (fun b o hb e => hs'.extBut b o hb e) hC hL (.inr hz) hcl hp, rfl, q⟩⟩
theorem ps_setC {i : Nat} {x : Str} {px spos : Pos} (hN : X.N.Nodup) (hi : X.N[i]? = some x) (hx : X.env.scope.names.lookup x = some .local) (hc : X.calm = true) (S : BlkSc X sc) (hcp : CapsOk X.N sc cp) (hit : PI X tg iter wi)
    (hg : ∀ C s₀ H₀ ex, PG (X.blk cp.names sc C s₀ H₀ ex) tg g) (hf : ∀ C s₀ H₀ ex, PF (X.blk cp.names sc C s₀ H₀ ex) ifs tc) (he : ∀ C s₀ H₀ ex, PE (X.blk cp.names sc C s₀ H₀ ex) elt te)
    (hsw : swapsWith (.ListComp elt [⟨tg, iter, ifs, 0⟩] sc pos) (some (.Name x px)) spos.line X.env = pure true := by rfl)
    (hs : ∀ x, foldedSetIterable iter X.env x = pure x := by intro _; rfl) : PS X (.Assign [.Name x px] (.ListComp elt [⟨tg, iter, ifs, 0⟩] sc pos) spos) (tAsg (tComp wi cp g tc te) (gName i)) := by
  intro pins s σ H D I h
  rw [exec_Assign_Name_used _ _ _ _ hsw]
  refine wpAny_bind (wpAny_standAt (wpAny_bind ?_))
  show wpAny _ X.A (do let _ <- comprehension (.ListComp elt [⟨tg, iter, ifs, 0⟩] sc pos) sc X.env _ (newList []) false (eval iter X.env) (some (assign (.Name x px) X.env))) _ _ s
  refine wpAny_bind (wpAny_mono (wpAny_comprehension_free (use := some (assign (.Name x px) X.env)) (Q := fun _ s' => SP X pins D .next s') rfl hs (closure_eq (blk_cells I S)) S.kind S.loc
    (thn (hit pins s σ H _ I h) fun xv s₁ h₁ => thn h₁ fun itv s₂ h₂ => ?_)) (fun _ s' hq => wpAny_pure (wpAny_pure hq)) fun _ _ e => e)
  obtain ⟨it, fp, tn, J, H2, e, I2, T, st2, f2, hw⟩ := h₂
  subst e
  refine comp_core (RR := fun acc C => compPost (model X.prog X.w) X.A X.xe (some (assign (.Name x px) X.env)) (fun _ s' => SP X pins D .next s') acc C) (Q := fun v H1 => gName i v σ H1 D.nx) hc S hcp hg hf he I2 T st2 f2 hw ?_
  intro Dl C s' H' m I' q hn hC hL hz hcl hp
  show wpAny _ X.A (assign (.Name x px) X.env (.ref Dl)) _ _ _
  refine wpAny_assign_Name (store_ok2 I' hN hi (.inl hx) (v := .ref Dl) rfl (fun s'' I'' ⟨a, hsb, ha⟩ => ?_) (.inr hx))
  have hne : C ≠ a := by
    rcases ha with rfl | ha
    . exact hL
    . exact fun z => hcl _ _ ha z.symm
  refine ⟨m, hn.sameBut hsb hne, fun h' hs' => ⟨_, H', I''.turned (t' := s''.toks) (it := C) (fun b o hb e => hs'.extBut b o hb e) hC hL (.inr hz) hcl hp, q⟩⟩
end
theorem comp_tup {K : PySem.W.Frag} {a : Addr} {xs : List V} {g : TG} {tc : TT} {te : TE} {Q : VK} {σ : St} {H : Hp} (Pv : Nat -> List V -> St -> Hp -> Prop) (h0 : Pv 0 [] σ H) (hz : xs.length < sizeLine)
    (hl : ∀ i ys σ H, i <= xs.length -> Pv i ys σ H -> SqT K H a xs /\ ys.length <= i)
    (hs : ∀ i x ys σ H, xs[i]? = some x -> Pv i ys σ H -> g x σ H fun σ2 H2 => tc σ2 H2 fun b H3 => if b = true then te σ2 H3 fun v H4 => Pv (i + 1) (ys ++ [v]) σ2 H4 else Pv (i + 1) ys σ2 H3)
    (hd : ∀ ys σ H, Pv xs.length ys σ H -> ∀ D, H D = none -> Q (.ref D) (upd H D (.lst ys))) :
    ∃ W : Nat -> Nat -> List V -> St -> Hp -> Prop, (∃ m, W 0 m [] σ H) /\ ∀ i m ys σ' H', W i m ys σ' H' ->
      ys.length < sizeLine /\ (((Itt K a).stop i H' /\ ∀ D, H' D = none -> Q (.ref D) (upd H' D (.lst ys))) \/ ((Itt K a).go i H' /\ ∃ N : List V -> St -> Hp -> Prop, (∀ zs σ2 H2, N zs σ2 H2 -> ∃ m', m' < m /\ W (i + 1) m' zs σ2 H2) /\ ∀ x H2, (Itt K a).yld i H' x H2 -> g x σ' H2 fun σ2 H3 => tc σ2 H3 fun b H4 =>
        if b = true then te σ2 H4 fun v H5 => N (ys ++ [v]) σ2 H5 else N ys σ2 H4)) := by
  refine ⟨fun i m ys σ H => m = xs.length - i /\ i <= xs.length /\ Pv i ys σ H, ⟨xs.length, by simp, Nat.zero_le _, h0⟩, ?_⟩
  rintro i m ys σ H ⟨rfl, hi, p⟩
  obtain ⟨q, ly⟩ := hl i ys σ H hi p
  refine ⟨by omega, ?_⟩
  by_cases hlt : i < xs.length
  . refine .inr ⟨⟨xs, xs[i], q, by simp [hlt]⟩, Pv (i + 1), fun zs σ' H' p' => ⟨xs.length - (i + 1), by omega, rfl, hlt, p'⟩, fun x H' y => ?_⟩
    obtain ⟨e, y⟩ := y
    subst e
    exact hs i x ys σ _ (y xs q) p
  . have e : i = xs.length := by omega
    subst e
    exact .inl ⟨⟨xs, q, Nat.le_refl _⟩, hd ys σ H p⟩
theorem comp_range {lo : Int} {n : Nat} {g : TG} {tc : TT} {te : TE} {Q : VK} {σ : St} {H : Hp} (Pv : Nat -> List V -> St -> Hp -> Prop) (h0 : Pv 0 [] σ H) (hz : n < sizeLine)
    (hl : ∀ i ys σ H, i <= n -> Pv i ys σ H -> ys.length <= i)
    (hs : ∀ i ys σ H, i < n -> Pv i ys σ H -> g (.int (lo + i)) σ H fun σ2 H2 => tc σ2 H2 fun b H3 => if b = true then te σ2 H3 fun v H4 => Pv (i + 1) (ys ++ [v]) σ2 H4 else Pv (i + 1) ys σ2 H3)
    (hd : ∀ ys σ H, Pv n ys σ H -> ∀ D, H D = none -> Q (.ref D) (upd H D (.lst ys))) :
    ∃ W : Nat -> Nat -> List V -> St -> Hp -> Prop, (∃ m, W 0 m [] σ H) /\ ∀ i m ys σ' H', W i m ys σ' H' ->
      ys.length < sizeLine /\ (((Itr lo n).stop i H' /\ ∀ D, H' D = none -> Q (.ref D) (upd H' D (.lst ys))) \/ ((Itr lo n).go i H' /\ ∃ N : List V -> St -> Hp -> Prop, (∀ zs σ2 H2, N zs σ2 H2 -> ∃ m', m' < m /\ W (i + 1) m' zs σ2 H2) /\ ∀ x H2, (Itr lo n).yld i H' x H2 -> g x σ' H2 fun σ2 H3 => tc σ2 H3 fun b H4 =>
        if b = true then te σ2 H4 fun v H5 => N (ys ++ [v]) σ2 H5 else N ys σ2 H4)) := by
  refine ⟨fun i m ys σ H => m = n - i /\ i <= n /\ Pv i ys σ H, ⟨n, by simp, Nat.zero_le _, h0⟩, ?_⟩
  rintro i m ys σ H ⟨rfl, hi, p⟩
  have ly := hl i ys σ H hi p
  refine ⟨by omega, ?_⟩
  by_cases hlt : i < n
  . refine .inr ⟨hlt, Pv (i + 1), fun zs σ' H' p' => ⟨n - (i + 1), by omega, rfl, hlt, p'⟩, fun x H' y => ?_⟩
    obtain ⟨e, y⟩ := y
    subst e y
    exact hs i ys σ _ hlt p
  . have e : i = n := by omega
    subst e
    exact .inl ⟨Nat.le_refl _, hd ys σ H p⟩
end L2
set_option Elab.async false
set_option linter.all false
set_option maxRecDepth 100000
set_option maxHeartbeats 4000000
namespace L2
open PySem PySem.Spec PyProof.Rows
section
variable {X : Cx}
theorem vals_bool_get {bs : List Bool} {its : List Value} (r : Vals (bs.map V.bl) its) {i : Nat} {v : Value} (h : its[i]? = some v) : ∃ b, bs[i]? = some b /\ v = .bool b := by
  have hi : i < its.length := (List.getElem?_eq_some_iff.mp h).1
  have hl := r.length
  rw [List.length_map] at hl
  obtain ⟨u, hu, ru⟩ := r.get (i := i) (x := V.bl bs[i]) (by rw [List.getElem?_map]; simp [show i < bs.length by omega])
  rw [h] at hu
  cases hu
  exact ⟨bs[i], by simp [show i < bs.length by omega], ru⟩
theorem map_at (bs : List Bool) : (List.range bs.length).map (fun i => bs.getD i false) = bs :=
  List.ext_getElem (by simp) fun i _ h => by simp [h]
theorem range_all {bs : List Bool} : (List.range bs.length).all (fun i => bs.getD i false) = bs.all id := by
  have e := congrArg (fun l => l.all id) (map_at bs)
  rw [List.all_map] at e; exact e
theorem truth_bools {bs : List Bool} {its : List Value} {A : Around} {P : Program} {w : World} (r : Vals (bs.map V.bl) its) : TruthOf P w A (fun i v => its.toArray[i]? = some v) (fun i => bs.getD i false) := by
  intro i v s Q E hv hq
  obtain ⟨b, hb, e⟩ := vals_bool_get r (by simpa using hv)
  subst e
  refine wpAny_truthy_bool ?_
  have e : bs.getD i false = b := by rw [List.getD_eq_getElem?_getD, hb]; rfl
  have hq' : Q (bs.getD i false) s := hq
  rw [e] at hq'
  exact hq'
theorem call_all (hc : X.calm = true) : CallR X (.builtin "all") (fun xs H Q => ∃ (p : Addr) (bs : List Bool), xs = [.ref p] /\ SqL X.K H p (bs.map V.bl) /\ Q (.bl (bs.all id)) H) := by
  intro pins s σ H xs us Q I r h
  obtain ⟨p, bs, rfl, hq, q⟩ := h
  obtain ⟨u, rfl, ru⟩ := vals1 r
  cases ru
  obtain ⟨its, rv, pl, hz⟩ := I.list hq
  have hlen := rv.length
  rw [List.length_map] at hlen
  have hh : X.A.in1.handled = none := I.ok.hd hc
  obtain ⟨o, ho, _⟩ := id pl.isList
  have hne : p ≠ s.heap.objs.size := Nat.ne_of_lt (Heap.lt_size ho)
  refine call_all_walk (wpAny_pyIter_list pl.isList ?_)
  refine ⟨s.heap.objs.size, _, _, its.toArray.size, _, _, fun i => bs.getD i false, rfl, Walks.list hh _ p hne its.toArray, ⟨⟨_, Heap.get?_push_size _ rfl, rfl, rfl⟩, pl.isList.at fun o e => Heap.get?_push_of_some _ e⟩, truth_bools rv, fun h' tk hk => ?_⟩
  refine ⟨.bl (bs.all id), H, I.kept (t' := tk) fun b o e => hk b o ?_ (Heap.get?_push_of_some _ e), ?_, q⟩
  . intro hb
    have e' : b = s.heap.objs.size := by simpa using hb
    exact absurd (Heap.lt_size e) (by rw [e']; exact Nat.lt_irrefl _)
  . rw [List.size_toArray, <- hlen, range_all]; rfl
theorem call_isinst : CallR X (.builtin "isinstance") (fun xs H Q => ∃ x c cv t b, xs = [x, c] /\ TyOf X.K H x t /\ (∀ u, RelV c u -> u = cv) /\ PySem.W.kitOne X.K t cv = some b /\ Q (.bl b) H) := by
  intro pins s σ H xs us Q I r h
  obtain ⟨x, c, cv, t, b, rfl, ty, hc, hk, q⟩ := h
  obtain ⟨u, w', rfl, rx, rc⟩ := vals2 r
  rw [hc _ rc]
  exact isinst_ok I rx ty hk fun tk => ⟨.bl b, H, I.tok tk, rfl, q⟩
def EqD (K : PySem.W.Frag) (H : Hp) : Nat -> V -> V -> Bool -> Prop
  | 0, x, y, b => flatV x = true /\ flatV y = true /\ b = eqV x y
  | n + 1, x, y, b => (flatV x = true /\ flatV y = true /\ b = eqV x y) \/ ∃ a c xs ys, x = .ref a /\ y = .ref c /\ ((SqL K H a xs /\ SqL K H c ys) \/ (SqT K H a xs /\ SqT K H c ys)) /\ 
      ∃ e : Nat -> Bool, (∀ i x y, xs[i]? = some x -> ys[i]? = some y -> EqD K H n x y (e i)) /\ b = (decide (xs.length = ys.length) && (List.range (min xs.length ys.length)).all e)
theorem in1_units (A : Around) : A.in1.units = A.units + 1 := rfl
theorem eqV_self {x : V} (h : flatV x = true) : eqV x x = true := by
  cases x <;> first | rfl | (simp [eqV]; done) | exact absurd (show false = true from h) Bool.false_ne_true
theorem EqD.self {pins : List (Addr × Obj)} {s : Shared} {σ : St} {H : Hp} (I : Inv X pins σ H s) : ∀ (n : Nat) {x : V} {b : Bool}, EqD X.K H n x x b -> b = true := by
  intro n
  induction n with
  | zero =>
    rintro x b ⟨fx, _, rfl⟩
    exact eqV_self fx
  | succ n ih =>
    rintro x b (⟨fx, _, rfl⟩ | ⟨a, c, xs, ys, rfl, e2, hq, e, he, rfl⟩)
    . exact eqV_self fx
    . cases e2
      have exy : xs = ys := by
        rcases hq with ⟨h1, h2⟩ | ⟨h1, h2⟩
        . exact I.list_inj h1 h2
        . exact I.tuple_inj h1 h2
      subst exy
      simp only [decide_true, Bool.true_and, Nat.min_self, List.all_eq_true, List.mem_range]
      intro i hi
      exact ih (he i xs[i] xs[i] (by simp [hi]) (by simp [hi]))
theorem all_and {n m : Nat} {e : Nat -> Bool} : ((List.range (min n m)).all e && n == m) = (decide (n = m) && (List.range (min n m)).all e) := by
  rw [Bool.and_comm]
  congr 1
theorem EqD.at {pins : List (Addr × Obj)} {s : Shared} {σ : St} {H : Hp} (I : Inv X pins σ H s) : ∀ (n : Nat) (A : Around) {x y : V} {u v : Value} {b : Bool}, A.units + n < cLine -> RelV x u -> RelV y v -> EqD X.K H n x y b ->
    SeqAt.EqAt A s u v b /\ ∀ a c, x = .ref a -> y = .ref c -> SeqAt.RcAt A s u v b := by
  intro n
  induction n with
  | zero =>
    intro A x y u v b hu rx ry h
    obtain ⟨fx, fy, rfl⟩ := h
    refine ⟨eqAt_V rx ry fx fy, ?_⟩
    rintro a c rfl rfl
    exact absurd (show false = true from fx) Bool.false_ne_true
  | succ n ih =>
    intro A x y u v b hu rx ry h
    have hself := h
    rcases h with ⟨fx, fy, rfl⟩ | ⟨a, c, xs, ys, rfl, rfl, hq, e, he, rfl⟩
    . refine ⟨eqAt_V rx ry fx fy, ?_⟩
      rintro a c rfl rfl
      exact absurd (show false = true from fx) Bool.false_ne_true
    . cases rx
      cases ry
      have key : ∀ (its its2 : List Value), Vals xs its -> Vals ys its2 -> ∀ j (h1 : j < its.toArray.size) (h2 : j < its2.toArray.size), SeqAt.EqAt A.in1 s its.toArray[j] its2.toArray[j] (e j) := fun its its2 r1 r2 j h1 h2 => by
        have l1 := r1.length
        have l2 := r2.length
        rw [List.size_toArray] at h1 h2
        obtain ⟨u1, g1, q1⟩ := r1.get (i := j) (x := xs[j]'(by omega)) (by simp [show j < xs.length by omega])
        obtain ⟨u2, g2, q2⟩ := r2.get (i := j) (x := ys[j]'(by omega)) (by simp [show j < ys.length by omega])
        have k1 : its.toArray[j]'(by rw [List.size_toArray]; exact h1) = u1 := by
          have := (List.getElem?_eq_some_iff.mp g1).2
          simpa using this
        have k2 : its2.toArray[j]'(by rw [List.size_toArray]; exact h2) = u2 := by
          have := (List.getElem?_eq_some_iff.mp g2).2
          simpa using this
        rw [k1, k2]
        exact (ih A.in1 (by rw [in1_units]; omega) q1 q2 (he j _ _ (by simp [show j < xs.length by omega]) (by simp [show j < ys.length by omega]))).1
      have rc : SeqAt.RcAt A s (.ref a) (.ref c) (decide (xs.length = ys.length) && (List.range (min xs.length ys.length)).all e) := by
        rcases hq with ⟨h1, h2⟩ | ⟨h1, h2⟩
        . obtain ⟨its, r1, p1, _⟩ := I.list h1
          obtain ⟨its2, r2, p2, _⟩ := I.list h2
          have l1 := r1.length
          have l2 := r2.length
          by_cases hl : xs.length = ys.length
          . have := SeqAt.RcAt.lists (e := e) p1.isList p2.isList (by rw [List.size_toArray, List.size_toArray]; omega) (by omega) (key its its2 r1 r2)
            rw [List.size_toArray, <- l1] at this
            rw [decide_eq_true hl, Bool.true_and, <- hl, Nat.min_self]
            exact this
          . rw [decide_eq_false hl, Bool.false_and]
            exact SeqAt.RcAt.lists_lengths p1.isList p2.isList (by rw [List.size_toArray, List.size_toArray]; simp; omega) (by omega)
        . obtain ⟨its, r1, p1, _⟩ := I.tuple h1
          obtain ⟨its2, r2, p2, _⟩ := I.tuple h2
          have l1 := r1.length
          have l2 := r2.length
          have := SeqAt.RcAt.tuples (e := e) (show s.heap.IsTuple a its.toArray from p1) (show s.heap.IsTuple c its2.toArray from p2) (by omega) (key its its2 r1 r2)
          rw [List.size_toArray, List.size_toArray, <- l1, <- l2, all_and] at this
          exact this
      refine ⟨?_, fun a' c' _ _ => rc⟩
      by_cases hac : a = c
      . subst hac
        rw [EqD.self I (n + 1) hself]
        exact SeqAt.EqAt.same _
      . exact SeqAt.EqAt.of_refs hac rc
def rEqD (K : PySem.W.Frag) (n : Nat) : R2 := fun x y H Q => ∃ a c b, x = .ref a /\ y = .ref c /\ EqD K H n x y b /\ Q (.bl b) H
theorem op_eqD (n : Nat) (hu : X.A.units + n < cLine) : OpR X (compareOp .Eq) (rEqD X.K n) := by
  intro pins s σ H x y v u Q I rx ry h
  obtain ⟨a, c, b, ex, ey, h, q⟩ := h
  exact (EqD.at I n X.A hu rx ry h).2 a c ex ey _ _ _ _ ⟨.bl b, H, I, rfl, q⟩
theorem EqD.flat {K : PySem.W.Frag} {H : Hp} {a c : Addr} {xs ys : List V} (hq : (SqL K H a xs /\ SqL K H c ys) \/ (SqT K H a xs /\ SqT K H c ys)) (fx : ∀ x ∈ xs, flatV x = true) (fy : ∀ y ∈ ys, flatV y = true) (hi : ∀ x ∈ xs, ∀ y ∈ ys, eqV x y = decide (x = y)) (n : Nat) :
    EqD K H (n + 1) (.ref a) (.ref c) (decide (xs = ys)) := by
  have base : ∀ m i x y, xs[i]? = some x -> ys[i]? = some y -> EqD K H m x y (decide (x = y)) := fun m i x y h1 h2 => by
    have m1 := List.mem_of_getElem? h1
    have m2 := List.mem_of_getElem? h2
    cases m with
    | zero => exact ⟨fx _ m1, fy _ m2, (hi _ m1 _ m2).symm⟩
    | succ m => exact .inl ⟨fx _ m1, fy _ m2, (hi _ m1 _ m2).symm⟩
  refine .inr ⟨a, c, xs, ys, rfl, rfl, hq, fun i => match xs[i]?, ys[i]? with | some x, some y => decide (x = y) | _, _ => true, fun i x y h1 h2 => ?_, ?_⟩
  . simp only [h1, h2]
    exact base n i x y h1 h2
  . rw [Bool.eq_iff_iff]
    simp only [decide_eq_true_eq, Bool.and_eq_true, List.all_eq_true, List.mem_range]
    constructor
    . rintro rfl
      refine ⟨rfl, fun i hi => ?_⟩
      have hi : i < xs.length := by omega
      simp [hi]
    . rintro ⟨hl, h⟩
      refine List.ext_getElem? fun i => ?_
      by_cases hi : i < xs.length
      . have := h i (by omega)
        simp [hi, show i < ys.length by omega] at this
        simp [hi, show i < ys.length by omega, this]
      . rw [List.getElem?_eq_none (by omega), List.getElem?_eq_none (by omega)]
end
end L2
namespace L2
open PySem PySem.Spec PyProof.Rows
def blkOk (outer : List (Str × NameKind)) (sc : Scope) : Bool :=
  sc.kind == .function && sc.names.all (fun y => y.2 != .cell && (y.2 != .local || sc.names.lookup y.1 == some .local) && (y.2 != .free || outer.lookup y.1 == some .cell || outer.lookup y.1 == some .free))
theorem blk_mk {X : Cx} {sc : Scope} (h : blkOk X.env.scope.names sc = true) : BlkSc X sc := by
  unfold blkOk at h
  rw [Bool.and_eq_true, List.all_eq_true] at h
  obtain ⟨h1, h2⟩ := h
  refine ⟨by simpa using h1, fun y hy z => ?_, fun y hy z => ?_, fun y hy z => ?_⟩
  . have := h2 y hy
    simp only [Bool.and_eq_true] at this
    have := this.1.1
    rw [z] at this
    exact absurd this (by decide)
  . have := h2 y hy
    simp only [Bool.and_eq_true] at this
    have := this.1.2
    rw [z] at this
    simpa using this
  . have := h2 y hy
    simp only [Bool.and_eq_true] at this
    have := this.2
    rw [z] at this
    have t : (X.env.scope.names.lookup y.1 == some .cell || X.env.scope.names.lookup y.1 == some .free) = true := by simpa using this
    rw [Bool.or_eq_true] at t
    rcases t with t | t
    . exact .inl (by show X.env.scope.names.lookup y.1 = some .cell; simpa using t)
    . exact .inr (by show X.env.scope.names.lookup y.1 = some .free; simpa using t)
end L2
set_option Elab.async false
set_option linter.all false
set_option maxRecDepth 100000
set_option maxHeartbeats 4000000
namespace L2
open PySem PySem.Spec PyProof.Rows
section
variable {t u : TS} {te ta tb tc' : TE} {tt tu : TT} {A B : TA} {D : Ends} {σ : St} {H : Hp} {Q : VK} {R : Bool -> Hp -> Prop} {S : List V -> Hp -> Prop} {i : Nat} {v : V} {g : TG} {r r' : R2} {K : PySem.W.Frag} {wi : TI} {cp : Caps}
theorem r_seq : tSeq t u D σ H = t { D with nx := u D } σ H := rfl
theorem r_next : tNext D σ H = D.nx σ H := rfl
theorem r_asg : tAsg te g D σ H = te σ H fun x H1 => g x σ H1 D.nx := rfl
theorem r_gname {N : St -> Hp -> Prop} : gName i v σ H N = N (σ.set i (some v)) H := rfl
theorem r_var : tVar i σ H Q = ∃ v, σ[i]? = some (some v) /\ Q v H := rfl
theorem r_c : tC v σ H Q = Q v H := rfl
theorem r_op : tOp r ta tb σ H Q = ta σ H fun x H1 => tb σ H1 fun y H2 => r x y H2 Q := rfl
theorem r_un {f : V -> Hp -> VK -> Prop} : tUn f ta σ H Q = ta σ H fun x H1 => f x H1 Q := rfl
theorem r_I {C : Int -> Int -> Prop} {f : Int -> Int -> V} {x y : V} : rI C f x y H Q = ∃ i j, x = .int i /\ y = .int j /\ C i j /\ Q (f i j) H := rfl
theorem r_I0 {f : Int -> Int -> V} {x y : V} : rI0 f x y H Q = ∃ i j, x = .int i /\ y = .int j /\ Q (f i j) H := rfl
theorem r_U {f : Int -> V} {x : V} : rU f x H Q = ∃ i, x = .int i /\ Q (f i) H := rfl
theorem r_call {sp : Sp} {dvs : List V} {E : XK} : tCall sp dvs E A σ H Q = A σ H fun vs H1 => sp (vs ++ dvs) H1 Q E := rfl
theorem r_cons : tCons te A σ H S = te σ H fun x H1 => A σ H1 fun xs H2 => S (x :: xs) H2 := rfl
theorem r_nil : tNil σ H S = S [] H := rfl
theorem r_ret : tRet te D σ H = te σ H D.rt := rfl
theorem r_drop : tDrop te D σ H = te σ H fun _ H1 => D.nx σ H1 := rfl
theorem r_if : tIfS tt t u D σ H = tt σ H fun b H1 => if b = true then t D σ H1 else u D σ H1 := rfl
theorem r_B : tB te σ H R = te σ H fun x H1 => ∃ c, x = .bl c /\ R c H1 := rfl
theorem r_test : tTest te σ H R = te σ H fun x H1 => ∃ c, x = .bl c /\ R c H1 := rfl
theorem r_or : tOr tt tu σ H R = tt σ H fun c H1 => if c = true then R true H1 else tu σ H1 R := rfl
theorem r_not : tNot tt σ H R = tt σ H fun c H1 => R (!c) H1 := rfl
theorem r_andV : tAndV ta tb σ H Q = ta σ H fun x H1 => ∃ c, x = .bl c /\ if c = true then tb σ H1 Q else Q (.bl false) H1 := rfl
theorem r_chain : tChain r r' ta tb tc' σ H Q = ta σ H fun x H1 => tb σ H1 fun y H2 => r x y H2 fun z H3 => ∃ k, z = .bl k /\ (if k = true then tc' σ H3 fun w' H4 => r' y w' H4 Q else Q (.bl false) H3) := rfl
theorem r_CB {f : List V -> Hp -> VK -> Prop} : tCB f A σ H Q = A σ H fun vs H1 => f vs H1 Q := rfl
theorem r_lst : tLst A σ H Q = A σ H fun xs H1 => xs.length <= sizeLine /\ ∀ p, H1 p = none -> Q (.ref p) (upd H1 p (.lst xs)) := rfl
theorem r_tup : tTup A σ H Q = A σ H fun xs H1 => xs.length <= sizeLine /\ ∀ p, H1 p = none -> Q (.ref p) (upd H1 p (.tup xs)) := rfl
theorem r_ixL {x y : V} : rIxL K x y H Q = ∃ p xs i v, x = .ref p /\ y = .int i /\ SqL K H p xs /\ atI xs i = some v /\ Q v H := rfl
theorem r_ixT {x y : V} : rIxT K x y H Q = ∃ p xs i v, x = .ref p /\ y = .int i /\ SqT K H p xs /\ atI xs i = some v /\ Q v H := rfl
theorem r_sl {f : V -> Option Int -> Option Int -> Hp -> VK -> Prop} {tl th : TO} : tSl f te tl th σ H Q = te σ H fun x H1 => tl σ H1 fun l H2 => th σ H2 fun u H3 => f x l u H3 Q := rfl
theorem r_part {U : Option Int -> Hp -> Prop} : tPart te σ H U = te σ H fun x H1 => ∃ i, x = .int i /\ U (some i) H1 := rfl
theorem r_nopart {U : Option Int -> Hp -> Prop} : tNoPart σ H U = U none H := rfl
theorem r_slL {x : V} {lo hi : Option Int} : rSlL K x lo hi H Q = ∃ a xs, x = .ref a /\ SqL K H a xs /\ ∀ p, H p = none -> Q (.ref p) (upd H p (.lst (cutV xs lo hi))) := rfl
theorem r_BM {T : String} {f : V -> List V -> Hp -> VK -> Prop} : tBM K T f te A σ H Q = te σ H fun x H1 => tyV K T x H1 /\ A σ H1 fun xs H2 => f x xs H2 Q := rfl
theorem r_append {x : V} {vs : List V} : rAppend x vs H Q = ∃ l xs y, x = .ref l /\ vs = [y] /\ H l = some (.lst xs) /\ xs.length < sizeLine /\ Q .non (upd H l (.lst (xs ++ [y]))) := rfl
theorem r_Eq {x y : V} : rEq x y H Q = (scal x y = true /\ Q (.bl (decide (x = y))) H) := rfl
theorem r_Ne {x y : V} : rNe x y H Q = (scal x y = true /\ Q (.bl (!decide (x = y))) H) := rfl
theorem r_eqD {n : Nat} {x y : V} : rEqD K n x y H Q = ∃ a c b, x = .ref a /\ y = .ref c /\ EqD K H n x y b /\ Q (.bl b) H := rfl
theorem r_iList {Z : It -> Hp -> Prop} : iList K te σ H Z = te σ H fun x H1 => ∃ a, x = .ref a /\ (∃ xs, SqL K H1 a xs) /\ Z (Itl K a) H1 := rfl
theorem r_iTup {Z : It -> Hp -> Prop} : iTup K te σ H Z = te σ H fun x H1 => ∃ a, x = .ref a /\ (∃ xs, SqT K H1 a xs) /\ Z (Itt K a) H1 := rfl
theorem r_iRng1 {Z : It -> Hp -> Prop} : iRng1 A σ H Z = A σ H fun vs H1 => ∃ j : Int, vs = [.int j] /\ -(2 ^ 62) <= j /\ j < 2 ^ 62 /\ Z (Itr 0 j.toNat) H1 := rfl
theorem r_true : tTrue σ H R = R true H := rfl
end
theorem Same.new {H : Hp} {p : Addr} {o : HO} (h : H p = none) : Same H (upd H p o) := fun b u e => by rw [upd_ne (ne_of_none e h)]; exact e
theorem Same.newT {H H' : Hp} {p : Addr} {o : HO} (s : Same H H') (h : H' p = none) : Same H (upd H' p o) := s.trans (Same.new h)
theorem Same.over {H H' : Hp} {p : Addr} {o : HO} (s : Same H H') (h : H p = none) : Same H (upd H' p o) := fun b u e => by rw [upd_ne (ne_of_none e h)]; exact s b u e
theorem none_of_upd {H : Hp} {p D : Addr} {o : HO} (h : upd H p o D = none) : H D = none /\ D ≠ p := by
  by_cases e : D = p
  . subst e; rw [upd_same] at h; cases h
  . rw [upd_ne e] at h; exact ⟨h, e⟩
theorem Same.seqT {K : PySem.W.Frag} {H H' : Hp} {a : Addr} {xs : List V} (e : Same H H') (h : SqT K H a xs) : SqT K H' a xs := by
  rcases h with (h | ⟨o, h⟩) | h
  . exact .inl (.inl (e _ _ h))
  . exact .inl (.inr ⟨o, e _ _ h⟩)
  . exact .inr h
theorem hu9 {k : Nat} {A : Around} (hr : Room k A) : A.units + 8 < cLine := by have := hr.units; omega
section
variable {K : PySem.W.Frag} {wi : TI} {cp : Caps} {g : TG} {tc : TT} {te : TE} {σ : St} {H : Hp} {Q : VK}
theorem r_cxK {CX : CXT} {P : Program} {w : World} {mg : Str -> Option Value} {base : Heap} {N : List Str} {qual : Str} {scope : Scope} {f : Addr} {cd : Value} {A : Around} {outer : List Env} {s : Shared} {E : XK} : (cxOf CX P w K mg base N qual scope f cd A outer s H E).K = K := rfl
def CompW (J : It) (cp : Caps) (g : TG) (tc : TT) (te : TE) (σ : St) (H1 : Hp) (Q : VK) : Prop := ∃ W : Nat -> Nat -> List V -> St -> Hp -> Prop, (∃ m, W 0 m [] (cp.st σ) H1) /\ ∀ i m ys σ' H', W i m ys σ' H' ->
  ys.length < sizeLine /\ ((J.stop i H' /\ ∀ D, H' D = none -> Q (.ref D) (upd H' D (.lst ys))) \/ (J.go i H' /\ ∃ N : List V -> St -> Hp -> Prop, (∀ zs σ2 H2, N zs σ2 H2 -> ∃ m', m' < m /\ W (i + 1) m' zs σ2 H2) /\ ∀ x H2, J.yld i H' x H2 -> g x σ' H2 fun σ2 H3 => tc σ2 H3 fun b H4 =>
    if b = true then te σ2 H4 fun v H5 => N (ys ++ [v]) σ2 H5 else N ys σ2 H4))
theorem r_comp : tComp wi cp g tc te σ H Q = wi σ H fun J H1 => CompW J cp g tc te σ H1 Q := rfl
def ForW (J : It) (g : TG) (tb : TS) (D : Ends) (σ : St) (H1 : Hp) : Prop := ∃ W : Nat -> Nat -> St -> Hp -> Prop, (∃ m, W 0 m σ H1) /\ ∀ i m σ H, W i m σ H ->
  (J.stop i H /\ D.nx σ H) \/ (J.go i H /\ ∃ N : St -> Hp -> Prop, (∀ σ' H', N σ' H' -> ∃ m', m' < m /\ W (i + 1) m' σ' H') /\ ∀ x H', J.yld i H x H' -> g x σ H' fun σ2 H2 => tb { D with nx := N, ct := N, bk := D.nx } σ2 H2)
theorem r_for {tb : TS} {D : Ends} : tFor wi g tb D σ H = wi σ H fun J H1 => ForW J g tb D σ H1 := rfl
theorem forL {a : Addr} {xs : List V} {g : TG} {tb : TS} {D : Ends} {σ : St} {H : Hp} (Pv : Nat -> St -> Hp -> Prop) (h0 : Pv 0 σ H) (hl : ∀ i σ H, i <= xs.length -> Pv i σ H -> SqL K H a xs)
    (hs : ∀ i x σ H, xs[i]? = some x -> Pv i σ H -> g x σ H fun σ2 H2 => tb { D with nx := Pv (i + 1), ct := Pv (i + 1), bk := D.nx } σ2 H2) (hd : ∀ σ H, Pv xs.length σ H -> D.nx σ H) : ForW (Itl K a) g tb D σ H := for_list Pv h0 hl hs hd
theorem forT {a : Addr} {xs : List V} {g : TG} {tb : TS} {D : Ends} {σ : St} {H : Hp} (Pv : Nat -> St -> Hp -> Prop) (h0 : Pv 0 σ H) (hl : ∀ i σ H, i <= xs.length -> Pv i σ H -> SqT K H a xs)
    (hs : ∀ i x σ H, xs[i]? = some x -> Pv i σ H -> g x σ H fun σ2 H2 => tb { D with nx := Pv (i + 1), ct := Pv (i + 1), bk := D.nx } σ2 H2) (hd : ∀ σ H, Pv xs.length σ H -> D.nx σ H) : ForW (Itt K a) g tb D σ H := for_tup Pv h0 hl hs hd
theorem forR {lo : Int} {n : Nat} {g : TG} {tb : TS} {D : Ends} {σ : St} {H : Hp} (Pv : Nat -> St -> Hp -> Prop) (h0 : Pv 0 σ H)
    (hs : ∀ i σ H, i < n -> Pv i σ H -> g (.int (lo + i)) σ H fun σ2 H2 => tb { D with nx := Pv (i + 1), ct := Pv (i + 1), bk := D.nx } σ2 H2) (hd : ∀ σ H, Pv n σ H -> D.nx σ H) : ForW (Itr lo n) g tb D σ H := for_range Pv h0 hs hd
theorem compT {a : Addr} {xs : List V} (Pv : Nat -> List V -> St -> Hp -> Prop) (h0 : Pv 0 [] (cp.st σ) H) (hz : xs.length < sizeLine)
    (hl : ∀ i ys σ H, i <= xs.length -> Pv i ys σ H -> SqT K H a xs /\ ys.length <= i)
    (hs : ∀ i x ys σ H, xs[i]? = some x -> Pv i ys σ H -> g x σ H fun σ2 H2 => tc σ2 H2 fun b H3 => if b = true then te σ2 H3 fun v H4 => Pv (i + 1) (ys ++ [v]) σ2 H4 else Pv (i + 1) ys σ2 H3)
    (hd : ∀ ys σ H, Pv xs.length ys σ H -> ∀ D, H D = none -> Q (.ref D) (upd H D (.lst ys))) : CompW (Itt K a) cp g tc te σ H Q := comp_tup Pv h0 hz hl hs hd
theorem compR {lo : Int} {n : Nat} (Pv : Nat -> List V -> St -> Hp -> Prop) (h0 : Pv 0 [] (cp.st σ) H) (hz : n < sizeLine)
    (hl : ∀ i ys σ H, i <= n -> Pv i ys σ H -> ys.length <= i)
    (hs : ∀ i ys σ H, i < n -> Pv i ys σ H -> g (.int (lo + i)) σ H fun σ2 H2 => tc σ2 H2 fun b H3 => if b = true then te σ2 H3 fun v H4 => Pv (i + 1) (ys ++ [v]) σ2 H4 else Pv (i + 1) ys σ2 H3)
    (hd : ∀ ys σ H, Pv n ys σ H -> ∀ D, H D = none -> Q (.ref D) (upd H D (.lst ys))) : CompW (Itr lo n) cp g tc te σ H Q := comp_range Pv h0 hz hl hs hd
theorem compMapT {a : Addr} {xs : List V} {σ' : St} (f : V -> V) (e : cp.st σ = none :: σ') (hl : SqT K H a xs) (hz : xs.length < sizeLine) (hs : ∀ x ∈ xs, ∀ R : VK, R (f x) H -> te (some x :: σ') H R) (hd : ∀ D, H D = none -> Q (.ref D) (upd H D (.lst (xs.map f)))) :
    CompW (Itt K a) cp (gName 0) tTrue te σ H Q := by
  refine compT (xs := xs) (fun i ys σ2 H2 => H2 = H /\ ys = (xs.take i).map f /\ ∃ o, σ2 = o :: σ') ⟨rfl, by simp, none, e⟩ hz (fun i ys σ2 H2 hi h => ?_) (fun i x ys σ2 H2 hx h => ?_) (fun ys σ2 H2 h => ?_)
  . obtain ⟨rfl, rfl, _⟩ := h
    exact ⟨hl, by rw [List.length_map, List.length_take]; omega⟩
  . obtain ⟨rfl, rfl, o, rfl⟩ := h
    refine hs x (List.mem_of_getElem? hx) _ ⟨rfl, ?_, some x, rfl⟩
    rw [List.take_add_one, hx]; simp
  . obtain ⟨rfl, rfl, _⟩ := h
    rw [List.take_length]
    exact hd
end
def tCut (t u : TS) : TS := fun D σ H => ∃ R : St -> Hp -> Prop, t { D with nx := R } σ H /\ ∀ σ' H', R σ' H' -> u D σ' H'
theorem pss_cut {X : Cx} {st : Stmt} {rest : List Stmt} {t u : TS} (h1 : PS X st t) (h2 : PSs X rest u) : PSs X (st :: rest) (tCut t u) := by
  intro pins s σ H D I h
  obtain ⟨R, ha, hb⟩ := h
  refine wpAny_execs_cons (thn (h1 pins s σ H { D with nx := R } I ha) fun f s1 q => ?_)
  cases f with
  | next =>
    obtain ⟨σ', H', I', q⟩ := q
    exact h2 pins s1 σ' H' D I' (hb σ' H' q)
  | ret v => exact q
  | brk => exact q
  | cont => exact q
theorem line1000 : 1000000 < sizeLine := by rw [sizeLine_eq]; decide
theorem mem_mapI {ns : List Int} {x : V} (h : x ∈ ns.map V.int) : ∃ n, n ∈ ns /\ x = .int n := by
  obtain ⟨n, hn, e⟩ := List.mem_map.mp h
  exact ⟨n, hn, e.symm⟩
theorem get_mapI {ns : List Int} {i : Nat} {x : V} (h : (ns.map V.int)[i]? = some x) : ∃ n, ns[i]? = some n /\ x = .int n := by
  rw [List.getElem?_map] at h
  cases e : ns[i]? with
  | none => rw [e] at h; cases h
  | some n => rw [e] at h; exact ⟨n, rfl, (Option.some.inj h).symm⟩
theorem atI_of {α : Type} {xs : List α} {i : Int} {v : α} (h0 : 0 <= i) (h : xs[i.toNat]? = some v) : atI xs i = some v := by
  have := atI_nat h
  rwa [show ((i.toNat : Nat) : Int) = i by omega] at this
theorem kit_self {K : PySem.W.Frag} {t : Value} : PySem.W.kitOne K t t = some true := by unfold PySem.W.kitOne; rw [if_pos (by simp)]
theorem rel_ty {n : String} : ∀ u, RelV (V.ty n) u -> u = .type n := fun _ h => h
end L2
set_option Elab.async false
set_option linter.all false
set_option maxRecDepth 100000
set_option maxHeartbeats 4000000
namespace L2
open PySem PySem.W PySem.Spec PySem.Calls PyProof.Rows
section
variable {prog : Program} {w : World} {A : Around} {E : Value -> Shared -> Prop} {s : Shared} {K : Frag} {x D : Addr} {ox : Obj}
structure ExcCls (K : Frag) (D : Addr) : Prop where
  ga : findIn K (.ref D) "__getattribute__" = some (some (.builtin "BaseException.__getattribute__"))
  hk : findIn K (.ref D) "__getattr__" = some none
  cl : (clsIn K D).isSome = true
  ca : findIn K (.ref D) "__class__" = some (some (.builtin "object.__class__"))
  gs : specialIn K (.builtin "object.__class__") "__get__" = some (some (.builtin "getset_descriptor.__get__"))
  tk : takesIn K (.builtin "object.__class__") = some true
  mo : mroIn K D (.type "object") = some true
  mb : mroIn K D (.type "BaseException") = some true
def ExcAt (x D : Addr) (h : Heap) : Prop := ∃ ox, h.get? x = some ox /\ ox.cls = .ref D
theorem ExcAt.type {M : Model} {h : Heap} (I : ExcAt x D h) : Looks M h (typeOf (.ref x)) (.ref D) := by
  obtain ⟨ox, h1, h2⟩ := I
  exact h2 ▸ (Looks.ld h1).andThen .now
theorem exc_find {M : Model} {h : Heap} (X : K.In h) (C : ExcCls K D) : Looks M h (Builtin.ObjectAttr.find (.ref x) (.ref D) "__class__") (.bind (.builtin "getset_descriptor.__get__") (.builtin "object.__class__")) :=
  (looks_findIn X C.ca).andThen ((show Looks M h (Builtin.ObjectAttr.getOf (some (.builtin "object.__class__"))) _ from looks_specialIn X C.gs).andThen
    ((show Looks M h (Builtin.ObjectAttr.dataDescriptor? (some (.builtin "object.__class__")) (some (.builtin "getset_descriptor.__get__"))) (some (.builtin "getset_descriptor.__get__", .builtin "object.__class__")) from (looks_takesIn X C.tk).andThen .now).andThen (Looks.tag .now)))
open Builtin Builtin.ObjectAttr Builtin.Getset_descriptor in
theorem exc_get {R : Result -> Shared -> Prop} {tp : Value} (X : K.In s.heap) (I : ExcAt x D s.heap) (hm : mroIn K D (.type "object") = some true) (h : R (.ok (.ret (.ref D))) s) : codeAny (model prog w) A (.call (.builtin "getset_descriptor.__get__") ⟨[.builtin "object.__class__", .ref x, tp], []⟩) R s := by
  have l0 := I.type (M := model prog w)
  have l1 := looks_mroIn (M := model prog w) X hm
  obtain ⟨_, _, _, _, _⟩ := s
  have sg := KF.slot_gs
  refine codeAny_call_builtin sg.plain KF.entry_gs (sg.check _ _ _ _ _ _ _ _ KF.type_class (KF.args_gs _ _ _) ?_)
  unfold Builtin.«getset_descriptor.__get__» descrGet
  rw [dga_obj]
  unfold descrGetter descrCheckInstance isInstance descrNameAndClass
  refine wpAny_bind (wpAny_pure ?_)
  simp only [KF.owner_class]
  repeat lk
  refine ⟨Code.quiet_builtin _ (by decide +kernel), codeAny_builtin KF.entry_class ?_⟩
  unfold Builtin.«object.__class__» shownTypeOf
  repeat lk
  exact h
theorem exc_check {M : Model} {nameV : Value} {Q : Unit -> Shared -> Prop} (X : K.In s.heap) (I : ExcAt x D s.heap) (C : ExcCls K D) (hq : Q () s) : wpAny M A (checkBuiltinCall "BaseException.__getattribute__" ⟨[.ref x, nameV], []⟩) Q E s := by
  have a1 := F.args_bexc_ga (.ref x) nameV
  have l0 := I.type (M := M)
  have l1 := looks_mroIn (M := M) X C.mb
  obtain ⟨_, _, _, _, _⟩ := s
  simp only [checkBuiltinCall, show builtinKind "BaseException.__getattribute__" = some .slot by decide +kernel, show splitId "BaseException.__getattribute__" = some ("BaseException", "__getattribute__") by decide +kernel, isInstance]
  repeat (first | lk | wp_step)
  exact hq
theorem exc_entry {tk : Tok} {Q : Fin -> Shared -> Prop} (X : K.In s.heap) (I : ExcAt x D s.heap) (C : ExcCls K D) (hq : Q (.done (.ret (.ref D))) s) : wpAny (model prog w) A (Builtin.«object.__getattribute__» ⟨[.ref x, .str "__class__" tk], []⟩) Q E s := by
  obtain ⟨hh, g, d, t, os⟩ := s
  have L0 := I.type (M := model prog w)
  have L1 := exc_find (M := model prog w) (x := x) X C
  unfold Builtin.«object.__getattribute__»
  refine wpAny_bind (wpAny_pure ?_)
  refine wpAny_bind (wpAny_pure ?_)
  refine wpAny_bind (L0.at ?_)
  refine wpAny_bind (L1.at ?_)
  show wpAny _ _ (Builtin.ObjectAttr.bindTo _ _ _ _) _ _ _
  unfold Builtin.ObjectAttr.bindTo
  dsimp only
  refine wpAny_bind (wpAny_holding (wpAny_call (exc_get (K := K) (s := ⟨hh, g, d, t, os⟩) X I C.mo ?_)))
  exact wpAny_pure hq
theorem exc_class {Q : Option Value -> Shared -> Prop} (X : K.In s.heap) (I : ExcAt x D s.heap) (C : ExcCls K D) (h : Q (some (.ref D)) { s with toks := s.toks + 1 }) : wpAny (model prog w) A (getAttr? (.ref x) "__class__") Q E s := by
  obtain ⟨hh, g, d, t, os⟩ := s
  have L0 := I.type (M := model prog w)
  have L1 := looks_findIn (M := model prog w) X C.ga
  have L2 := looks_findIn (M := model prog w) X C.hk
  unfold getAttr? getAttrBy? getAttrBy
  refine wpAny_bind (wpAny_mkText (wpAny_bind (wpAny_attempt (wpAny_holding (wpAny_bind (L0.at (wpAny_bind (L1.at ?_))))))))
  show wpAny _ _ (getAttrByItsOwn _ _ _ _ _ _) _ _ _
  unfold getAttrByItsOwn hookBefore
  refine wpAny_bind ?_
  rw [if_pos (by rfl)]
  refine L2.at (wpAny_bind (wpAny_attempt (wpAny_holding ?_)))
  unfold callGetattribute
  rw [if_neg (by decide)]
  unfold boundAndCalled
  have f3 := PySem.F.attr_ValueError.ga.bind (.ref x)
  refine wpAny_bind (wpAny_of_eq f3 ?_)
  refine wpAny_call (codeAny_call_builtin PySem.F.attr_ValueError.ga.plain F.entry_bexc_ga (exc_check (K := K) (s := ⟨hh, g, d, t + 1, os⟩) X I C (exc_entry (K := K) (s := ⟨hh, g, d, t + 1, os⟩) X I C ?_)))
  exact wpAny_pure (wpAny_pure h)
theorem kitx_exc (C : ExcCls K D) : KitX K (.ref x) (.ref D) (ExcAt x D) := by
  have cl := C.cl
  unfold clsIn at cl
  refine ⟨fun _ _ _ I => I.type, fun _ _ X _ => ?_, fun h tp dd its n sl X htp => ?_, fun X I k => exc_class X I C k⟩
  . split at cl
    . rename_i ho
      intro A' Q' E' s' k q
      exact wpAny_bind (wpAny_loadPart (k _ _ (X _ _ ho)) (wpAny_pure q))
    . cases cl
  . split at cl
    . rename_i ho
      cases hb : (Value.ref D == Value.ref tp) with
      | false => rfl
      | true =>
        obtain rfl : D = tp := Value.ref.inj (beq_iff_eq.mp hb)
        cases (X _ _ ho).symm.trans htp
    . cases cl
end
section
variable {P : Program} {w : World}
theorem ObjOk.there {H : Hp} {h : Heap} {a : Addr} {o : HO} (x : ObjOk P w H h a o) : ∃ ob, h.get? a = some ob := by
  induction o with
  | lst xs => obtain ⟨_, _, _, _, e⟩ := x; exact ⟨_, e⟩
  | tup xs => obtain ⟨_, _, _, ob, e, _⟩ := x; exact ⟨_, e⟩
  | dK kvs => obtain ⟨_, _, _, _, o, _, _, e, _⟩ := x; exact ⟨_, e⟩
  | dT kvs => obtain ⟨_, _, _, _, o, _, _, e, _⟩ := x; exact ⟨_, e⟩
  | set S n => obtain ⟨o, _, _, _, e, _⟩ := x; exact ⟨_, e⟩
  | ins C dx fs => obtain ⟨_, _, _, e, _⟩ := x; exact ⟨_, e⟩
  | own y => obtain ⟨_, e⟩ := x; exact ⟨_, e⟩
  | xd fs => obtain ⟨_, ⟨_, _, _, e, _⟩, _⟩ := x; exact ⟨_, e⟩
  | rng lo hi => obtain ⟨_, _, _, e⟩ := x; exact ⟨_, e⟩
  | frz ob u ih => obtain ⟨e, _⟩ := x; exact ⟨_, e⟩
  | tbl ps => exact ⟨_, (show h.get? a = some _ from x)⟩
  | met f y => exact ⟨_, (show h.get? a = some _ from x)⟩
  | ext φ => obtain ⟨_, ⟨_, e⟩, _⟩ := x; exact ⟨_, e⟩
structure Fly (P : Program) (w : World) (fs : List Addr) (H1 H' : Hp) (h1 g B : Heap) : Prop where
  un : Un fs [] H1 H' h1 g
  hok : HOk P w H' g
  cov : ∀ b o, g.get? b = some o -> (H' b ≠ none \/ ∃ o', h1.get? b = some o') -> b ∉ fs -> B.get? b = some o
theorem Fly.move {fs : List Addr} {H1 H' : Hp} {h1 g B h2 : Heap} (x : Fly P w fs H1 H' h1 g B) (frees : ∀ b ∈ fs, H' b = none) (st : B.StaysIn h2) (up : ∀ b ∈ fs, ∀ o, g.get? b = some o -> ∃ sl, h2.get? b = some { o with slots := sl }) : Fly P w fs H1 H' h1 h2 B := by
  have keep : ∀ b o, g.get? b = some o -> (H' b ≠ none \/ ∃ o', h1.get? b = some o') -> b ∉ fs -> h2.get? b = some o := fun b o e h n => st b o (x.cov b o e h n)
  have nfs : ∀ b u, H' b = some u -> b ∉ fs := fun b u e z => by rw [frees b z] at e; cases e
  refine ⟨⟨fun b o e n hb hx => ?_, fun b o e n hb hx => ?_, fun b o e n hx => x.un.free b o e n hx, fun b o e hx => ?_, x.un.tups, x.un.frzs, x.un.tbls⟩, fun b u e => ?_, fun b o e h n => ?_⟩
  . exact keep b o (x.un.keep b o e n hb hx) (.inr ⟨o, e⟩) hb
  . obtain ⟨sl, e1⟩ := x.un.slot b o e n hb hx
    obtain ⟨sl', e2⟩ := up b hb _ e1
    exact ⟨sl', e2⟩
  . obtain ⟨o', e1⟩ := x.un.there b o e hx
    by_cases hb : b ∈ fs
    . obtain ⟨sl', e2⟩ := up b hb _ e1
      exact ⟨_, e2⟩
    . exact ⟨o', keep b o' e1 (.inr ⟨o, e⟩) hb⟩
  . refine (x.hok b u e).stay (fun c v hc q => ?_) (fun _ q => q) fun _ _ q => q
    rcases hc with rfl | hc
    . exact keep c v q (.inl (by rw [e]; simp)) (nfs c u e)
    . exact keep c v q (.inl (by rw [hc]; simp)) (nfs c _ hc)
  . -- B has it still
    have ⟨o1, e1⟩ : ∃ o1, g.get? b = some o1 := by
      rcases h with h | ⟨o', h⟩
      . cases q : H' b with
        | none => exact absurd q h
        | some u => exact (x.hok b u q).there
      . exact x.un.there b o' h (by simp)
    have e2 := x.cov b o1 e1 h n
    have e3 := st b o1 e2
    rw [e] at e3
    cases e3
    exact e2
def CXe (P : Program) (w : World) : CXT := fun outer H s E e s' => ∃ (ea : Addr) (cls a0 : Value) (H' : Hp) (B : Heap), e = .ref ea /\ s'.os = s.os /\ AllBare s'.gens /\ Fly P w (frs outer) H H' s.heap s'.heap B /\ Heap.FlyingW B outer ea cls a0 s'.heap /\ E cls none H'
theorem fly_frees {X : Cx} {pins : List (Addr × Obj)} {σ : St} {H1 H' : Hp} {s1 : Shared} {g B : Heap} (I : Inv X pins σ H1 s1) (x : Fly P w (frs X.stack) H1 H' s1.heap g B) : ∀ b ∈ frs X.stack, H' b = none := fun b hb => by
  obtain ⟨_, o, ho, _⟩ := I.stack.mem hb
  exact x.un.free b o ho (I.stkFree b hb) (by simp)
theorem passE {K : PySem.W.Frag} {mg : Str -> Option Value} {base : Heap} {N : List Str} {qual : Str} {scope : Scope} {f : Addr} {cd : Value} {A : Around} {outer : List Env} {s : Shared} {H : Hp} {E E' : XK} (hE : ∀ c d H', E' c d H' -> E c d H') :
    Passes (CXe P w) (cxOf (CXe P w) P w K mg base N qual scope f cd A outer s H E) E' := by
  intro pins σ H1 s1 e s' I hc
  obtain ⟨ea, cls, a0, H', B, rfl, os, bare, fl, fw, q⟩ := hc
  have fr : (cxOf (CXe P w) P w K mg base N qual scope f cd A outer s H E).A.frames = some (envOfC qual scope s.heap.objs.size f cd :: outer) := I.ok.frames
  refine wpAny_leaves_onW fr rfl fw fun h' fw' ups => ?_
  have fl2 := fl.move (fly_frees I fl) fw'.1 (fun b hb o e => by
    obtain ⟨_, o', ho', nf⟩ := fw.2.2.1.mem hb
    rw [e] at ho'; cases ho'
    exact ups b o e nf)
  have I2 : Inv (cxOf (CXe P w) P w K mg base N qual scope f cd A outer s H E) pins σ H' { s' with heap := h' } := I.call' (s' := { s' with heap := h' }) os fl2.un fl2.hok bare (fun b hb => by cases hb)
  refine ⟨ea, cls, a0, H', B, rfl, I2.os, I2.bare, ⟨I2.base, I2.hok, fun b o e h n => fl2.cov b o e ?_ (fun z => ?_)⟩, fw', hE _ _ _ q⟩
  . rcases h with h | ⟨o', h⟩
    . exact .inl h
    . obtain ⟨o2, e2⟩ := I.base.there b o' h (by show b ∉ ([] : List Addr); simp)
      exact .inr ⟨o2, e2⟩
  . rcases List.mem_cons.mp (I.stkSub b z) with e' | e'
    . rcases h with h | ⟨o', h⟩
      . exact h (by rw [e']; exact I2.free)
      . have := Heap.lt_size h
        rw [e'] at this
        exact absurd (Nat.lt_of_lt_of_le this I.ok.above) (Nat.lt_irrefl _)
    . exact n e'
theorem raiseE {K : PySem.W.Frag} {mg : Str -> Option Value} {base : Heap} {N : List Str} {qual : Str} {scope : Scope} {f : Addr} {cd : Value} {A : Around} {outer : List Env} {s : Shared} {H : Hp} {E : XK}
    {pins : List (Addr × Obj)} {σ : St} {H1 : Hp} {s1 : Shared} {h' : Heap} {ea : Addr} {cls : Value} {vs : List Value}
    (I : Inv (cxOf (CXe P w) P w K mg base N qual scope f cd A outer s H E) pins σ H1 s1) (hx : Heap.MadeExcOf s1.heap h' ea cls vs) (q : E cls none H1) :
    (cxOf (CXe P w) P w K mg base N qual scope f cd A outer s H E).xe (.ref ea) { s1 with heap := h' } := by
  have fr : (cxOf (CXe P w) P w K mg base N qual scope f cd A outer s H E).A.frames = some (envOfC qual scope s.heap.objs.size f cd :: outer) := I.ok.frames
  have hin : ∀ env ∈ (envOfC qual scope s.heap.objs.size f cd :: outer), ∀ b, env.frame = some b -> b ∈ frs (envOfC qual scope s.heap.objs.size f cd :: outer) := fun env he b hb => List.mem_filterMap.mpr ⟨env, he, hb⟩
  have stk := I.stack
  have fl : Fly P w (frs (envOfC qual scope s.heap.objs.size f cd :: outer)) H1 H1 s1.heap s1.heap (PySem.W.hideAll s1.heap (frs (envOfC qual scope s.heap.objs.size f cd :: outer))) := ⟨Un.refl, I.hok, fun b o e _ n => PySem.W.hideAll_get _ e n⟩
  refine wpAny_leaves_madeW (base := PySem.W.hideAll s1.heap (frs (envOfC qual scope s.heap.objs.size f cd :: outer))) (h := s1.heap) fr rfl (fun b o q => PySem.W.of_hideAll _ q) ?_ hx fun h'' t fw' ht hnt ups => ?_
  . exact PySem.W.funFrames_hide stk hin
  . have fl2 := fl.move (fly_frees (X := cxOf (CXe P w) P w K mg base N qual scope f cd A outer s H E) I fl) fw'.1 (fun b hb o e => by
      obtain ⟨_, o', ho', nf⟩ := stk.mem hb
      rw [e] at ho'; cases ho'
      exact ups b o (hx.keeps b o e) nf)
    have I2 : Inv (cxOf (CXe P w) P w K mg base N qual scope f cd A outer s H E) pins σ H1 { s1 with heap := h'' } := I.call' (s' := { s1 with heap := h'' }) rfl fl2.un fl2.hok I.bare (fun b hb => by cases hb)
    refine ⟨ea, cls, .ref t, H1, _, rfl, I2.os, I2.bare, ⟨I2.base, I2.hok, fun b o e h n => fl2.cov b o e ?_ (fun z => ?_)⟩, fw', q⟩
    . rcases h with h | ⟨o', h⟩
      . exact .inl h
      . obtain ⟨o2, e2⟩ := I.base.there b o' h (by show b ∉ ([] : List Addr); simp)
        exact .inr ⟨o2, e2⟩
    . rcases List.mem_cons.mp (I.stkSub b z) with e' | e'
      . rcases h with h | ⟨o', h⟩
        . exact h (by rw [e']; exact I2.free)
        . have := Heap.lt_size h
          rw [e'] at this
          exact absurd (Nat.lt_of_lt_of_le this I.ok.above) (Nat.lt_irrefl _)
      . exact n e'
end
theorem exc_obj {K : Frag} {h : Heap} {C : Addr} {bmB : List Value} {newId : String} (X : K.In h) (q : excIn K C bmB newId = true) :
    ∃ bm N nm q bs hdct sn sub ab col dd k0 k1 k2 k3 k5 mN, h.get? C = some (excClassObj nm q C N bs bm hdct sn sub ab col dd k0 k1 k2 k3 k5 newId) /\ h.Ns N mN /\ mN "__init__" = none /\ OwnTail h bmB bm := by
  delta excIn at q
  split at q
  case h_2 => cases q
  rename_i d0 c0 s0 hl
  split at q
  case h_2 => cases q
  rename_i B tl a0 a1 a2 a3 id0 a5 em es
  have g := X C _ hl
  repeat rw [Bool.and_eq_true] at q
  rcases q with ⟨⟨⟨⟨⟨e1, e2⟩, e3⟩, e4⟩, e5⟩, e6⟩
  cases eq_of_beq e1
  cases eq_of_beq e2
  rcases s0 with ⟨l0⟩
  cases es
  rcases c0 with ⟨f0, f1, f2, f3, f4, f5, f6, f7, f8, f9, f10⟩
  cases em
  cases f10
  . exact ⟨tl, f3, f0, f4, f1, f5, f6, f7, f8, f9, d0, a0, a1, a2, a3, a5, h.nsMap f3, g, .of_isNs (isNs_of_in X e5), nsMap_none_of_in X e5 (eq_of_beq e6), tail_of_in X e4⟩
  . cases e3
def bmV : List Value := [.type "ValueError", .type "Exception", .type "BaseException", .type "object"]
section
variable {P : Program} {w : World} {K : PySem.W.Frag} {mg : Str -> Option Value} {base : Heap} {N : List Str} {qual : Str} {scope : Scope} {f : Addr} {cd : Value} {A : Around} {outer : List Env} {s : Shared} {H : Hp} {E : XK}
def tRaise (C : Addr) (E : XK) (ta : TA) : TS := fun _ σ H => ta σ H fun vs H1 => vs.length <= sizeLine /\ E (.ref C) none H1
theorem ps_raise {x : Str} {C : Addr} {newId : String} {np cpos pos : Pos} {e₀ : Expr} {rest : List Expr} {ta : TA} (hm : mg x = some (.ref C)) (hx : excIn K C bmV newId = true) (hg : Gl (cxOf (CXe P w) P w K mg base N qual scope f cd A outer s H E) x)
    (hn : newId = "ValueError.__new__") (ha : PA (cxOf (CXe P w) P w K mg base N qual scope f cd A outer s H E) (e₀ :: rest) ta)
    (he : starEach (e₀ :: rest) (cxOf (CXe P w) P w K mg base N qual scope f cd A outer s H E).env = (false, eval e₀ (cxOf (CXe P w) P w K mg base N qual scope f cd A outer s H E).env) :: starEach rest (cxOf (CXe P w) P w K mg base N qual scope f cd A outer s H E).env := by rfl)
    (hplain : (backTo cpos (starEach rest (cxOf (CXe P w) P w K mg base N qual scope f cd A outer s H E).env)).any (·.1) = false := by rfl) (hd : (x == ("__debug__" : Str)) = false := by decide) :
    PS (cxOf (CXe P w) P w K mg base N qual scope f cd A outer s H E) (.Raise (some (.Call (.Name x np) (e₀ :: rest) [] cpos)) none pos) (tRaise C E ta) := by
  intro pins s1 σ H1 D I h
  subst hn
  obtain ⟨bm, Nc, nm, q, bs, hdct, sn, sub, ab, col, dd, k0, k1, k2, k3, k5, mN, hC, hN, hni, T⟩ := exc_obj I.mod.kin hx
  refine wpAny_Raise_call_subU (C := C) (nm := nm) (q := q) (N := Nc) (bs := bs) (bm := bm) (hdct := hdct) (sn := sn) (sub := sub) (ab := ab) (col := col) (dd := dd) (k0 := k0) (k1 := k1) (k2 := k2) (k3 := k3) (k5 := k5)
    PySem.F.excBase_ValueError (bmB := bmV) (by decide +kernel) PySem.F.excBase_ValueError (mN := mN) (T.hasType PySem.F.excBase_ValueError.hasBase) (I.ok.hd rfl) (by rw [he]; show (false || (backTo cpos (starEach rest _)).any (·.1)) = false; rw [hplain]; rfl) hni (ld_glob I hg hm ⟨rfl, ?_⟩ hd)
  have hA := ha cpos pins s1 σ H1 _ I h
  rw [he] at hA ⊢
  refine Calls.evalArgs_plain (thn hA fun us s2 ⟨vs, H2, I2, r2, hz, q2⟩ => ⟨rfl, by rw [<- r2.length]; exact hz, I2.bk _ _ hC, hN.keeps I2.bk, T.keeps I2.bk, fun h' e hm => raiseE I2 hm q2⟩)
end
end L2
set_option Elab.async false
set_option linter.all false
set_option maxRecDepth 100000
set_option maxHeartbeats 4000000
namespace L2
open PySem PySem.Spec PyProof.Rows
section
variable {X : Cx} {pins pins' : List (Addr × Obj)} {σ : St} {H : Hp} {s : Shared} {xe xe' : Value -> Shared -> Prop} {ea : Addr}
end
section
variable {X : Cx} {CX : CXT} {k : Nat} {f C : Addr} {fd : FuncData} {ps : List Str} {sp : Sp} {dvs : List V} {ds : List Value} {E : St -> XK} {x : Str} {p pos : Pos} {e : Expr} {es : List Expr} {t : TA}
end
def excO (ea C : Addr) : HO := .ext (ExcAt ea C)
theorem call_isinstE {X : Cx} : CallR X (.builtin "isinstance") (fun xs H Q => ∃ ea C c cv b, xs = [.ref ea, c] /\ H ea = some (excO ea C) /\ ExcCls X.K C /\ (∀ u, RelV c u -> u = cv) /\ PySem.W.kitOne X.K (.ref C) cv = some b /\ Q (.bl b) H) := by
  intro pins s σ H xs us Q I r h
  obtain ⟨ea, C, c, cv, b, rfl, hea, hC, hc, hk, q⟩ := h
  obtain ⟨u, w', rfl, rx, rc⟩ := vals2 r
  rw [hc _ rc]
  cases rx
  obtain ⟨p, _, _⟩ := (show ObjOk X.prog X.w H s.heap ea (.ext (ExcAt ea C)) from I.hok ea _ hea)
  exact PySem.W.kia_one (kitx_exc hC) I.kIn p hk (fun z => nomatch z) fun tk => ⟨.bl b, H, I.tok tk, rfl, q⟩
end L2
set_option Elab.async false
set_option linter.all false
set_option maxRecDepth 100000
set_option maxHeartbeats 4000000
namespace HT
open PySem PySem.Spec PyProof.Rows
open PySem.AutoSeq1 (wpAny_loadPart')
section
open PySem.SeqAt PySem.MeetsSeq PySem.MeetsSeq2 PySem.MeetsSeq3
theorem int_rmul_tup (a : Int) (t : Tok) (l : Addr) (items : Array Value) (n : Nat) (dd : Option Addr) (sl : Array (Option Value)) :
    Meets (Builtin.«int.__rmul__» ⟨[.int a t, .ref l], []⟩) (fun _ R s => s.heap.get? l = some { cls := .type "tuple", dict := dd, data := .seq items n, slots := sl } /\ R (.ok (.ret Value.notImplemented)) s) :=
  .of_wp fun prog w A R s h => by obtain ⟨hp, g, d, tk, os⟩ := s; obtain ⟨hl, h⟩ := h; wp_walk using wpAny_loadPart' hl; exact ⟨_, rfl, h⟩
theorem noFill_tuple_mul : fillsNumberSlot (.type "tuple") "mul" = pure false := by
  first | exact fillsNumberSlot_false (by decide +kernel) | (unfold fillsNumberSlot; kernel_rfl) | kernel_rfl
theorem repeat_tuple : seqRepeat? (.type "tuple") = pure (some (.builtin "tuple.__mul__")) := by
  unfold seqRepeat?
  rw [PySem.seqSlot_of (T := "tuple") (name := "__mul__") (id := "tuple.__mul__") F.slot_tuple_mul.lookup (by decide +kernel), PySem.seqSlot_of (T := "tuple") (name := "__rmul__") (id := "tuple.__rmul__") F.slot_tuple_rmul.lookup (by decide +kernel)]
  rfl
theorem tup_mul_one (l : Addr) (items : Array Value) (n : Nat) (dd : Option Addr) (sl : Array (Option Value)) (u : Tok) :
    Meets (Builtin.«tuple.__mul__» ⟨[.ref l, .int 1 u], []⟩) (fun _ R s => s.heap.get? l = some { cls := .type "tuple", dict := dd, data := .seq items n, slots := sl } /\ R (.ok (.ret (Value.ref l))) s) :=
  .of_wp fun prog w A R s h => by
    obtain ⟨hp, g, d, tk, os⟩ := s; obtain ⟨hl, h⟩ := h
    have f1 := AutoSeq1.idx_int
    unfold Builtin.«tuple.__mul__»
    wp_walk using wpAny_loadPart' hl
    exact ⟨_, rfl, h⟩
theorem tup_mul_none (l : Addr) (items : Array Value) (n : Nat) (dd : Option Addr) (sl : Array (Option Value)) (x : Int) (u : Tok) (h0 : ¬ items.isEmpty = true) (h1 : x <= 0) (h2 : -(2 ^ 63) <= x) :
    Meets (Builtin.«tuple.__mul__» ⟨[.ref l, .int x u], []⟩) (fun _ R s => s.heap.get? l = some { cls := .type "tuple", dict := dd, data := .seq items n, slots := sl } /\ R (.ok (.ret (Value.ref s.heap.objs.size))) { s with heap := s.heap.push { cls := .type "tuple", data := .seq #[] } }) :=
  .of_wp fun prog w A R s h => by
    obtain ⟨hp, g, d, tk, os⟩ := s; obtain ⟨hl, h⟩ := h
    have f1 := AutoSeq1.idx_int
    have c1 : (decide (x < -(2 ^ 63 : Int)) || decide (x >= 2 ^ 63)) = false := by simp; omega
    have c2 : (items.isEmpty || x == 1) = false := by simp at h0 ⊢; exact ⟨h0, by omega⟩
    have c3 : (decide (x <= 0) || items.isEmpty) = true := by simp [h1]
    unfold Builtin.«tuple.__mul__»
    wp_walk using wpAny_loadPart' hl
    rw [if_neg (by rw [c1]; exact Bool.false_ne_true)]
    wp_walk using wpAny_loadPart' hl
    rw [if_neg (by rw [c2]; exact Bool.false_ne_true)]
    rw [if_pos c3]
    wp_walk using wpAny_loadPart' hl
    exact ⟨_, rfl, h⟩
theorem tup_mul_many (l : Addr) (items : Array Value) (n : Nat) (dd : Option Addr) (sl : Array (Option Value)) (x : Int) (u : Tok) (h0 : ¬ items.isEmpty = true) (h1 : 1 < x) (h2 : x < 2 ^ 63) (h3 : items.size * x.toNat <= sizeLine) :
    Meets (Builtin.«tuple.__mul__» ⟨[.ref l, .int x u], []⟩) (fun _ R s => s.heap.get? l = some { cls := .type "tuple", dict := dd, data := .seq items n, slots := sl } /\ R (.ok (.ret (Value.ref s.heap.objs.size))) { s with heap := s.heap.push { cls := .type "tuple", data := .seq ((List.replicate x.toNat items).foldl (· ++ ·) #[]) } }) :=
  .of_wp fun prog w A R s h => by
    obtain ⟨hp, g, d, tk, os⟩ := s; obtain ⟨hl, h⟩ := h
    have f1 := AutoSeq1.idx_int
    have hs : sizeLine = 16777216 := sizeLine_eq
    have c1 : (decide (x < -(2 ^ 63 : Int)) || decide (x >= 2 ^ 63)) = false := by simp; omega
    have c2 : (items.isEmpty || x == 1) = false := by simp at h0 ⊢; exact ⟨h0, by omega⟩
    have c3 : (decide (x <= 0) || items.isEmpty) = false := by simp at h0 ⊢; exact ⟨by omega, h0⟩
    obtain ⟨k, rfl⟩ : ∃ k : Nat, x = (k : Int) := ⟨x.toNat, by omega⟩
    have c4 : ¬ ((items.size : Int) * (k : Int) > (2 ^ 63 - 1) / 8) := by
      rw [Int.toNat_natCast] at h3
      have : ((items.size * k : Nat) : Int) = (items.size : Int) * (k : Int) := by push_cast; rfl
      omega
    have c5 : Builtin.Tuple.tupleTooMany ((items.size : Int) * (k : Int)) = false := by
      unfold Builtin.Tuple.tupleTooMany
      rw [Int.toNat_natCast] at h3
      have : ((items.size * k : Nat) : Int) = (items.size : Int) * (k : Int) := by push_cast; rfl
      simp
      omega
    unfold Builtin.«tuple.__mul__»
    wp_walk using wpAny_loadPart' hl
    rw [if_neg (by rw [c1]; exact Bool.false_ne_true)]
    wp_walk using wpAny_loadPart' hl
    rw [if_neg (by rw [c2]; exact Bool.false_ne_true)]
    rw [if_neg (by rw [c3]; exact Bool.false_ne_true), if_neg c4, if_neg (by rw [c5]; exact Bool.false_ne_true)]
    wp_walk using wpAny_loadPart' hl
    have hz : ¬ (List.foldl (fun x1 x2 => x1 ++ x2) #[] (List.replicate ((k : Int)).toNat items)).size > sizeLine := by
      have := L2.foldl_rep items.toList k []
      rw [List.nil_append] at this
      have e : items.toList.toArray = items := by simp
      rw [e] at this
      rw [Int.toNat_natCast, this, List.size_toArray, L2.len_rep]
      rw [Int.toNat_natCast] at h3
      rw [Array.length_toList, Nat.mul_comm]
      omega
    rw [if_neg hz]
    wp_walk using wpAny_loadPart' hl
    exact ⟨_, rfl, h⟩
end
end HT
namespace L2
open PySem PySem.Spec PyProof.Rows
section
variable {X : Cx}
def rRepT (K : PySem.W.Frag) : R2 := fun x y H Q => ∃ l k xs, x = .ref l /\ y = .int k /\ SqT K H l xs /\ xs ≠ [] /\ -(2 ^ 63) <= k /\ k < 2 ^ 63 /\ xs.length * k.toNat <= sizeLine /\
  (k = 1 -> Q (.ref l) H) /\ (k ≠ 1 -> ∀ p, H p = none -> Q (.ref p) (upd H p (.tup (List.replicate k.toNat xs).flatten)))
theorem op_repT : OpR X (binaryOp .Mult) (rRepT X.K) := by
  intro pins s σ H x y v u Q I rx ry h
  obtain ⟨l, k, xs, rfl, rfl, hq, hne, h1, h2, hz, q1, q2⟩ := h
  cases rx
  obtain ⟨t, rfl⟩ := ry
  obtain ⟨its, r, p1, _⟩ := I.tuple hq
  have hlen := r.length
  have hn' : ¬ its.toArray.isEmpty = true := by
    intro z
    have : its = [] := by simpa using z
    exact hne (r.nil_iff.mp this)
  obtain ⟨⟨cls, dd, data, sl⟩, ho, hc, n, hd⟩ := id p1
  simp only at hc hd
  subst hc hd
  refine wpAny_binaryOp_repeat_ref (T := "tuple") (U := "int") (by decide) ⟨_, ho, rfl⟩ (fun s' => typeIs_int s' k t) HT.noFill_tuple_mul F.fills_int_mul F.slot_int_rmul HT.repeat_tuple F.slot_int_index.lookup
    (call_meets F.slot_int_rmul (typeIs_int s k t) F.entry_int_rmul (F.args_int_rmul_2 _ _) (HT.int_rmul_tup k t l its.toArray n dd sl) ⟨ho, rfl, ⟨_, ho, rfl⟩, ?_⟩)
  by_cases k1 : k = 1
  . subst k1
    exact call_meets F.slot_tuple_mul ⟨_, ho, rfl⟩ F.entry_tuple_mul (F.args_tuple_mul_2 _ _) (HT.tup_mul_one l its.toArray n dd sl t) ⟨ho, ⟨.ref l, H, I, rfl, q1 rfl⟩⟩
  . have fin : ∀ (ys : List Value), Vals (List.replicate k.toNat xs).flatten ys -> EP X pins σ Q (.ref s.heap.objs.size) { s with heap := s.heap.push { cls := .type "tuple", data := .seq ys.toArray } } := fun ys rv =>
      ⟨.ref s.heap.objs.size, _, I.laid (t' := s.toks) (o := .tup (List.replicate k.toNat xs).flatten) (fun b ob q => Heap.get?_push_of_some _ q) (Nat.le_refl _) ⟨by rw [len_rep, Nat.mul_comm]; exact hz, _, rv, IsTup.new _ _⟩, rfl, q2 k1 _ (I.hok.fresh (Nat.le_refl _))⟩
    by_cases k0 : k <= 0
    . refine call_meets F.slot_tuple_mul ⟨_, ho, rfl⟩ F.entry_tuple_mul (F.args_tuple_mul_2 _ _) (HT.tup_mul_none l its.toArray n dd sl k t hn' k0 h1) ⟨ho, ?_⟩
      exact fin [] (by rw [show k.toNat = 0 by omega]; exact .nil)
    . refine call_meets F.slot_tuple_mul ⟨_, ho, rfl⟩ F.entry_tuple_mul (F.args_tuple_mul_2 _ _) (HT.tup_mul_many l its.toArray n dd sl k t hn' (by omega) h2 (by rw [List.size_toArray, <- hlen]; exact hz)) ⟨ho, ?_⟩
      have e := foldl_rep its k.toNat []
      rw [List.nil_append] at e
      have e' : List.foldl (fun x1 x2 => x1 ++ x2) #[] (List.replicate k.toNat its.toArray) = (List.replicate k.toNat its).flatten.toArray := e
      rw [e']
      exact fin _ (r.rep k.toNat)
def rCatT2 (K : PySem.W.Frag) : R2 := fun x y H Q => ∃ a b xs ys, x = .ref a /\ y = .ref b /\ SqT K H a xs /\ SqT K H b ys /\ xs.length + ys.length <= sizeLine /\
  (xs = [] -> Q (.ref b) H) /\ (xs ≠ [] -> ys = [] -> Q (.ref a) H) /\ (xs ≠ [] -> ys ≠ [] -> ∀ p, H p = none -> Q (.ref p) (upd H p (.tup (xs ++ ys))))
theorem op_catT2 : OpR X (binaryOp .Add) (rCatT2 X.K) := by
  intro pins s σ H x y v u Q I rx ry h
  obtain ⟨a, b, xs, ys, rfl, rfl, ha, hb, hz, q0, q1, q2⟩ := h
  by_cases hx : xs = []
  . subst hx
    cases rx
    cases ry
    obtain ⟨its, r1, p1, _⟩ := I.tuple ha
    obtain ⟨its2, r2, p2, _⟩ := I.tuple hb
    have : its = [] := r1.nil_iff.mpr rfl
    subst this
    obtain ⟨⟨cls, dd, data, sl⟩, ho, hc, n, hd⟩ := id p1
    obtain ⟨⟨cls2, dd2, data2, sl2⟩, ho2, hc2, n2, hd2⟩ := id p2
    simp only at hc hd hc2 hd2
    subst hc hd hc2 hd2
    exact concat_meets ⟨_, ho, rfl⟩ ⟨_, ho2, rfl⟩ noFill_tuple_add seq_tuple_add PySem.F.slot_tuple_add PySem.F.entry_tuple_add (PySem.F.args_tuple_add_2 _ _)
      (PyProof.Rows.tuple_addW0 a b _ _ n n2 dd dd2 sl sl2 rfl) ⟨ho, ho2, ⟨.ref b, H, I, rfl, q0 rfl⟩⟩
  . exact op_catT pins s σ H _ _ v u Q I rx ry ⟨a, b, xs, ys, rfl, rfl, ha, hb, hx, hz, q1 hx, q2 hx⟩
end
section
variable {K : PySem.W.Frag} {H : Hp} {Q : VK}
end
inductive TyW (K : PySem.W.Frag) (H : Hp) : V -> Value -> Prop where
  | non : TyW K H .non (.type "NoneType")
  | bl (x : Bool) : TyW K H (.bl x) (.type "bool")
  | int (i : Int) : TyW K H (.int i) (.type "int")
  | str (x : Str) : TyW K H (.str x) (.type "str")
  | lst {a : Addr} {xs : List V} (e : SqL K H a xs) : TyW K H (.ref a) (.type "list")
  | tup {a : Addr} {xs : List V} (e : SqT K H a xs) : TyW K H (.ref a) (.type "tuple")
  | exc {a C : Addr} (e : H a = some (excO a C)) (c : ExcCls K C) : TyW K H (.ref a) (.ref C)
theorem call_isinstW {X : Cx} : CallR X (.builtin "isinstance") (fun xs H Q => ∃ x c cv t b, xs = [x, c] /\ TyW X.K H x t /\ (∀ u, RelV c u -> u = cv) /\ PySem.W.kitOne X.K t cv = some b /\ Q (.bl b) H) := by
  intro pins s σ H xs us Q I r h
  obtain ⟨x, c, cv, t, b, rfl, ty, hc, hk, q⟩ := h
  cases ty with
  | non => exact call_isinst pins s σ H _ us Q I r ⟨_, c, cv, _, b, rfl, .non, hc, hk, q⟩
  | bl y => exact call_isinst pins s σ H _ us Q I r ⟨_, c, cv, _, b, rfl, .bl y, hc, hk, q⟩
  | int y => exact call_isinst pins s σ H _ us Q I r ⟨_, c, cv, _, b, rfl, .int y, hc, hk, q⟩
  | str y => exact call_isinst pins s σ H _ us Q I r ⟨_, c, cv, _, b, rfl, .str y, hc, hk, q⟩
  | exc e hC => exact call_isinstE pins s σ H _ us Q I r ⟨_, _, c, cv, b, rfl, e, hC, hc, hk, q⟩
  | @lst a xs e =>
    obtain ⟨u, w', rfl, rx, rc⟩ := vals2 r
    rw [hc _ rc]
    cases rx
    obtain ⟨its, _, pl, _⟩ := I.list e
    obtain ⟨o, ho, hcl, _⟩ := pl.isList
    exact PySem.W.kia_one PySem.W.kitx_list I.kIn ⟨o, ho, hcl⟩ hk (fun z => nomatch z) fun tk => ⟨.bl b, H, I.tok tk, rfl, q⟩
  | @tup a xs e =>
    obtain ⟨u, w', rfl, rx, rc⟩ := vals2 r
    rw [hc _ rc]
    cases rx
    obtain ⟨its, _, ⟨o, ho, hcl, _⟩, _⟩ := I.tuple e
    exact PySem.W.kia_one PySem.W.kitx_tuple I.kIn ⟨o, ho, hcl⟩ hk (fun z => nomatch z) fun tk => ⟨.bl b, H, I.tok tk, rfl, q⟩
end L2
set_option Elab.async false
set_option linter.all false
set_option maxRecDepth 100000
set_option maxHeartbeats 4000000
namespace GW
def placeR (L : Int) : List Int -> Int
  | [] => 0
  | x :: r => placeR L r * L + x + 1
def place (L : Int) (w : List Int) : Int := placeR L w.reverse
def inW (L x : Int) : Bool := decide (0 <= x) && decide (x < L)
def isW (L : Int) (ws : List Int) : Bool := ws.all (inW L)
theorem inW_iff {L x : Int} : inW L x = true ↔ 0 <= x /\ x < L := by simp [inW]
theorem isW_iff {L : Int} {ws : List Int} : isW L ws = true ↔ ∀ x ∈ ws, 0 <= x /\ x < L := by simp [isW, inW_iff]
end GW
set_option Elab.async false
set_option linter.all false
set_option maxRecDepth 100000
set_option maxHeartbeats 4000000
namespace PySem
section
variable {prog : Program} {w : World} {A : Around} {E : Value -> Shared -> Prop} {s : Shared}
abbrev lsO (acc : Array Value) (c : Nat) : Obj := { cls := .type "list", dict := none, data := .seq acc c, slots := #[] }
def KP (wr : Addr -> Prop) (h h' : Heap) : Prop := ∀ b o, ¬ wr b -> h.get? b = some o -> h'.get? b = some o
structure Gat (prog : Program) (w : World) (s : Shared) (r I : Addr) (T : String) (n : Nat) (wr : Addr -> Prop) (J : Nat -> List Value -> Heap -> Prop) (Fn : List Value -> Heap -> Prop) : Prop where
  type : s.TypeIs (.ref r) T
  nl : (Value.type T == Value.type "list") = false
  nt : (Value.type T == Value.type "tuple") = false
  le : n <= sizeLine
  hint : ∀ (A : Around) (t : Shared) (Q : Bool -> Shared -> Prop) (E : Value -> Shared -> Prop), (∀ b o, s.heap.get? b = some o -> t.heap.get? b = some o) -> (∀ b tk, Q b { t with toks := tk }) -> wpAny (model prog w) A (Builtin.List.listLengthHint (.ref r)) Q E t
  iter : ∀ (A : Around) (h1 : Heap) (Q : Value -> Shared -> Prop) (E : Value -> Shared -> Prop), (∀ b o, s.heap.get? b = some o -> h1.get? b = some o) -> h1.objs.size = s.heap.objs.size + 1 -> (∀ h', J 0 [] h' -> (∀ b o, h1.get? b = some o -> h'.get? b = some o) -> Q (.ref I) { s with heap := h' }) -> wpAny (model prog w) A (pyIter (.ref r)) Q E { s with heap := h1 }
  next : ∀ (A : Around) i acc (t : Shared) (Q : Option Value -> Shared -> Prop) (E : Value -> Shared -> Prop), A.handled = none -> J i acc t.heap -> acc.length = i -> i <= n -> s.heap.objs.size < t.heap.objs.size ->
    (∀ v h' tk, i < n -> J (i + 1) (acc ++ [v]) h' -> KP wr t.heap h' -> Q (some v) { t with heap := h', toks := tk }) -> (∀ h' tk, i = n -> Fn acc h' -> KP wr t.heap h' -> Q none { t with heap := h', toks := tk }) -> wpAny (model prog w) A (pyNext (.ref I)) Q E t
  frame : ∀ i acc h h', J i acc h -> (∀ b o, b ≠ s.heap.objs.size -> h.get? b = some o -> h'.get? b = some o) -> J i acc h'
  nw : ¬ wr s.heap.objs.size
variable {I r : Addr} {T : String} {n : Nat} {wr : Addr -> Prop} {J : Nat -> List Value -> Heap -> Prop} {Fn : List Value -> Heap -> Prop} {R : Result -> Shared -> Prop} {res : Value}
theorem Gat.loop (G : Gat prog w s r I T n wr J Fn) (hh : A.handled = none)
    (hR : ∀ h' tk acc c, Fn acc h' -> acc.length = n -> h'.get? s.heap.objs.size = some (lsO acc.toArray c) -> KP wr s.heap h' -> R (.ok (.ret res)) { s with heap := h', toks := tk }) :
    ∀ (k : Nat) (h : Heap) (tk c : Nat) (acc : List Value), n - acc.length = k -> acc.length <= n -> J acc.length acc h -> h.get? s.heap.objs.size = some (lsO acc.toArray c) -> KP wr s.heap h -> codeAny (model prog w) A (.builtin "list.extend.loop" ⟨[.ref s.heap.objs.size, .ref I, res], []⟩) R { s with heap := h, toks := tk } := by
  intro k
  induction k with
  | zero =>
    intro h tk c acc hk hi j hS kp
    refine codeAny_builtin F.entry_extend_loop ?_
    rw [Around.under_plainId F.plain_extend_loop _]
    refine wpAny_bind (G.next A.in1 _ acc { s with heap := h, toks := tk } _ _ hh j rfl hi (Heap.lt_size hS) (fun v h' tk l => by omega) fun h' tk e j' kk => ?_)
    exact wpAny_pure (hR h' tk acc c j' (by omega) (kk _ _ G.nw hS) fun b o m q => kk b o m (kp b o m q))
  | succ k ih =>
    intro h tk c acc hk hi j hS kp
    refine codeAny_builtin F.entry_extend_loop ?_
    rw [Around.under_plainId F.plain_extend_loop _]
    refine wpAny_bind (G.next A.in1 _ acc { s with heap := h, toks := tk } _ _ hh j rfl hi (Heap.lt_size hS) (fun v h' tk l j' kk => ?_) fun h' tk e => by omega)
    have hS' := kk _ _ G.nw hS
    have up : ∀ b o, b ≠ s.heap.objs.size -> h'.get? b = some o -> (h'.update s.heap.objs.size (Obj.mapSeq (·.push v))).get? b = some o := fun b o m q => (Heap.get?_update_other _ _ (Ne.symm m)).trans q
    have hl : (acc ++ [v]).length = acc.length + 1 := by simp
    have := G.le
    obtain ⟨c', hS2⟩ : ∃ c', (h'.update s.heap.objs.size (Obj.mapSeq (·.push v))).get? s.heap.objs.size = some (lsO (acc ++ [v]).toArray c') := ⟨_, by rw [<- List.push_toArray]; exact Heap.get?_update_self _ hS' rfl⟩
    exact wpAny_bind (wpAny_updateSeq hS' rfl (wpAny_pure ⟨plainId_quiet F.plain_extend_loop _, ih _ tk c' (acc ++ [v]) (by omega) (by omega) (by rw [hl]; exact G.frame _ _ _ _ j' up) hS2 fun b o m q => up b o (Nat.ne_of_lt (Heap.lt_size q)) (kk b o m (kp b o m q))⟩) (by simp; omega))
theorem Gat.extend {Z : Fin -> Shared -> Prop} {c₀ : Nat} {h1 : Heap} (G : Gat prog w s r I T n wr J Fn) (hh : A.handled = none) (k1 : ∀ b o, s.heap.get? b = some o -> h1.get? b = some o) (hz : h1.objs.size = s.heap.objs.size + 1) (hS : h1.get? s.heap.objs.size = some (lsO #[] c₀))
    (hZ : ∀ c t, c.quiet = true -> codeAny (model prog w) A c R t -> Z (.again c) t)
    (hR : ∀ h' tk acc c, Fn acc h' -> acc.length = n -> h'.get? s.heap.objs.size = some (lsO acc.toArray c) -> KP wr s.heap h' -> R (.ok (.ret res)) { s with heap := h', toks := tk }) :
    wpAny (model prog w) A.in1 (Builtin.List.listExtendWith (.ref s.heap.objs.size) (.ref r) res) Z E { s with heap := h1 } := by
  have hr : r < s.heap.objs.size := let ⟨_, ho, _⟩ := G.type; Heap.lt_size ho
  have e1 : Builtin.List.listSameRef (.ref s.heap.objs.size) (.ref r) = false := by simp [Builtin.List.listSameRef, Nat.ne_of_gt hr]
  have hT : Shared.TypeIs { s with heap := h1 } (.ref r) T := let ⟨o, ho, x⟩ := G.type; ⟨o, k1 _ _ ho, x⟩
  have oth : ∀ (h : Heap) f b o, b ≠ s.heap.objs.size -> h.get? b = some o -> (h.update s.heap.objs.size f).get? b = some o := fun h f b o n q => (Heap.get?_update_other _ _ (Ne.symm n)).trans q
  have go : ∀ (h : Heap) c tk, J 0 [] h -> h.get? s.heap.objs.size = some (lsO #[] c) -> (∀ b o, b ≠ s.heap.objs.size -> h1.get? b = some o -> h.get? b = some o) -> Z (.again (.builtin "list.extend.loop" ⟨[.ref s.heap.objs.size, .ref I, res], []⟩)) { s with heap := h, toks := tk } := fun h c tk j q k =>
    hZ _ _ (plainId_quiet F.plain_extend_loop _) (G.loop hh hR n h tk c [] rfl (Nat.zero_le _) j q fun b o _ x => k b o (Nat.ne_of_lt (Heap.lt_size x)) (k1 b o x))
  unfold Builtin.List.listExtendWith
  refine wpAny_bind (wpAny_typeOf hT ?_)
  simp only [e1, G.nl, G.nt, Bool.or_false, Bool.false_eq_true, if_false]
  refine wpAny_bind (G.iter A.in1 h1 _ _ k1 hz fun h' j kk => wpAny_bind (wpAny_holding (G.hint A.in1 _ _ _ (fun b o q => kk b o (k1 b o q)) fun bb tk => ?_)))
  have hS' := kk _ _ hS
  refine wpAny_ite_split (fun _ => ?_) fun _ => wpAny_pure (go h' c₀ tk j hS' fun b o _ q => kk b o q)
  wp_walk
  exact go _ _ tk (G.frame _ _ _ _ (G.frame _ _ _ _ j fun b o m q => oth _ _ b o m q) fun b o m q => oth _ _ b o m q) (Heap.get?_update_self _ (Heap.get?_update_self _ hS' rfl) rfl) fun b o m q => oth _ _ b o m (oth _ _ b o m (kk b o q))
theorem Gat.list {Q : Value -> Shared -> Prop} (G : Gat prog w s r I T n wr J Fn) (hh : A.handled = none)
    (hQ : ∀ h' tk acc c, Fn acc h' -> acc.length = n -> h'.get? s.heap.objs.size = some (lsO acc.toArray c) -> KP wr s.heap h' -> Q (.ref s.heap.objs.size) { s with heap := h', toks := tk }) : wpAny (model prog w) A (call (.type "list") [.ref r]) Q E s := by
  have hS : (s.heap.push (lsO #[] 0)).get? s.heap.objs.size = some (lsO #[] 0) := Heap.get?_push_size _ rfl
  refine callType_codes (Q₁ := fun obj s₁ => obj = .ref s.heap.objs.size /\ s₁ = { s with heap := s.heap.push (lsO #[] 0) }) F.called_list (F.typeCall_list_1 _) F.entry_list_init (code_list_new _ ⟨rfl, rfl⟩) fun obj s₁ h₁ => ?_
  obtain ⟨rfl, rfl⟩ := h₁
  have oth : ∀ b o, s.heap.get? b = some o -> ((s.heap.push (lsO #[] 0)).update s.heap.objs.size (Obj.mapSeq fun _ => #[])).get? b = some o := fun b o q => (Heap.get?_update_other _ _ (Nat.ne_of_gt (Heap.lt_size q))).trans (Heap.get?_push_of_some _ q)
  obtain ⟨c2, hS2⟩ : ∃ c, ((s.heap.push (lsO #[] 0)).update s.heap.objs.size (Obj.mapSeq fun _ => #[])).get? s.heap.objs.size = some (lsO #[] c) := ⟨_, Heap.get?_update_self _ hS rfl⟩
  have hz : ((s.heap.push (lsO #[] 0)).update s.heap.objs.size (Obj.mapSeq fun _ => #[])).objs.size = s.heap.objs.size + 1 := by rw [Heap.size_after_update, Heap.size_push]
  refine ⟨⟨_, hS, rfl⟩, F.args_list_init_2 _ _, ?_⟩
  wp_walk using Gat.extend (A := A.in1) (R := wants (fun r s₂ => r = .none /\ Q (.ref s.heap.objs.size) s₂) E) (c₀ := c2) G hh oth hz hS2
  . exact fun _ _ a b => ⟨a, b⟩
  exact fun h' tk acc c k1 k2 k3 k4 => ⟨rfl, hQ h' tk acc c k1 k2 k3 k4⟩
end
end PySem
set_option Elab.async false
set_option linter.all false
set_option maxRecDepth 100000
set_option maxHeartbeats 4000000
namespace PySem
open Sem (wp)
open AutoSeq1 (wpAny_loadPart')
namespace F
end F
section
variable {prog : Program} {w : World} {A : Around} {E : Value -> Shared -> Prop} {s : Shared}
end
end PySem
namespace L2
open PySem PySem.Spec PyProof.Rows
section
variable {P : Program} {w : World} {K : PySem.W.Frag} {mg : Str -> Option Value} {base : Heap}
theorem Fun.okE {x qual : Str} {st : Stmt} {f : Addr} {fd : FuncData} {N ps : List Str} {k : Nat} {sp : Sp} (F : Fun K x qual st f fd) (S : FnScope N ps (defScope st)) (len : ∀ vs H Q E, sp vs H Q E -> vs.length = ps.length)
    (hbody : ∀ (cdv : Value) (A : Around) (outer : List Env) (s : Shared) (H : Hp) (vs : List V) (Q : VK) (E : XK), Room k (A.deeper (envOfC qual (defScope st) s.heap.objs.size f cdv)) -> sp vs H Q E ->
      ∃ t, PSs (cxOf (CXe P w) P w K mg base N qual (defScope st) f cdv A outer s H E) (defBody st) t /\ t { nx := fun _ H' => Q .non H', rt := Q } (start N vs) H) : FnOk P w K mg base (CXe P w) (k + 1) f fd ps sp := by
  obtain ⟨oc, od, kV, doc, pm, an, cdv, ct, osl, rfl, lk, hcd⟩ := F.ex
  exact fn_of lk hcd S len fun A outer s H vs Q E hr hsp => hbody cdv A outer s H vs Q E hr hsp
theorem passNev {X : Cx} : Passes (CXe P w) X E0 := fun _ _ _ _ _ _ _ h => by
  obtain ⟨_, _, _, _, _, _, _, _, _, _, q⟩ := h
  exact q.elim
end
section
variable {te ta tb : TE} {A : TA} {D : Ends} {σ : St} {H : Hp} {Q : VK} {K : PySem.W.Frag} {tbd ts : TS}
theorem r_raise {C : Addr} {E : XK} : tRaise C E A D σ H = A σ H fun vs H1 => vs.length <= sizeLine /\ E (.ref C) none H1 := rfl
end
section
variable {X : Cx} {tg : Expr}
end
end L2
namespace L2
open PySem PySem.Spec PyProof.Rows
theorem eqV_int (x y : Int) : eqV (.int x) (.int y) = decide (V.int x = V.int y) := by
  by_cases h : x = y
  . subst h; simp [eqV]
  . rw [decide_eq_false (fun z => h (by injection z))]; simp [eqV, h]
theorem EqD.ints {K : PySem.W.Frag} {H : Hp} {a c : Addr} {xs ys : List Int} (hq : (SqL K H a (xs.map V.int) /\ SqL K H c (ys.map V.int)) \/ (SqT K H a (xs.map V.int) /\ SqT K H c (ys.map V.int))) (n : Nat) : EqD K H (n + 1) (.ref a) (.ref c) (decide (xs = ys)) := by
  have := EqD.flat hq (fun x hx => by obtain ⟨_, _, rfl⟩ := mem_mapI hx; rfl) (fun x hx => by obtain ⟨_, _, rfl⟩ := mem_mapI hx; rfl) (fun x hx y hy => by obtain ⟨_, _, rfl⟩ := mem_mapI hx; obtain ⟨_, _, rfl⟩ := mem_mapI hy; exact eqV_int _ _) n
  have e : decide (xs.map V.int = ys.map V.int) = decide (xs = ys) := by
    rw [Bool.eq_iff_iff]
    simp only [decide_eq_true_eq]
    constructor
    . intro h
      exact (List.map_inj_right (fun a b h => by injection h)).mp h
    . intro h; rw [h]
  rw [e] at this
  exact this
end L2
namespace GW
end GW
namespace GW
end GW
namespace L2
open PySem PySem.Spec PyProof.Rows
end L2
namespace GW
end GW
namespace L2
open PySem PySem.Spec PyProof.Rows
end L2
namespace L2
open PySem PySem.Spec PyProof.Rows
end L2
namespace L2
open PySem PySem.Spec PyProof.Rows
section
variable {X : Cx} {K : PySem.W.Frag}
end
end L2
set_option Elab.async false
set_option linter.all false
set_option maxRecDepth 100000
set_option maxHeartbeats 4000000
namespace GW
def stepW (ways : List (List Int)) (r x : Int) : Int := (ways.getD r.toNat []).getD x.toNat 0
def walkW (ways : List (List Int)) (ws : List Int) : Int := ws.foldl (stepW ways) 0
def trailW (ways : List (List Int)) (ws : List Int) : List Int := (List.range (ws.length + 1)).map fun j => walkW ways (ws.take j)
structure Wf (L : Int) (marks : List Int) (ways : List (List Int)) : Prop where
  l1 : 1 <= L
  l6 : L <= 6
  n1 : 1 <= marks.length
  n40 : marks.length <= 40
  len : ways.length = marks.length
  rows : ∀ row ∈ ways, (row.length : Int) = L /\ ∀ x ∈ row, 0 <= x /\ x < marks.length
  mks : ∀ m ∈ marks, 0 <= m /\ m <= 1000000000
theorem stepW_of {ways : List (List Int)} {r x : Int} {row : List Int} {g : Int} (h1 : ways[r.toNat]? = some row) (h2 : row[x.toNat]? = some g) : stepW ways r x = g := by
  unfold stepW
  have e : ways.getD r.toNat [] = row := by rw [List.getD_eq_getElem?_getD, h1]; rfl
  rw [e, List.getD_eq_getElem?_getD, h2]; rfl
theorem Wf.row {L : Int} {marks : List Int} {ways : List (List Int)} (wf : Wf L marks ways) {r : Int} (h0 : 0 <= r) (h1 : r < marks.length) : ∃ row, ways[r.toNat]? = some row /\ row ∈ ways /\ (row.length : Int) = L := by
  have hlt : r.toNat < ways.length := by rw [wf.len]; omega
  exact ⟨ways[r.toNat], by simp [hlt], List.getElem_mem hlt, (wf.rows _ (List.getElem_mem hlt)).1⟩
theorem Wf.step {L : Int} {marks : List Int} {ways : List (List Int)} (wf : Wf L marks ways) {r x : Int} (h0 : 0 <= r) (h1 : r < marks.length) (x0 : 0 <= x) (x1 : x < L) : ∃ row g, ways[r.toNat]? = some row /\ row[x.toNat]? = some g /\ stepW ways r x = g /\ 0 <= g /\ g < marks.length := by
  obtain ⟨row, hr, hm, hl⟩ := wf.row h0 h1
  have hlt : x.toNat < row.length := by omega
  have hg : row[x.toNat]? = some row[x.toNat] := by simp [hlt]
  exact ⟨row, row[x.toNat], hr, hg, stepW_of hr hg, (wf.rows row hm).2 _ (List.getElem_mem hlt)⟩
theorem walkW_snoc (ways : List (List Int)) (ws : List Int) (x : Int) : walkW ways (ws ++ [x]) = stepW ways (walkW ways ws) x := by
  unfold walkW
  rw [List.foldl_append]; rfl
theorem walkW_take {ways : List (List Int)} {ws : List Int} {i : Nat} {x : Int} (h : ws[i]? = some x) : walkW ways (ws.take (i + 1)) = stepW ways (walkW ways (ws.take i)) x := by
  rw [List.take_add_one, h]
  exact walkW_snoc _ _ _
theorem Wf.walk {L : Int} {marks : List Int} {ways : List (List Int)} (wf : Wf L marks ways) {ws : List Int} (hw : isW L ws = true) : ∀ i, 0 <= walkW ways (ws.take i) /\ walkW ways (ws.take i) < marks.length := by
  intro i
  induction i with
  | zero => have := wf.n1; simp [walkW]; omega
  | succ i ih =>
    cases e : ws[i]? with
    | none =>
      have hle := List.getElem?_eq_none_iff.mp e
      rw [List.take_of_length_le (by omega)]
      rw [List.take_of_length_le hle] at ih
      exact ih
    | some x =>
      rw [walkW_take e]
      have hx := isW_iff.mp hw x (List.mem_of_getElem? e)
      obtain ⟨_, g, _, _, h, h0, h1⟩ := wf.step ih.1 ih.2 hx.1 hx.2
      rw [h]; exact ⟨h0, h1⟩
theorem trailW_length (ways : List (List Int)) (ws : List Int) : (trailW ways ws).length = ws.length + 1 := by simp [trailW]
theorem trailW_get {ways : List (List Int)} {ws : List Int} {i : Nat} (h : i <= ws.length) : (trailW ways ws)[i]? = some (walkW ways (ws.take i)) := by
  unfold trailW
  rw [List.getElem?_map, List.getElem?_range (by omega)]; rfl
theorem trailW_last (ways : List (List Int)) (ws : List Int) : (trailW ways ws)[ws.length]? = some (walkW ways ws) := by
  rw [trailW_get (Nat.le_refl _), List.take_length]
end GW
namespace L2
open PySem PySem.Spec PyProof.Rows GW
def Rows (K : PySem.W.Frag) (H : Hp) (w : Addr) (ways : List (List Int)) : Prop := ∃ ts : List Addr, SqT K H w (ts.map V.ref) /\ ts.length = ways.length /\ ∀ (i : Nat) (t : Addr) (row : List Int), ts[i]? = some t -> ways[i]? = some row -> SqT K H t (row.map V.int)
def House (K : PySem.W.Frag) (H : Hp) (h : Addr) (L : Int) (marks : List Int) (ways : List (List Int)) : Prop := ∃ m w : Addr, SqT K H h [.int L, .ref m, .ref w] /\ SqT K H m (marks.map V.int) /\ Rows K H w ways
theorem Rows.mono {K : PySem.W.Frag} {H H' : Hp} {w : Addr} {ways : List (List Int)} (h : Rows K H w ways) (e : Same H H') : Rows K H' w ways := by
  obtain ⟨ts, h1, h2, h3⟩ := h
  exact ⟨ts, e.seqT h1, h2, fun i t r a b => e.seqT (h3 i t r a b)⟩
theorem House.mono {K : PySem.W.Frag} {H H' : Hp} {h : Addr} {L : Int} {marks : List Int} {ways : List (List Int)} (x : House K H h L marks ways) (e : Same H H') : House K H' h L marks ways := by
  obtain ⟨m, w, h1, h2, h3⟩ := x
  exact ⟨m, w, e.seqT h1, e.seqT h2, h3.mono e⟩
theorem Rows.at {K : PySem.W.Frag} {H : Hp} {w : Addr} {ways : List (List Int)} (h : Rows K H w ways) {i : Nat} {row : List Int} (hr : ways[i]? = some row) : ∃ xs t, SqT K H w xs /\ atI xs (i : Int) = some (V.ref t) /\ SqT K H t (row.map V.int) := by
  obtain ⟨ts, h1, h2, h3⟩ := h
  have hlt : i < ts.length := by rw [h2]; exact (List.getElem?_eq_some_iff.mp hr).1
  have ht : ts[i]? = some ts[i] := by simp [hlt]
  exact ⟨_, ts[i], h1, atI_nat (by rw [List.getElem?_map, ht]; rfl), h3 i _ _ ht hr⟩
theorem Rows.atZ {K : PySem.W.Frag} {H : Hp} {w : Addr} {ways : List (List Int)} (h : Rows K H w ways) {r : Int} {row : List Int} (h0 : 0 <= r) (hr : ways[r.toNat]? = some row) : ∃ xs t, SqT K H w xs /\ atI xs r = some (V.ref t) /\ SqT K H t (row.map V.int) := by
  obtain ⟨xs, t, a, b, c⟩ := h.at hr
  exact ⟨xs, t, a, by rw [<- b]; congr 1; omega, c⟩
theorem atI_end {α : Type} {xs : List α} {v : α} (h : xs[xs.length - 1]? = some v) : atI xs (-1) = some v := by
  have hlt := (List.getElem?_eq_some_iff.mp h).1
  unfold atI ixN
  rw [if_neg (by omega), if_pos (by omega)]
  show xs[(-1 + (xs.length : Int)).toNat]? = some v
  rw [show (-1 + (xs.length : Int)).toNat = xs.length - 1 by omega]
  exact h
theorem atI_int {ns : List Int} {i : Int} {v : Int} (h0 : 0 <= i) (h : ns[i.toNat]? = some v) : atI (ns.map V.int) i = some (V.int v) := atI_of h0 (by rw [List.getElem?_map, h]; rfl)
end L2
namespace L2
open PySem PySem.Spec PyProof.Rows GW
theorem seqT_off {K : PySem.W.Frag} {H : Hp} {p t : Addr} {xs ys zs : List V} (hp : H p = some (.lst zs)) (h : SqT K H t xs) : SqT K (upd H p (.lst ys)) t xs := by
  rcases h with (q | ⟨o, q⟩) | q
  . refine .inl (.inl ?_)
    rw [upd_ne (fun z => by rw [z, hp] at q; cases q)]; exact q
  . refine .inl (.inr ⟨o, ?_⟩)
    rw [upd_ne (fun z => by rw [z, hp] at q; cases q)]; exact q
  . exact .inr q
def TupsL (K : PySem.W.Frag) (H : Hp) (l : Addr) (ws : List (List Int)) : Prop := ∃ ts : List Addr, H l = some (.lst (ts.map V.ref)) /\ ts.length = ws.length /\ ∀ (i : Nat) (t : Addr) (w : List Int), ts[i]? = some t -> ws[i]? = some w -> SqT K H t (w.map V.int)
theorem TupsL.mono {K : PySem.W.Frag} {H H' : Hp} {l : Addr} {ws : List (List Int)} (h : TupsL K H l ws) (e : Same H H') : TupsL K H' l ws := by
  obtain ⟨ts, h1, h2, h3⟩ := h
  exact ⟨ts, e _ _ h1, h2, fun i t w a b => e.seqT (h3 i t w a b)⟩
theorem TupsL.push {K : PySem.W.Frag} {H : Hp} {l t : Addr} {ws : List (List Int)} {w : List Int} (h : TupsL K H l ws) (hw : SqT K H t (w.map V.int)) : ∃ xs, H l = some (.lst xs) /\ xs.length = ws.length /\ TupsL K (upd H l (.lst (xs ++ [V.ref t]))) l (ws ++ [w]) := by
  obtain ⟨ts, h1, h2, h3⟩ := h
  refine ⟨ts.map V.ref, h1, by rw [List.length_map, h2], ts ++ [t], by rw [upd_same, List.map_append]; rfl, by simp [h2], fun i t' w' a b => seqT_off h1 ?_⟩
  by_cases hi : i < ts.length
  . rw [List.getElem?_append_left hi] at a
    rw [List.getElem?_append_left (by omega)] at b
    exact h3 i t' w' a b
  . have ht := (List.getElem?_eq_some_iff.mp a).1
    rw [List.length_append, List.length_singleton] at ht
    have e : i = ts.length := by omega
    subst e
    rw [List.getElem?_append_right (Nat.le_refl _), Nat.sub_self] at a
    rw [List.getElem?_append_right (by omega), h2, Nat.sub_self] at b
    simp at a b
    subst a b
    exact hw
theorem TupsL.nil {K : PySem.W.Frag} {H : Hp} {l : Addr} (h : H l = some (.lst [])) : TupsL K H l [] := ⟨[], h, rfl, fun i t w a _ => by simp at a⟩
theorem TupsL.rows {K : PySem.W.Frag} {H : Hp} {l : Addr} {ws : List (List Int)} (h : TupsL K H l ws) : ∃ xs, H l = some (.lst xs) /\ ∀ t, H t = none -> Rows K (upd H t (.tup xs)) t ws := by
  obtain ⟨ts, h1, h2, h3⟩ := h
  exact ⟨_, h1, fun t ht => ⟨ts, SqT.of upd_same, h2, fun i t' w a b => (Same.new ht).seqT (h3 i t' w a b)⟩⟩
end L2
set_option Elab.async false
set_option linter.all false
set_option maxRecDepth 100000
set_option maxHeartbeats 4000000
namespace PySem
open Sem (wp)
open AutoSeq1 (wpAny_loadPart')
section
variable {prog : Program} {w : World} {A : Around} {E : Value -> Shared -> Prop} {s : Shared}
theorem newT {l : List Value} {Q : Value -> Shared -> Prop} (hl : l.length <= sizeLine) (h : ∀ h', s.heap.push { cls := .type "tuple", data := .seq l.toArray } = h' -> Q (.ref s.heap.objs.size) { s with heap := h' }) : wpAny (model prog w) A (newTuple l) Q E s := wpAny_newTuple (h _ rfl)
end
end PySem
namespace L2
open PySem PySem.Spec PyProof.Rows
section
variable {X : Cx} {pins : List (Addr × Obj)} {σ : St} {H : Hp} {s : Shared}
end
theorem r_gTup {K : PySem.W.Frag} {n : Nat} {t : TGs} {v : V} {σ : St} {H : Hp} {N : St -> Hp -> Prop} : gTup K n t v σ H N = ∃ a xs, v = .ref a /\ SqT K H a xs /\ xs.length = n /\ t xs σ H N := rfl
theorem r_gCons {t : TG} {u : TGs} {vs : List V} {σ : St} {H : Hp} {N : St -> Hp -> Prop} : gCons t u vs σ H N = ∃ v r, vs = v :: r /\ t v σ H fun σ' H' => u r σ' H' N := rfl
theorem r_gNil {vs : List V} {σ : St} {H : Hp} {N : St -> Hp -> Prop} : gNil vs σ H N = (vs = [] /\ N σ H) := rfl
section
variable {td ty tv tx : TE} {D : Ends} {σ : St} {H : Hp} {Q : VK}
theorem r_dnotin : tDNotIn ty td σ H Q = ty σ H fun y H1 => td σ H1 fun x H2 => ∃ a o, x = .ref a /\ DGet H2 a y o /\ Q (.bl (!o.isSome)) H2 := rfl
theorem r_dput : sDPut td ty tv D σ H = tv σ H fun v H1 => td σ H1 fun x H2 => ty σ H2 fun y H3 => ∃ a H4, x = .ref a /\ DPut H3 a y v H4 /\ D.nx σ H4 := rfl
end
end L2
namespace HT
open PySem PySem.Spec PyProof.Rows
section
open PySem.SeqAt PySem.MeetsSeq PySem.MeetsSeq2 PySem.MeetsSeq3
open PySem.AutoSeq1 (wpAny_loadPart')
end
end HT
namespace L2
open PySem PySem.Spec PyProof.Rows
end L2
set_option Elab.async false
set_option linter.all false
set_option maxRecDepth 100000
set_option maxHeartbeats 4000000
namespace GW
end GW
namespace L2
open PySem PySem.Spec PyProof.Rows GW
end L2
namespace L2
end L2
namespace L2
open PySem PySem.Spec PyProof.Rows
def ups (n : Nat) : List Int := (List.range n).map fun i : Nat => (i : Int)
end L2
namespace L2
open PySem PySem.Spec PyProof.Rows
def rNeD (K : PySem.W.Frag) (n : Nat) : R2 := fun x y H Q => ∃ a c b, x = .ref a /\ y = .ref c /\ EqD K H n x y b /\ Q (.bl (!b)) H
theorem r_neD {K : PySem.W.Frag} {n : Nat} {x y : V} {H : Hp} {Q : VK} : rNeD K n x y H Q = ∃ a c b, x = .ref a /\ y = .ref c /\ EqD K H n x y b /\ Q (.bl (!b)) H := rfl
theorem op_neD {X : Cx} (n : Nat) (hu : X.A.units + n < cLine) : OpR X (compareOp .NotEq) (rNeD X.K n) := by
  intro pins s σ H x y v u Q I rx ry h
  obtain ⟨a, c, b, rfl, rfl, h, q⟩ := h
  cases rx
  cases ry
  cases n with
  | zero => exact absurd (show false = true from h.1) Bool.false_ne_true
  | succ n =>
    rcases h with ⟨fx, _⟩ | ⟨a', c', xs, ys, e1, e2, hq, e, he, rfl⟩
    . exact absurd (show false = true from fx) Bool.false_ne_true
    . cases e1
      cases e2
      have key : ∀ (its its2 : List Value), Vals xs its -> Vals ys its2 -> ∀ j (h1 : j < its.toArray.size) (h2 : j < its2.toArray.size), SeqAt.EqAt X.A.in1 s its.toArray[j] its2.toArray[j] (e j) := fun its its2 r1 r2 j h1 h2 => by
        have l1 := r1.length
        have l2 := r2.length
        rw [List.size_toArray] at h1 h2
        obtain ⟨u1, g1, q1⟩ := r1.get (i := j) (x := xs[j]'(by omega)) (by simp [show j < xs.length by omega])
        obtain ⟨u2, g2, q2⟩ := r2.get (i := j) (x := ys[j]'(by omega)) (by simp [show j < ys.length by omega])
        have k1 : its.toArray[j]'(by rw [List.size_toArray]; exact h1) = u1 := by
          have := (List.getElem?_eq_some_iff.mp g1).2
          simpa using this
        have k2 : its2.toArray[j]'(by rw [List.size_toArray]; exact h2) = u2 := by
          have := (List.getElem?_eq_some_iff.mp g2).2
          simpa using this
        rw [k1, k2]
        exact (EqD.at I n X.A.in1 (by rw [in1_units]; omega) q1 q2 (he j _ _ (by simp [show j < xs.length by omega]) (by simp [show j < ys.length by omega]))).1
      have fin : EP X pins σ Q (.bool (!(decide (xs.length = ys.length) && (List.range (min xs.length ys.length)).all e))) s := ⟨.bl _, H, I, rfl, q⟩
      rcases hq with ⟨h1, h2⟩ | ⟨h1, h2⟩
      . obtain ⟨its, r1, p1, _⟩ := I.list h1
        obtain ⟨its2, r2, p2, _⟩ := I.list h2
        have l1 := r1.length
        have l2 := r2.length
        by_cases hl : xs.length = ys.length
        . have := SeqAt.RcNeAt.lists (e := e) p1.isList p2.isList (by rw [List.size_toArray, List.size_toArray]; omega) (by omega) (key its its2 r1 r2)
          rw [List.size_toArray, <- l1] at this
          rw [decide_eq_true hl, Bool.true_and, <- hl, Nat.min_self] at fin
          exact this _ _ _ _ fin
        . have := SeqAt.RcNeAt.lists_lengths (A := X.A) p1.isList p2.isList (by rw [List.size_toArray, List.size_toArray]; simp; omega) (by omega)
          rw [decide_eq_false hl, Bool.false_and] at fin
          exact this _ _ _ _ fin
      . obtain ⟨its, r1, p1, _⟩ := I.tuple h1
        obtain ⟨its2, r2, p2, _⟩ := I.tuple h2
        have l1 := r1.length
        have l2 := r2.length
        have := SeqAt.RcNeAt.tuples (e := e) (show s.heap.IsTuple a its.toArray from p1) (show s.heap.IsTuple c its2.toArray from p2) (by omega) (key its its2 r1 r2)
        rw [List.size_toArray, List.size_toArray, <- l1, <- l2, all_and] at this
        exact this _ _ _ _ fin
end L2
namespace L2
open PySem PySem.Spec PyProof.Rows
end L2
namespace L2
open PySem PySem.Spec PyProof.Rows
end L2
namespace GW
end GW
namespace L2
end L2
namespace L2
open PySem GW
def mkW (marks : List Int) (r : Int) : Int := marks.getD r.toNat 0
theorem mkW_in {marks : List Int} {r : Int} (h0 : 0 <= r) (h1 : r < marks.length) : mkW marks r ∈ marks := by
  have hlt : r.toNat < marks.length := by omega
  unfold mkW
  rw [List.getD_eq_getElem?_getD, List.getElem?_eq_getElem hlt]
  exact List.getElem_mem hlt
theorem mkW_at {marks : List Int} {r : Int} (h0 : 0 <= r) (h1 : r < marks.length) : atI (marks.map V.int) r = some (V.int (mkW marks r)) := by
  have hlt : r.toNat < marks.length := by omega
  refine atI_int h0 ?_
  unfold mkW
  rw [List.getD_eq_getElem?_getD, List.getElem?_eq_getElem hlt]; rfl
end L2
namespace GW
end GW
namespace L2
open PySem GW
end L2
namespace GW
end GW
set_option Elab.async false
set_option linter.all false
set_option maxRecDepth 100000
set_option maxHeartbeats 4000000
namespace L2
open PySem PySem.Spec PyProof.Rows
end L2
namespace HT
open PySem PyProof.Rows
section
open PySem.SeqAt
open PySem.AutoSeq1 (wpAny_loadPart')
open PySem.MeetsSeq PySem.MeetsSeq2 PySem.MeetsSeq3
end
end HT
namespace L2
open PySem PySem.Spec PyProof.Rows
end L2
namespace L2
end L2
namespace GW
end GW
set_option Elab.async false
set_option linter.all false
set_option maxRecDepth 100000
set_option maxHeartbeats 4000000
namespace L2
open PySem PySem.Spec PyProof.Rows
end L2
namespace L2
open PySem PySem.Spec PyProof.Rows
def rng (i j : Int) : List Int := (List.range (j - i).toNat).map fun k : Nat => i + (k : Int)
end L2
namespace GW
open L2
end GW
namespace GW
end GW
namespace GW
open L2
end GW
namespace L2
open PySem PySem.Spec PyProof.Rows GW
end L2
namespace L2
end L2
namespace L2
end L2
namespace L2
open PySem PySem.Spec PyProof.Rows GW
end L2
namespace GW
end GW
namespace GW
open L2
end GW
set_option Elab.async false
set_option linter.all false
set_option maxRecDepth 100000
set_option maxHeartbeats 4000000
namespace GW
open L2
end GW
set_option Elab.async false
set_option linter.all false
set_option maxRecDepth 100000
set_option maxHeartbeats 4000000
namespace PySem
open Sem (wp)
section
variable {prog : Program} {w : World} {A : Around} {E : Value -> Shared -> Prop} {s : Shared} {d it : Addr} {es : Array DictEntry} {i ep : Nat}
end
end PySem
namespace L2
open PySem PySem.Spec PyProof.Rows
theorem paired_get {α β : Type} {F : α -> β -> Prop} : ∀ {l : List α} {m : List β} {i : Nat} {a : α}, Paired F l m -> l[i]? = some a -> ∃ b, m[i]? = some b /\ F a b
  | _, _, _, _, .nil, e => by simp at e
  | _, _, 0, _, .cons r _, e => by simp at e; subst e; exact ⟨_, rfl, r⟩
  | _, _, i + 1, a, .cons _ t, e => by
    obtain ⟨b, h1, h2⟩ := paired_get (i := i) (a := a) t (by simpa using e)
    exact ⟨b, by simpa using h1, h2⟩
section
variable {X : Cx} {pins : List (Addr × Obj)} {σ : St} {H : Hp} {s : Shared} {a : Addr}
end
end L2
namespace HT
open PySem PyProof.Rows
section
open PySem.SeqAt
open PySem.AutoSeq1 (wpAny_loadPart')
open PySem.MeetsSeq PySem.MeetsSeq2 PySem.MeetsSeq3
end
end HT
namespace L2
open PySem PySem.Spec PyProof.Rows
end L2
set_option Elab.async false
set_option linter.all false
set_option maxRecDepth 100000
set_option maxHeartbeats 4000000
namespace GB
open GW
variable {α : Type} [DecidableEq α]
def walkF (step : α -> Int -> α) (a : α) (ws : List Int) : α := ws.foldl step a
def put (step : α -> Int -> α) (r : α) (w : List Int) (ents : List (α × List Int)) (x : Nat) : List (α × List Int) := if step r x ∈ ents.map (·.1) then ents else ents ++ [(step r x, w ++ [(x : Int)])]
structure B (L : Int) (step : α -> Int -> α) (st : α) (ok : α -> Prop) (ents : List (α × List Int)) (i : Nat) (top : Int) : Prop where
  hd : ents[0]? = some (st, [])
  il : i <= ents.length
  sh : ∀ (j : Nat) (e : α × List Int), ents[j]? = some e -> e.2.length <= j
  nod : (ents.map (·.1)).Nodup
  rng : ∀ e ∈ ents, ok e.1
  wd : ∀ e ∈ ents, isW L e.2 = true /\ walkF step st e.2 = e.1
  inc : ∀ (j k : Nat) (a b : α × List Int), j < k -> ents[j]? = some a -> ents[k]? = some b -> place L a.2 < place L b.2
  bnd : ∀ e ∈ ents, place L e.2 < top
  don : ∀ j, j < i -> ∀ e, ents[j]? = some e -> ∀ x : Int, 0 <= x -> x < L -> ∃ e' ∈ ents, e'.1 = step e.1 x /\ place L e'.2 <= place L (e.2 ++ [x])
variable {L : Int} {step : α -> Int -> α} {st : α} {ok : α -> Prop} {ents : List (α × List Int)} {i : Nat} {top : Int}
def walkR (ways : List (List Int)) (r : Int) (ws : List Int) : Int := ws.foldl (stepW ways) r
theorem walkR_cons (ways : List (List Int)) (r x : Int) (ws : List Int) : walkR ways r (x :: ws) = walkR ways (stepW ways r x) ws := rfl
theorem walkR_snoc (ways : List (List Int)) (r x : Int) (ws : List Int) : walkR ways r (ws ++ [x]) = stepW ways (walkR ways r ws) x := by
  unfold walkR
  rw [List.foldl_append]; rfl
theorem walkR_take {ways : List (List Int)} {ws : List Int} {i : Nat} {x r : Int} (h : ws[i]? = some x) : walkR ways r (ws.take (i + 1)) = stepW ways (walkR ways r (ws.take i)) x := by
  rw [List.take_add_one, h]
  exact walkR_snoc _ _ _ _
theorem walkR_in {L : Int} {marks : List Int} {ways : List (List Int)} (wf : Wf L marks ways) : ∀ (ws : List Int) {r : Int}, isW L ws = true -> 0 <= r -> r < marks.length -> 0 <= walkR ways r ws /\ walkR ways r ws < marks.length
  | [], r, _, h0, h1 => ⟨h0, h1⟩
  | x :: ws, r, hv, h0, h1 => by
    have hx := isW_iff.mp hv x List.mem_cons_self
    obtain ⟨_, g, _, _, h, g0, g1⟩ := wf.step h0 h1 hx.1 hx.2
    rw [walkR_cons, h]
    exact walkR_in wf ws (isW_iff.mpr fun y hy => isW_iff.mp hv y (List.mem_cons_of_mem _ hy)) g0 g1
end GB
namespace L2
open PySem PySem.Spec PyProof.Rows GW GB
end L2
namespace L2
theorem r_dnewT {σ : St} {H : Hp} {Q : VK} : tDNewT σ H Q = ∀ p, H p = none -> Q (.ref p) (upd H p (.dT [])) := rfl
end L2
namespace GB
open GW
end GB
set_option Elab.async false
set_option linter.all false
set_option maxRecDepth 100000
set_option maxHeartbeats 4000000
namespace GB
open GW
theorem isW_take {L : Int} {w : List Int} (h : isW L w = true) (j : Nat) : isW L (w.take j) = true := isW_iff.mpr fun x hx => isW_iff.mp h x (List.mem_of_mem_take hx)
end GB
namespace L2
open GW
end L2
namespace L2
open PySem PySem.Spec PyProof.Rows GW
theorem Same.none {H H' : Hp} (s : Same H H') {p : Addr} (h : H' p = none) : H p = none := by
  cases e : H p with
  | none => rfl
  | some u => rw [s _ _ e] at h; cases h
end L2
namespace GW
end GW
namespace L2
open PySem GW
end L2
set_option Elab.async false
set_option linter.all false
set_option maxRecDepth 100000
set_option maxHeartbeats 4000000
namespace L2
open PySem PySem.Spec PyProof.Rows
section
variable {X : Cx} {pins : List (Addr × Obj)} {σ : St} {H : Hp} {s : Shared} {sc : Scope} {fp : List Addr}
end
section
variable {X : Cx} {tg iter elt : Expr} {ifs : List Expr} {sc : Scope} {pos : Pos} {wi : TI} {cp : Caps} {g : TG} {tc : TT} {te : TE}
end
end L2
namespace L2
open PySem PySem.Spec PyProof.Rows GW GB
end L2
namespace GB
open GW
end GB
set_option Elab.async false
set_option linter.all false
set_option maxRecDepth 100000
set_option maxHeartbeats 4000000
namespace L2
open PySem PySem.Spec PyProof.Rows GW
theorem rCatT2.ofS {K : PySem.W.Frag} {H : Hp} {Q : VK} {a b : Addr} {xs ys : List V} (ha : H a = some (.tup xs)) (hb : H b = some (.tup ys)) (hz : xs.length + ys.length <= sizeLine) (h : ∀ p H', Same H H' -> H' p = some (.tup (xs ++ ys)) -> Q (.ref p) H') : rCatT2 K (.ref a) (.ref b) H Q := by
  refine ⟨a, b, xs, ys, rfl, rfl, SqT.of ha, SqT.of hb, hz, fun e => ?_, fun _ e => ?_, fun _ _ p hp => h p _ (Same.new hp) upd_same⟩
  . subst e; exact h b H (Same.refl _) (by simpa using hb)
  . subst e; exact h a H (Same.refl _) (by simpa using ha)
end L2
namespace L2
open PySem PySem.Spec PyProof.Rows GW
end L2
namespace GW
def ins (s : List (List Int)) (w : List Int) : List (List Int) := if w ∈ s then s else s ++ [w]
end GW
namespace L2
open PySem PySem.Spec PyProof.Rows GW
def wkey (w : List Int) : List Key := w.map Sum.inl
theorem wkey_kV (w : List Int) : (wkey w).map kV = w.map V.int := by unfold wkey; rw [List.map_map]; rfl
theorem wkey_inj {v w : List Int} (h : wkey v = wkey w) : v = w := (List.map_inj_right (fun x y z => Sum.inl.inj z)).mp h
def KeysW (ws : List (List Int)) (kvs : List (List Key × V)) : Prop := kvs.map (·.1) = ws.map wkey
theorem KeysW.len {ws : List (List Int)} {kvs : List (List Key × V)} (h : KeysW ws kvs) : kvs.length = ws.length := by
  have := congrArg List.length h
  simpa using this
theorem KeysW.some_iff {ws : List (List Int)} {kvs : List (List Key × V)} (h : KeysW ws kvs) (w : List Int) : (valV kvs (wkey w)).isSome = decide (w ∈ ws) := by
  rw [<- valV_any, Bool.eq_iff_iff, decide_eq_true_eq, List.any_eq_true]
  constructor
  . rintro ⟨kv, hkv, e⟩
    have e := of_decide_eq_true e
    have : wkey w ∈ ws.map wkey := by rw [<- h, <- e]; exact List.mem_map.mpr ⟨kv, hkv, rfl⟩
    obtain ⟨q, hq, e2⟩ := List.mem_map.mp this
    exact wkey_inj e2 ▸ hq
  . intro hw
    have : wkey w ∈ kvs.map (·.1) := by rw [h]; exact List.mem_map.mpr ⟨w, hw, rfl⟩
    obtain ⟨kv, hkv, e⟩ := List.mem_map.mp this
    exact ⟨kv, hkv, decide_eq_true e⟩
theorem KeysW.put {ws : List (List Int)} {kvs : List (List Key × V)} (h : KeysW ws kvs) (w : List Int) (v : V) : KeysW (ins ws w) (putK kvs (wkey w) v) := by
  have hs := h.some_iff w
  unfold putK ins
  rw [valV_any, hs]
  by_cases hw : w ∈ ws
  . rw [if_pos hw, if_pos (show decide (w ∈ ws) = true from decide_eq_true hw)]
    unfold KeysW
    rw [<- h, List.map_map]
    refine List.map_congr_left fun kv _ => ?_
    show (if kv.1 = wkey w then (kv.1, v) else kv).1 = kv.1
    split <;> rfl
  . rw [if_neg hw, if_neg (show ¬ decide (w ∈ ws) = true by simp [hw])]
    unfold KeysW
    rw [List.map_append, List.map_append, h]; rfl
theorem KeysW.nil : KeysW [] [] := rfl
end L2
set_option Elab.async false
set_option linter.all false
set_option maxRecDepth 100000
set_option maxHeartbeats 4000000
namespace L2
open PySem PySem.Spec PyProof.Rows
section
variable {M : Model} {A : Around} {E : Value -> Shared -> Prop} {s : Shared}
end
section
variable {X : Cx} {N : List Str} {sc : Scope} {C : Addr} {s₀ : Shared} {H₀ : Hp} {ex : List Addr} {xe : Value -> Shared -> Prop} {pins : List (Addr × Obj)} {σ : St} {H : Hp} {s : Shared}
end
section
variable {X : Cx} {tg iter elt : Expr} {ifs : List Expr} {sc : Scope} {pos : Pos} {wi : TI} {cp : Caps} {g : TG} {tc : TT} {te : TE}
end
end L2
set_option Elab.async false
set_option linter.all false
set_option maxRecDepth 100000
set_option maxHeartbeats 4000000
namespace PySem.W
open PySem PySem.Calls PyProof.Rows PyProof.V PySem.Spec
section
variable {prog : Program} {w : World} {A : Around} {E : Value -> Shared -> Prop} {s : Shared}
abbrev itO (x : Value) (f : Bool) (d : Addr) (i n ep : Nat) (ok ov : Value) : Obj := { cls := .type "dict_itemiterator", dict := none, data := .fields #[x, .bool f, .ref d, .int i 0, .int n 0, .int ep 0, ok, ov], slots := #[] }
abbrev tpO (e : DictEntry) : Obj := { cls := .type "tuple", data := .seq #[e.key, e.val] }
theorem itm_pair {it d : Addr} {i n ep : Nat} {x : Value} {f : Bool} {ok ov : Value} {e : DictEntry} {Q : Value -> Shared -> Prop} (g1 : s.heap.get? it = some (itO x f d i n ep ok ov))
    (hx : x = .none \/ ∃ a : Addr, ∃ o, x = rawInt a /\ s.heap.get? a = some o /\ a ≠ it)
    (hQ : ∀ h' x' f' ok' ov', h'.get? it = some (itO x' f' d i n ep ok' ov') -> (x = .none -> x' = rawInt s.heap.objs.size /\ f' = false /\ ok' = e.key /\ ov' = e.val) -> (x ≠ .none -> x' = x) -> h'.get? s.heap.objs.size = some (tpO e) -> h'.objs.size = s.heap.objs.size + 1 -> (∀ b o, b ≠ it -> s.heap.get? b = some o -> h'.get? b = some o) ->
      Q (.ref s.heap.objs.size) { s with heap := h' }) : wpAny (model prog w) A (Builtin.Dict_items.pairFromOwner (.ref it) 6 e.key e.val) Q E s := by
  have hl := Heap.lt_size g1
  obtain ⟨hp, gs, dr, tk, os⟩ := s
  wp_walk using newT
  . show 2 <= sizeLine; decide
  intro h2 g
  have k2 : ∀ b o, hp.get? b = some o -> h2.get? b = some o := fun b o q => by rw [<- g]; exact Heap.get?_push_of_some _ q
  have g2 := k2 it _ g1
  have g0 : h2.get? hp.objs.size = some (tpO e) := by rw [<- g]; exact Heap.get?_push_size _ rfl
  have gz : h2.objs.size = hp.objs.size + 1 := by rw [<- g]; exact Heap.size_push ..
  rcases hx with rfl | ⟨a, o, rfl, ha, hne⟩
  . (wp_walk using wpAny_setField_rec g2; (focus simp); intro _ g3 k3)
    (wp_walk using wpAny_setField_rec g3; (focus simp); intro _ g4 k4)
    (wp_walk using wpAny_setField_rec g4; (focus simp); intro _ g5 k5)
    (wp_walk using wpAny_setField_rec g5; (focus simp); intro _ g6 k6)
    wp_walk
    have kk := ((k3.extBut.trans k4.extBut).trans k5.extBut).trans k6.extBut
    exact hQ _ _ _ _ _ g6 (fun _ => ⟨rfl, rfl, rfl, rfl⟩) (fun z => absurd rfl z) (kk _ _ (Nat.ne_of_gt hl) g0) ((k6.1.trans (k5.1.trans (k4.1.trans k3.1))).trans gz) fun b o n q => kk b o n (k2 b o q)
  . have g7 := k2 a o ha
    have e : ((a : Int)).toNat = a := Int.toNat_natCast a
    wp_walk
    refine kdx_alive (a := (a : Int).toNat) (by rw [e]; exact g7) ?_
    cases f
    . (wp_walk using wpAny_setField_rec g2; (focus simp); intro _ g3 k3)
      wp_walk
      exact hQ _ _ _ _ _ g3 (fun z => by cases z) (fun _ => rfl) (k3.extBut _ _ (Nat.ne_of_gt hl) g0) (k3.1.trans gz) fun b o n q => k3.extBut b o n (k2 b o q)
    . wp_walk
      exact hQ _ _ _ _ _ g2 (fun z => by cases z) (fun _ => rfl) g0 gz fun b o n q => k2 b o q
theorem itm {it d : Addr} {i ep : Nat} {es : Array DictEntry} {od : Obj} {x : Value} {f : Bool} {ok ov : Value} {Q : Option Value -> Shared -> Prop} (hh : A.handled = none) (hit : s.heap.get? it = some (itO x f d i es.size ep ok ov))
    (hod : s.heap.get? d = some od) (hdd : od.data = .dict es ep) (hx : x = .none \/ ∃ a : Addr, ∃ o, x = rawInt a /\ s.heap.get? a = some o /\ a ≠ it)
    (hQ : ∀ e h' x' f' ok' ov', es[i]? = some e -> h'.get? it = some (itO x' f' d (i + 1) es.size ep ok' ov') -> (x = .none -> x' = rawInt s.heap.objs.size /\ f' = false /\ ok' = e.key /\ ov' = e.val) -> (x ≠ .none -> x' = x) -> h'.get? s.heap.objs.size = some (tpO e) -> h'.objs.size = s.heap.objs.size + 1 -> (∀ b o, b ≠ it -> s.heap.get? b = some o -> h'.get? b = some o) ->
      Q (some (.ref s.heap.objs.size)) { s with heap := h' })
    (hN : es[i]? = none -> ∀ h', Heap.ExtBut it s.heap h' -> Q none { s with heap := h' }) : wpAny (model prog w) A (pyNext (.ref it)) Q E s := by
  have hT : s.TypeIs (.ref it) "dict_itemiterator" := ⟨_, hit, rfl⟩
  have e1 := PySem.F.slot_dict_itemiterator_next
  have h1 : A.in1.handled = none := hh
  obtain ⟨c, dc, da, sl⟩ := od
  replace hdd : da = _ := hdd
  subst hdd
  unfold pyNext
  refine wpAny_bind (wpAny_attempt (wpAny_callSpecial?_slot hT e1 (wpAny_call_entry e1 hT PySem.F.entry_dict_itemiterator_next ?_ (PySem.F.args_dict_itemiterator_next_1 _))))
  wp_walk using wpAny_typeNameOfWhole_itemiter hT, wpAny_fieldsOf hit rfl
  cases hi : es[i]? with
  | some e =>
    simp only [show ¬ ((i : Int) < 0) from by omega, if_false, Int.toNat_natCast, hi]
    wp_walk using wpAny_typeNameOfWhole_itemiter hT, wpAny_isOneOf_itemiter hT, wpAny_setField_rec hit
    . exact Nat.lt_of_sub_eq_succ rfl
    intro h1 g1 k1
    replace g1 : h1.get? it = some (itO x f d (i + 1) es.size ep ok ov) := g1
    have hT1 : Shared.TypeIs { s with heap := h1 } (.ref it) "dict_itemiterator" := ⟨_, g1, rfl⟩
    have z1 : h1.objs.size = s.heap.objs.size := k1.1
    wp_walk using wpAny_isOneOf_itemiter hT1, itm_pair g1
    . rcases hx with hx | ⟨a, o, hx, ha, n⟩
      . exact .inl hx
      . exact .inr ⟨a, o, hx, k1.extBut a o n ha, n⟩
    intro h' x' f' ok' ov' q1 q2 q3 q4 q5 q6
    wp_walk
    simp only [z1] at q2 q4 q5 ⊢
    exact ⟨_, rfl, wpAny_pure (hQ e h' x' f' ok' ov' hi q1 q2 q3 q4 q5 fun b o n q => q6 b o n (k1.extBut b o n q))⟩
  | none =>
    simp only [show ¬ ((i : Int) < 0) from by omega, if_false, Int.toNat_natCast, hi]
    wp_walk using wpAny_typeNameOfWhole_itemiter hT, wpAny_setField_rec hit
    . exact Nat.lt_of_sub_eq_succ rfl
    intro h1 g1 k1
    wp_walk
    exact wpAny_raiseNew_none hh (wpAny_bind (wpAny_isInstance (T := "StopIteration") (b := true) ⟨_, Heap.get?_push_size _ rfl, rfl⟩ isSubtype_stop (wpAny_pure (hN hi _ ((k1.extBut.push _).push _)))))
def ItS (h : Heap) (it d S : Addr) (i n ep : Nat) : Prop := ∃ x f ok ov, h.get? it = some (itO x f d i n ep ok ov) /\ (x = .none \/ ∃ a : Addr, ∃ o, x = rawInt a /\ h.get? a = some o /\ a ≠ it /\ a ≠ S)
theorem ItS.keep {h h' : Heap} {it d S : Addr} {i n ep : Nat} (x : ItS h it d S i n ep) (hS : it ≠ S) (k : ∀ b o, b ≠ S -> h.get? b = some o -> h'.get? b = some o) : ItS h' it d S i n ep := by
  obtain ⟨x, f, ok, ov, e, r⟩ := x
  refine ⟨x, f, ok, ov, k _ _ hS e, r.imp_right ?_⟩
  rintro ⟨a, o, e1, e2, e3, e4⟩
  exact ⟨a, o, e1, k _ _ e4 e2, e3, e4⟩
theorem its {it d S : Addr} {i ep : Nat} {es : Array DictEntry} {od : Obj} {Q : Option Value -> Shared -> Prop} (hh : A.handled = none) (st : ItS s.heap it d S i es.size ep) (hS : S < s.heap.objs.size) (hod : s.heap.get? d = some od) (hdd : od.data = .dict es ep)
    (hQ : ∀ e h', es[i]? = some e -> ItS h' it d S (i + 1) es.size ep -> h'.get? s.heap.objs.size = some (tpO e) -> h'.objs.size = s.heap.objs.size + 1 -> (∀ b o, b ≠ it -> s.heap.get? b = some o -> h'.get? b = some o) -> Q (some (.ref s.heap.objs.size)) { s with heap := h' })
    (hN : es[i]? = none -> ∀ h', Heap.ExtBut it s.heap h' -> Q none { s with heap := h' }) : wpAny (model prog w) A (pyNext (.ref it)) Q E s := by
  obtain ⟨x, f, ok, ov, hit, hx⟩ := st
  refine itm hh hit hod hdd (hx.imp_right fun ⟨a, o, e1, e2, e3, _⟩ => ⟨a, o, e1, e2, e3⟩) (fun e h' x' f' ok' ov' q0 q1 q2 q3 q4 q5 q6 => hQ e h' q0 ⟨x', f', ok', ov', q1, ?_⟩ q4 q5 q6) hN
  rcases hx with rfl | ⟨a, o, rfl, e2, e3, e4⟩
  . exact .inr ⟨_, _, (q2 rfl).1, q4, Nat.ne_of_gt (Heap.lt_size hit), Nat.ne_of_gt hS⟩
  . exact .inr ⟨a, o, q3 (fun z => by cases z), q6 a o e3 e2, e3, e4⟩
def Tps (es : Array DictEntry) (lo : Addr) (h : Heap) (as : List Addr) : Prop := as.Pairwise (· < ·) /\ ∀ (j : Nat) a, as[j]? = some a -> lo < a /\ ∃ e, es[j]? = some e /\ h.get? a = some (tpO e)
theorem Tps.low {es : Array DictEntry} {lo lo' : Addr} {h : Heap} {as : List Addr} (g : Tps es lo h as) (l : lo' <= lo) : Tps es lo' h as := ⟨g.1, fun j a e => ⟨Nat.lt_of_le_of_lt l (g.2 j a e).1, (g.2 j a e).2⟩⟩
theorem Tps.keep {es : Array DictEntry} {lo : Addr} {h h' : Heap} {as : List Addr} (g : Tps es lo h as) (k : ∀ b o, lo < b -> h.get? b = some o -> h'.get? b = some o) : Tps es lo h' as := ⟨g.1, fun j a q => let ⟨l, e, e1, e2⟩ := g.2 j a q; ⟨l, e, e1, k a _ l e2⟩⟩
theorem Tps.snoc {es : Array DictEntry} {lo b : Addr} {h : Heap} {as : List Addr} {e : DictEntry} (g : Tps es lo h as) (hl : lo < b) (hb : ∀ a o, h.get? a = some o -> a ∈ as -> a < b) (he : es[as.length]? = some e) (ht : h.get? b = some (tpO e)) : Tps es lo h (as ++ [b]) := by
  refine ⟨List.pairwise_append.mpr ⟨g.1, List.pairwise_singleton _ _, fun a ha c hc => ?_⟩, fun j a q => ?_⟩
  . obtain ⟨j, hj⟩ := List.mem_iff_getElem?.mp ha
    obtain ⟨_, e, _, e2⟩ := g.2 j a hj
    rw [List.mem_singleton.mp hc]
    exact hb a _ e2 ha
  . rcases Nat.lt_or_ge j as.length with l | l
    . rw [List.getElem?_append_left l] at q
      exact g.2 j a q
    . rw [List.getElem?_append_right l] at q
      obtain ⟨z, rfl⟩ : j - as.length = 0 /\ a = b := by
        cases hz : j - as.length with
        | zero => rw [hz] at q; exact ⟨rfl, by simpa using q.symm⟩
        | succ n => rw [hz] at q; simp at q
      obtain rfl : j = as.length := by omega
      exact ⟨hl, e, he, ht⟩
end
section
variable {prog : Program} {w : World} {A : Around} {E : Value -> Shared -> Prop} {s : Shared} {r d : Addr} {es : Array DictEntry} {ep : Nat} {od : Obj}
theorem itm_iter {v : Addr} {Q : Value -> Shared -> Prop} (hv : s.heap.IsItemsView v d) (hod : s.heap.get? d = some od) (hdd : od.data = .dict es ep)
    (h : Q (.ref s.heap.objs.size) { s with heap := s.heap.push (itO .none false d 0 es.size ep .none .none) }) : wpAny (model prog w) A (pyIter (.ref v)) Q E s := by
  have hT := hv.typeIs
  obtain ⟨⟨c1, d1, a1, s1⟩, hv1, hc, hv2⟩ := hv
  replace hv2 : a1 = _ := hv2
  obtain ⟨c, dc, da, sl⟩ := od
  replace hdd : da = _ := hdd
  subst hdd hv2
  have e1 := PySem.F.slot_dict_items_iter
  refine wpAny_pyIter_slot hT e1 (wpAny_call_entry e1 hT PySem.F.entry_dict_items_iter ?_ (PySem.F.args_dict_items_iter_1 _))
  wp_walk
  exact ⟨_, rfl, _, _, ⟨_, Heap.get?_push_size _ rfl, rfl⟩, PySem.F.slot_dict_itemiterator_next.lookup, h⟩
theorem itm_gat (hv : s.heap.IsItemsView r d) (hod : s.heap.get? d = some od) (hdd : od.data = .dict es ep) (hn : es.size <= sizeLine) :
    Gat prog w s r (s.heap.objs.size + 1) "dict_items" es.size (· = s.heap.objs.size + 1) (fun i acc h => ∃ as, acc = as.map Value.ref /\ as.length = i /\ Tps es (s.heap.objs.size + 1) h as /\ ItS h (s.heap.objs.size + 1) d s.heap.objs.size i es.size ep /\ h.get? d = some od) (fun acc h => ∃ as, acc = as.map Value.ref /\ as.length = es.size /\ Tps es s.heap.objs.size h as) where
  type := hv.typeIs
  nl := by decide
  nt := by decide
  le := hn
  hint := fun A t Q E k q => kdx_hint (let ⟨o, ho, hc, _⟩ := hv; ⟨o, k _ o ho, hc⟩) (q false t.toks)
  iter := fun A h1 Q E k z q => by
    refine itm_iter (s := { s with heap := h1 }) (let ⟨o, ho, x⟩ := hv; ⟨o, k _ o ho, x⟩) (k d od hod) hdd ?_
    show Q (.ref h1.objs.size) _
    rw [z]
    refine q _ ⟨[], rfl, rfl, ⟨.nil, fun j a e => by simp at e⟩, ⟨.none, false, .none, .none, ?_, .inl rfl⟩, Heap.get?_push_of_some _ (k d od hod)⟩ fun b o e => Heap.get?_push_of_some _ e
    rw [<- z]
    exact Heap.get?_push_size _ rfl
  next := fun A i acc t Q E hh j hl hi lt q1 q2 => by
    obtain ⟨as, rfl, h2, h3, h4, h5⟩ := j
    have li : s.heap.objs.size + 1 < t.heap.objs.size := let ⟨_, _, _, _, e, _⟩ := h4; Heap.lt_size e
    have kp : ∀ h' : Heap, (∀ b o, b ≠ s.heap.objs.size + 1 -> t.heap.get? b = some o -> h'.get? b = some o) -> h'.get? d = some od := fun h' k => k d od (Nat.ne_of_lt (Nat.lt_succ_of_lt (Heap.lt_size hod))) h5
    refine its hh h4 lt h5 hdd (fun e h' e1 st ht hz k => ?_) fun e h' x => q2 h' t.toks (by have := Array.getElem?_eq_none_iff.mp e; omega) ⟨as, rfl, by have := Array.getElem?_eq_none_iff.mp e; omega, (h3.keep fun b o l q => x b o (Nat.ne_of_gt l) q).low (Nat.le_succ _)⟩ fun b o n q => x b o n q
    have h3' := h3.keep fun b o l q => k b o (Nat.ne_of_gt l) q
    refine q1 _ h' t.toks (Array.getElem?_eq_some_iff.mp e1).1 ⟨as ++ [t.heap.objs.size], by simp, by simp [h2], h3'.snoc li (fun a o _ m => ?_) (by rw [h2]; exact e1) ht, st, kp h' k⟩ fun b o n q => k b o n q
    obtain ⟨j, hj⟩ := List.mem_iff_getElem?.mp m
    obtain ⟨_, _, _, e2⟩ := h3.2 j a hj
    exact Heap.lt_size e2
  frame := fun i acc h h' ⟨as, h1, h2, h3, h4, h5⟩ k => ⟨as, h1, h2, h3.keep fun b o l q => k b o (Nat.ne_of_gt (Nat.lt_trans (Nat.lt_succ_self _) l)) q, h4.keep (Nat.ne_of_gt (Nat.lt_succ_self _)) k, k d od (Nat.ne_of_lt (Heap.lt_size hod)) h5⟩
  nw := fun z => absurd z (Nat.ne_of_lt (Nat.lt_succ_self _))
theorem itm_list {Q : Value -> Shared -> Prop} (hh : A.handled = none) (hv : s.heap.IsItemsView r d) (hod : s.heap.get? d = some od) (hdd : od.data = .dict es ep) (hn : es.size <= sizeLine)
    (hQ : ∀ h' tk acc c as, (∀ b o, s.heap.get? b = some o -> h'.get? b = some o) -> h'.get? s.heap.objs.size = some (lsO acc c) -> as.length = es.size -> Tps es s.heap.objs.size h' as -> acc.toList = as.map Value.ref -> Q (.ref s.heap.objs.size) { s with heap := h', toks := tk }) :
    wpAny (model prog w) A (call (.type "list") [.ref r]) Q E s :=
  (itm_gat hv hod hdd hn).list hh fun h' tk acc c ⟨as, f1, f2, f3⟩ _ k3 k4 => hQ h' tk acc.toArray c as (fun b o q => k4 b o (Nat.ne_of_lt (Nat.lt_succ_of_lt (Heap.lt_size q))) q) k3 f2 f3 (by simpa using f1)
end
end PySem.W
set_option Elab.async false
set_option linter.all false
set_option maxRecDepth 100000
set_option maxHeartbeats 4000000
namespace L2
open PySem PySem.Spec PyProof.Rows
theorem dent_of2 {P : Program} {w : World} {H : Hp} {h : Heap} {a : Addr} {kvs : List (List Key × V)} (ok : HOk P w H h) (e : Rd H a (.dT kvs)) :
    ∃ o es ep, h.get? a = some o /\ o.ExactDict /\ o.data = .dict es ep /\ es.size = kvs.length /\ (a == sysModules) = false /\ kvs.length <= sizeLine /\
      ∀ (i : Nat) (k : List Key) (v : V), kvs[i]? = some (k, v) -> ∃ b en, es[i]? = some en /\ en.key = .ref b /\ H b = some (.tup (k.map kV)) /\ RelV v en.val := by
  obtain ⟨z, y, xs, r, o, es, ep, h1, h2, h3, h4, h5⟩ := (show ObjOk P w H h a (.dT kvs) from rd_of ok e)
  have hl := Paired.length r
  have hs : es.size = kvs.length := by rw [<- Array.length_toList, h4, List.length_map, hl]
  refine ⟨o, es, ep, h1, h2, h3, hs, y, z, fun i k v hk => ?_⟩
  obtain ⟨q, hq, e1, e2, e3⟩ := paired_get r hk
  refine ⟨q.2.1, entryOfKey (tupleKind (mixKind P w)) q, ?_, rfl, e2, e3⟩
  rw [<- Array.getElem?_toList, h4, List.getElem?_map, hq]; rfl
def viewO (v d : Addr) : HO := .ext (fun h => h.IsItemsView v d)
def tItems (td : TE) : TE := fun σ H Q => td σ H fun x H1 => ∃ d kvs, x = .ref d /\ Rd H1 d (.dT kvs) /\ ∀ v, H1 v = none -> Q (.ref v) (upd H1 v (viewO v d))
theorem r_items {td : TE} {σ : St} {H : Hp} {Q : VK} : tItems td σ H Q = td σ H fun x H1 => ∃ d kvs, x = .ref d /\ Rd H1 d (.dT kvs) /\ ∀ v, H1 v = none -> Q (.ref v) (upd H1 v (viewO v d)) := rfl
theorem pe_items {X : Cx} {o : Expr} {td : TE} {apos cpos : Pos} (ho : PE X o td) (hbase : attributeBase o "items" X.env (eval o X.env) = eval o X.env := by rfl) (hline : (apos.endLine == cpos.line) = true := by rfl) : PE X (.Call (.Attribute o "items" apos) [] [] cpos) (tItems td) := by
  intro pins s σ H Q I h
  refine wpAny_Call_method0_late hbase hline (thn (ho pins s σ H _ I h) fun v s1 ⟨x, H1, I1, r1, d, kvs, ex, hd, q⟩ => ?_)
  subst ex
  obtain rfl : v = Value.ref d := r1
  obtain ⟨od, es, ep, g1, g2, g3, g4, g5, g6, g7⟩ := dent_of2 I1.hok hd
  have hT : s1.TypeIs (.ref d) "dict" := ⟨od, g1, g2.1⟩
  refine ⟨"dict", "dict.items", PySem.F.plainAttrs_dict, PySem.F.slot_dict_items, PySem.F.type_dict_items, hT, fun b e => ?_, Calls.callWith_builtin rfl (PySem.evalArgs_none ?_)⟩
  . cases e
    exact ⟨od, g1, g2.2.1⟩
  refine wpAny_call_entry PySem.F.slot_dict_items hT PySem.F.entry_dict_items (?_ : wpAny _ _ (Builtin.«dict.items» _) _ _ s1) (PySem.F.args_dict_items_1 _)
  unfold Builtin.«dict.items»
  refine wpAny_bind ?_
  unfold Builtin.Dict.noArgs
  refine wpAny_bind (wpAny_notOrdered_dict hT ?_)
  show wpAny _ _ (pure d) _ _ s1
  refine wpAny_pure ?_
  show wpAny _ _ (Builtin.Dict.showsAll d >>= _) _ _ s1
  unfold Builtin.Dict.showsAll
  rw [if_neg (by rw [g5]; exact Bool.false_ne_true)]
  refine wpAny_bind (wpAny_pure ?_)
  refine wpAny_bind (wpAny_newObj_type (wpAny_pure ⟨_, rfl, ?_⟩))
  have new : ObjOk X.prog X.w (upd H1 s1.heap.objs.size (viewO s1.heap.objs.size d)) (s1.heap.push { cls := .type "dict_items", data := .fields #[.ref d] }) s1.heap.objs.size (viewO s1.heap.objs.size d) :=
    ⟨⟨_, Heap.get?_push_size _ rfl, rfl, rfl⟩, ⟨_, Heap.get?_push_size _ rfl⟩, fun h1 h2 ⟨o, e, r⟩ k => ⟨o, k o e, r⟩⟩
  exact ⟨.ref _, _, I1.laid (t' := s1.toks) (fun b u e => Heap.get?_push_of_some _ e) (Nat.le_refl _) new, rfl, q _ (I1.hok.fresh (Nat.le_refl _))⟩
theorem lay_tups {P : Program} {w : World} {fs : List Addr} {H0 : Hp} {h0 h' : Heap} : ∀ (as : List (Addr × List V)), (as.map (·.1)).Nodup ->
    (∀ p ∈ as, h0.objs.size <= p.1 /\ p.2.length <= sizeLine /\ ∃ its : List Value, Vals p.2 its /\ IsTup h' p.1 its.toArray) -> ∀ H, Un fs [] H0 H h0 h' -> HOk P w H h' -> (∀ p ∈ as, H p.1 = none) ->
    ∃ H2, Un fs [] H0 H2 h0 h' /\ HOk P w H2 h' /\ Same H H2 /\ (∀ p ∈ as, H2 p.1 = some (.tup p.2)) /\ ∀ b, b ∉ as.map (·.1) -> H2 b = H b
  | [], _, _, H, u, k, _ => ⟨H, u, k, Same.refl _, (fun p hp => by simp at hp), fun b _ => rfl⟩
  | p :: r, nd, hp, H, u, k, hn => by
    rw [List.map_cons, List.nodup_cons] at nd
    obtain ⟨h1, h2, its, h3, h4⟩ := hp p List.mem_cons_self
    have hnp := hn p List.mem_cons_self
    have k2 : HOk P w (upd H p.1 (.tup p.2)) h' := k.track hnp ⟨h2, its, h3, h4⟩
    obtain ⟨H2, e1, e2, e3, e4, e5⟩ := lay_tups r nd.2 (fun q hq => hp q (List.mem_cons_of_mem _ hq)) (upd H p.1 (.tup p.2)) (u.track h1 hnp) k2 (fun q hq => by
      have hne : q.1 ≠ p.1 := fun z => nd.1 (by rw [<- z]; exact List.mem_map_of_mem hq)
      rw [upd_ne hne]
      exact hn q (List.mem_cons_of_mem _ hq))
    refine ⟨H2, e1, e2, (Same.new hnp).trans e3, fun q hq => ?_, fun b hb => ?_⟩
    . rcases List.mem_cons.mp hq with rfl | hq
      . exact e3 _ _ upd_same
      . exact e4 q hq
    . rw [List.map_cons, List.mem_cons, not_or] at hb
      rw [e5 b hb.2, upd_ne hb.1]
theorem Vals.two' {x y : V} {u v : Value} (h1 : RelV x u) (h2 : RelV y v) : Vals [x, y] [u, v] := .cons h1 (.cons h2 .nil)
theorem valsR : ∀ as : List Addr, Vals (as.map V.ref) (as.map Value.ref)
  | [] => .nil
  | _ :: r => .cons rfl (valsR r)
theorem lay_pairs {X : Cx} {pins : List (Addr × Obj)} {σ : St} {H : Hp} {s : Shared} {kvs : List (List Key × V)} {es : Array DictEntry} {h' : Heap} {as : List Addr} (I : Inv X pins σ H s) (hk : ∀ b o, s.heap.get? b = some o -> h'.get? b = some o) (hal : as.length = kvs.length) (hG : PySem.W.Tps es s.heap.objs.size h' as)
    (g7 : ∀ (i : Nat) (k : List Key) (v : V), kvs[i]? = some (k, v) -> ∃ b en, es[i]? = some en /\ en.key = .ref b /\ H b = some (.tup (k.map kV)) /\ RelV v en.val) :
    ∃ H2, Un X.fs [] H H2 s.heap h' /\ HOk X.prog X.w H2 h' /\ Same H H2 /\ (∀ b, b <= s.heap.objs.size -> H2 b = H b) /\ Vals (as.map V.ref) (as.map Value.ref) /\ ∀ (i : Nat) (k : List Key) (x : V), kvs[i]? = some (k, x) -> ∃ t b, (as.map V.ref)[i]? = some (V.ref t) /\ H2 t = some (.tup [.ref b, x]) /\ H b = some (.tup (k.map kV)) := by
  have ex : ∀ i : Fin kvs.length, ∃ b : Addr, ∃ en, es[i.1]? = some en /\ en.key = .ref b /\ H b = some (.tup (kvs[i.1].1.map kV)) /\ RelV kvs[i.1].2 en.val := fun i => g7 i.1 kvs[i.1].1 kvs[i.1].2 (by simp)
  let cs : List (List V) := List.ofFn fun i : Fin kvs.length => [V.ref (Classical.choose (ex i)), kvs[i.1].2]
  have hcl : cs.length = kvs.length := by simp [cs]
  have hci : ∀ i : Fin kvs.length, cs[i.1]? = some [V.ref (Classical.choose (ex i)), kvs[i.1].2] := fun i => by simp [cs]
  have hz : (as.zip cs).map (·.1) = as := List.map_fst_zip (by rw [hal, hcl]; exact Nat.le_refl _)
  have hmem : ∀ p ∈ as.zip cs, ∃ i : Fin kvs.length, as[i.1]? = some p.1 /\ p.2 = [V.ref (Classical.choose (ex i)), kvs[i.1].2] := fun p hp => by
    obtain ⟨i, hi⟩ := List.mem_iff_getElem?.mp hp
    obtain ⟨h1, h2⟩ := List.getElem?_zip_eq_some.mp hi
    have l : i < kvs.length := by rw [<- hal]; exact (List.getElem?_eq_some_iff.mp h1).1
    rw [hci ⟨i, l⟩] at h2
    exact ⟨⟨i, l⟩, h1, (Option.some.inj h2).symm⟩
  obtain ⟨H2, e1, e2, e3, e4, e5⟩ := lay_tups (as.zip cs) (by rw [hz]; exact hG.1.imp fun a => Nat.ne_of_lt a) (fun p hp => by
    obtain ⟨i, h1, h2⟩ := hmem p hp
    obtain ⟨en, a1, a2, a3, a4⟩ := Classical.choose_spec (ex i)
    obtain ⟨l, e, b1, b2⟩ := hG.2 i.1 p.1 h1
    rw [a1] at b1
    cases b1
    refine ⟨Nat.le_of_lt l, by rw [h2]; have := line1000; simp; omega, [en.key, en.val], ?_, ⟨_, b2, rfl, 0, rfl⟩⟩
    rw [h2, a2]
    exact Vals.two' rfl a4) H (Un.kept hk) (I.hok.kept hk) (fun p hp => by
    obtain ⟨i, h1, h2⟩ := hmem p hp
    exact I.hok.fresh (Nat.le_of_lt (hG.2 i.1 p.1 h1).1))
  refine ⟨H2, e1, e2, e3, fun b hb => e5 b ?_, ?_, fun i k x hkx => ?_⟩
  . rw [hz]
    intro z
    obtain ⟨j, hj⟩ := List.mem_iff_getElem?.mp z
    exact absurd (hG.2 j b hj).1 (Nat.not_lt.mpr hb)
  . exact valsR as
  . have l := (List.getElem?_eq_some_iff.mp hkx).1
    obtain ⟨en, a1, a2, a3, a4⟩ := Classical.choose_spec (ex ⟨i, l⟩)
    have ek : kvs[i] = (k, x) := (List.getElem?_eq_some_iff.mp hkx).2
    have hai : as[i]? = some (as[i]'(by omega)) := by simp
    refine ⟨_, _, by rw [List.getElem?_map, hai]; rfl, ?_, by simpa [ek] using a3⟩
    have := e4 (as[i]'(by omega), _) (List.mem_iff_getElem?.mpr ⟨i, List.getElem?_zip_eq_some.mpr ⟨hai, hci ⟨i, l⟩⟩⟩)
    simpa [ek] using this
theorem call_list_items {X : Cx} (hc : X.calm = true) : CallR X (.type "list") (fun xs H Q => ∃ v d kvs, xs = [.ref v] /\ H v = some (viewO v d) /\ Rd H d (.dT kvs) /\ ∀ l rs H', Same H H' -> H' l = none -> rs.length = kvs.length ->
    (∀ (i : Nat) (k : List Key) (x : V), kvs[i]? = some (k, x) -> ∃ t b, rs[i]? = some (V.ref t) /\ H' t = some (.tup [.ref b, x]) /\ H b = some (.tup (k.map kV))) -> Q (.ref l) (upd H' l (.lst rs))) := by
  intro pins s σ H xs us Q I r h
  obtain ⟨p, d, kvs, rfl, hv, hp, q⟩ := h
  obtain ⟨u, rfl, rx⟩ := vals1 r
  cases rx
  obtain ⟨o, es, ep, g1, g2, g3, g4, g5, g6, g7⟩ := dent_of2 I.hok hp
  obtain ⟨hview, _⟩ := (show ObjOk X.prog X.w H s.heap p (viewO p d) from I.hok p _ hv)
  refine PySem.W.itm_list (I.ok.hd hc) hview g1 g3 (by rw [g4]; exact g6) fun h' tk acc c as hk hS hl hG hacc => ?_
  have hal := hl.trans g4
  obtain ⟨H2, e1, e2, e3, e5, hv, e4⟩ := lay_pairs I hk hal hG g7
  have hD : H2 s.heap.objs.size = none := (e5 _ (Nat.le_refl _)).trans (I.hok.fresh (Nat.le_refl _))
  have new : ObjOk X.prog X.w (upd H2 s.heap.objs.size (.lst (as.map V.ref))) h' s.heap.objs.size (.lst (as.map V.ref)) := ⟨by rw [List.length_map, hal]; exact g6, acc.toList, c, by rw [hacc]; exact hv, by simpa using hS⟩
  exact ⟨.ref _, _, I.un (t' := tk) (e1.track (Nat.le_refl _) hD) (e2.track hD new), rfl, q _ _ H2 e3 hD (by rw [List.length_map, hal]) e4⟩
end L2
set_option Elab.async false
set_option linter.all false
set_option maxRecDepth 100000
set_option maxHeartbeats 4000000
namespace L2
open PySem PySem.Spec PyProof.Rows
theorem pe_gc {X : Cx} {x : Str} {n : Int} {pos : Pos} (hg : Gl X x) (hm : ∃ t, X.mg x = some (.int n t)) (hd : (x == ("__debug__" : Str)) = false := by decide) : PE X (.Name x pos) (tC (.int n)) := by
  obtain ⟨t, hm⟩ := hm
  exact pe_glob hg hm ⟨_, rfl⟩ hd
section
variable {K : PySem.W.Frag} {ta tv td ty tx : TE} {t : TA} {f m : Str} {σ : St} {H : Hp} {Q : VK} {D : Ends} {C : Addr} {sp : Sp} {dvs : List V} {E : XK}
theorem r_fld : tFld K ta f σ H Q = ta σ H fun x H1 => ∃ a C dx fs v, x = .ref a /\ H1 a = some (.ins C dx fs) /\ Cls K C /\ NoAttr K C f /\ fs.lookup f = some v /\ Q v H1 := rfl
theorem r_sFld : sFld K ta tv f D σ H = tv σ H fun y H1 => ta σ H1 fun x H2 => ∃ a C dx fs, x = .ref a /\ H2 a = some (.ins C dx fs) /\ Cls K C /\ NoAttr K C f /\ fs.length < 1000 /\ D.nx σ (upd H2 a (.ins C dx (putF f y fs))) := rfl
theorem r_meth : tMeth C m sp dvs E ta t σ H Q = ta σ H fun x H1 => ∃ a dx fs, x = .ref a /\ H1 a = some (.ins C dx fs) /\ fs.lookup m = none /\ t σ H1 fun vs H2 => sp (x :: (vs ++ dvs)) H2 Q E := rfl
theorem r_make : tMake C sp dvs E t σ H Q = t σ H fun vs H1 => ∀ x dx, H1 x = none -> H1 dx = none -> dx ≠ x -> sp (.ref x :: (vs ++ dvs)) (upd (upd H1 dx (.own x)) x (.ins C dx [])) (fun v H2 => v = .non /\ Q (.ref x) H2) E := rfl
theorem r_dget2 : tDGet2 td ty tx σ H Q = td σ H fun x H1 => ∃ a, x = .ref a /\ IsD H1 a /\ ty σ H1 fun y H2 => tx σ H2 fun z H3 => ∃ o, DGet H3 a y o /\ Q (o.getD z) H3 := rfl
end
def Trials (K : PySem.W.Frag) (H : Hp) (xs : List V) (trs : List (List Int × Int)) : Prop := xs.length = trs.length /\ ∀ (i : Nat) (tr : List Int × Int), trs[i]? = some tr -> ∃ t wt, xs[i]? = some (.ref t) /\ SqT K H t [.ref wt, .int tr.2] /\ SqT K H wt (tr.1.map V.int) /\ tr.1.length <= 600
theorem Trials.mono {K : PySem.W.Frag} {H H' : Hp} {xs : List V} {trs : List (List Int × Int)} (h : Trials K H xs trs) (s : Same H H') : Trials K H' xs trs := by
  refine ⟨h.1, fun i tr htr => ?_⟩
  obtain ⟨t, wt, a, b, c, d⟩ := h.2 i tr htr
  exact ⟨t, wt, a, s.seqT b, s.seqT c, d⟩
theorem Trials.eq2 {K : PySem.W.Frag} {H : Hp} {xs ys : List V} {ts : List (List Int × Int)} {a b : Addr} (h : Trials K H xs ts) (g : Trials K H ys ts) (ha : SqL K H a xs) (hb : SqL K H b ys) : EqD K H 8 (.ref a) (.ref b) true := by
  refine .inr ⟨a, b, xs, ys, rfl, rfl, .inl ⟨ha, hb⟩, fun _ => true, fun i x y hx hy => ?_, by simp [h.1, g.1]⟩
  have hi : i < ts.length := by rw [<- h.1]; exact (List.getElem?_eq_some_iff.mp hx).1
  obtain ⟨t, wt, e1, e2, e3, _⟩ := h.2 i ts[i] (by simp [hi])
  obtain ⟨u, wu, f1, f2, f3, _⟩ := g.2 i ts[i] (by simp [hi])
  rw [hx] at e1
  cases e1
  rw [hy] at f1
  cases f1
  refine .inr ⟨t, u, _, _, rfl, rfl, .inr ⟨e2, f2⟩, fun _ => true, fun j x y hx hy => ?_, by simp⟩
  match j, hx, hy with
  | 0, hx, hy =>
    simp at hx hy
    subst hx hy
    have := EqD.ints (K := K) (H := H) (a := wt) (c := wu) (xs := ts[i].1) (ys := ts[i].1) (.inr ⟨e3, f3⟩) 5
    rw [decide_eq_true rfl] at this
    exact this
  | 1, hx, hy =>
    simp at hx hy
    subst hx hy
    exact .inl ⟨rfl, rfl, by simp [eqV]⟩
  | j + 2, hx, hy => simp at hx
def ents (es : List (List Int × Int)) : List (List Key × V) := es.map fun e => (wkey e.1, V.int e.2)
theorem ents_keys (es : List (List Int × Int)) : KeysW (es.map (·.1)) (ents es) := by unfold KeysW ents; rw [List.map_map, List.map_map]; rfl
theorem ents_none {es : List (List Int × Int)} {w : List Int} (h : w ∉ es.map (·.1)) : valV (ents es) (wkey w) = none := by
  have := (ents_keys es).some_iff w
  rw [decide_eq_false h] at this
  cases q : valV (ents es) (wkey w) with
  | none => rfl
  | some v => rw [q] at this; cases this
theorem ents_put {es : List (List Int × Int)} {w : List Int} {m : Int} (h : w ∉ es.map (·.1)) : putK (ents es) (wkey w) (.int m) = ents (es ++ [(w, m)]) := by
  unfold putK
  rw [valV_any, ents_none h, if_neg (by simp)]
  unfold ents
  rw [List.map_append]; rfl
theorem letters_ne : ¬ (("letters" : Str) = "marks") := by decide +kernel
def bflds (L : Int) (d : Addr) : List (Str × V) := putF "marks" (.ref d) (putF "letters" (.int L) [])
theorem bflds_letters (L : Int) (d : Addr) : (bflds L d).lookup ("letters" : Str) = some (.int L) := by
  unfold bflds
  rw [lookup_putF, if_neg letters_ne, lookup_putF, if_pos rfl]
theorem bflds_marks (L : Int) (d : Addr) : (bflds L d).lookup ("marks" : Str) = some (.ref d) := by
  unfold bflds
  rw [lookup_putF, if_pos rfl]
theorem bflds_no (L : Int) (d : Addr) {m : Str} (h1 : ¬ m = "marks") (h2 : ¬ m = "letters") : (bflds L d).lookup m = none := by
  unfold bflds
  rw [lookup_putF, if_neg h1, lookup_putF, if_neg h2]
  rfl
structure BookAt (C : Addr) (H : Hp) (p d : Addr) (L : Int) (es : List (List Int × Int)) : Prop where
  ob : ∃ dx, H p = some (.ins C dx (bflds L d))
  dc : H d = some (.dT (ents es))
  nd : (es.map (·.1)).Nodup
theorem BookAt.mono {C : Addr} {H H' : Hp} {p d : Addr} {L : Int} {es : List (List Int × Int)} (h : BookAt C H p d L es) (s : Same H H') : BookAt C H' p d L es := by
  obtain ⟨⟨dx, a⟩, b, c⟩ := h
  exact ⟨⟨dx, s _ _ a⟩, s _ _ b, c⟩
end L2
set_option Elab.async false
set_option linter.all false
set_option maxRecDepth 100000
set_option maxHeartbeats 4000000
namespace L2
open PySem PySem.Spec PyProof.Rows
end L2
set_option Elab.async false
set_option linter.all false
set_option maxRecDepth 100000
set_option maxHeartbeats 4000000
namespace L2
open PySem PySem.W PySem.Spec PySem.Calls PyProof.Rows
end L2
set_option linter.all false
namespace PrimeO
end PrimeO
set_option Elab.async false
set_option linter.all false
set_option maxRecDepth 100000
set_option maxHeartbeats 4000000
namespace L2
open PySem PySem.Spec PyProof.Rows
def tCallV (i : Nat) (f : Addr) (sp : Sp) (dvs : List V) (E : XK) (t : TA) : TE := fun σ H Q => tVar i σ H fun v H1 => v = .ref f /\ t σ H1 fun vs H2 => sp (vs ++ dvs) H2 Q E
theorem r_callV {i : Nat} {f : Addr} {sp : Sp} {dvs : List V} {E : XK} {t : TA} {σ : St} {H : Hp} {Q : VK} : tCallV i f sp dvs E t σ H Q = tVar i σ H fun v H1 => v = .ref f /\ t σ H1 fun vs H2 => sp (vs ++ dvs) H2 Q E := rfl
section
variable {X : Cx} {CX CX' : CXT} {k k' : Nat} {f f' : Addr} {fd fd' : FuncData} {ps ps' : List Str} {sp sp' : Sp} {dvs dvs' : List V} {ds ds' : List Value} {x : Str} {p pos : Pos} {e : Expr} {es : List Expr} {t : TA}
theorem pe_callV {E : XK} (i : Nat) (F : FnOk X.prog X.w X.K X.mg X.base CX k f fd ps sp) (hr : Room k X.A) (hk : PySem.W.keepIn X.K (.ref f) = true) (hb : Binds X.K fd ps ds) (hd : Vals dvs ds) (hx : Passes CX X E) (ha : PA X (e :: es) t)
    (hN : X.N[i]? = some x := by rfl) (hv : Vis X.env.scope x := by first | exact Or.inl rfl | exact Or.inr (Or.inl rfl) | exact Or.inr (Or.inr rfl)) (hdb : (x == ("__debug__" : Str)) = false := by decide) (hcd : (x == ("__classdict__" : Str)) = false := by decide)
    (he : starEach (e :: es) X.env = (false, eval e X.env) :: starEach es X.env := by rfl) (hpl : (backTo pos (starEach es X.env)).any (·.1) = false := by rfl) :
    PE X (.Call (.Name x p) (e :: es) [] pos) (tCallV i f sp dvs E t) := by
  intro pins s σ H Q I h
  refine wpAny_Call_Name_kw (thn (pv i hN hv hdb hcd pins s σ H _ I h) fun u s1 ⟨v, H1, I1, rv, ev, q⟩ => ?_)
  subst ev
  obtain rfl : u = Value.ref f := rv
  refine PySem.W.callWith_K (h₀ := X.base) I.ok.mod.kin hk (thn (ha pos pins s1 σ H1 _ I1 q) fun us s2 ⟨vs, H2, I2, r, q2⟩ => ⟨I2.kIn, ?_⟩) he hpl
  exact run_fn F hr hb hd hx I2 r q2
end
end L2
set_option Elab.async false
set_option linter.all false
set_option maxRecDepth 100000
set_option maxHeartbeats 4000000
namespace PySem
open Sem (wp)
open PySem.F
section
variable {prog : Program} {w : World} {A : Around} {E : Value -> Shared -> Prop} {s : Shared}
end
section
variable {prog : Program} {w : World} {A : Around} {E : Value -> Shared -> Prop} {s : Shared}
end
end PySem
set_option Elab.async false
set_option linter.all false
set_option maxRecDepth 100000
set_option maxHeartbeats 4000000
namespace L2
open PySem PySem.Spec PyProof.Rows GW
end L2
set_option Elab.async false
set_option linter.all false
set_option maxRecDepth 100000
set_option maxHeartbeats 4000000
namespace Mine
open PySem L2 GW GB
local macro_rules | `(tactic| walk_at "rd") => `(tactic| try simp only [↓r_seq, ↓r_next, ↓r_asg, ↓r_gname, ↓r_var, ↓r_c, ↓r_op, ↓r_un, ↓r_I, ↓r_I0, ↓r_U, ↓r_call, ↓r_cons, ↓r_nil, ↓r_ret, ↓r_drop, ↓r_if, ↓r_B, ↓r_test, ↓r_or, ↓r_not, ↓r_andV, ↓r_chain, ↓r_CB, ↓r_lst, ↓r_tup, ↓r_ixL, ↓r_ixT, ↓r_sl, ↓r_part, ↓r_nopart, ↓r_slL, ↓r_BM, ↓r_append, ↓r_Eq, ↓r_Ne, ↓r_eqD, ↓r_iList, ↓r_iTup, ↓r_iRng1, ↓r_true, ↓r_comp, ↓r_for, ↓r_raise, ↓r_neD, ↓r_gTup, ↓r_gCons, ↓r_gNil, ↓r_dnotin, ↓r_dput, ↓r_dnewT, ↓r_fld, ↓r_sFld, ↓r_meth, ↓r_make, ↓r_dget2, ↓r_items, ↓r_callV, r_cxK, L2.start, List.map_cons, List.map_nil, List.length_cons, List.length_nil, List.cons_append, List.nil_append, List.append_nil, List.replicate, List.getElem?_cons_zero, List.getElem?_cons_succ, List.set_cons_zero, List.set_cons_succ, Option.some.injEq, V.int.injEq, V.ref.injEq, V.bl.injEq, List.cons.injEq, and_true, true_and, and_assoc, exists_and_left, exists_eq_left', exists_eq_left, exists_eq_right, exists_eq, if_true, if_false, Bool.false_eq_true, decide_eq_true_eq, scal, Nat.reduceAdd, Nat.reduceSub, reduceCtorEq, Bool.not_true, Bool.not_false])
def top (i : Nat) : Stmt := PySem.Challenge.pw_guessroom_k38_the_first_wrong.main.body.getD i (.Pass ⟨0, 0, 0, 0⟩)
abbrev s_is_word : Stmt := top 6
theorem sc_is_word : FnScope ["letters", "word"] ["letters", "word"] (defScope s_is_word) := ⟨rfl, rfl, rfl, by decide +kernel, rfl, by decide +kernel, by decide +kernel⟩
abbrev s_check_word : Stmt := top 7
theorem sc_check_word : FnScope ["letters", "word"] ["letters", "word"] (defScope s_check_word) := ⟨rfl, rfl, rfl, by decide +kernel, rfl, by decide +kernel, by decide +kernel⟩
abbrev s_trail : Stmt := top 11
theorem sc_trail : FnScope ["house", "word", "ways", "rooms", "letter"] ["house", "word"] (defScope s_trail) := ⟨rfl, rfl, rfl, by decide +kernel, rfl, by decide +kernel, by decide +kernel⟩
abbrev s_room_behind : Stmt := top 12
theorem sc_room_behind : FnScope ["house", "word"] ["house", "word"] (defScope s_room_behind) := ⟨rfl, rfl, rfl, by decide +kernel, rfl, by decide +kernel, by decide +kernel⟩
abbrev s_mark_behind : Stmt := top 13
theorem sc_mark_behind : FnScope ["house", "word"] ["house", "word"] (defScope s_mark_behind) := ⟨rfl, rfl, rfl, by decide +kernel, rfl, by decide +kernel, by decide +kernel⟩
abbrev s_first_unlike : Stmt := top 15
theorem sc_first_unlike : FnScope ["heard", "answer", "house", "word", "told"] ["heard", "answer", "house"] (defScope s_first_unlike) := ⟨rfl, rfl, rfl, by decide +kernel, rfl, by decide +kernel, by decide +kernel⟩
abbrev s_Book_heard : Stmt := inClass (top 19) 4
theorem sc_Book_heard : FnScope ["self"] ["self"] (defScope s_Book_heard) := ⟨rfl, rfl, rfl, by decide +kernel, rfl, by decide +kernel, by decide +kernel⟩
abbrev s_first_wrong : Stmt := top 16
theorem sc_first_wrong : FnScope ["book", "house"] ["book", "house"] (defScope s_first_wrong) := ⟨rfl, rfl, rfl, by decide +kernel, rfl, by decide +kernel, by decide +kernel⟩
abbrev s_Book_init : Stmt := inClass (top 19) 0
theorem sc_Book_init : FnScope ["self", "letters"] ["self", "letters"] (defScope s_Book_init) := ⟨rfl, rfl, rfl, by decide +kernel, rfl, by decide +kernel, by decide +kernel⟩
abbrev s_is_mark : Stmt := top 10
theorem sc_is_mark : FnScope ["number"] ["number"] (defScope s_is_mark) := ⟨rfl, rfl, rfl, by decide +kernel, rfl, by decide +kernel, by decide +kernel⟩
abbrev s_check_mark : Stmt := top 18
theorem sc_check_mark : FnScope ["mark"] ["mark"] (defScope s_check_mark) := ⟨rfl, rfl, rfl, by decide +kernel, rfl, by decide +kernel, by decide +kernel⟩
abbrev s_Book_check : Stmt := inClass (top 19) 1
theorem sc_Book_check : FnScope ["self", "word", "mark"] ["self", "word", "mark"] (defScope s_Book_check) := ⟨rfl, rfl, rfl, by decide +kernel, rfl, by decide +kernel, by decide +kernel⟩
abbrev s_Book_put : Stmt := inClass (top 19) 2
theorem sc_Book_put : FnScope ["self", "word", "mark"] ["self", "word", "mark"] (defScope s_Book_put) := ⟨rfl, rfl, rfl, by decide +kernel, rfl, by decide +kernel, by decide +kernel⟩
abbrev s__law_cell_at : Stmt := top 21
theorem sc__law_cell_at : FnScope ["script", "k"] ["script", "k"] (defScope s__law_cell_at) := ⟨rfl, rfl, rfl, by decide +kernel, rfl, by decide +kernel, by decide +kernel⟩
abbrev s__law_house_by : Stmt := top 22
theorem sc__law_house_by : FnScope ["script", "head", "letters", "rooms", "marks", "ways", "room"] ["script"] (defScope s__law_house_by) := ⟨rfl, rfl, rfl, by decide +kernel, rfl, by decide +kernel, by decide +kernel⟩
abbrev s__law_answer : Stmt := top 23
theorem sc__law_answer : FnScope ["house", "word", "room", "letter"] ["house", "word"] (defScope s__law_answer) := ⟨rfl, rfl, rfl, by decide +kernel, rfl, by decide +kernel, by decide +kernel⟩
abbrev s__law_word_by : Stmt := top 24
theorem sc__law_word_by : FnScope ["cell", "letters", "word", "k"] ["cell", "letters"] (defScope s__law_word_by) := ⟨rfl, rfl, rfl, by decide +kernel, rfl, by decide +kernel, by decide +kernel⟩
abbrev s__law_alike : Stmt := top 25
theorem sc__law_alike : FnScope ["found", "due"] ["found", "due"] (defScope s__law_alike) := ⟨rfl, rfl, rfl, by decide +kernel, rfl, by decide +kernel, by decide +kernel⟩
abbrev s_law : Stmt := top 26
theorem sc_law : FnScope ["script", "house", "book", "told", "due", "cell", "word", "mark", "ahead", "last"] ["script"] (defScope s_law) := ⟨rfl, rfl, rfl, by decide +kernel, rfl, by decide +kernel, by decide +kernel⟩
def c_is_word_0 : Caps := [("letter", none), ("letters", some 0)]
theorem nd_c_is_word_0 : (Caps.names c_is_word_0).Nodup := by decide +kernel
def c__law_house_by_0 : Caps := [("k", none), ("head", some 1)]
theorem nd_c__law_house_by_0 : (Caps.names c__law_house_by_0).Nodup := by decide +kernel
def c__law_house_by_1 : Caps := [("k", none), ("rooms", some 3), ("head", some 1), ("room", some 6)]
theorem nd_c__law_house_by_1 : (Caps.names c__law_house_by_1).Nodup := by decide +kernel
structure Txt (mg : Str -> Option Value) : Prop where
  all : mg "all" = none
  isinstance : mg "isinstance" = none
  len : mg "len" = none
  list : mg "list" = none
  range : mg "range" = none
  tuple : mg "tuple" = none
structure Own (K : PySem.W.Frag) (mg : Str -> Option Value) (C_Book : Addr) : Prop where
  m_Book : mg "Book" = some (.ref C_Book)
  cl_Book : Cls K C_Book
  n_Book_letters : NoAttr K C_Book "letters"
  n_Book_marks : NoAttr K C_Book "marks"
  q_MOST_MARK : ∃ t, mg "MOST_MARK" = some (.int 1000000000 t)
structure Exs (K : PySem.W.Frag) (mg : Str -> Option Value) (C_AskError C_BadWord : Addr) : Prop where
  m_AskError : mg "AskError" = some (.ref C_AskError)
  m_BadWord : mg "BadWord" = some (.ref C_BadWord)
  x_BadWord : PySem.W.excIn K C_BadWord bmV "ValueError.__new__" = true
  c_BadWord : ExcCls K C_BadWord
  e_BadWord : PySem.W.exmOne K (.ref C_BadWord) (.ref C_AskError) = some true
  v_BadWord : PySem.W.kitOne K (.ref C_BadWord) (.type "ValueError") = some true
  k_BadWord_AskError : PySem.W.kitOne K (.ref C_BadWord) (.ref C_AskError) = some true
  k_BadWord_BadWord : PySem.W.kitOne K (.ref C_BadWord) (.ref C_BadWord) = some true
section
variable {P : Program} {w : World} {K : PySem.W.Frag} {mg : Str -> Option Value} {base : Heap}
variable {C_AskError C_BadWord C_Book : Addr}
def sp_is_word (K : PySem.W.Frag) : Sp := fun vs H Q _ => ∃ (L : Int) (a : Addr) (ws : List Int), vs = [.int L, .ref a] /\ SqT K H a (ws.map V.int) /\ ws.length <= 1000 /\ ∀ H', Same H H' -> Q (.bl (isW L ws)) H'
theorem ok_is_word {f : Addr} {fd : FuncData} (F : Fun K "is_word" "is_word" s_is_word f fd) (T : Txt mg)
    (W : Own K mg C_Book)
    (Z : Exs K mg C_AskError C_BadWord)
    : FnOk P w K mg base CX0 1 f fd ["letters", "word"] (sp_is_word K) := by
  refine F.ok sc_is_word (fun vs H Q E h => ?_) (fun cdv A outer s H vs Q E hr h => ?_)
  . obtain ⟨L, a, ws, rfl, _⟩ := h; rfl
  . obtain ⟨L, a, ws, rfl, hw, hz, k⟩ := h
    have hl := line1000
    refine ⟨_, (pss_one (ps_ret (pe_callB (call_all rfl) rfl T.all PyProof.Rows.boot_all (pa_cons (pe_comp rfl (blk_mk rfl) (cp := c_is_word_0) ⟨⟨rfl, rfl⟩, True.intro⟩ (pi_tup (pv 1)) (fun _ _ _ _ => (pg_name (i := 0) nd_c_is_word_0 rfl (Or.inl rfl))) (fun _ _ _ _ => pf_nil) (fun _ _ _ _ => (pe_chain op_le op_lt pe_int (pv 0) (pv 1)))) pa_nil)))), ?_⟩
    walk_at "rd"
    refine ⟨⟨_, hw⟩, compMapT (σ' := [some (.int L)]) (fun x => match x with | .int n => .bl (inW L n) | _ => .non) rfl hw (by rw [List.length_map]; omega) (fun x hx R hR => ?_) (fun D hD => ?_)⟩
    . obtain ⟨n, _, rfl⟩ := mem_mapI hx
      walk_at "rd"
      by_cases h0 : 0 <= n
      . simp only [h0, if_true]
        simpa [inW, h0] using hR
      . simp only [h0, if_false]
        simpa [inW, h0] using hR
    . refine ⟨D, rfl, ws.map (inW L), .inl (.inl ?_), ?_⟩
      . rw [upd_same, List.map_map, List.map_map]; rfl
      . have := k _ (Same.new hD (o := .lst ((ws.map V.int).map fun x => match x with | .int n => .bl (inW L n) | _ => .non)))
        simpa [isW, List.all_map] using this
def sp_check (K : PySem.W.Frag) (BW : Addr) : Sp := fun vs H Q E => ∃ (L : Int) (a : Addr) (ws : List Int), vs = [.int L, .ref a] /\ SqT K H a (ws.map V.int) /\ ws.length <= 1000 /\ (isW L ws = true -> ∀ H', Same H H' -> Q .non H') /\ (isW L ws = false -> ∀ H', Same H H' -> E (.ref BW) none H')
theorem ok_check_word {f : Addr} {fd : FuncData} (F : Fun K "check_word" "check_word" s_check_word f fd) (T : Txt mg)
    (W : Own K mg C_Book)
    (Z : Exs K mg C_AskError C_BadWord)
    {f_is_word : Addr} {fd_is_word : FuncData} (g_is_word : FnOk P w K mg base CX0 1 f_is_word fd_is_word ["letters", "word"] (sp_is_word K)) (F_is_word : Fun K "is_word" "is_word" s_is_word f_is_word fd_is_word) (b_is_word : Binds K fd_is_word ["letters", "word"] []) (m_is_word : mg "is_word" = some (.ref f_is_word))
    : FnOk P w K mg base (CXe P w) 2 f fd ["letters", "word"] (sp_check K C_BadWord) := by
  refine F.okE sc_check_word (fun vs H Q E h => ?_) (fun cdv A outer s H vs Q E hr h => ?_)
  . obtain ⟨L, a, ws, rfl, _⟩ := h; rfl
  . obtain ⟨L, a, ws, rfl, hw, hz, k, kE⟩ := h
    have hl := line1000
    refine ⟨_, (pss_one (ps_if (pt_not (pt_val (pe_call g_is_word (hr.mono (by decide)) rfl m_is_word F_is_word.kp b_is_word .nil pass0 (pa_cons (pv 0) (pa_cons (pv 1) pa_nil)))))
      (pss_one (ps_raise Z.m_BadWord Z.x_BadWord rfl rfl (pa_cons pe_str pa_nil)))
      pss_nil)), ?_⟩
    walk_at "rd"
    refine ⟨L, a, ws, rfl, hw, hz, fun H' s' => ?_⟩
    walk_at "rd"
    cases hv : isW L ws with
    | true =>
      simp only [Bool.not_true, Bool.false_eq_true, if_false]
      exact k hv H' s'
    | false =>
      simp only [Bool.not_false, if_true]
      exact ⟨by omega, kE hv H' s'⟩
def sp_is_mark : Sp := fun vs H Q _ => ∃ n : Int, vs = [.int n] /\ Q (.bl (decide (0 <= n) && decide (n <= 1000000000))) H
theorem ok_is_mark {f : Addr} {fd : FuncData} (F : Fun K "is_mark" "is_mark" s_is_mark f fd) (T : Txt mg)
    (W : Own K mg C_Book)
    (Z : Exs K mg C_AskError C_BadWord)
    : FnOk P w K mg base CX0 1 f fd ["number"] (sp_is_mark) := by
  refine F.ok sc_is_mark (fun vs H Q E h => ?_) (fun cdv A outer s H vs Q E hr h => ?_)
  . obtain ⟨n, rfl, _⟩ := h; rfl
  . obtain ⟨n, rfl, k⟩ := h
    refine ⟨_, (pss_one (ps_ret (pe_chain op_le op_le pe_int (pv 0) (pe_gc rfl W.q_MOST_MARK)))), ?_⟩
    walk_at "rd"
    by_cases h0 : 0 <= n
    . simp only [h0, if_true]
      simpa [h0] using k
    . simp only [h0, if_false]
      simpa [h0] using k
def sp_check_mark : Sp := fun vs H Q _ => ∃ n : Int, vs = [.int n] /\ 0 <= n /\ n <= 1000000000 /\ Q .non H
theorem ok_check_mark {f : Addr} {fd : FuncData} (F : Fun K "check_mark" "check_mark" s_check_mark f fd) (T : Txt mg)
    (W : Own K mg C_Book)
    (Z : Exs K mg C_AskError C_BadWord)
    {f_is_mark : Addr} {fd_is_mark : FuncData} (g_is_mark : FnOk P w K mg base CX0 1 f_is_mark fd_is_mark ["number"] (sp_is_mark)) (F_is_mark : Fun K "is_mark" "is_mark" s_is_mark f_is_mark fd_is_mark) (b_is_mark : Binds K fd_is_mark ["number"] []) (m_is_mark : mg "is_mark" = some (.ref f_is_mark))
    : FnOk P w K mg base CX0 2 f fd ["mark"] (sp_check_mark) := by
  refine F.ok sc_check_mark (fun vs H Q E h => ?_) (fun cdv A outer s H vs Q E hr h => ?_)
  . obtain ⟨n, rfl, _⟩ := h; rfl
  . obtain ⟨n, rfl, h0, h1, k⟩ := h
    refine ⟨_, (pss_one (ps_if (pt_not (pt_val (pe_call g_is_mark (hr.mono (by decide)) rfl m_is_mark F_is_mark.kp b_is_mark .nil pass0 (pa_cons (pv 0) pa_nil))))
      (pss_one ps_never)
      pss_nil)), ?_⟩
    walk_at "rd"
    refine ⟨n, rfl, ?_⟩
    walk_at "rd"
    simp only [h0, h1, decide_true, Bool.and_self, Bool.not_true, Bool.false_eq_true, if_false]
    exact k
def sp_book_init (C : Addr) : Sp := fun vs H Q _ => ∃ (p dx : Addr) (L : Int), vs = [.ref p, .int L] /\ H p = some (.ins C dx []) /\ ∀ (d : Addr) (H' : Hp), H d = none -> BookAt C H' p d L [] -> (∀ b o, H b = some o -> b ≠ p -> H' b = some o) -> Q .non H'
theorem ok_Book_init {f : Addr} {fd : FuncData} (F : Fun K "__init__" "Book.__init__" s_Book_init f fd) (T : Txt mg)
    (W : Own K mg C_Book)
    (Z : Exs K mg C_AskError C_BadWord)
    : FnOk P w K mg base CX0 1 f fd ["self", "letters"] (sp_book_init C_Book) := by
  refine F.ok sc_Book_init (fun vs H Q E h => ?_) (fun cdv A outer s H vs Q E hr h => ?_)
  . obtain ⟨p, dx, L, rfl, _⟩ := h; rfl
  . obtain ⟨p, dx, L, rfl, hp, k⟩ := h
    refine ⟨_, (pss_cons (ps_fld (pv 0) (pv 1) rfl)
      (pss_one (ps_fld (pv 0) pe_dnewT rfl))), ?_⟩
    walk_at "rd"
    refine ⟨_, _, _, hp, W.cl_Book, W.n_Book_letters, by decide, fun d hd => ?_⟩
    have hdp : d ≠ p := fun z => by rw [z, upd_same] at hd; cases hd
    rw [upd_ne hdp] at hd
    refine ⟨_, _, _, by rw [upd_ne (Ne.symm hdp)]; exact upd_same, W.cl_Book, W.n_Book_marks, by simp [putF], ?_⟩
    refine k d _ hd ⟨⟨_, upd_same⟩, by rw [upd_ne hdp]; exact upd_same, by simp⟩ fun b o hb hbp => ?_
    rw [upd_ne hbp, upd_ne (ne_of_none hb hd), upd_ne hbp]
    exact hb
def sp_book_check (C : Addr) : Sp := fun vs H Q _ => ∃ (p d t : Addr) (L m : Int) (w : List Int) (es : List (List Int × Int)), vs = [.ref p, .ref t, .int m] /\ BookAt C H p d L es /\ H t = some (.tup (w.map V.int)) /\ isW L w = true /\ w.length <= 600 /\ 0 <= m /\ m <= 1000000000 /\ ∀ H', Same H H' -> Q .non H'
theorem ok_Book_check {f : Addr} {fd : FuncData} (F : Fun K "check" "Book.check" s_Book_check f fd) (T : Txt mg)
    (W : Own K mg C_Book)
    (Z : Exs K mg C_AskError C_BadWord)
    {f_check_word : Addr} {fd_check_word : FuncData} (g_check_word : FnOk P w K mg base (CXe P w) 2 f_check_word fd_check_word ["letters", "word"] (sp_check K C_BadWord)) (F_check_word : Fun K "check_word" "check_word" s_check_word f_check_word fd_check_word) (b_check_word : Binds K fd_check_word ["letters", "word"] []) (m_check_word : mg "check_word" = some (.ref f_check_word))
    {f_check_mark : Addr} {fd_check_mark : FuncData} (g_check_mark : FnOk P w K mg base CX0 2 f_check_mark fd_check_mark ["mark"] (sp_check_mark)) (F_check_mark : Fun K "check_mark" "check_mark" s_check_mark f_check_mark fd_check_mark) (b_check_mark : Binds K fd_check_mark ["mark"] []) (m_check_mark : mg "check_mark" = some (.ref f_check_mark))
    : FnOk P w K mg base CX0 3 f fd ["self", "word", "mark"] (sp_book_check C_Book) := by
  refine F.ok sc_Book_check (fun vs H Q E h => ?_) (fun cdv A outer s H vs Q E hr h => ?_)
  . obtain ⟨p, d, t, L, m, wd, es, rfl, _⟩ := h; rfl
  . obtain ⟨p, d, t, L, m, wd, es, rfl, B, ht, hw, hwl, h0, h1, k⟩ := h
    have hln := line1000
    refine ⟨_, (pss_cons (ps_expr (pe_call g_check_word (hr.mono (by decide)) rfl m_check_word F_check_word.kp b_check_word .nil (passNev (P := P) (w := w)) (pa_cons (pe_fld (pv 0) rfl) (pa_cons (pv 1) pa_nil))))
      (pss_one (ps_expr (pe_call g_check_mark (hr.mono (by decide)) rfl m_check_mark F_check_mark.kp b_check_mark .nil pass0 (pa_cons (pv 2) pa_nil))))), ?_⟩
    obtain ⟨⟨dx, hp⟩, hd, nd⟩ := id B
    walk_at "rd"
    refine ⟨_, _, _, hp, W.cl_Book, W.n_Book_letters, _, bflds_letters _ _, ?_⟩
    refine ⟨L, t, wd, rfl, SqT.of ht, by omega, fun _ H1 s1 => ?_, fun z => by rw [hw] at z; cases z⟩
    walk_at "rd"
    exact ⟨m, rfl, h0, h1, k _ s1⟩
def sp_book_put (C : Addr) : Sp := fun vs H Q _ => ∃ (p d t : Addr) (L m : Int) (w : List Int) (es : List (List Int × Int)), vs = [.ref p, .ref t, .int m] /\ BookAt C H p d L es /\ H t = some (.tup (w.map V.int)) /\ isW L w = true /\ w.length <= 600 /\ 0 <= m /\ m <= 1000000000 /\ w ∉ es.map (·.1) /\ es.length <= 100000 /\
  ∀ H', BookAt C H' p d L (es ++ [(w, m)]) -> (∀ b o, H b = some o -> b ≠ d -> H' b = some o) -> Q .non H'
theorem ok_Book_put {f : Addr} {fd : FuncData} (F : Fun K "put" "Book.put" s_Book_put f fd) (T : Txt mg)
    (W : Own K mg C_Book)
    (Z : Exs K mg C_AskError C_BadWord)
    {f_Book_check : Addr} {fd_Book_check : FuncData} (g_Book_check : FnOk P w K mg base CX0 3 f_Book_check fd_Book_check ["self", "word", "mark"] (sp_book_check C_Book)) (F_Book_check : Fun K "check" "Book.check" s_Book_check f_Book_check fd_Book_check) (b_Book_check : Binds K fd_Book_check ["self", "word", "mark"] []) (m_Book_check : Meth K C_Book "check" f_Book_check)
    : FnOk P w K mg base CX0 4 f fd ["self", "word", "mark"] (sp_book_put C_Book) := by
  refine F.ok sc_Book_put (fun vs H Q E h => ?_) (fun cdv A outer s H vs Q E hr h => ?_)
  . obtain ⟨p, d, t, L, m, wd, es, rfl, _⟩ := h; rfl
  . obtain ⟨p, d, t, L, m, wd, es, rfl, B, ht, hw, hwl, h0, h1, hn, hl, k⟩ := h
    have hln := line1000
    refine ⟨_, (pss_cons (ps_expr (pe_meth (pv 0) W.cl_Book m_Book_check g_Book_check (hr.mono (by decide)) b_Book_check .nil pass0 (pa_cons (pv 1) (pa_cons (pv 2) pa_nil))))
      (pss_cons (ps_if (pt_cmpR op_ne (pe_dget2 (hu_of hr) (pe_fld (pv 0) rfl) (pv 1) (pv 2) ⟨by rfl, by rfl, by rfl, by rfl⟩) (pv 2) (nomark _))
      (pss_one ps_never)
      pss_nil)
      (pss_one (ps_dput (hu_of hr) (pe_fld (pv 0) rfl) (pv 1) (pv 2) rfl)))), ?_⟩
    obtain ⟨⟨dx, hp⟩, hd, nd⟩ := id B
    walk_at "rd"
    refine ⟨_, _, hp, bflds_no _ _ (by decide +kernel) (by decide +kernel), p, d, t, L, m, wd, es, rfl, B, ht, hw, hwl, h0, h1, fun H1 s1 => ?_⟩
    have hp1 := s1 _ _ hp
    have hd1 := s1 _ _ hd
    have ht1 : H1 t = some (.tup ((wkey wd).map kV)) := by rw [wkey_kV]; exact s1 _ _ ht
    walk_at "rd"
    have hg : DGet H1 d (.ref t) none := by rw [<- ents_none hn]; exact DGet.t hd1 ht1
    refine ⟨_, _, _, hp1, W.cl_Book, W.n_Book_marks, _, bflds_marks _ _, d, rfl, .inr ⟨_, .inl hd1⟩, none, hg, rfl, ?_⟩
    rw [if_neg (by simp)]
    have hel : (ents es).length = es.length := by unfold ents; rw [List.length_map]
    refine ⟨_, _, _, hp1, W.cl_Book, W.n_Book_marks, _, bflds_marks _ _, d, rfl, _, DPut.t hd1 ht1 (by omega), ?_⟩
    rw [ents_put hn]
    have hpd : p ≠ d := fun z => by rw [z, hd1] at hp1; cases hp1
    refine k _ ⟨⟨dx, by rw [upd_ne hpd]; exact hp1⟩, upd_same, ?_⟩ fun b o hb hbd => by rw [upd_ne hbd]; exact s1 _ _ hb
    rw [List.map_append, List.nodup_append]
    refine ⟨nd, by simp, fun a ha b hb z => ?_⟩
    rw [List.map_singleton, List.mem_singleton] at hb
    exact hn (by have e : a = wd := z.trans hb; rw [<- e]; exact ha)
def sp_book_heard (K : PySem.W.Frag) (C : Addr) : Sp := fun vs H Q _ => ∃ (p d : Addr) (L : Int) (es : List (List Int × Int)), vs = [.ref p] /\ BookAt C H p d L es /\ (∀ e ∈ es, e.1.length <= 600) /\ ∀ l rs H', Same H H' -> H l = none -> H' l = some (.lst rs) -> Trials K H' rs es -> Q (.ref l) H'
theorem ok_Book_heard {f : Addr} {fd : FuncData} (F : Fun K "heard" "Book.heard" s_Book_heard f fd) (T : Txt mg)
    (W : Own K mg C_Book)
    (Z : Exs K mg C_AskError C_BadWord)
    : FnOk P w K mg base CX0 1 f fd ["self"] (sp_book_heard K C_Book) := by
  refine F.ok sc_Book_heard (fun vs H Q E h => ?_) (fun cdv A outer s H vs Q E hr h => ?_)
  . obtain ⟨p, d, L, es, rfl, _⟩ := h; rfl
  . obtain ⟨p, d, L, es, rfl, B, hl, k⟩ := h
    refine ⟨_, (pss_one (ps_ret (pe_callTy (call_list_items rfl) rfl T.list PyProof.Rows.boot_list (pa_cons (pe_items (pe_fld (pv 0) rfl)) pa_nil)))), ?_⟩
    obtain ⟨⟨dx, hp⟩, hd, nd⟩ := id B
    walk_at "rd"
    refine ⟨_, _, _, hp, W.cl_Book, W.n_Book_marks, _, bflds_marks _ _, d, rfl, _, .inl hd, fun v hv => ?_⟩
    have sv := Same.new (o := viewO v d) hv
    refine ⟨d, upd_same, _, .inl (sv _ _ hd), fun l rs H2 s2 hl2 hlen hr => ?_⟩
    have s3 := sv.trans (s2.newT (o := .lst rs) hl2)
    refine k l rs _ s3 (Same.none (sv.trans s2) hl2) upd_same ⟨by rw [hlen]; unfold ents; rw [List.length_map], fun i tr hi => ?_⟩
    obtain ⟨t, e1, b, e2, e3⟩ := hr i (wkey tr.1) (.int tr.2) (by unfold ents; rw [List.getElem?_map, hi]; rfl)
    rw [wkey_kV] at e3
    refine ⟨t, b, e1, SqT.of ((Same.new hl2) _ _ e2), SqT.of ((s2.newT hl2) _ _ e3), hl tr (List.mem_of_getElem? hi)⟩
def sp_trail (K : PySem.W.Frag) (BW : Addr) : Sp := fun vs H Q E => ∃ (h a : Addr) (L : Int) (marks : List Int) (ways : List (List Int)) (ws : List Int), vs = [.ref h, .ref a] /\ House K H h L marks ways /\ Wf L marks ways /\ SqT K H a (ws.map V.int) /\ ws.length <= 600 /\ (isW L ws = true -> ∀ p H', Same H H' -> H p = none -> H' p = some (.lst ((trailW ways ws).map V.int)) -> Q (.ref p) H') /\ (isW L ws = false -> ∀ H', Same H H' -> E (.ref BW) none H')
theorem ok_trail {f : Addr} {fd : FuncData} (F : Fun K "trail" "trail" s_trail f fd) (T : Txt mg)
    (W : Own K mg C_Book)
    (Z : Exs K mg C_AskError C_BadWord)
    {f_check_word : Addr} {fd_check_word : FuncData} (g_check_word : FnOk P w K mg base (CXe P w) 2 f_check_word fd_check_word ["letters", "word"] (sp_check K C_BadWord)) (F_check_word : Fun K "check_word" "check_word" s_check_word f_check_word fd_check_word) (b_check_word : Binds K fd_check_word ["letters", "word"] []) (m_check_word : mg "check_word" = some (.ref f_check_word))
    : FnOk P w K mg base (CXe P w) 3 f fd ["house", "word"] (sp_trail K C_BadWord) := by
  refine F.okE sc_trail (fun vs H Q E h => ?_) (fun cdv A outer s H vs Q E hr h => ?_)
  . obtain ⟨h, a, L, marks, ways, ws, rfl, _⟩ := h; rfl
  . obtain ⟨h, a, L, marks, ways, ws, rfl, hh, wf, hw, hz, k, kE⟩ := h
    have hl := line1000
    refine ⟨_, (pss_cons (ps_expr (pe_call g_check_word (hr.mono (by decide)) rfl m_check_word F_check_word.kp b_check_word .nil (passE fun _ _ _ h => h) (pa_cons (pe_ix ix_tup (pv 0) pe_int (fun _ _ => rfl)) (pa_cons (pv 1) pa_nil))))
      (PSs.nox (pss_cons (ps_set (i := 2) sc_trail.nd rfl (Or.inl rfl) (pe_ix ix_tup (pv 0) pe_int (fun _ _ => rfl)))
      (pss_cons (ps_set (i := 3) sc_trail.nd rfl (Or.inl rfl) (pe_lst (pa_cons pe_int pa_nil)))
      (pss_cons (ps_for PassesOwn.never rfl (pi_tup (pv 1)) (pg_name (i := 4) sc_trail.nd rfl (Or.inl rfl))
      (pss_one (ps_expr (pe_bm PySem.F.plainAttrs_list PySem.F.slot_list_append PySem.F.type_list_append mt_append (pv 3) (pa_cons (pe_ix ix_tup (pe_ix ix_tup (pv 2) (pe_ix ix_list (pv 3) (pe_un un_neg pe_int) (fun _ _ => rfl)) (fun _ _ => rfl)) (pv 4) (fun _ _ => rfl)) pa_nil)))))
      (pss_one (ps_ret (pv 3)))))))), ?_⟩
    walk_at "rd"
    obtain ⟨m, wv, h1, h2, h3⟩ := hh
    refine ⟨_, h1, _, rfl, L, a, ws, rfl, hw, by omega, fun hv H1 s1 => ?_, kE⟩
    walk_at "rd"
    have hw1 := s1.seqT hw
    have h3' := h3.mono s1
    refine ⟨_, s1.seqT h1, _, rfl, by omega, fun p hp => ?_⟩
    have s2 := Same.new hp (o := .lst [V.int 0])
    refine ⟨⟨_, s2.seqT hw1⟩, forT (xs := ws.map V.int) (fun i σ2 H2 => Same H1 H2 /\ H2 p = some (.lst (((List.range (i + 1)).map fun j => walkW ways (ws.take j)).map V.int)) /\ ∃ o, σ2 = [some (.ref h), some (.ref a), some (.ref wv), some (.ref p), o]) ⟨s2, by rw [upd_same]; simp [walkW], none, rfl⟩ (fun i σ2 H2 _ h => h.1.seqT hw1) (fun i x σ2 H2 hx h => ?_) (fun σ2 H2 h => ?_)⟩
    . obtain ⟨s3, hp3, o, rfl⟩ := h
      obtain ⟨n, hn, rfl⟩ := get_mapI hx
      have hi := (List.getElem?_eq_some_iff.mp hn).1
      have hx := isW_iff.mp hv n (List.mem_of_getElem? hn)
      have hwk := wf.walk hv i
      obtain ⟨row, g, r1, r2, r3, r4, r5⟩ := wf.step hwk.1 hwk.2 hx.1 hx.2
      obtain ⟨xs, t, q1, q2, q3⟩ := (h3'.mono s3).atZ hwk.1 r1
      walk_at "rd"
      refine ⟨.inl ⟨rfl, _, SqL.of hp3⟩, _, SqL.of hp3, _, atI_end (v := V.int (walkW ways (ws.take i))) (by simp), ?_⟩
      walk_at "rd"
      refine ⟨_, q1, _, q2, ?_⟩
      walk_at "rd"
      refine ⟨_, q3, _, atI_int hx.1 r2, _, hp3, by simp; omega, s3.over hp, ?_, _, rfl⟩
      rw [upd_same, show List.range (i + 1 + 1) = List.range (i + 1) ++ [i + 1] from List.range_succ, List.map_append, List.map_append, <- r3, <- walkW_take hn]
      rfl
    . obtain ⟨s3, hp3, o, rfl⟩ := h
      walk_at "rd"
      rw [List.length_map] at hp3
      exact k hv p H2 (s1.trans s3) (s1.free hp) hp3
def sp_room (K : PySem.W.Frag) (BW : Addr) : Sp := fun vs H Q E => ∃ (h a : Addr) (L : Int) (marks : List Int) (ways : List (List Int)) (ws : List Int), vs = [.ref h, .ref a] /\ House K H h L marks ways /\ Wf L marks ways /\ SqT K H a (ws.map V.int) /\ ws.length <= 600 /\ (isW L ws = true -> ∀ H', Same H H' -> Q (.int (walkW ways ws)) H') /\ (isW L ws = false -> ∀ H', Same H H' -> E (.ref BW) none H')
theorem ok_room_behind {f : Addr} {fd : FuncData} (F : Fun K "room_behind" "room_behind" s_room_behind f fd) (T : Txt mg)
    (W : Own K mg C_Book)
    (Z : Exs K mg C_AskError C_BadWord)
    {f_trail : Addr} {fd_trail : FuncData} (g_trail : FnOk P w K mg base (CXe P w) 3 f_trail fd_trail ["house", "word"] (sp_trail K C_BadWord)) (F_trail : Fun K "trail" "trail" s_trail f_trail fd_trail) (b_trail : Binds K fd_trail ["house", "word"] []) (m_trail : mg "trail" = some (.ref f_trail))
    : FnOk P w K mg base (CXe P w) 4 f fd ["house", "word"] (sp_room K C_BadWord) := by
  refine F.okE sc_room_behind (fun vs H Q E h => ?_) (fun cdv A outer s H vs Q E hr h => ?_)
  . obtain ⟨h, a, L, marks, ways, ws, rfl, _⟩ := h; rfl
  . obtain ⟨h, a, L, marks, ways, ws, rfl, hh, wf, hw, hz, k, kE⟩ := h
    have hl := line1000
    refine ⟨_, (pss_one (ps_ret (pe_ix ix_list (pe_call g_trail (hr.mono (by decide)) rfl m_trail F_trail.kp b_trail .nil (passE fun _ _ _ h => h) (pa_cons (pv 0) (pa_cons (pv 1) pa_nil))) (pe_un un_neg pe_int) (fun _ _ => rfl)))), ?_⟩
    walk_at "rd"
    refine ⟨h, a, L, marks, ways, ws, rfl, hh, wf, hw, hz, fun hv p H1 s1 _ hp => ?_, kE⟩
    walk_at "rd"
    refine ⟨_, SqL.of hp, _, atI_end (v := V.int (walkW ways ws)) ?_, k hv H1 s1⟩
    rw [List.getElem?_map, List.length_map, trailW_length, show ws.length + 1 - 1 = ws.length by omega, trailW_last]; rfl
def markW (marks : List Int) (r : Int) : Int := marks.getD r.toNat 0
theorem markW_at {marks : List Int} {r : Int} (h0 : 0 <= r) (h1 : r < marks.length) : atI (marks.map V.int) r = some (V.int (markW marks r)) := by
  have hlt : r.toNat < marks.length := by omega
  refine atI_int h0 ?_
  unfold markW
  rw [List.getD_eq_getElem?_getD]
  simp [hlt]
def sp_mark (K : PySem.W.Frag) (BW : Addr) : Sp := fun vs H Q E => ∃ (h a : Addr) (L : Int) (marks : List Int) (ways : List (List Int)) (ws : List Int), vs = [.ref h, .ref a] /\ House K H h L marks ways /\ Wf L marks ways /\ SqT K H a (ws.map V.int) /\ ws.length <= 600 /\ (isW L ws = true -> ∀ H', Same H H' -> Q (.int (markW marks (walkW ways ws))) H') /\ (isW L ws = false -> ∀ H', Same H H' -> E (.ref BW) none H')
theorem ok_mark_behind {f : Addr} {fd : FuncData} (F : Fun K "mark_behind" "mark_behind" s_mark_behind f fd) (T : Txt mg)
    (W : Own K mg C_Book)
    (Z : Exs K mg C_AskError C_BadWord)
    {f_room_behind : Addr} {fd_room_behind : FuncData} (g_room_behind : FnOk P w K mg base (CXe P w) 4 f_room_behind fd_room_behind ["house", "word"] (sp_room K C_BadWord)) (F_room_behind : Fun K "room_behind" "room_behind" s_room_behind f_room_behind fd_room_behind) (b_room_behind : Binds K fd_room_behind ["house", "word"] []) (m_room_behind : mg "room_behind" = some (.ref f_room_behind))
    : FnOk P w K mg base (CXe P w) 5 f fd ["house", "word"] (sp_mark K C_BadWord) := by
  refine F.okE sc_mark_behind (fun vs H Q E h => ?_) (fun cdv A outer s H vs Q E hr h => ?_)
  . obtain ⟨h, a, L, marks, ways, ws, rfl, _⟩ := h; rfl
  . obtain ⟨h, a, L, marks, ways, ws, rfl, hh, wf, hw, hz, k, kE⟩ := h
    have hl := line1000
    refine ⟨_, (pss_one (ps_ret (pe_ix ix_tup (pe_ix ix_tup (pv 0) pe_int (fun _ _ => rfl)) (pe_call g_room_behind (hr.mono (by decide)) rfl m_room_behind F_room_behind.kp b_room_behind .nil (passE fun _ _ _ h => h) (pa_cons (pv 0) (pa_cons (pv 1) pa_nil))) (fun _ _ => rfl)))), ?_⟩
    walk_at "rd"
    have hh' := hh
    obtain ⟨m, wv, h1, h2, h3⟩ := hh
    refine ⟨_, h1, _, rfl, ?_⟩
    walk_at "rd"
    refine ⟨h, a, L, marks, ways, ws, rfl, hh', wf, hw, hz, fun hv H1 s1 => ?_, kE⟩
    walk_at "rd"
    have hwk := wf.walk hv ws.length
    rw [List.take_length] at hwk
    exact ⟨_, s1.seqT h2, _, markW_at hwk.1 hwk.2, k hv H1 s1⟩
def wrongT (marks : List Int) (ways : List (List Int)) (tr : List Int × Int) : Bool := decide (markW marks (walkW ways tr.1) ≠ tr.2)
def sp_first_unlike (K : PySem.W.Frag) (fm : Addr) : Sp := fun vs H Q _ => ∃ (l h : Addr) (L : Int) (marks : List Int) (ways : List (List Int)) (rs : List V) (es : List (List Int × Int)), vs = [.ref l, .ref fm, .ref h] /\ SqL K H l rs /\ Trials K H rs es /\ House K H h L marks ways /\ Wf L marks ways /\ (∀ e ∈ es, isW L e.1 = true /\ e.1.length <= 600) /\
  ∀ H', Same H H' -> ((∀ e ∈ es, wrongT marks ways e = false) -> Q .non H') /\ ∀ (i : Nat) (e : List Int × Int) (t : Addr), (∀ j, j < i -> ∀ e', es[j]? = some e' -> wrongT marks ways e' = false) -> es[i]? = some e -> wrongT marks ways e = true -> SqT K H' t (e.1.map V.int) -> Q (.ref t) H'
theorem ok_first_unlike {f : Addr} {fd : FuncData} (F : Fun K "first_unlike" "first_unlike" s_first_unlike f fd) (T : Txt mg)
    (W : Own K mg C_Book)
    (Z : Exs K mg C_AskError C_BadWord)
    {f_mark_behind : Addr} {fd_mark_behind : FuncData} (g_mark_behind : FnOk P w K mg base (CXe P w) 5 f_mark_behind fd_mark_behind ["house", "word"] (sp_mark K C_BadWord)) (F_mark_behind : Fun K "mark_behind" "mark_behind" s_mark_behind f_mark_behind fd_mark_behind) (b_mark_behind : Binds K fd_mark_behind ["house", "word"] []) (m_mark_behind : mg "mark_behind" = some (.ref f_mark_behind))
    : FnOk P w K mg base CX0 6 f fd ["heard", "answer", "house"] (sp_first_unlike K f_mark_behind) := by
  refine F.ok sc_first_unlike (fun vs H Q E h => ?_) (fun cdv A outer s H vs Q E hr h => ?_)
  . obtain ⟨l, h, L, marks, ways, rs, es, rfl, _⟩ := h; rfl
  . obtain ⟨l, h, L, marks, ways, rs, es, rfl, hl1, ht, hh, wf, hes, k⟩ := h
    refine ⟨_, (pss_cons (ps_for PassesOwn.never rfl (pi_list (pv 0)) (pg_tup rfl (pgs_cons (pg_name (i := 3) sc_first_unlike.nd rfl (Or.inl rfl)) (pgs_cons (pg_name (i := 4) sc_first_unlike.nd rfl (Or.inl rfl)) pgs_nil)))
      (pss_one (ps_if (pt_cmpR op_ne (pe_callV 1 g_mark_behind (hr.mono (by decide)) F_mark_behind.kp b_mark_behind .nil (passNev (P := P) (w := w)) (pa_cons (pv 2) (pa_cons (pv 3) pa_nil))) (pv 4) (nomark _))
      (pss_one (ps_ret (pv 3)))
      pss_nil)))
      (pss_one (ps_ret pe_non))), ?_⟩
    walk_at "rd"
    refine ⟨⟨_, hl1⟩, ?_⟩
    obtain ⟨Pv, hPv⟩ : ∃ Pv : Nat -> St -> Hp -> Prop, ∀ i σ' H', Pv i σ' H' ↔ (Same H H' /\ (∀ j, j < i -> ∀ e, es[j]? = some e -> wrongT marks ways e = false) /\ ∃ o o', σ' = [some (.ref l), some (.ref f_mark_behind), some (.ref h), o, o']) := ⟨_, fun _ _ _ => Iff.rfl⟩
    refine forL (xs := rs) Pv ((hPv _ _ _).mpr ⟨Same.refl _, fun j hj => absurd hj (Nat.not_lt_zero _), none, none, rfl⟩) (fun i σ2 H2 _ h2 => ((hPv _ _ _).mp h2).1.seq hl1) (fun i x σ2 H2 hx h2 => ?_) (fun σ2 H2 h2 => ?_)
    . obtain ⟨s2, hall, o, o', rfl⟩ := (hPv _ _ _).mp h2
      have hi : i < es.length := by rw [<- ht.1]; exact (List.getElem?_eq_some_iff.mp hx).1
      have hei : es[i]? = some es[i] := by simp [hi]
      obtain ⟨t, wt, e1, e2, e3, e4⟩ := ht.2 i _ hei
      rw [hx] at e1
      cases e1
      have hok := hes _ (List.mem_of_getElem? hei)
      generalize es[i] = e at hei e2 e3 e4 hok
      walk_at "rd"
      refine ⟨_, s2.seqT e2, rfl, _, _, rfl, _, _, rfl, rfl, h, wt, L, marks, ways, e.1, rfl, hh.mono s2, wf, s2.seqT e3, e4, fun _ H3 s3 => ⟨rfl, ?_⟩, fun z => by rw [hok.1] at z; cases z⟩
      by_cases hw : markW marks (walkW ways e.1) = e.2
      . rw [if_neg (by rw [hw]; simp)]
        refine (hPv _ _ _).mpr ⟨s2.trans s3, fun j hj e' hj' => ?_, _, _, rfl⟩
        by_cases hji : j < i
        . exact hall j hji e' hj'
        . have ej : j = i := by omega
          subst ej
          rw [hei] at hj'
          cases hj'
          exact decide_eq_false fun z => z hw
      . rw [if_pos (by simp [hw])]
        exact (k _ (s2.trans s3)).2 i e wt hall hei (decide_eq_true hw) ((s2.trans s3).seqT e3)
    . obtain ⟨s2, hall, o, o', rfl⟩ := (hPv _ _ _).mp h2
      walk_at "rd"
      refine (k _ s2).1 fun e he => ?_
      obtain ⟨j, hj, ej⟩ := List.getElem_of_mem he
      exact hall j (by rw [ht.1]; exact hj) e (by rw [List.getElem?_eq_getElem hj, ej])
def sp_first_wrong (K : PySem.W.Frag) (C : Addr) : Sp := fun vs H Q _ => ∃ (p d h : Addr) (L : Int) (marks : List Int) (ways : List (List Int)) (es : List (List Int × Int)), vs = [.ref p, .ref h] /\ House K H h L marks ways /\ Wf L marks ways /\ BookAt C H p d L es /\ (∀ e ∈ es, isW L e.1 = true /\ e.1.length <= 600) /\
  ∀ H', Same H H' -> ((∀ e ∈ es, wrongT marks ways e = false) -> Q .non H') /\ ∀ (i : Nat) (e : List Int × Int) (t : Addr), (∀ j, j < i -> ∀ e', es[j]? = some e' -> wrongT marks ways e' = false) -> es[i]? = some e -> wrongT marks ways e = true -> SqT K H' t (e.1.map V.int) -> Q (.ref t) H'
theorem ok_first_wrong {f : Addr} {fd : FuncData} (F : Fun K "first_wrong" "first_wrong" s_first_wrong f fd) (T : Txt mg)
    (W : Own K mg C_Book)
    (Z : Exs K mg C_AskError C_BadWord)
    {f_mark_behind : Addr} {fd_mark_behind : FuncData} (g_mark_behind : FnOk P w K mg base (CXe P w) 5 f_mark_behind fd_mark_behind ["house", "word"] (sp_mark K C_BadWord)) (F_mark_behind : Fun K "mark_behind" "mark_behind" s_mark_behind f_mark_behind fd_mark_behind) (b_mark_behind : Binds K fd_mark_behind ["house", "word"] []) (m_mark_behind : mg "mark_behind" = some (.ref f_mark_behind))
    {f_first_unlike : Addr} {fd_first_unlike : FuncData} (g_first_unlike : FnOk P w K mg base CX0 6 f_first_unlike fd_first_unlike ["heard", "answer", "house"] (sp_first_unlike K f_mark_behind)) (F_first_unlike : Fun K "first_unlike" "first_unlike" s_first_unlike f_first_unlike fd_first_unlike) (b_first_unlike : Binds K fd_first_unlike ["heard", "answer", "house"] []) (m_first_unlike : mg "first_unlike" = some (.ref f_first_unlike))
    {f_Book_heard : Addr} {fd_Book_heard : FuncData} (g_Book_heard : FnOk P w K mg base CX0 1 f_Book_heard fd_Book_heard ["self"] (sp_book_heard K C_Book)) (F_Book_heard : Fun K "heard" "Book.heard" s_Book_heard f_Book_heard fd_Book_heard) (b_Book_heard : Binds K fd_Book_heard ["self"] []) (m_Book_heard : Meth K C_Book "heard" f_Book_heard)
    : FnOk P w K mg base CX0 7 f fd ["book", "house"] (sp_first_wrong K C_Book) := by
  refine F.ok sc_first_wrong (fun vs H Q E h => ?_) (fun cdv A outer s H vs Q E hr h => ?_)
  . obtain ⟨p, d, h, L, marks, ways, es, rfl, _⟩ := h; rfl
  . obtain ⟨p, d, h, L, marks, ways, es, rfl, hh, wf, B, hes, k⟩ := h
    refine ⟨_, (pss_one (ps_ret (pe_call g_first_unlike (hr.mono (by decide)) rfl m_first_unlike F_first_unlike.kp b_first_unlike .nil pass0 (pa_cons (pe_meth0 (pv 0) W.cl_Book m_Book_heard g_Book_heard (hr.mono (by decide)) b_Book_heard .nil pass0) (pa_cons (pe_glob (v := .ref f_mark_behind) rfl m_mark_behind rfl) (pa_cons (pv 1) pa_nil)))))), ?_⟩
    obtain ⟨⟨dx, hp⟩, hd, nd⟩ := id B
    walk_at "rd"
    refine ⟨_, _, hp, bflds_no _ _ (by decide +kernel) (by decide +kernel), p, d, L, es, rfl, B, fun e he => (hes e he).2, fun l rs H1 s1 hl hl1 ht => ?_⟩
    exact ⟨l, h, L, marks, ways, rs, es, rfl, SqL.of hl1, ht, hh.mono s1, wf, hes, fun H2 s2 => k _ (s1.trans s2)⟩
def cell (ns : List Int) (k : Nat) : Int := ns.getD k 0
def sp_cell (K : PySem.W.Frag) : Sp := fun vs H Q _ => ∃ (a : Addr) (ns : List Int) (k : Nat), vs = [.ref a, .int k] /\ SqL K H a (ns.map V.int) /\ Q (.int (cell ns k)) H
theorem ok__law_cell_at {f : Addr} {fd : FuncData} (F : Fun K "_law_cell_at" "_law_cell_at" s__law_cell_at f fd) (T : Txt mg)
    (W : Own K mg C_Book)
    (Z : Exs K mg C_AskError C_BadWord)
    : FnOk P w K mg base CX0 1 f fd ["script", "k"] (sp_cell K) := by
  refine F.ok sc__law_cell_at (fun vs H Q E h => ?_) (fun cdv A outer s H vs Q E hr h => ?_)
  . obtain ⟨a, ns, k, rfl, _⟩ := h; rfl
  . obtain ⟨a, ns, k, rfl, hs, q⟩ := h
    refine ⟨_, (pss_cons (ps_if (pt_cmpR op_lt (pv 1) (pe_callB call_len_seq (by rfl) T.len PySem.boot_len (pa_cons (pv 0) pa_nil)) (nomark _))
      (pss_one (ps_ret (pe_ix ix_list (pv 0) (pv 1) (fun _ _ => rfl))))
      pss_nil)
      (pss_one (ps_ret pe_int))), ?_⟩
    walk_at "rd"
    refine ⟨_, .inl hs, ?_⟩
    rw [List.length_map]
    refine ite2 (fun hk => ?_) (fun hk => ?_)
    . have hk' : k < ns.length := by simpa using hk
      refine ⟨_, hs, V.int (cell ns k), ?_, q⟩
      refine atI_nat ?_
      rw [List.getElem?_map]
      unfold cell
      rw [List.getD_eq_getElem?_getD]
      simp [hk']
    . have hk' : ¬ k < ns.length := by simpa using hk
      have : cell ns k = 0 := by
        unfold cell
        rw [List.getD_eq_getElem?_getD, List.getElem?_eq_none (by omega)]; rfl
      rw [<- this]
      exact q
def sp_answer38 (K : PySem.W.Frag) : Sp := fun vs H Q _ => ∃ (h a : Addr) (L : Int) (marks : List Int) (ways : List (List Int)) (ws : List Int), vs = [.ref h, .ref a] /\ House K H h L marks ways /\ Wf L marks ways /\ SqT K H a (ws.map V.int) /\ isW L ws = true /\ Q (.int (markW marks (walkW ways ws))) H
theorem ok__law_answer {f : Addr} {fd : FuncData} (F : Fun K "_law_answer" "_law_answer" s__law_answer f fd) (T : Txt mg)
    (W : Own K mg C_Book)
    (Z : Exs K mg C_AskError C_BadWord)
    : FnOk P w K mg base CX0 1 f fd ["house", "word"] (sp_answer38 K) := by
  refine F.ok sc__law_answer (fun vs H Q E h => ?_) (fun cdv A outer s H vs Q E hr h => ?_)
  . obtain ⟨h, a, L, marks, ways, ws, rfl, _⟩ := h; rfl
  . obtain ⟨h, a, L, marks, ways, ws, rfl, hh, wf, ha, hv, k⟩ := h
    have hn1 := wf.n1
    refine ⟨_, (pss_cons (ps_set (i := 2) sc__law_answer.nd rfl (Or.inl rfl) pe_int)
      (pss_cons (ps_for PassesOwn.never rfl (pi_tup (pv 1)) (pg_name (i := 3) sc__law_answer.nd rfl (Or.inl rfl))
      (pss_one (ps_set (i := 2) sc__law_answer.nd rfl (Or.inl rfl) (pe_ix ix_tup (pe_ix ix_tup (pe_ix ix_tup (pv 0) pe_int (fun _ _ => rfl)) (pv 2) (fun _ _ => rfl)) (pv 3) (fun _ _ => rfl)))))
      (pss_one (ps_ret (pe_ix ix_tup (pe_ix ix_tup (pv 0) pe_int (fun _ _ => rfl)) (pv 2) (fun _ _ => rfl)))))), ?_⟩
    walk_at "rd"
    refine ⟨⟨_, ha⟩, forT (xs := ws.map V.int) (fun i σ2 H2 => H2 = H /\ ∃ o, σ2 = [some (.ref h), some (.ref a), some (.int (walkR ways 0 (ws.take i))), o]) ⟨rfl, none, by simp [walkR]⟩ (fun i σ2 H2 _ h => by rw [h.1]; exact ha) (fun i x σ2 H2 hx h => ?_) (fun σ2 H2 h => ?_)⟩
    . obtain ⟨rfl, o, rfl⟩ := h
      obtain ⟨n, hn, rfl⟩ := get_mapI hx
      have hin := isW_iff.mp hv n (List.mem_of_getElem? hn)
      have hwk := walkR_in wf (ws.take i) (isW_take hv i) (show (0 : Int) <= 0 by omega) (by omega)
      obtain ⟨row, g, r1, r2, r3, r4, r5⟩ := wf.step hwk.1 hwk.2 hin.1 hin.2
      obtain ⟨m, wv, q1, q2, q3⟩ := id hh
      obtain ⟨xs, t, z1, z2, z3⟩ := q3.atZ hwk.1 r1
      walk_at "rd"
      refine ⟨_, q1, _, rfl, ?_⟩
      walk_at "rd"
      refine ⟨_, z1, _, z2, ?_⟩
      walk_at "rd"
      refine ⟨_, z3, _, atI_int hin.1 r2, ?_⟩
      rw [walkR_take hn, r3]
      exact ⟨rfl, _, rfl⟩
    . obtain ⟨rfl, o, rfl⟩ := h
      rw [List.length_map, List.take_length]
      obtain ⟨m, wv, q1, q2, q3⟩ := id hh
      have wk := walkR_in wf ws hv (show (0 : Int) <= 0 by omega) (by omega)
      walk_at "rd"
      exact ⟨_, q1, _, rfl, m, rfl, _, q2, _, mkW_at wk.1 wk.2, k⟩
def sp_alike38 (K : PySem.W.Frag) : Sp := fun vs H Q _ => (vs = [.non, .non] /\ Q (.bl true) H) \/ ∃ (a b : Addr) (ws : List Int), vs = [.ref a, .ref b] /\ SqT K H a (ws.map V.int) /\ SqT K H b (ws.map V.int) /\ Q (.bl true) H
theorem ok__law_alike {f : Addr} {fd : FuncData} (F : Fun K "_law_alike" "_law_alike" s__law_alike f fd) (T : Txt mg)
    (W : Own K mg C_Book)
    (Z : Exs K mg C_AskError C_BadWord)
    : FnOk P w K mg base CX0 1 f fd ["found", "due"] (sp_alike38 K) := by
  refine F.ok sc__law_alike (fun vs H Q E h => ?_) (fun cdv A outer s H vs Q E hr h => ?_)
  . rcases h with ⟨rfl, _⟩ | ⟨a, b, ws, rfl, _⟩ <;> rfl
  . refine ⟨_, (pss_cons (ps_if (pt_cmpR op_isN (pv 1) pe_non (nomark _))
      (pss_one (ps_ret (pe_cmpR op_isN (pv 0) pe_non (nomark _))))
      pss_nil)
      (pss_one (ps_ret (pe_and (pe_callB call_isinstW rfl T.isinstance PyProof.Rows.boot_isinstance (pa_cons (pv 0) (pa_cons (pe_bltn (v := .ty "tuple") rfl T.tuple PyProof.Rows.boot_tuple rfl) pa_nil))) (pe_one (pe_cmpR (op_eqD 8 (hu9 hr)) (pv 0) (pv 1) (nomark _))))))), ?_⟩
    rcases h with ⟨rfl, k⟩ | ⟨a, b, ws, rfl, ha, hb, k⟩
    . walk_at "rd"
      exact k
    . walk_at "rd"
      have eqw := EqD.ints (K := K) (H := H) (a := a) (c := b) (xs := ws) (ys := ws) (.inr ⟨ha, hb⟩) 7
      rw [decide_eq_true rfl] at eqw
      refine ⟨_, _, .tup ha, rel_ty, _, kit_self, ?_⟩
      rw [if_pos rfl]
      exact ⟨_, eqw, k⟩
def sp_word_by38 (K : PySem.W.Frag) : Sp := fun vs H Q _ => ∃ (c L : Int), vs = [.int c, .int L] /\ 1 <= L /\ ∀ t ws H', Same H H' -> H' t = some (.tup (ws.map V.int)) -> isW L ws = true -> ws.length <= 5 -> Q (.ref t) H'
theorem ok__law_word_by {f : Addr} {fd : FuncData} (F : Fun K "_law_word_by" "_law_word_by" s__law_word_by f fd) (T : Txt mg)
    (W : Own K mg C_Book)
    (Z : Exs K mg C_AskError C_BadWord)
    : FnOk P w K mg base CX0 1 f fd ["cell", "letters"] (sp_word_by38 K) := by
  refine F.ok sc__law_word_by (fun vs H Q E h => ?_) (fun cdv A outer s H vs Q E hr h => ?_)
  . obtain ⟨c, L, rfl, _⟩ := h; rfl
  . obtain ⟨c, L, rfl, hL, k⟩ := h
    have hl := line1000
    have c0 := Int.emod_nonneg c (show (6 : Int) ≠ 0 by decide)
    have c1 := Int.emod_lt_of_pos c (show (0 : Int) < 6 by decide)
    refine ⟨_, (pss_cons (ps_set (i := 2) sc__law_word_by.nd rfl (Or.inl rfl) (pe_tup pa_nil))
      (pss_cons (ps_for PassesOwn.never rfl (pi_range1 rfl T.range (pa_cons (pe_op op_mod (pv 0) pe_int) pa_nil)) (pg_name (i := 3) sc__law_word_by.nd rfl (Or.inl rfl))
      (pss_one (ps_set (i := 2) sc__law_word_by.nd rfl (Or.inl rfl) (pe_op op_catT2 (pv 2) (pe_tup (pa_cons (pe_op op_mod (pe_op op_fdiv (pv 0) (pe_ix ix_list (pe_lst (pa_cons pe_int (pa_cons pe_int (pa_cons pe_int (pa_cons pe_int (pa_cons pe_int pa_nil)))))) (pv 3) (fun _ _ => rfl))) (pv 1)) pa_nil))))))
      (pss_one (ps_ret (pv 2))))), ?_⟩
    walk_at "rd"
    refine ⟨by omega, fun p hp => ⟨by decide, by omega, by omega, ?_⟩⟩
    obtain ⟨n, hn, hn5⟩ : ∃ n : Nat, (c % 6).toNat = n /\ n <= 5 := ⟨_, rfl, by omega⟩
    rw [hn]
    obtain ⟨Pv, hPv⟩ : ∃ Pv : Nat -> St -> Hp -> Prop, ∀ i σ' H', Pv i σ' H' ↔ (∃ (t : Addr) (ws : List Int) (o : Option V), Same H H' /\ H' t = some (.tup (ws.map V.int)) /\ isW L ws = true /\ ws.length = i /\ σ' = [some (.int c), some (.int L), some (.ref t), o]) := ⟨_, fun _ _ _ => Iff.rfl⟩
    refine forR Pv ((hPv _ _ _).mpr ⟨p, [], none, Same.new hp, upd_same, rfl, rfl, rfl⟩) (fun i σ2 H2 hi h2 => ?_) (fun σ2 H2 h2 => ?_)
    . obtain ⟨t, ws, o, s2, ht, hw, hwl, rfl⟩ := (hPv _ _ _).mp h2
      rw [Int.zero_add]
      walk_at "rd"
      refine ⟨by omega, fun p1 hp1 => ⟨_, SqL.of upd_same, ?_⟩⟩
      obtain ⟨q, hq1, hq2⟩ : ∃ q : Int, atI [V.int 6, V.int 19, V.int 58, V.int 175, V.int 526] (i : Int) = some (V.int q) /\ CDiv c q := by
        rcases (show i = 0 \/ i = 1 \/ i = 2 \/ i = 3 \/ i = 4 by omega) with rfl | rfl | rfl | rfl | rfl
        . exact ⟨6, rfl, by decide, by decide⟩
        . exact ⟨19, rfl, by decide, by decide⟩
        . exact ⟨58, rfl, by decide, by decide⟩
        . exact ⟨175, rfl, by decide, by decide⟩
        . exact ⟨526, rfl, by decide, by decide⟩
      have z0 := Int.emod_nonneg (c / q) (show L ≠ 0 by omega)
      have z1 := Int.emod_lt_of_pos (c / q) (show 0 < L by omega)
      refine ⟨_, hq1, q, rfl, hq2, by omega, by omega, fun p2 hp2 => ?_⟩
      generalize c / q % L = z at z0 z1 ⊢
      refine rCatT2.ofS (Same.new hp2 _ _ (Same.new hp1 _ _ ht)) upd_same (by simp; omega) fun u H4 s4 hu => ?_
      refine (hPv _ _ _).mpr ⟨u, ws ++ [z], _, s2.trans (((Same.new hp1).newT hp2).trans s4), by rw [hu, List.map_append]; rfl, ?_, by simp [hwl], rfl⟩
      refine isW_iff.mpr fun x hx => ?_
      rcases List.mem_append.mp hx with hx | hx
      . exact isW_iff.mp hw x hx
      . rw [List.mem_singleton.mp hx]; exact ⟨z0, z1⟩
    . obtain ⟨t, ws, o, s2, ht, hw, hwl, rfl⟩ := (hPv _ _ _).mp h2
      walk_at "rd"
      exact k t ws _ s2 ht hw (by omega)
def sp_houseby38 (K : PySem.W.Frag) : Sp := fun vs H Q _ => ∃ (a : Addr) (ns : List Int), vs = [.ref a] /\ SqL K H a (ns.map V.int) /\ ∀ h L marks ways H', Same H H' -> House K H' h L marks ways -> Wf L marks ways -> Q (.ref h) H'
theorem ok__law_house_by {f : Addr} {fd : FuncData} (F : Fun K "_law_house_by" "_law_house_by" s__law_house_by f fd) (T : Txt mg)
    (W : Own K mg C_Book)
    (Z : Exs K mg C_AskError C_BadWord)
    {f__law_cell_at : Addr} {fd__law_cell_at : FuncData} (g__law_cell_at : FnOk P w K mg base CX0 1 f__law_cell_at fd__law_cell_at ["script", "k"] (sp_cell K)) (F__law_cell_at : Fun K "_law_cell_at" "_law_cell_at" s__law_cell_at f__law_cell_at fd__law_cell_at) (b__law_cell_at : Binds K fd__law_cell_at ["script", "k"] []) (m__law_cell_at : mg "_law_cell_at" = some (.ref f__law_cell_at))
    : FnOk P w K mg base CX0 2 f fd ["script"] (sp_houseby38 K) := by
  refine F.ok sc__law_house_by (fun vs H Q E h => ?_) (fun cdv A outer s H vs Q E hr h => ?_)
  . obtain ⟨a, ns, rfl, _⟩ := h; rfl
  . obtain ⟨a, ns, rfl, hs, k⟩ := h
    have hl := line1000
    refine ⟨_, (pss_cons (ps_set (i := 1) sc__law_house_by.nd rfl (Or.inr rfl) (pe_op op_mod (pe_call g__law_cell_at (hr.mono (by decide)) rfl m__law_cell_at F__law_cell_at.kp b__law_cell_at .nil pass0 (pa_cons (pv 0) (pa_cons pe_int pa_nil))) (pe_op op_pow pe_int pe_int)))
      (pss_cons (ps_set (i := 2) sc__law_house_by.nd rfl (Or.inl rfl) (pe_op op_add pe_int (pe_op op_mod (pv 1) pe_int)))
      (pss_cons (ps_set (i := 3) sc__law_house_by.nd rfl (Or.inr rfl) (pe_op op_add pe_int (pe_op op_mod (pe_op op_fdiv (pv 1) pe_int) pe_int)))
      (pss_cons (ps_setC (i := 4) sc__law_house_by.nd rfl rfl rfl (blk_mk rfl) (cp := c__law_house_by_0) ⟨⟨rfl, rfl⟩, True.intro⟩ (pi_range1 rfl T.range (pa_cons (pv 3) pa_nil)) (fun _ _ _ _ => (pg_name (i := 0) nd_c__law_house_by_0 rfl (Or.inl rfl))) (fun _ _ _ _ => pf_nil) (fun _ _ _ _ => (pe_op op_mod (pe_op op_add (pe_op op_fdiv (pv 1) pe_int) (pe_op op_mul (pe_op op_fdiv (pv 0) pe_int) pe_int)) pe_int)))
      (pss_cons (ps_set (i := 5) sc__law_house_by.nd rfl (Or.inl rfl) (pe_lst pa_nil))
      (pss_cons (ps_for PassesOwn.never rfl (pi_range1 rfl T.range (pa_cons (pv 3) pa_nil)) (pg_name (i := 6) sc__law_house_by.nd rfl (Or.inr rfl))
      (pss_one (ps_expr (pe_bm PySem.F.plainAttrs_list PySem.F.slot_list_append PySem.F.type_list_append mt_append (pv 5) (pa_cons (pe_callTy call_tuple_of rfl T.tuple PyProof.Rows.boot_tuple (pa_cons (pe_comp rfl (blk_mk rfl) (cp := c__law_house_by_1) ⟨⟨rfl, rfl⟩, ⟨⟨rfl, rfl⟩, ⟨⟨rfl, rfl⟩, True.intro⟩⟩⟩ (pi_range1 rfl T.range (pa_cons (pv 2) pa_nil)) (fun _ _ _ _ => (pg_name (i := 0) nd_c__law_house_by_1 rfl (Or.inl rfl))) (fun _ _ _ _ => pf_nil) (fun _ _ _ _ => (pe_op op_mod (pe_op op_fdiv (pe_op op_add (pe_op op_add (pe_op op_fdiv (pv 2) pe_int) (pe_op op_mul (pe_op op_mul pe_int (pv 3)) (pv 3))) (pe_op op_mul pe_int (pv 0))) pe_int) (pv 1)))) pa_nil)) pa_nil)))))
      (pss_one (ps_ret (pe_tup (pa_cons (pv 2) (pa_cons (pe_callTy call_tuple_of rfl T.tuple PyProof.Rows.boot_tuple (pa_cons (pv 4) pa_nil)) (pa_cons (pe_callTy call_tuple_of rfl T.tuple PyProof.Rows.boot_tuple (pa_cons (pv 5) pa_nil)) pa_nil)))))))))))), ?_⟩
    walk_at "rd"
    refine ⟨a, ns, 0, rfl, hs, (show CPow 10 9 from ⟨by omega, by omega, by decide⟩), _, rfl, by decide, by decide, ⟨by decide, by decide⟩, by decide, ?_⟩
    generalize cell ns 0 % 10 ^ Int.toNat 9 = hd
    have a0 := Int.emod_nonneg hd (show (3 : Int) ≠ 0 by decide)
    have a1 := Int.emod_lt_of_pos hd (show (0 : Int) < 3 by decide)
    have b0 := Int.emod_nonneg (hd / 3) (show (4 : Int) ≠ 0 by decide)
    have b1 := Int.emod_lt_of_pos (hd / 3) (show (0 : Int) < 4 by decide)
    obtain ⟨rn, hrn, hr1, hr4⟩ : ∃ n : Nat, 1 + hd / 3 % 4 = (n : Int) /\ 1 <= n /\ n <= 4 := ⟨(1 + hd / 3 % 4).toNat, by omega, by omega, by omega⟩
    obtain ⟨L, hL, hL1, hL3⟩ : ∃ n : Nat, 1 + hd % 3 = (n : Int) /\ 1 <= n /\ n <= 3 := ⟨(1 + hd % 3).toNat, by omega, by omega, by omega⟩
    rw [hrn, hL]
    refine ⟨by omega, by omega, ?_⟩
    rw [Int.toNat_natCast]
    obtain ⟨Pm, hPm⟩ : ∃ Pc : Nat -> List V -> St -> Hp -> Prop, ∀ j ys σ4 H4, Pc j ys σ4 H4 ↔ (H4 = H /\ ∃ (row : List Int) (o : Option V), ys = row.map V.int /\ row.length = j /\ (∀ x ∈ row, 0 <= x /\ x <= 1000000000) /\ σ4 = [o, some (.int hd)]) := ⟨_, fun _ _ _ _ => Iff.rfl⟩
    refine compR Pm ((hPm _ _ _ _).mpr ⟨rfl, [], none, rfl, rfl, (fun x hx => by cases hx), rfl⟩) (by omega) (fun j ys σ4 H4 _ h4 => ?_) (fun j ys σ4 H4 hj h4 => ?_) (fun ys σ4 H4 h4 pm hpm => ?_)
    . obtain ⟨_, row, o, rfl, hrl, _⟩ := (hPm _ _ _ _).mp h4
      rw [List.length_map]; omega
    . obtain ⟨rfl, row, o, rfl, hrl, hrr, rfl⟩ := (hPm _ _ _ _).mp h4
      walk_at "rd"
      refine ⟨⟨by decide, by decide⟩, ⟨by decide, by decide⟩, .inr ⟨by decide, by decide⟩, by decide, ?_⟩
      have x0 := Int.emod_nonneg (hd / 12 + (0 + (j : Int)) / 2 * 999983) (show (1000000001 : Int) ≠ 0 by decide)
      have x1 := Int.emod_lt_of_pos (hd / 12 + (0 + (j : Int)) / 2 * 999983) (show (0 : Int) < 1000000001 by decide)
      generalize (hd / 12 + (0 + (j : Int)) / 2 * 999983) % 1000000001 = x at x0 x1 ⊢
      refine (hPm _ _ _ _).mpr ⟨rfl, row ++ [x], _, by simp, by simp [hrl], fun y hy => ?_, rfl⟩
      rcases List.mem_append.mp hy with hy | hy
      . exact hrr y hy
      . rw [List.mem_singleton.mp hy]; exact ⟨x0, by omega⟩
    obtain ⟨rfl, marks, o, rfl, hml, hmm, rfl⟩ := (hPm _ _ _ _).mp h4
    walk_at "rd"
    refine ⟨by omega, fun pw hpw => ⟨by omega, by omega, ?_⟩⟩
    have hpp : pw ≠ pm := (none_of_upd hpw).2
    have hpw0 : H4 pw = none := (none_of_upd hpw).1
    obtain ⟨Pv, hPv⟩ : ∃ Pv : Nat -> St -> Hp -> Prop, ∀ i σ' H', Pv i σ' H' ↔ (∃ (ways : List (List Int)) (o : Option V), Same H4 H' /\ H' pm = some (.lst (marks.map V.int)) /\ TupsL K H' pw ways /\ ways.length = i /\ (∀ row ∈ ways, row.length = L /\ ∀ x ∈ row, 0 <= x /\ x < (rn : Int)) /\ σ' = [some (.ref a), some (.int hd), some (.int L), some (.int rn), some (.ref pm), some (.ref pw), o]) := ⟨_, fun _ _ _ => Iff.rfl⟩
    refine forR Pv ((hPv _ _ _).mpr ⟨[], none, (Same.new hpm).newT hpw, (Same.new hpw) _ _ upd_same, TupsL.nil upd_same, rfl, by simp, rfl⟩) (fun i σ2 H2 hi h2 => ?_) (fun σ2 H2 h2 => ?_)
    . obtain ⟨ways, o2, s2, hm2, hw2, hwl, hrows, rfl⟩ := (hPv _ _ _).mp h2
      obtain ⟨ts, ht1, _⟩ := id hw2
      rw [Int.zero_add]
      walk_at "rd"
      refine ⟨.inl ⟨rfl, _, SqL.of ht1⟩, by omega, by omega, ?_⟩
      rw [Int.toNat_natCast]
      obtain ⟨Pc, hPc⟩ : ∃ Pc : Nat -> List V -> St -> Hp -> Prop, ∀ j ys σ4 H5, Pc j ys σ4 H5 ↔ (H5 = H2 /\ ∃ (row : List Int) (o : Option V), ys = row.map V.int /\ row.length = j /\ (∀ x ∈ row, 0 <= x /\ x < (rn : Int)) /\ σ4 = [o, some (.int rn), some (.int hd), some (.int i)]) := ⟨_, fun _ _ _ _ => Iff.rfl⟩
      refine compR Pc ((hPc _ _ _ _).mpr ⟨rfl, [], none, rfl, rfl, (fun x hx => by cases hx), rfl⟩) (by omega) (fun j ys σ5 H5 _ h5 => ?_) (fun j ys σ5 H5 hj h5 => ?_) (fun ys σ5 H5 h5 D hD => ?_)
      . obtain ⟨_, row, o, rfl, hrl, _⟩ := (hPc _ _ _ _).mp h5
        rw [List.length_map]; omega
      . obtain ⟨rfl, row, o, rfl, hrl, hrr, rfl⟩ := (hPc _ _ _ _).mp h5
        rw [Int.zero_add]
        walk_at "rd"
        have z0 := Int.emod_nonneg ((hd / 7 + 5 * (i : Int) * i + 3 * (j : Int)) / 2) (show (rn : Int) ≠ 0 by omega)
        have z1 := Int.emod_lt_of_pos ((hd / 7 + 5 * (i : Int) * i + 3 * (j : Int)) / 2) (show (0 : Int) < rn by omega)
        refine ⟨⟨by decide, by decide⟩, .inl ⟨by decide, by decide⟩, .inr ⟨by omega, by omega⟩, .inl ⟨by decide, by decide⟩, ⟨by decide, by decide⟩, by omega, ?_⟩
        generalize (hd / 7 + 5 * (i : Int) * i + 3 * (j : Int)) / 2 % (rn : Int) = z at z0 z1 ⊢
        refine (hPc _ _ _ _).mpr ⟨rfl, row ++ [z], _, by simp, by simp [hrl], fun y hy => ?_, rfl⟩
        rcases List.mem_append.mp hy with hy | hy
        . exact hrr y hy
        . rw [List.mem_singleton.mp hy]; exact ⟨z0, z1⟩
      . obtain ⟨rfl, row, o, rfl, hrl, hrr, rfl⟩ := (hPc _ _ _ _).mp h5
        refine ⟨D, rfl, _, .inl ⟨SqL.of upd_same, fun t ht => ?_⟩⟩
        have sDt := (Same.new hD (o := .lst (row.map V.int))).newT ht (o := .tup (row.map V.int))
        obtain ⟨xs, e1, e2, e3⟩ := (hw2.mono sDt).push (w := row) (t := t) (SqT.of upd_same)
        refine ⟨xs, e1, by omega, (hPv _ _ _).mpr ⟨ways ++ [row], _, (s2.trans sDt).over hpw0, by rw [upd_ne (Ne.symm hpp)]; exact sDt _ _ hm2, e3, by simp [hwl], fun r hr => ?_, rfl⟩⟩
        rcases List.mem_append.mp hr with hr | hr
        . exact hrows r hr
        . rw [List.mem_singleton.mp hr]; exact ⟨hrl, hrr⟩
    . obtain ⟨ways, o2, s2, hm2, hw2, hwl, hrows, rfl⟩ := (hPv _ _ _).mp h2
      walk_at "rd"
      refine ⟨_, .inl ⟨SqL.of hm2, fun t1 ht1 => ?_⟩⟩
      obtain ⟨xs, hx1, hrw⟩ := (hw2.mono (Same.new ht1 (o := .tup (marks.map V.int)))).rows
      refine ⟨xs, .inl ⟨SqL.of hx1, fun t2 ht2 => ⟨by omega, fun hh hhh => ?_⟩⟩⟩
      exact k hh L marks ways _ (((s2.newT ht1).newT ht2).newT hhh) ⟨t1, t2, SqT.of upd_same, ((Same.new ht2).newT hhh).seqT (SqT.of upd_same), (hrw t2 ht2).mono (Same.new hhh)⟩
        ⟨by omega, by omega, by omega, by omega, by omega, fun row hr => ⟨by have := (hrows row hr).1; omega, fun x hx => by have := (hrows row hr).2 x hx; omega⟩, hmm⟩
theorem cutV_drop' (xs : List V) (m : Nat) : cutV xs (some (m : Int)) none = xs.drop m := by
  unfold cutV
  rw [HT.sIx_nat, HT.sIx_none]
  rcases Nat.le_total m xs.length with h | h
  . rw [Nat.min_eq_left h]
    exact List.take_of_length_le (by rw [List.length_drop]; exact Nat.le_refl _)
  . rw [Nat.min_eq_right h, List.drop_of_length_le h, List.drop_length, List.take_nil]
def Due (marks : List Int) (ways : List (List Int)) (dv : V) (H : Hp) (es : List (List Int × Int)) : Prop :=
  (dv = .non /\ ∀ e ∈ es, wrongT marks ways e = false) \/ ∃ (t : Addr) (j : Nat) (e : List Int × Int), dv = .ref t /\ H t = some (.tup (e.1.map V.int)) /\ es[j]? = some e /\ wrongT marks ways e = true /\ ∀ j', j' < j -> ∀ e', es[j']? = some e' -> wrongT marks ways e' = false
theorem Due.mono {marks : List Int} {ways : List (List Int)} {dv : V} {H H' : Hp} {es : List (List Int × Int)} (h : Due marks ways dv H es) (s : ∀ t xs, H t = some (.tup xs) -> H' t = some (.tup xs)) : Due marks ways dv H' es := by
  rcases h with h | ⟨t, j, e, a, b, c⟩
  . exact .inl h
  . exact .inr ⟨t, j, e, a, s _ _ b, c⟩
theorem Due.right {marks : List Int} {ways : List (List Int)} {dv : V} {H : Hp} {es : List (List Int × Int)} {e : List Int × Int} (h : Due marks ways dv H es) (he : wrongT marks ways e = false) : Due marks ways dv H (es ++ [e]) := by
  rcases h with ⟨a, b⟩ | ⟨t, j, e', a, b, c, d, f⟩
  . refine .inl ⟨a, fun x hx => ?_⟩
    rcases List.mem_append.mp hx with hx | hx
    . exact b x hx
    . rw [List.mem_singleton.mp hx]; exact he
  . have hj := (List.getElem?_eq_some_iff.mp c).1
    refine .inr ⟨t, j, e', a, b, by rw [List.getElem?_append_left hj]; exact c, d, fun j' hj' x hx => ?_⟩
    rw [List.getElem?_append_left (by omega)] at hx
    exact f j' hj' x hx
theorem Due.old {marks : List Int} {ways : List (List Int)} {dv : V} {H : Hp} {es : List (List Int × Int)} {e : List Int × Int} (h : Due marks ways dv H es) (hn : dv ≠ .non) : Due marks ways dv H (es ++ [e]) := by
  rcases h with ⟨a, b⟩ | ⟨t, j, e', a, b, c, d, f⟩
  . exact absurd a hn
  . have hj := (List.getElem?_eq_some_iff.mp c).1
    refine .inr ⟨t, j, e', a, b, by rw [List.getElem?_append_left hj]; exact c, d, fun j' hj' x hx => ?_⟩
    rw [List.getElem?_append_left (by omega)] at hx
    exact f j' hj' x hx
theorem Due.new {marks : List Int} {ways : List (List Int)} {H : Hp} {es : List (List Int × Int)} {e : List Int × Int} {t : Addr} (h : Due marks ways .non H es) (ht : H t = some (.tup (e.1.map V.int))) (he : wrongT marks ways e = true) : Due marks ways (.ref t) H (es ++ [e]) := by
  rcases h with ⟨a, b⟩ | ⟨t, j, e', a, _⟩
  . refine .inr ⟨t, es.length, e, rfl, ht, by simp, he, fun j' hj' x hx => ?_⟩
    rw [List.getElem?_append_left hj'] at hx
    exact b x (List.mem_of_getElem? hx)
  . cases a
theorem due_alike {K : PySem.W.Frag} {C p d h : Addr} {H : Hp} {L : Int} {marks : List Int} {ways : List (List Int)} {es : List (List Int × Int)} {dv : V} {Qc : VK} (hh : House K H h L marks ways) (wf : Wf L marks ways) (B : BookAt C H p d L es) (hes : ∀ e ∈ es, isW L e.1 = true /\ e.1.length <= 600) (hdue : Due marks ways dv H es)
    (hQ : ∀ H', Same H H' -> Qc (.bl true) H') : sp_first_wrong K C [.ref p, .ref h] H (fun x H1 => sp_alike38 K [x, dv] H1 Qc E0) E0 := by
  refine ⟨p, d, h, L, marks, ways, es, rfl, hh, wf, B, hes, fun H' s' => ⟨fun hall => ?_, fun i e t hno hi hw ht => ?_⟩⟩
  . rcases hdue with ⟨rfl, _⟩ | ⟨t, j, e, rfl, b, c, dd, f⟩
    . exact .inl ⟨rfl, hQ _ s'⟩
    . rw [hall e (List.mem_of_getElem? c)] at dd
      cases dd
  . rcases hdue with ⟨rfl, b⟩ | ⟨t', j, e', rfl, b, c, dd, f⟩
    . rw [b e (List.mem_of_getElem? hi)] at hw
      cases hw
    . have hij : i = j := by
        rcases Nat.lt_trichotomy i j with h' | h' | h'
        . rw [f i h' e hi] at hw; cases hw
        . exact h'
        . rw [hno j h' e' c] at dd; cases dd
      subst hij
      rw [hi] at c
      cases c
      exact .inr ⟨t, t', e.1, rfl, ht, SqT.of (s' _ _ b), hQ _ s'⟩
def spLaw (K : PySem.W.Frag) : Sp := fun vs H Q _ => ∃ (a : Addr) (ns : List Int), vs = [.ref a] /\ SqL K H a (ns.map V.int) /\ ns.length <= 63 /\ ∀ H', Q (.bl true) H'
theorem ok_law {f : Addr} {fd : FuncData} (F : Fun K "law" "law" s_law f fd) (T : Txt mg)
    (W : Own K mg C_Book)
    (Z : Exs K mg C_AskError C_BadWord)
    {f_Book_heard : Addr} {fd_Book_heard : FuncData} (g_Book_heard : FnOk P w K mg base CX0 1 f_Book_heard fd_Book_heard ["self"] (sp_book_heard K C_Book)) (F_Book_heard : Fun K "heard" "Book.heard" s_Book_heard f_Book_heard fd_Book_heard) (b_Book_heard : Binds K fd_Book_heard ["self"] []) (m_Book_heard : Meth K C_Book "heard" f_Book_heard)
    {f_first_wrong : Addr} {fd_first_wrong : FuncData} (g_first_wrong : FnOk P w K mg base CX0 7 f_first_wrong fd_first_wrong ["book", "house"] (sp_first_wrong K C_Book)) (F_first_wrong : Fun K "first_wrong" "first_wrong" s_first_wrong f_first_wrong fd_first_wrong) (b_first_wrong : Binds K fd_first_wrong ["book", "house"] []) (m_first_wrong : mg "first_wrong" = some (.ref f_first_wrong))
    {f_Book_init : Addr} {fd_Book_init : FuncData} (g_Book_init : FnOk P w K mg base CX0 1 f_Book_init fd_Book_init ["self", "letters"] (sp_book_init C_Book)) (F_Book_init : Fun K "__init__" "Book.__init__" s_Book_init f_Book_init fd_Book_init) (b_Book_init : Binds K fd_Book_init ["self", "letters"] []) (m_Book_init : Mk K C_Book f_Book_init)
    {f_Book_put : Addr} {fd_Book_put : FuncData} (g_Book_put : FnOk P w K mg base CX0 4 f_Book_put fd_Book_put ["self", "word", "mark"] (sp_book_put C_Book)) (F_Book_put : Fun K "put" "Book.put" s_Book_put f_Book_put fd_Book_put) (b_Book_put : Binds K fd_Book_put ["self", "word", "mark"] []) (m_Book_put : Meth K C_Book "put" f_Book_put)
    {f__law_house_by : Addr} {fd__law_house_by : FuncData} (g__law_house_by : FnOk P w K mg base CX0 2 f__law_house_by fd__law_house_by ["script"] (sp_houseby38 K)) (F__law_house_by : Fun K "_law_house_by" "_law_house_by" s__law_house_by f__law_house_by fd__law_house_by) (b__law_house_by : Binds K fd__law_house_by ["script"] []) (m__law_house_by : mg "_law_house_by" = some (.ref f__law_house_by))
    {f__law_answer : Addr} {fd__law_answer : FuncData} (g__law_answer : FnOk P w K mg base CX0 1 f__law_answer fd__law_answer ["house", "word"] (sp_answer38 K)) (F__law_answer : Fun K "_law_answer" "_law_answer" s__law_answer f__law_answer fd__law_answer) (b__law_answer : Binds K fd__law_answer ["house", "word"] []) (m__law_answer : mg "_law_answer" = some (.ref f__law_answer))
    {f__law_word_by : Addr} {fd__law_word_by : FuncData} (g__law_word_by : FnOk P w K mg base CX0 1 f__law_word_by fd__law_word_by ["cell", "letters"] (sp_word_by38 K)) (F__law_word_by : Fun K "_law_word_by" "_law_word_by" s__law_word_by f__law_word_by fd__law_word_by) (b__law_word_by : Binds K fd__law_word_by ["cell", "letters"] []) (m__law_word_by : mg "_law_word_by" = some (.ref f__law_word_by))
    {f__law_alike : Addr} {fd__law_alike : FuncData} (g__law_alike : FnOk P w K mg base CX0 1 f__law_alike fd__law_alike ["found", "due"] (sp_alike38 K)) (F__law_alike : Fun K "_law_alike" "_law_alike" s__law_alike f__law_alike fd__law_alike) (b__law_alike : Binds K fd__law_alike ["found", "due"] []) (m__law_alike : mg "_law_alike" = some (.ref f__law_alike))
    : FnOk P w K mg base CX0 8 f fd ["script"] (spLaw K) := by
  refine F.ok sc_law (fun vs H Q E h => ?_) (fun cdv A outer s H vs Q E hr h => ?_)
  . obtain ⟨a, ns, rfl, _⟩ := h; rfl
  . obtain ⟨a, ns, rfl, hs, hz, k⟩ := h
    have hl := line1000
    refine ⟨_, (pss_cons (ps_set (i := 1) sc_law.nd rfl (Or.inl rfl) (pe_call g__law_house_by (hr.mono (by decide)) rfl m__law_house_by F__law_house_by.kp b__law_house_by .nil pass0 (pa_cons (pv 0) pa_nil)))
      (pss_cons (ps_set (i := 2) sc_law.nd rfl (Or.inl rfl) (pe_make m_Book_init g_Book_init (hr.mono (by decide)) rfl W.m_Book b_Book_init .nil pass0 (pa_cons (pe_ix ix_tup (pv 1) pe_int (fun _ _ => rfl)) pa_nil)))
      (pss_cons (ps_set (i := 3) sc_law.nd rfl (Or.inl rfl) pe_dnewT)
      (pss_cons (ps_set (i := 4) sc_law.nd rfl (Or.inl rfl) pe_non)
      (pss_cons (ps_for PassesOwn.never rfl (pi_list (pe_slice sl_list (pv 0) (po_some pe_int) po_none)) (pg_name (i := 5) sc_law.nd rfl (Or.inl rfl))
      (pss_cons (ps_set (i := 6) sc_law.nd rfl (Or.inl rfl) (pe_call g__law_word_by (hr.mono (by decide)) rfl m__law_word_by F__law_word_by.kp b__law_word_by .nil pass0 (pa_cons (pe_op op_mod (pv 5) (pe_op op_pow pe_int pe_int)) (pa_cons (pe_ix ix_tup (pv 1) pe_int (fun _ _ => rfl)) pa_nil))))
      (pss_one (ps_if (pt_cmp (pc_dnotin (hu_of hr) (pv 6) (pv 3)))
      (pss_cons (ps_set (i := 7) sc_law.nd rfl (Or.inl rfl) (pe_call g__law_answer (hr.mono (by decide)) rfl m__law_answer F__law_answer.kp b__law_answer .nil pass0 (pa_cons (pv 1) (pa_cons (pv 6) pa_nil))))
      (pss_cut (ps_if (pt_cmpR op_eq (pe_op op_mod (pe_op op_fdiv (pv 5) pe_int) pe_int) pe_int (nomark _))
      (pss_cons (ps_set (i := 7) sc_law.nd rfl (Or.inl rfl) (pe_op op_mod (pe_op op_add (pe_op op_add (pv 7) pe_int) (pe_op op_mod (pe_op op_fdiv (pv 5) pe_int) pe_int)) pe_int))
      (pss_one (ps_if (pt_cmpR op_isN (pv 4) pe_non (nomark _))
      (pss_one (ps_set (i := 4) sc_law.nd rfl (Or.inl rfl) (pv 6)))
      pss_nil)))
      pss_nil)
      (pss_cons (ps_dput (hu_of hr) (pv 3) (pv 6) (pv 7) rfl)
      (pss_one (ps_expr (pe_meth (pv 2) W.cl_Book m_Book_put g_Book_put (hr.mono (by decide)) b_Book_put .nil pass0 (pa_cons (pv 6) (pa_cons (pv 7) pa_nil))))))))
      pss_nil))))
      (pss_cons (ps_set (i := 8) sc_law.nd rfl (Or.inl rfl) (pe_meth0 (pv 2) W.cl_Book m_Book_heard g_Book_heard (hr.mono (by decide)) b_Book_heard .nil pass0))
      (pss_cons (ps_if (PW.pt (pw_or (pt_not (pt_val (pe_call g__law_alike (hr.mono (by decide)) rfl m__law_alike F__law_alike.kp b__law_alike .nil pass0 (pa_cons (pe_call g_first_wrong (hr.mono (by decide)) rfl m_first_wrong F_first_wrong.kp b_first_wrong .nil pass0 (pa_cons (pv 2) (pa_cons (pv 1) pa_nil))) (pa_cons (pv 4) pa_nil))))) (pw_or1 (pt_cmpR (op_neD 8 (hu9 hr)) (pe_meth0 (pv 2) W.cl_Book m_Book_heard g_Book_heard (hr.mono (by decide)) b_Book_heard .nil pass0) (pv 8) (nomark _)))))
      (pss_one (ps_ret pe_bl))
      pss_nil)
      (pss_cons (ps_set (i := 9) sc_law.nd rfl (Or.inl rfl) (pe_op op_repT (pe_tup (pa_cons pe_int pa_nil)) pe_int))
      (pss_cons (ps_expr (pe_meth (pv 2) W.cl_Book m_Book_put g_Book_put (hr.mono (by decide)) b_Book_put .nil pass0 (pa_cons (pv 9) (pa_cons (pe_op op_mod (pe_op op_add (pe_call g__law_answer (hr.mono (by decide)) rfl m__law_answer F__law_answer.kp b__law_answer .nil pass0 (pa_cons (pv 1) (pa_cons (pv 9) pa_nil))) pe_int) pe_int) pa_nil))))
      (pss_cut (ps_if (pt_cmpR op_isN (pv 4) pe_non (nomark _))
      (pss_one (ps_set (i := 4) sc_law.nd rfl (Or.inl rfl) (pv 9)))
      pss_nil)
      (pss_one (ps_ret (pe_call g__law_alike (hr.mono (by decide)) rfl m__law_alike F__law_alike.kp b__law_alike .nil pass0 (pa_cons (pe_call g_first_wrong (hr.mono (by decide)) rfl m_first_wrong F_first_wrong.kp b_first_wrong .nil pass0 (pa_cons (pv 2) (pa_cons (pv 1) pa_nil))) (pa_cons (pv 4) pa_nil))))))))))))))), ?_⟩
    walk_at "rd"
    refine ⟨a, ns, rfl, hs, fun h L marks ways H1 s1 hh wf => ?_⟩
    have hL1 := wf.l1
    have hL6 := wf.l6
    have hn1 := wf.n1
    have hn40 := wf.n40
    obtain ⟨tm, tw, q1, q2, q3⟩ := id hh
    walk_at "rd"
    refine ⟨_, q1, _, rfl, fun p dx hp hdx hne => ⟨p, dx, L, rfl, upd_same, fun d H2 hd B2 kp => ?_⟩⟩
    have s12 : Same H1 H2 := fun b o e => kp b o (by rw [upd_ne (ne_of_none e hp), upd_ne (ne_of_none e hdx)]; exact e) (ne_of_none e hp)
    have hd1 : H1 d = none := (none_of_upd (none_of_upd hd).1).1
    have hB2 := B2.dc
    obtain ⟨dx2, hp2⟩ := B2.ob
    refine ⟨rfl, fun q hq => ⟨_, ((s1.trans s12).newT hq).seq hs, fun ls hls => ⟨⟨_, SqL.of upd_same⟩, ?_⟩⟩⟩
    rw [show cutV (ns.map V.int) (some 1) none = (ns.drop 1).map V.int from (cutV_drop' _ 1).trans (by rw [List.map_drop])]
    obtain ⟨cs, hcs, hcl⟩ : ∃ cs, ns.drop 1 = cs /\ cs.length <= 63 := ⟨_, rfl, by rw [List.length_drop]; omega⟩
    rw [hcs]
    have hqd : q ≠ d := fun z => by rw [z, hB2] at hq; cases hq
    have hqp : q ≠ p := fun z => by rw [z, hp2] at hq; cases hq
    have hq1 : H1 q = none := Same.none s12 hq
    have hls2 : H2 ls = none := (none_of_upd hls).1
    have hlq : ls ≠ q := (none_of_upd hls).2
    have hld : ls ≠ d := fun z => by rw [z, hB2] at hls2; cases hls2
    obtain ⟨Pv, hPv⟩ : ∃ Pv : Nat -> St -> Hp -> Prop, ∀ i σ' H', Pv i σ' H' ↔ (∃ (es : List (List Int × Int)) (kvs : List (List Key × V)) (dv : V) (o5 o6 o7 : Option V), Same H1 H' /\ H' ls = some (.lst (cs.map V.int)) /\ BookAt C_Book H' p d L es /\ H' q = some (.dT kvs) /\ KeysW (es.map (·.1)) kvs /\ es.length <= i /\ (∀ e ∈ es, isW L e.1 = true /\ e.1.length <= 5) /\ Due marks ways dv H' es /\
      σ' = [some (.ref a), some (.ref h), some (.ref p), some (.ref q), some dv, o5, o6, o7, none, none]) := ⟨_, fun _ _ _ => Iff.rfl⟩
    have s23 : Same H2 (upd (upd H2 q (.dT [])) ls (.lst (cs.map V.int))) := (Same.new hq).newT hls
    refine forL (xs := cs.map V.int) Pv ((hPv _ _ _).mpr ⟨[], [], .non, none, none, none, s12.trans s23, upd_same, B2.mono s23, Same.new hls _ _ upd_same, KeysW.nil, Nat.zero_le _, by simp, .inl ⟨rfl, by simp⟩, rfl⟩) (fun i σ3 H3 _ h3 => by obtain ⟨_, _, _, _, _, _, _, z, _⟩ := (hPv _ _ _).mp h3; exact SqL.of z) (fun i x σ3 H3 hx h3 => ?_) (fun σ3 H3 h3 => ?_)
    . obtain ⟨es, kvs, dv, o5, o6, o7, s3, hls3, B3, hq3, hk3, hel, hes, hdue, rfl⟩ := (hPv _ _ _).mp h3
      obtain ⟨c, hc, rfl⟩ := get_mapI hx
      have hil := (List.getElem?_eq_some_iff.mp hc).1
      obtain ⟨tm, tw, q1, q2, q3⟩ := hh.mono s3
      walk_at "rd"
      refine ⟨(show CPow 10 9 from ⟨by omega, by omega, by decide⟩), by decide, _, q1, _, rfl, _, L, rfl, hL1, fun t wd H4 s4 ht hw hwl => ⟨_, DGet.t (k := wkey wd) (s4 _ _ hq3) (by rw [wkey_kV]; exact ht), ?_⟩⟩
      have hk := hk3.some_iff wd
      have s34 := s3.trans s4
      by_cases hmem : wd ∈ es.map (·.1)
      . rw [decide_eq_true hmem] at hk
        rw [hk, if_neg (by decide)]
        exact (hPv _ _ _).mpr ⟨es, kvs, dv, _, _, _, s34, s4 _ _ hls3, B3.mono s4, s4 _ _ hq3, hk3, by omega, hes, hdue.mono fun t xs e => s4 _ _ e, rfl⟩
      rw [decide_eq_false hmem] at hk
      rw [hk, if_pos (by decide)]
      refine ⟨h, t, L, marks, ways, wd, rfl, hh.mono s34, wf, SqT.of ht, hw, ?_⟩
      have wk := walkR_in wf wd hw (show (0 : Int) <= 0 by omega) (by omega)
      have hmk := wf.mks _ (mkW_in wk.1 wk.2)
      have hmt : mkW marks (walkR ways 0 wd) = markW marks (walkW ways wd) := rfl
      rw [hmt] at hmk
      have due4 := hdue.mono (H' := H4) fun t xs e => s4 _ _ e
      obtain ⟨R7, hR7⟩ : ∃ R : St -> Hp -> Prop, ∀ σ' H', R σ' H' ↔ (H' = H4 /\ ∃ (m : Int) (dv' : V), 0 <= m /\ m <= 1000000000 /\ Due marks ways dv' H4 (es ++ [(wd, m)]) /\ σ' = [some (.ref a), some (.ref h), some (.ref p), some (.ref q), some dv', some (.int c), some (.ref t), some (.int m), none, none]) := ⟨_, fun _ _ => Iff.rfl⟩
      refine ⟨R7, ?_, fun σ5 H5 h5 => ?_⟩
      . walk_at "rd"
        refine ⟨⟨by decide, by decide⟩, by decide, ite2 (fun _ => ?_) (fun _ => ?_)⟩
        . have d0 := Int.emod_nonneg (c / 88) (show (1000000000 : Int) ≠ 0 by decide)
          have d1 := Int.emod_lt_of_pos (c / 88) (show (0 : Int) < 1000000000 by decide)
          refine ⟨⟨by decide, by decide⟩, by decide, by decide, ?_⟩
          generalize c / 88 % 1000000000 = dd at d0 d1 ⊢
          have hf : wrongT marks ways (wd, (markW marks (walkW ways wd) + 1 + dd) % 1000000001) = true := by
            refine decide_eq_true fun z => ?_
            have z : markW marks (walkW ways wd) = (markW marks (walkW ways wd) + 1 + dd) % 1000000001 := z
            omega
          have m0 := Int.emod_nonneg (markW marks (walkW ways wd) + 1 + dd) (show (1000000001 : Int) ≠ 0 by decide)
          have m1 := Int.emod_lt_of_pos (markW marks (walkW ways wd) + 1 + dd) (show (0 : Int) < 1000000001 by decide)
          generalize (markW marks (walkW ways wd) + 1 + dd) % 1000000001 = m at hf m0 m1 ⊢
          by_cases hdv : dv = .non
          . rw [if_pos hdv]
            exact (hR7 _ _).mpr ⟨rfl, m, .ref t, m0, by omega, Due.new (hdv ▸ due4) ht hf, rfl⟩
          . rw [if_neg hdv]
            exact (hR7 _ _).mpr ⟨rfl, m, dv, m0, by omega, due4.old hdv, rfl⟩
        . exact (hR7 _ _).mpr ⟨rfl, _, dv, hmk.1, hmk.2, due4.right (decide_eq_false fun z => z rfl), rfl⟩
      obtain ⟨rfl, m, dv', m0, m1, hdue', rfl⟩ := (hR7 _ _).mp h5
      have hkl : kvs.length <= 63 := by rw [hk3.len, List.length_map]; omega
      walk_at "rd"
      refine ⟨_, DPut.t (k := wkey wd) (s4 _ _ hq3) (by rw [wkey_kV]; exact ht) (by omega), ?_⟩
      obtain ⟨dx5, hp5⟩ := (B3.mono s4).ob
      have hd5 := (B3.mono s4).dc
      have ht5 : ∀ {t' : Addr} {xs : List V}, H5 t' = some (.tup xs) -> t' ≠ q /\ t' ≠ d := fun {t' xs} e => ⟨(fun z => by rw [z, s4 _ _ hq3] at e; cases e), fun z => by rw [z, hd5] at e; cases e⟩
      have B6 : BookAt C_Book (upd H5 q (.dT (putK kvs (wkey wd) (.int m)))) p d L es := ⟨⟨dx5, by rw [upd_ne (Ne.symm hqp)]; exact hp5⟩, by rw [upd_ne (Ne.symm hqd)]; exact hd5, B3.nd⟩
      refine ⟨_, _, B6.ob.choose_spec, bflds_no _ _ (by decide +kernel) (by decide +kernel), p, d, t, L, m, wd, es, rfl, B6, by rw [upd_ne (ht5 ht).1]; exact ht, hw, by omega, m0, m1, hmem, by omega, fun H7 B7 kp7 => ?_⟩
      have fr : ∀ b o, H5 b = some o -> b ≠ q -> b ≠ d -> H7 b = some o := fun b o e h1 h2 => kp7 b o (by rw [upd_ne h1]; exact e) h2
      refine (hPv _ _ _).mpr ⟨es ++ [(wd, m)], _, dv', _, _, _, fun b o e => fr b o (s34 b o e) (ne_of_none e hq1) (ne_of_none e hd1), fr _ _ (s4 _ _ hls3) hlq hld, B7, kp7 _ _ upd_same hqd, ?_, by simp; omega, fun e he => ?_, hdue'.mono fun t' xs e => fr _ _ e (ht5 e).1 (ht5 e).2, rfl⟩
      . have := hk3.put wd (.int m)
        rw [show ins (es.map (·.1)) wd = es.map (·.1) ++ [wd] from by unfold ins; rw [if_neg hmem]] at this
        rw [List.map_append]
        exact this
      . rcases List.mem_append.mp he with he | he
        . exact hes e he
        . rw [List.mem_singleton.mp he]; exact ⟨hw, hwl⟩
    . obtain ⟨es, kvs, dv, o5, o6, o7, s3, hls3, B3, hq3, hk3, hel, hes, hdue, rfl⟩ := (hPv _ _ _).mp h3
      have hes6 : ∀ e ∈ es, isW L e.1 = true /\ e.1.length <= 600 := fun e he => ⟨(hes e he).1, by have := (hes e he).2; omega⟩
      obtain ⟨dx3, hp3⟩ := id B3.ob
      rw [List.length_map] at hel
      walk_at "rd"
      refine ⟨_, _, hp3, bflds_no _ _ (by decide +kernel) (by decide +kernel), p, d, L, es, rfl, B3, fun e he => (hes6 e he).2, fun l1 rs1 H4 s4 hl1 hl1' T1 => ?_⟩
      walk_at "rd"
      refine due_alike (hh.mono (s3.trans s4)) wf (B3.mono s4) hes6 (hdue.mono fun t xs e => s4 _ _ e) fun H5 s5 => ⟨_, rfl, ?_⟩
      rw [if_neg (by decide)]
      have s35 := s4.trans s5
      refine ⟨_, _, s35 _ _ hp3, bflds_no _ _ (by decide +kernel) (by decide +kernel), p, d, L, es, rfl, B3.mono s35, fun e he => (hes6 e he).2, fun l2 rs2 H6 s6 hl2 hl2' T2 => ?_⟩
      have s36 := s35.trans s6
      have T1' := T1.mono (s5.trans s6)
      refine ⟨l2, rfl, _, T2.eq2 T1' (SqL.of hl2') (SqL.of ((s5.trans s6) _ _ hl1')), ?_⟩
      rw [if_neg (by decide)]
      refine ⟨by omega, fun p1 hpz => ⟨p1, 7, [.int 0], rfl, rfl, SqT.of upd_same, by simp, by omega, by omega, by simp; omega, fun z => by omega, fun _ tl htl => ?_⟩⟩
      rw [show (List.replicate (Int.toNat 7) [V.int 0]).flatten = (List.replicate 7 (0 : Int)).map V.int from rfl]
      have s67 := s36.trans ((Same.new (o := .tup [V.int 0]) hpz).newT (o := .tup ((List.replicate 7 (0 : Int)).map V.int)) htl)
      have htl7 : upd (upd H6 p1 (.tup [V.int 0])) tl (.tup ((List.replicate 7 (0 : Int)).map V.int)) tl = some (.tup ((List.replicate 7 (0 : Int)).map V.int)) := upd_same
      generalize upd (upd H6 p1 (.tup [V.int 0])) tl (.tup ((List.replicate 7 (0 : Int)).map V.int)) = H7 at s67 htl7 ⊢
      obtain ⟨wl, hwl, hwl7⟩ : ∃ wl, List.replicate 7 (0 : Int) = wl /\ wl.length = 7 := ⟨_, rfl, rfl⟩
      have hwW : isW L wl = true := isW_iff.mpr fun x hx => by
        rw [<- hwl] at hx
        rw [List.eq_of_mem_replicate hx]
        omega
      rw [hwl] at htl7
      have hh7 := hh.mono (s3.trans s67)
      have hnew : wl ∉ es.map (·.1) := fun z => by
        obtain ⟨e, he, ez⟩ := List.mem_map.mp z
        have := (hes e he).2
        rw [ez, hwl7] at this
        omega
      have wk := walkR_in wf wl hwW (show (0 : Int) <= 0 by omega) (by omega)
      have hmk := wf.mks _ (mkW_in wk.1 wk.2)
      have hmt : mkW marks (walkR ways 0 wl) = markW marks (walkW ways wl) := rfl
      rw [hmt] at hmk
      have hf : wrongT marks ways (wl, (markW marks (walkW ways wl) + 1) % 1000000001) = true := by
        refine decide_eq_true fun z => ?_
        have z : markW marks (walkW ways wl) = (markW marks (walkW ways wl) + 1) % 1000000001 := z
        omega
      refine ⟨_, _, s67 _ _ hp3, bflds_no _ _ (by decide +kernel) (by decide +kernel), h, tl, L, marks, ways, wl, rfl, hh7, wf, SqT.of htl7, hwW, _, rfl, by decide, p, d, tl, L, _, wl, es, rfl, B3.mono s67, htl7, hwW, by omega, by omega, by omega, hnew, by omega, fun H8 B8 kp8 => ?_⟩
      generalize (markW marks (walkW ways wl) + 1) % 1000000001 = ml at hf B8
      have hd7 := (B3.mono s67).dc
      have tk : ∀ t' xs, H7 t' = some (.tup xs) -> H8 t' = some (.tup xs) := fun t' xs e => kp8 _ _ e (fun z => by rw [z, hd7] at e; cases e)
      have s18 : Same H1 H8 := fun b o e => kp8 b o ((s3.trans s67) b o e) (ne_of_none e hd1)
      have due8 := (hdue.mono (H' := H7) fun t xs e => s67 _ _ e).mono tk
      have htl8 := tk _ _ htl7
      obtain ⟨R9, hR9⟩ : ∃ R : St -> Hp -> Prop, ∀ σ' H', R σ' H' ↔ (H' = H8 /\ ∃ dv' : V, Due marks ways dv' H8 (es ++ [(wl, ml)]) /\ σ' = [some (.ref a), some (.ref h), some (.ref p), some (.ref q), some dv', o5, o6, o7, some (.ref l1), some (.ref tl)]) := ⟨_, fun _ _ => Iff.rfl⟩
      refine ⟨R9, ?_, fun σ9 H9 h9 => ?_⟩
      . walk_at "rd"
        by_cases hdv : dv = .non
        . rw [if_pos hdv]
          exact (hR9 _ _).mpr ⟨rfl, .ref tl, Due.new (hdv ▸ due8) htl8 hf, rfl⟩
        . rw [if_neg hdv]
          exact (hR9 _ _).mpr ⟨rfl, dv, due8.old hdv, rfl⟩
      obtain ⟨rfl, dv', due9, rfl⟩ := (hR9 _ _).mp h9
      walk_at "rd"
      refine due_alike (hh.mono s18) wf B8 (fun e he => ?_) due9 fun H10 _ => k _
      rcases List.mem_append.mp he with he | he
      . exact hes6 e he
      . rw [List.mem_singleton.mp he]; exact ⟨hwW, by show wl.length <= 600; omega⟩
end
theorem all_mk {l : PySem.W.OpenLaw} {w : World} {K : PySem.W.Frag} {h : Heap} {mg : Str -> Option Value} {fa f_is_word f_check_word f_trail f_room_behind f_mark_behind f_first_unlike f_Book_heard f_first_wrong f_Book_init f_is_mark f_check_mark f_Book_check f_Book_put f__law_cell_at f__law_house_by f__law_answer f__law_word_by f__law_alike f_law : Addr} (X : K.In h) (G : h.Ns mainGlobals mg) (hfa : mg "law" = some (.ref fa))
    {C_AskError C_BadWord C_Book : Addr}
    {od_is_word an_is_word : Option Addr} {sl_is_word : Array (Option Value)} {oc_is_word kV_is_word dc_is_word pm_is_word cd_is_word ct_is_word : Value}
    {od_check_word an_check_word : Option Addr} {sl_check_word : Array (Option Value)} {oc_check_word kV_check_word dc_check_word pm_check_word cd_check_word ct_check_word : Value}
    {od_trail an_trail : Option Addr} {sl_trail : Array (Option Value)} {oc_trail kV_trail dc_trail pm_trail cd_trail ct_trail : Value}
    {od_room_behind an_room_behind : Option Addr} {sl_room_behind : Array (Option Value)} {oc_room_behind kV_room_behind dc_room_behind pm_room_behind cd_room_behind ct_room_behind : Value}
    {od_mark_behind an_mark_behind : Option Addr} {sl_mark_behind : Array (Option Value)} {oc_mark_behind kV_mark_behind dc_mark_behind pm_mark_behind cd_mark_behind ct_mark_behind : Value}
    {od_first_unlike an_first_unlike : Option Addr} {sl_first_unlike : Array (Option Value)} {oc_first_unlike kV_first_unlike dc_first_unlike pm_first_unlike cd_first_unlike ct_first_unlike : Value}
    {od_Book_heard an_Book_heard : Option Addr} {sl_Book_heard : Array (Option Value)} {oc_Book_heard kV_Book_heard dc_Book_heard pm_Book_heard cd_Book_heard ct_Book_heard : Value}
    {od_first_wrong an_first_wrong : Option Addr} {sl_first_wrong : Array (Option Value)} {oc_first_wrong kV_first_wrong dc_first_wrong pm_first_wrong cd_first_wrong ct_first_wrong : Value}
    {od_Book_init an_Book_init : Option Addr} {sl_Book_init : Array (Option Value)} {oc_Book_init kV_Book_init dc_Book_init pm_Book_init cd_Book_init ct_Book_init : Value}
    {od_is_mark an_is_mark : Option Addr} {sl_is_mark : Array (Option Value)} {oc_is_mark kV_is_mark dc_is_mark pm_is_mark cd_is_mark ct_is_mark : Value}
    {od_check_mark an_check_mark : Option Addr} {sl_check_mark : Array (Option Value)} {oc_check_mark kV_check_mark dc_check_mark pm_check_mark cd_check_mark ct_check_mark : Value}
    {od_Book_check an_Book_check : Option Addr} {sl_Book_check : Array (Option Value)} {oc_Book_check kV_Book_check dc_Book_check pm_Book_check cd_Book_check ct_Book_check : Value}
    {od_Book_put an_Book_put : Option Addr} {sl_Book_put : Array (Option Value)} {oc_Book_put kV_Book_put dc_Book_put pm_Book_put cd_Book_put ct_Book_put : Value}
    {od__law_cell_at an__law_cell_at : Option Addr} {sl__law_cell_at : Array (Option Value)} {oc__law_cell_at kV__law_cell_at dc__law_cell_at pm__law_cell_at cd__law_cell_at ct__law_cell_at : Value}
    {od__law_house_by an__law_house_by : Option Addr} {sl__law_house_by : Array (Option Value)} {oc__law_house_by kV__law_house_by dc__law_house_by pm__law_house_by cd__law_house_by ct__law_house_by : Value}
    {od__law_answer an__law_answer : Option Addr} {sl__law_answer : Array (Option Value)} {oc__law_answer kV__law_answer dc__law_answer pm__law_answer cd__law_answer ct__law_answer : Value}
    {od__law_word_by an__law_word_by : Option Addr} {sl__law_word_by : Array (Option Value)} {oc__law_word_by kV__law_word_by dc__law_word_by pm__law_word_by cd__law_word_by ct__law_word_by : Value}
    {od__law_alike an__law_alike : Option Addr} {sl__law_alike : Array (Option Value)} {oc__law_alike kV__law_alike dc__law_alike pm__law_alike cd__law_alike ct__law_alike : Value}
    {od_law an_law : Option Addr} {sl_law : Array (Option Value)} {oc_law kV_law dc_law pm_law cd_law ct_law : Value}
    (aC_Book : PySem.W.nsIn K mainGlobals "Book" = some (some (.ref C_Book)))
    (pg_Book : PySem.W.plainGet K C_Book Str.empty = true)
    (hd_Book : PySem.W.hasDictIn K C_Book = true)
    (po_Book : PySem.W.plainOver K C_Book = true)
    (sa_Book : PySem.W.findIn K (.ref C_Book) "__setattr__" = some (some (.builtin "object.__setattr__")))
    (mk_Book : PySem.W.makesIn K C_Book = true)
    (kc_Book : PySem.W.keepIn K (.ref C_Book) = true)
    (n_letters_Book : PySem.W.findIn K (.ref C_Book) "letters" = some none)
    (n_marks_Book : PySem.W.findIn K (.ref C_Book) "marks" = some none)
    {tk_MOST_MARK : Tok} (q_MOST_MARK : PySem.W.nsIn K mainGlobals "MOST_MARK" = some (some (.int 1000000000 tk_MOST_MARK)))
    (a_is_word : PySem.W.nsIn K mainGlobals "is_word" = some (some (.ref f_is_word)))
    (l_is_word : K.lookup f_is_word = some ⟨oc_is_word, od_is_word, .func (PySem.W.fnOf "is_word" "is_word" (defArgs s_is_word) (defBody s_is_word) (defScope s_is_word) .none kV_is_word dc_is_word pm_is_word an_is_word cd_is_word ct_is_word), sl_is_word⟩)
    (c_is_word : PySem.W.codeIn K cd_is_word "is_word" = true)
    (k_is_word : PySem.W.keepIn K (.ref f_is_word) = true)
    (a_check_word : PySem.W.nsIn K mainGlobals "check_word" = some (some (.ref f_check_word)))
    (l_check_word : K.lookup f_check_word = some ⟨oc_check_word, od_check_word, .func (PySem.W.fnOf "check_word" "check_word" (defArgs s_check_word) (defBody s_check_word) (defScope s_check_word) .none kV_check_word dc_check_word pm_check_word an_check_word cd_check_word ct_check_word), sl_check_word⟩)
    (c_check_word : PySem.W.codeIn K cd_check_word "check_word" = true)
    (k_check_word : PySem.W.keepIn K (.ref f_check_word) = true)
    (a_trail : PySem.W.nsIn K mainGlobals "trail" = some (some (.ref f_trail)))
    (l_trail : K.lookup f_trail = some ⟨oc_trail, od_trail, .func (PySem.W.fnOf "trail" "trail" (defArgs s_trail) (defBody s_trail) (defScope s_trail) .none kV_trail dc_trail pm_trail an_trail cd_trail ct_trail), sl_trail⟩)
    (c_trail : PySem.W.codeIn K cd_trail "trail" = true)
    (k_trail : PySem.W.keepIn K (.ref f_trail) = true)
    (a_room_behind : PySem.W.nsIn K mainGlobals "room_behind" = some (some (.ref f_room_behind)))
    (l_room_behind : K.lookup f_room_behind = some ⟨oc_room_behind, od_room_behind, .func (PySem.W.fnOf "room_behind" "room_behind" (defArgs s_room_behind) (defBody s_room_behind) (defScope s_room_behind) .none kV_room_behind dc_room_behind pm_room_behind an_room_behind cd_room_behind ct_room_behind), sl_room_behind⟩)
    (c_room_behind : PySem.W.codeIn K cd_room_behind "room_behind" = true)
    (k_room_behind : PySem.W.keepIn K (.ref f_room_behind) = true)
    (a_mark_behind : PySem.W.nsIn K mainGlobals "mark_behind" = some (some (.ref f_mark_behind)))
    (l_mark_behind : K.lookup f_mark_behind = some ⟨oc_mark_behind, od_mark_behind, .func (PySem.W.fnOf "mark_behind" "mark_behind" (defArgs s_mark_behind) (defBody s_mark_behind) (defScope s_mark_behind) .none kV_mark_behind dc_mark_behind pm_mark_behind an_mark_behind cd_mark_behind ct_mark_behind), sl_mark_behind⟩)
    (c_mark_behind : PySem.W.codeIn K cd_mark_behind "mark_behind" = true)
    (k_mark_behind : PySem.W.keepIn K (.ref f_mark_behind) = true)
    (a_first_unlike : PySem.W.nsIn K mainGlobals "first_unlike" = some (some (.ref f_first_unlike)))
    (l_first_unlike : K.lookup f_first_unlike = some ⟨oc_first_unlike, od_first_unlike, .func (PySem.W.fnOf "first_unlike" "first_unlike" (defArgs s_first_unlike) (defBody s_first_unlike) (defScope s_first_unlike) .none kV_first_unlike dc_first_unlike pm_first_unlike an_first_unlike cd_first_unlike ct_first_unlike), sl_first_unlike⟩)
    (c_first_unlike : PySem.W.codeIn K cd_first_unlike "first_unlike" = true)
    (k_first_unlike : PySem.W.keepIn K (.ref f_first_unlike) = true)
    (a_Book_heard : PySem.W.findIn K (.ref C_Book) "heard" = some (some (.ref f_Book_heard)))
    (i_Book_heard : PySem.W.isFn K (.ref f_Book_heard) = true)
    (l_Book_heard : K.lookup f_Book_heard = some ⟨oc_Book_heard, od_Book_heard, .func (PySem.W.fnOf "heard" "Book.heard" (defArgs s_Book_heard) (defBody s_Book_heard) (defScope s_Book_heard) .none kV_Book_heard dc_Book_heard pm_Book_heard an_Book_heard cd_Book_heard ct_Book_heard), sl_Book_heard⟩)
    (c_Book_heard : PySem.W.codeIn K cd_Book_heard "Book.heard" = true)
    (k_Book_heard : PySem.W.keepIn K (.ref f_Book_heard) = true)
    (a_first_wrong : PySem.W.nsIn K mainGlobals "first_wrong" = some (some (.ref f_first_wrong)))
    (l_first_wrong : K.lookup f_first_wrong = some ⟨oc_first_wrong, od_first_wrong, .func (PySem.W.fnOf "first_wrong" "first_wrong" (defArgs s_first_wrong) (defBody s_first_wrong) (defScope s_first_wrong) .none kV_first_wrong dc_first_wrong pm_first_wrong an_first_wrong cd_first_wrong ct_first_wrong), sl_first_wrong⟩)
    (c_first_wrong : PySem.W.codeIn K cd_first_wrong "first_wrong" = true)
    (k_first_wrong : PySem.W.keepIn K (.ref f_first_wrong) = true)
    (a_Book_init : PySem.W.findIn K (.ref C_Book) "__init__" = some (some (.ref f_Book_init)))
    (i_Book_init : PySem.W.isFn K (.ref f_Book_init) = true)
    (l_Book_init : K.lookup f_Book_init = some ⟨oc_Book_init, od_Book_init, .func (PySem.W.fnOf "__init__" "Book.__init__" (defArgs s_Book_init) (defBody s_Book_init) (defScope s_Book_init) .none kV_Book_init dc_Book_init pm_Book_init an_Book_init cd_Book_init ct_Book_init), sl_Book_init⟩)
    (c_Book_init : PySem.W.codeIn K cd_Book_init "Book.__init__" = true)
    (k_Book_init : PySem.W.keepIn K (.ref f_Book_init) = true)
    (a_is_mark : PySem.W.nsIn K mainGlobals "is_mark" = some (some (.ref f_is_mark)))
    (l_is_mark : K.lookup f_is_mark = some ⟨oc_is_mark, od_is_mark, .func (PySem.W.fnOf "is_mark" "is_mark" (defArgs s_is_mark) (defBody s_is_mark) (defScope s_is_mark) .none kV_is_mark dc_is_mark pm_is_mark an_is_mark cd_is_mark ct_is_mark), sl_is_mark⟩)
    (c_is_mark : PySem.W.codeIn K cd_is_mark "is_mark" = true)
    (k_is_mark : PySem.W.keepIn K (.ref f_is_mark) = true)
    (a_check_mark : PySem.W.nsIn K mainGlobals "check_mark" = some (some (.ref f_check_mark)))
    (l_check_mark : K.lookup f_check_mark = some ⟨oc_check_mark, od_check_mark, .func (PySem.W.fnOf "check_mark" "check_mark" (defArgs s_check_mark) (defBody s_check_mark) (defScope s_check_mark) .none kV_check_mark dc_check_mark pm_check_mark an_check_mark cd_check_mark ct_check_mark), sl_check_mark⟩)
    (c_check_mark : PySem.W.codeIn K cd_check_mark "check_mark" = true)
    (k_check_mark : PySem.W.keepIn K (.ref f_check_mark) = true)
    (a_Book_check : PySem.W.findIn K (.ref C_Book) "check" = some (some (.ref f_Book_check)))
    (i_Book_check : PySem.W.isFn K (.ref f_Book_check) = true)
    (l_Book_check : K.lookup f_Book_check = some ⟨oc_Book_check, od_Book_check, .func (PySem.W.fnOf "check" "Book.check" (defArgs s_Book_check) (defBody s_Book_check) (defScope s_Book_check) .none kV_Book_check dc_Book_check pm_Book_check an_Book_check cd_Book_check ct_Book_check), sl_Book_check⟩)
    (c_Book_check : PySem.W.codeIn K cd_Book_check "Book.check" = true)
    (k_Book_check : PySem.W.keepIn K (.ref f_Book_check) = true)
    (a_Book_put : PySem.W.findIn K (.ref C_Book) "put" = some (some (.ref f_Book_put)))
    (i_Book_put : PySem.W.isFn K (.ref f_Book_put) = true)
    (l_Book_put : K.lookup f_Book_put = some ⟨oc_Book_put, od_Book_put, .func (PySem.W.fnOf "put" "Book.put" (defArgs s_Book_put) (defBody s_Book_put) (defScope s_Book_put) .none kV_Book_put dc_Book_put pm_Book_put an_Book_put cd_Book_put ct_Book_put), sl_Book_put⟩)
    (c_Book_put : PySem.W.codeIn K cd_Book_put "Book.put" = true)
    (k_Book_put : PySem.W.keepIn K (.ref f_Book_put) = true)
    (a__law_cell_at : PySem.W.nsIn K mainGlobals "_law_cell_at" = some (some (.ref f__law_cell_at)))
    (l__law_cell_at : K.lookup f__law_cell_at = some ⟨oc__law_cell_at, od__law_cell_at, .func (PySem.W.fnOf "_law_cell_at" "_law_cell_at" (defArgs s__law_cell_at) (defBody s__law_cell_at) (defScope s__law_cell_at) .none kV__law_cell_at dc__law_cell_at pm__law_cell_at an__law_cell_at cd__law_cell_at ct__law_cell_at), sl__law_cell_at⟩)
    (c__law_cell_at : PySem.W.codeIn K cd__law_cell_at "_law_cell_at" = true)
    (k__law_cell_at : PySem.W.keepIn K (.ref f__law_cell_at) = true)
    (a__law_house_by : PySem.W.nsIn K mainGlobals "_law_house_by" = some (some (.ref f__law_house_by)))
    (l__law_house_by : K.lookup f__law_house_by = some ⟨oc__law_house_by, od__law_house_by, .func (PySem.W.fnOf "_law_house_by" "_law_house_by" (defArgs s__law_house_by) (defBody s__law_house_by) (defScope s__law_house_by) .none kV__law_house_by dc__law_house_by pm__law_house_by an__law_house_by cd__law_house_by ct__law_house_by), sl__law_house_by⟩)
    (c__law_house_by : PySem.W.codeIn K cd__law_house_by "_law_house_by" = true)
    (k__law_house_by : PySem.W.keepIn K (.ref f__law_house_by) = true)
    (a__law_answer : PySem.W.nsIn K mainGlobals "_law_answer" = some (some (.ref f__law_answer)))
    (l__law_answer : K.lookup f__law_answer = some ⟨oc__law_answer, od__law_answer, .func (PySem.W.fnOf "_law_answer" "_law_answer" (defArgs s__law_answer) (defBody s__law_answer) (defScope s__law_answer) .none kV__law_answer dc__law_answer pm__law_answer an__law_answer cd__law_answer ct__law_answer), sl__law_answer⟩)
    (c__law_answer : PySem.W.codeIn K cd__law_answer "_law_answer" = true)
    (k__law_answer : PySem.W.keepIn K (.ref f__law_answer) = true)
    (a__law_word_by : PySem.W.nsIn K mainGlobals "_law_word_by" = some (some (.ref f__law_word_by)))
    (l__law_word_by : K.lookup f__law_word_by = some ⟨oc__law_word_by, od__law_word_by, .func (PySem.W.fnOf "_law_word_by" "_law_word_by" (defArgs s__law_word_by) (defBody s__law_word_by) (defScope s__law_word_by) .none kV__law_word_by dc__law_word_by pm__law_word_by an__law_word_by cd__law_word_by ct__law_word_by), sl__law_word_by⟩)
    (c__law_word_by : PySem.W.codeIn K cd__law_word_by "_law_word_by" = true)
    (k__law_word_by : PySem.W.keepIn K (.ref f__law_word_by) = true)
    (a__law_alike : PySem.W.nsIn K mainGlobals "_law_alike" = some (some (.ref f__law_alike)))
    (l__law_alike : K.lookup f__law_alike = some ⟨oc__law_alike, od__law_alike, .func (PySem.W.fnOf "_law_alike" "_law_alike" (defArgs s__law_alike) (defBody s__law_alike) (defScope s__law_alike) .none kV__law_alike dc__law_alike pm__law_alike an__law_alike cd__law_alike ct__law_alike), sl__law_alike⟩)
    (c__law_alike : PySem.W.codeIn K cd__law_alike "_law_alike" = true)
    (k__law_alike : PySem.W.keepIn K (.ref f__law_alike) = true)
    (a_law : PySem.W.nsIn K mainGlobals "law" = some (some (.ref f_law)))
    (l_law : K.lookup f_law = some ⟨oc_law, od_law, .func (PySem.W.fnOf "law" "law" (defArgs s_law) (defBody s_law) (defScope s_law) .none kV_law dc_law pm_law an_law cd_law ct_law), sl_law⟩)
    (c_law : PySem.W.codeIn K cd_law "law" = true)
    (k_law : PySem.W.keepIn K (.ref f_law) = true)
    (z_all : PySem.W.nsIn K mainGlobals "all" = some none)
    (z_isinstance : PySem.W.nsIn K mainGlobals "isinstance" = some none)
    (z_len : PySem.W.nsIn K mainGlobals "len" = some none)
    (z_list : PySem.W.nsIn K mainGlobals "list" = some none)
    (z_range : PySem.W.nsIn K mainGlobals "range" = some none)
    (z_tuple : PySem.W.nsIn K mainGlobals "tuple" = some none)
    (m_AskError : PySem.W.nsIn K mainGlobals "AskError" = some (some (.ref C_AskError)))
    (m_BadWord : PySem.W.nsIn K mainGlobals "BadWord" = some (some (.ref C_BadWord)))
    (x_BadWord : PySem.W.excIn K C_BadWord bmV "ValueError.__new__" = true)
    (ga_BadWord : PySem.W.findIn K (.ref C_BadWord) "__getattribute__" = some (some (.builtin "BaseException.__getattribute__")))
    (hk_BadWord : PySem.W.findIn K (.ref C_BadWord) "__getattr__" = some none)
    {cd_BadWord : ClassData}
    (cl_BadWord : PySem.W.clsIn K C_BadWord = some cd_BadWord)
    (ca_BadWord : PySem.W.findIn K (.ref C_BadWord) "__class__" = some (some (.builtin "object.__class__")))
    (mo_BadWord : PySem.W.mroIn K C_BadWord (.type "object") = some true)
    (mb_BadWord : PySem.W.mroIn K C_BadWord (.type "BaseException") = some true)
    (e_BadWord : PySem.W.exmOne K (.ref C_BadWord) (.ref C_AskError) = some true)
    (v_BadWord : PySem.W.kitOne K (.ref C_BadWord) (.type "ValueError") = some true)
    (k_BadWord_AskError : PySem.W.kitOne K (.ref C_BadWord) (.ref C_AskError) = some true)
    (k_BadWord_BadWord : PySem.W.kitOne K (.ref C_BadWord) (.ref C_BadWord) = some true)
    (gs : PySem.W.specialIn K (.builtin "object.__class__") "__get__" = some (some (.builtin "getset_descriptor.__get__")))
    (tk : PySem.W.takesIn K (.builtin "object.__class__") = some true)
    : ∃ fd : FuncData, (∀ (s : Shared) (v : Value), BindsTo s fd ⟨[v], []⟩ [("script", v)]) /\ ∀ base : Heap, K.In base -> base.Ns mainGlobals mg -> FnOk l.prog w K mg base CX0 8 fa fd ["script"] (spLaw K) := by
  have e := hfa.symm.trans (PySem.W.mg_of X G a_law)
  cases e
  have T : Txt mg := ⟨PySem.W.mg_none_of X G z_all, PySem.W.mg_none_of X G z_isinstance, PySem.W.mg_none_of X G z_len, PySem.W.mg_none_of X G z_list, PySem.W.mg_none_of X G z_range, PySem.W.mg_none_of X G z_tuple⟩
  have Z : Exs K mg C_AskError C_BadWord := ⟨PySem.W.mg_of X G m_AskError, PySem.W.mg_of X G m_BadWord, x_BadWord, ⟨ga_BadWord, hk_BadWord, by rw [cl_BadWord]; rfl, ca_BadWord, gs, tk, mo_BadWord, mb_BadWord⟩, e_BadWord, v_BadWord, k_BadWord_AskError, k_BadWord_BadWord⟩
  have W : Own K mg C_Book := ⟨PySem.W.mg_of X G aC_Book, ⟨pg_Book, hd_Book, po_Book, sa_Book⟩, n_letters_Book, n_marks_Book, ⟨_, PySem.W.mg_of X G q_MOST_MARK⟩⟩
  have F_is_word := fun_mk (st := s_is_word) l_is_word c_is_word k_is_word
  have b_is_word := F_is_word.binds (ps := ["letters", "word"]) fun _ _ _ _ _ _ us hl => match us, hl with | [_, _], _ => rfl
  have m_is_word := PySem.W.mg_of X G a_is_word
  have F_check_word := fun_mk (st := s_check_word) l_check_word c_check_word k_check_word
  have b_check_word := F_check_word.binds (ps := ["letters", "word"]) fun _ _ _ _ _ _ us hl => match us, hl with | [_, _], _ => rfl
  have m_check_word := PySem.W.mg_of X G a_check_word
  have F_trail := fun_mk (st := s_trail) l_trail c_trail k_trail
  have b_trail := F_trail.binds (ps := ["house", "word"]) fun _ _ _ _ _ _ us hl => match us, hl with | [_, _], _ => rfl
  have m_trail := PySem.W.mg_of X G a_trail
  have F_room_behind := fun_mk (st := s_room_behind) l_room_behind c_room_behind k_room_behind
  have b_room_behind := F_room_behind.binds (ps := ["house", "word"]) fun _ _ _ _ _ _ us hl => match us, hl with | [_, _], _ => rfl
  have m_room_behind := PySem.W.mg_of X G a_room_behind
  have F_mark_behind := fun_mk (st := s_mark_behind) l_mark_behind c_mark_behind k_mark_behind
  have b_mark_behind := F_mark_behind.binds (ps := ["house", "word"]) fun _ _ _ _ _ _ us hl => match us, hl with | [_, _], _ => rfl
  have m_mark_behind := PySem.W.mg_of X G a_mark_behind
  have F_first_unlike := fun_mk (st := s_first_unlike) l_first_unlike c_first_unlike k_first_unlike
  have b_first_unlike := F_first_unlike.binds (ps := ["heard", "answer", "house"]) fun _ _ _ _ _ _ us hl => match us, hl with | [_, _, _], _ => rfl
  have m_first_unlike := PySem.W.mg_of X G a_first_unlike
  have F_Book_heard := fun_mk (st := s_Book_heard) l_Book_heard c_Book_heard k_Book_heard
  have b_Book_heard := F_Book_heard.binds (ps := ["self"]) fun _ _ _ _ _ _ us hl => match us, hl with | [_], _ => rfl
  have m_Book_heard : Meth K C_Book "heard" f_Book_heard := ⟨a_Book_heard, i_Book_heard, k_Book_heard⟩
  have F_first_wrong := fun_mk (st := s_first_wrong) l_first_wrong c_first_wrong k_first_wrong
  have b_first_wrong := F_first_wrong.binds (ps := ["book", "house"]) fun _ _ _ _ _ _ us hl => match us, hl with | [_, _], _ => rfl
  have m_first_wrong := PySem.W.mg_of X G a_first_wrong
  have F_Book_init := fun_mk (st := s_Book_init) l_Book_init c_Book_init k_Book_init
  have b_Book_init := F_Book_init.binds (ps := ["self", "letters"]) fun _ _ _ _ _ _ us hl => match us, hl with | [_, _], _ => rfl
  have m_Book_init : Mk K C_Book f_Book_init := ⟨mk_Book, a_Book_init, i_Book_init, kc_Book⟩
  have F_is_mark := fun_mk (st := s_is_mark) l_is_mark c_is_mark k_is_mark
  have b_is_mark := F_is_mark.binds (ps := ["number"]) fun _ _ _ _ _ _ us hl => match us, hl with | [_], _ => rfl
  have m_is_mark := PySem.W.mg_of X G a_is_mark
  have F_check_mark := fun_mk (st := s_check_mark) l_check_mark c_check_mark k_check_mark
  have b_check_mark := F_check_mark.binds (ps := ["mark"]) fun _ _ _ _ _ _ us hl => match us, hl with | [_], _ => rfl
  have m_check_mark := PySem.W.mg_of X G a_check_mark
  have F_Book_check := fun_mk (st := s_Book_check) l_Book_check c_Book_check k_Book_check
  have b_Book_check := F_Book_check.binds (ps := ["self", "word", "mark"]) fun _ _ _ _ _ _ us hl => match us, hl with | [_, _, _], _ => rfl
  have m_Book_check : Meth K C_Book "check" f_Book_check := ⟨a_Book_check, i_Book_check, k_Book_check⟩
  have F_Book_put := fun_mk (st := s_Book_put) l_Book_put c_Book_put k_Book_put
  have b_Book_put := F_Book_put.binds (ps := ["self", "word", "mark"]) fun _ _ _ _ _ _ us hl => match us, hl with | [_, _, _], _ => rfl
  have m_Book_put : Meth K C_Book "put" f_Book_put := ⟨a_Book_put, i_Book_put, k_Book_put⟩
  have F__law_cell_at := fun_mk (st := s__law_cell_at) l__law_cell_at c__law_cell_at k__law_cell_at
  have b__law_cell_at := F__law_cell_at.binds (ps := ["script", "k"]) fun _ _ _ _ _ _ us hl => match us, hl with | [_, _], _ => rfl
  have m__law_cell_at := PySem.W.mg_of X G a__law_cell_at
  have F__law_house_by := fun_mk (st := s__law_house_by) l__law_house_by c__law_house_by k__law_house_by
  have b__law_house_by := F__law_house_by.binds (ps := ["script"]) fun _ _ _ _ _ _ us hl => match us, hl with | [_], _ => rfl
  have m__law_house_by := PySem.W.mg_of X G a__law_house_by
  have F__law_answer := fun_mk (st := s__law_answer) l__law_answer c__law_answer k__law_answer
  have b__law_answer := F__law_answer.binds (ps := ["house", "word"]) fun _ _ _ _ _ _ us hl => match us, hl with | [_, _], _ => rfl
  have m__law_answer := PySem.W.mg_of X G a__law_answer
  have F__law_word_by := fun_mk (st := s__law_word_by) l__law_word_by c__law_word_by k__law_word_by
  have b__law_word_by := F__law_word_by.binds (ps := ["cell", "letters"]) fun _ _ _ _ _ _ us hl => match us, hl with | [_, _], _ => rfl
  have m__law_word_by := PySem.W.mg_of X G a__law_word_by
  have F__law_alike := fun_mk (st := s__law_alike) l__law_alike c__law_alike k__law_alike
  have b__law_alike := F__law_alike.binds (ps := ["found", "due"]) fun _ _ _ _ _ _ us hl => match us, hl with | [_, _], _ => rfl
  have m__law_alike := PySem.W.mg_of X G a__law_alike
  have F_law := fun_mk (st := s_law) l_law c_law k_law
  have b_law := F_law.binds (ps := ["script"]) fun _ _ _ _ _ _ us hl => match us, hl with | [_], _ => rfl
  have m_law := PySem.W.mg_of X G a_law
  refine ⟨PySem.W.fnOf "law" "law" (defArgs s_law) (defBody s_law) (defScope s_law) .none kV_law dc_law pm_law an_law cd_law ct_law, fun s v => .of_eq rfl, fun base _ _ => ?_⟩
  have g_is_word := ok_is_word (P := l.prog) (w := w) (base := base) F_is_word T W Z 
  have g_check_word := ok_check_word (P := l.prog) (w := w) (base := base) F_check_word T W Z g_is_word F_is_word b_is_word m_is_word
  have g_trail := ok_trail (P := l.prog) (w := w) (base := base) F_trail T W Z g_check_word F_check_word b_check_word m_check_word
  have g_room_behind := ok_room_behind (P := l.prog) (w := w) (base := base) F_room_behind T W Z g_trail F_trail b_trail m_trail
  have g_mark_behind := ok_mark_behind (P := l.prog) (w := w) (base := base) F_mark_behind T W Z g_room_behind F_room_behind b_room_behind m_room_behind
  have g_first_unlike := ok_first_unlike (P := l.prog) (w := w) (base := base) F_first_unlike T W Z g_mark_behind F_mark_behind b_mark_behind m_mark_behind
  have g_Book_heard := ok_Book_heard (P := l.prog) (w := w) (base := base) F_Book_heard T W Z 
  have g_first_wrong := ok_first_wrong (P := l.prog) (w := w) (base := base) F_first_wrong T W Z g_mark_behind F_mark_behind b_mark_behind m_mark_behind g_first_unlike F_first_unlike b_first_unlike m_first_unlike g_Book_heard F_Book_heard b_Book_heard m_Book_heard
  have g_Book_init := ok_Book_init (P := l.prog) (w := w) (base := base) F_Book_init T W Z 
  have g_is_mark := ok_is_mark (P := l.prog) (w := w) (base := base) F_is_mark T W Z 
  have g_check_mark := ok_check_mark (P := l.prog) (w := w) (base := base) F_check_mark T W Z g_is_mark F_is_mark b_is_mark m_is_mark
  have g_Book_check := ok_Book_check (P := l.prog) (w := w) (base := base) F_Book_check T W Z g_check_word F_check_word b_check_word m_check_word g_check_mark F_check_mark b_check_mark m_check_mark
  have g_Book_put := ok_Book_put (P := l.prog) (w := w) (base := base) F_Book_put T W Z g_Book_check F_Book_check b_Book_check m_Book_check
  have g__law_cell_at := ok__law_cell_at (P := l.prog) (w := w) (base := base) F__law_cell_at T W Z 
  have g__law_house_by := ok__law_house_by (P := l.prog) (w := w) (base := base) F__law_house_by T W Z g__law_cell_at F__law_cell_at b__law_cell_at m__law_cell_at
  have g__law_answer := ok__law_answer (P := l.prog) (w := w) (base := base) F__law_answer T W Z 
  have g__law_word_by := ok__law_word_by (P := l.prog) (w := w) (base := base) F__law_word_by T W Z 
  have g__law_alike := ok__law_alike (P := l.prog) (w := w) (base := base) F__law_alike T W Z 
  have g_law := ok_law (P := l.prog) (w := w) (base := base) F_law T W Z g_Book_heard F_Book_heard b_Book_heard m_Book_heard g_first_wrong F_first_wrong b_first_wrong m_first_wrong g_Book_init F_Book_init b_Book_init m_Book_init g_Book_put F_Book_put b_Book_put m_Book_put g__law_house_by F__law_house_by b__law_house_by m__law_house_by g__law_answer F__law_answer b__law_answer m__law_answer g__law_word_by F__law_word_by b__law_word_by m__law_word_by g__law_alike F__law_alike b__law_alike m__law_alike
  exact g_law
theorem walk {l : PySem.W.OpenLaw} {q : Program} {loose : List Str} {XP : (Str -> Option Value) -> Heap -> Prop} {YP : World -> Heap -> Prop} {d : DefRec} {K : Params -> PySem.W.Frag} (hn : l.most = some 63) (hdf : d.params.defaults = [])
    (hY : ∀ (w : World) (h : Heap), YP w h -> (K w.params).In h)
    (F : ∀ (w : World) (mg : Str -> Option Value) (fa : Addr) (h : Heap), (K w.params).In h -> h.Ns mainGlobals mg -> mg d.name = some (.ref fa) ->
      ∃ fd : FuncData, (∀ (s : Shared) (u : Value), BindsTo s fd ⟨[u], []⟩ [("script", u)]) /\ ∀ base : Heap, (K w.params).In base -> base.Ns mainGlobals mg -> FnOk l.prog w (K w.params) mg base CX0 8 fa fd ["script"] (spLaw (K w.params))) :
    PySem.W.WalkO q loose XP YP l.row.toRowW d [] (fun f vs => PySem.call f vs) :=
  L2.walk_of (n := 63) (k := 8) (x := "script") (CX := fun _ => CX0) (sp := fun w => spLaw (K w.params)) hn (by decide) hdf ⟨rfl, by decide, by decide⟩ hY F (fun _ _ a ns hl _ hS => ⟨a, ns, rfl, hS, hl, fun _ => rfl⟩) fun _ _ _ _ _ z => z
end Mine
open PySem PySem.W PyProof.Rows
set_option maxRecDepth 100000 in
set_option maxHeartbeats 0 in
theorem PySem.Challenge.cw_guessroom_k38_the_first_wrong_holds : PySem.Challenge.rw_guessroom_k38_the_first_wrong.Holds := by
  w_on; o_law; k_head; (case hw => w_witness2)
  k_fill
  refine Mine.walk (l := PySem.Challenge.rw_guessroom_k38_the_first_wrong) rfl rfl (fun w h Y => PySem.W.kIn_of Y) ?F
  case F =>
    intro w mg fa h KX G hmg
    refine' Mine.all_mk KX G hmg ?aC_Book ?pg_Book ?hd_Book ?po_Book ?sa_Book ?mk_Book ?kc_Book ?n_letters_Book ?n_marks_Book ?q_MOST_MARK ?a_is_word ?l_is_word ?c_is_word ?k_is_word ?a_check_word ?l_check_word ?c_check_word ?k_check_word ?a_trail ?l_trail ?c_trail ?k_trail ?a_room_behind ?l_room_behind ?c_room_behind ?k_room_behind ?a_mark_behind ?l_mark_behind ?c_mark_behind ?k_mark_behind ?a_first_unlike ?l_first_unlike ?c_first_unlike ?k_first_unlike ?a_Book_heard ?i_Book_heard ?l_Book_heard ?c_Book_heard ?k_Book_heard ?a_first_wrong ?l_first_wrong ?c_first_wrong ?k_first_wrong ?a_Book_init ?i_Book_init ?l_Book_init ?c_Book_init ?k_Book_init ?a_is_mark ?l_is_mark ?c_is_mark ?k_is_mark ?a_check_mark ?l_check_mark ?c_check_mark ?k_check_mark ?a_Book_check ?i_Book_check ?l_Book_check ?c_Book_check ?k_Book_check ?a_Book_put ?i_Book_put ?l_Book_put ?c_Book_put ?k_Book_put ?a__law_cell_at ?l__law_cell_at ?c__law_cell_at ?k__law_cell_at ?a__law_house_by ?l__law_house_by ?c__law_house_by ?k__law_house_by ?a__law_answer ?l__law_answer ?c__law_answer ?k__law_answer ?a__law_word_by ?l__law_word_by ?c__law_word_by ?k__law_word_by ?a__law_alike ?l__law_alike ?c__law_alike ?k__law_alike ?a_law ?l_law ?c_law ?k_law ?z_all ?z_isinstance ?z_len ?z_list ?z_range ?z_tuple ?m_AskError ?m_BadWord ?x_BadWord ?ga_BadWord ?hk_BadWord ?cl_BadWord ?ca_BadWord ?mo_BadWord ?mb_BadWord ?e_BadWord ?v_BadWord ?k_BadWord_AskError ?k_BadWord_BadWord ?gs ?tk
    (case aC_Book => k_is)
    (case pg_Book => k_is)
    (case hd_Book => k_is)
    (case po_Book => k_is)
    (case sa_Book => k_is)
    (case mk_Book => k_is)
    (case kc_Book => k_is)
    (case n_letters_Book => k_is)
    (case n_marks_Book => k_is)
    (case q_MOST_MARK => k_is)
    (case a_is_word => k_is)
    (case l_is_word => k_is)
    (case c_is_word => k_is)
    (case k_is_word => k_is)
    (case a_check_word => k_is)
    (case l_check_word => k_is)
    (case c_check_word => k_is)
    (case k_check_word => k_is)
    (case a_trail => k_is)
    (case l_trail => k_is)
    (case c_trail => k_is)
    (case k_trail => k_is)
    (case a_room_behind => k_is)
    (case l_room_behind => k_is)
    (case c_room_behind => k_is)
    (case k_room_behind => k_is)
    (case a_mark_behind => k_is)
    (case l_mark_behind => k_is)
    (case c_mark_behind => k_is)
    (case k_mark_behind => k_is)
    (case a_first_unlike => k_is)
    (case l_first_unlike => k_is)
    (case c_first_unlike => k_is)
    (case k_first_unlike => k_is)
    (case a_Book_heard => k_is)
    (case i_Book_heard => k_is)
    (case l_Book_heard => k_is)
    (case c_Book_heard => k_is)
    (case k_Book_heard => k_is)
    (case a_first_wrong => k_is)
    (case l_first_wrong => k_is)
    (case c_first_wrong => k_is)
    (case k_first_wrong => k_is)
    (case a_Book_init => k_is)
    (case i_Book_init => k_is)
    (case l_Book_init => k_is)
    (case c_Book_init => k_is)
    (case k_Book_init => k_is)
    (case a_is_mark => k_is)
    (case l_is_mark => k_is)
    (case c_is_mark => k_is)
    (case k_is_mark => k_is)
    (case a_check_mark => k_is)
    (case l_check_mark => k_is)
    (case c_check_mark => k_is)
    (case k_check_mark => k_is)
    (case a_Book_check => k_is)
    (case i_Book_check => k_is)
    (case l_Book_check => k_is)
    (case c_Book_check => k_is)
    (case k_Book_check => k_is)
    (case a_Book_put => k_is)
    (case i_Book_put => k_is)
    (case l_Book_put => k_is)
    (case c_Book_put => k_is)
    (case k_Book_put => k_is)
    (case a__law_cell_at => k_is)
    (case l__law_cell_at => k_is)
    (case c__law_cell_at => k_is)
    (case k__law_cell_at => k_is)
    (case a__law_house_by => k_is)
    (case l__law_house_by => k_is)
    (case c__law_house_by => k_is)
    (case k__law_house_by => k_is)
    (case a__law_answer => k_is)
    (case l__law_answer => k_is)
    (case c__law_answer => k_is)
    (case k__law_answer => k_is)
    (case a__law_word_by => k_is)
    (case l__law_word_by => k_is)
    (case c__law_word_by => k_is)
    (case k__law_word_by => k_is)
    (case a__law_alike => k_is)
    (case l__law_alike => k_is)
    (case c__law_alike => k_is)
    (case k__law_alike => k_is)
    (case a_law => k_is)
    (case l_law => k_is)
    (case c_law => k_is)
    (case k_law => k_is)
    (case z_all => k_is)
    (case z_isinstance => k_is)
    (case z_len => k_is)
    (case z_list => k_is)
    (case z_range => k_is)
    (case z_tuple => k_is)
    (case m_AskError => k_is)
    (case m_BadWord => k_is)
    (case x_BadWord => k_exc)
    (case ga_BadWord => k_is)
    (case hk_BadWord => k_is)
    (case cl_BadWord => k_is)
    (case ca_BadWord => k_is)
    (case mo_BadWord => k_is)
    (case mb_BadWord => k_is)
    (case e_BadWord => kts_exm)
    (case v_BadWord => kit_is)
    (case k_BadWord_AskError => kit_is)
    (case k_BadWord_BadWord => kit_is)
    (case gs => k_is)
    (case tk => k_is)
