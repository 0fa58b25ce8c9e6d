import PyProof.Rows.All
import Wide.All
import OpenK.AllK
import Wide.FinOn
import Lean
import PyProof.EqAt
import PyProof.EqKinds
import PyProof.TupleCall
import KE.KRevIter
import PyProof.ListRange
import PyProof.TupleOfGen
import PyProof.Draws
import PyProof.EnumMake
import PyProof.EnumFor
import PyProof.NeKinds
import KE.KDictList
import PyProof.Rows.TupDisplay
import PyProof.ZipIter
import PyProof.Rows.ZipGen
import KE.KItemsList
import PyProof.Rows.SumAny
import PySem.Challenge.RW_guessroom_k79_rows_taken
set_option Elab.async false
set_option linter.all false
set_option maxRecDepth 100000
namespace L2
open PySem PySem.Spec PyProof.Rows
abbrev Key := Sum Int Str
def keyIs : Key -> Value -> Bool
  | .inl k, v => Value.isInt k v
  | .inr x, v => Value.isStrOf x v
def keyH (w : World) : Key -> Int
  | .inl k => hashInt k
  | .inr x => hashStr w x
theorem keyIs_shape : ∀ {k : Key} {v : Value}, keyIs k v = true -> (∃ i t, k = Sum.inl i /\ v = Value.int i t) \/ (∃ x t, k = Sum.inr x /\ v = Value.str x t)
  | .inl i, v, h => by
    obtain ⟨t, e⟩ := Value.isInt_shape (k := i) (v := v) h
    exact .inl ⟨i, t, rfl, e⟩
  | .inr x, v, h => by
    obtain ⟨t, e⟩ := Value.isStrOf_shape (x := x) (v := v) h
    exact .inr ⟨x, t, rfl, e⟩
theorem key_ll (a b : Int) : decide ((Sum.inl a : Key) = Sum.inl b) = (a == b) := by
  by_cases e : a = b
  . subst e; simp
  . have h : ¬ (Sum.inl a : Key) = Sum.inl b := fun q => e (Sum.inl.inj q)
    rw [decide_eq_false h]
    exact (beq_eq_false_iff_ne.mpr e).symm
theorem key_rr (a b : Str) : decide ((Sum.inr a : Key) = Sum.inr b) = decide (a = b) := by
  by_cases e : a = b
  . subst e; simp
  . have h : ¬ (Sum.inr a : Key) = Sum.inr b := fun q => e (Sum.inr.inj q)
    rw [decide_eq_false h, decide_eq_false e]
theorem key_lr (a : Int) (b : Str) : decide ((Sum.inl a : Key) = Sum.inr b) = false := decide_eq_false (fun q => nomatch q)
theorem key_rl (a : Str) (b : Int) : decide ((Sum.inr a : Key) = Sum.inl b) = false := decide_eq_false (fun q => nomatch q)
def mixKind (prog : Program) (w : World) : PySem.KeyKind prog w Key where
  is := keyIs
  hash := keyH w
  inj := fun v a b ha hb => by
    rcases keyIs_shape ha with ⟨i, t, rfl, rfl⟩ | ⟨x, t, rfl, rfl⟩
    . rcases keyIs_shape hb with ⟨j, u, rfl, e⟩ | ⟨y, u, rfl, e⟩
      . injection e with e1 _; rw [e1]
      . exact nomatch e
    . rcases keyIs_shape hb with ⟨j, u, rfl, e⟩ | ⟨y, u, rfl, e⟩
      . exact nomatch e
      . injection e with e1 _; rw [e1]
  byValue := fun k v h => by
    rcases keyIs_shape h with ⟨i, t, rfl, rfl⟩ | ⟨x, t, rfl, rfl⟩ <;> rfl
  pyHash := fun hv h => by
    rcases keyIs_shape hv with ⟨i, t, rfl, rfl⟩ | ⟨x, t, rfl, rfl⟩
    . exact wpAny_pyHash_int h
    . exact wpAny_pyHash_str h
  eqBool := fun hu hv h => by
    rcases keyIs_shape hu with ⟨i, t, rfl, rfl⟩ | ⟨x, t, rfl, rfl⟩
    . rcases keyIs_shape hv with ⟨j, u, rfl, rfl⟩ | ⟨y, u, rfl, rfl⟩
      . rw [key_ll] at h; exact wpAny_eqBool_int h
      . rw [key_lr] at h; exact SeqAt.EqAt.int_str i t y u _ _ _ _ h
    . rcases keyIs_shape hv with ⟨j, u, rfl, rfl⟩ | ⟨y, u, rfl, rfl⟩
      . rw [key_rl] at h; exact SeqAt.EqAt.str_int x t j u _ _ _ _ h
      . rw [key_rr] at h; exact wpAny_eqBool_str h
  «strs» := fun k x t v h => by
    rcases keyIs_shape h with ⟨i, u, rfl, e⟩ | ⟨y, u, rfl, e⟩
    . exact nomatch e
    . injection e with e1 _
      subst e1
      cases v <;> rfl
end L2
namespace L2
open PySem PySem.Spec PyProof.Rows
inductive V where
  | non | bl (b : Bool) | int (i : Int) | str (x : Str) | byt (b : Array UInt8) | flt (b : UInt64) | ref (a : Addr) | ty (n : String)
  deriving DecidableEq
def RelV : V -> Value -> Prop
  | .non, u => u = Value.none
  | .bl b, u => u = Value.bool b
  | .int i, u => ∃ t, u = Value.int i t
  | .str x, u => ∃ t, u = Value.str x t
  | .byt b, u => ∃ t, u = Value.bytes b t
  | .flt b, u => ∃ t, u = Value.float b t
  | .ref a, u => u = Value.ref a
  | .ty n, u => u = Value.type n
abbrev Vals : List V -> List Value -> Prop := Paired RelV
theorem Vals.length {xs : List V} {us : List Value} (r : Vals xs us) : xs.length = us.length := Paired.length r
theorem Vals.get : ∀ {xs : List V} {us : List Value} {i : Nat} {x : V}, Vals xs us -> xs[i]? = some x -> ∃ u, us[i]? = some u /\ RelV x u
  | _, _, _, _, .nil, e => by simp at e
  | _, _, 0, _, .cons r _, e => by simp at e; subst e; exact ⟨_, rfl, r⟩
  | _, _, i + 1, x, .cons _ t, e => by
    obtain ⟨u, h1, h2⟩ := Vals.get (i := i) (x := x) t (by simpa using e)
    exact ⟨u, by simpa using h1, h2⟩
theorem Vals.set {x : V} {u : Value} (r : RelV x u) : ∀ {xs : List V} {us : List Value} (i : Nat), Vals xs us -> Vals (xs.set i x) (us.set i u)
  | _, _, _, .nil => .nil
  | _, _, 0, .cons _ t => .cons r t
  | _, _, i + 1, .cons q t => .cons q (Vals.set r i t)
theorem Vals.append : ∀ {xs ys : List V} {us ws : List Value}, Vals xs us -> Vals ys ws -> Vals (xs ++ ys) (us ++ ws)
  | _, _, _, _, .nil, s => s
  | _, _, _, _, .cons r t, s => .cons r (Vals.append t s)
theorem Vals.take : ∀ {xs : List V} {us : List Value} (n : Nat), Vals xs us -> Vals (xs.take n) (us.take n)
  | _, _, 0, _ => .nil
  | _, _, _ + 1, .nil => .nil
  | _, _, n + 1, .cons r t => .cons r (Vals.take n t)
theorem Vals.drop : ∀ {xs : List V} {us : List Value} (n : Nat), Vals xs us -> Vals (xs.drop n) (us.drop n)
  | _, _, 0, r => r
  | _, _, _ + 1, .nil => .nil
  | _, _, n + 1, .cons _ t => Vals.drop n t
def RelO : Option V -> Option Value -> Prop
  | some v, some u => RelV v u
  | none, none => True
  | _, _ => False
def KV {κ : Type} : List (κ × V) -> List (κ × Value) -> Prop := Paired fun (p : κ × V) (q : κ × Value) => p.1 = q.1 /\ RelV p.2 q.2
def kV : Key -> V
  | .inl i => .int i
  | .inr x => .str x
inductive HO where
  /-- a list -/
  | lst (xs : List V)
  /-- a tuple (never changes) -/
  | tup (xs : List V)
  /-- a dict whose keys are ints and texts; one whose keys are tuples of ints and texts (the empty one is both) -/
  | dK (kvs : List (Key × V)) | dT (kvs : List (List Key × V))
  /-- a set of ints: its members, its size -/
  | set (S : Int -> Bool) (n : Nat)
  /-- an instance of the class at C, its dict at dx, its attributes -/
  | ins (C dx : Addr) (fs : List (Str × V))
  /-- the dict of the instance at x -/
  | own (x : Addr)
  /-- the dict of an exception -/
  | xd (fs : List (Str × V))
  /-- a bound method, f of x -/
  | met (f x : Addr)
  /-- a range object lo, lo + 1, .. below hi -/
  | rng (lo hi : Int)
  /-- a thing that is known to the object (the script; a dict while a loop walks it): read, never written while it is so -/
  | frz (o : Obj) (u : HO)
  /-- a code object's table -/
  | tbl (ps : Array Value)
  /-- any other thing, by what is true of its one object (a def of one's own: SetO a S n := HO.ext fun h => ..) -/
  | ext (φ : Heap -> Prop)
abbrev Hp := Addr -> Option HO
def upd (H : Hp) (a : Addr) (o : HO) : Hp := fun b => if b = a then some o else H b
theorem upd_same {H : Hp} {a : Addr} {o : HO} : upd H a o a = some o := by unfold upd; rw [if_pos rfl]
theorem upd_ne {H : Hp} {a b : Addr} {o : HO} (h : b ≠ a) : upd H a o b = H b := by unfold upd; rw [if_neg h]
theorem ne_of_none {H : Hp} {a b : Addr} {o : HO} (h : H a = some o) (h' : H b = none) : a ≠ b := by
  intro e; subst e; rw [h] at h'; cases h'
section
variable (P : Program) (w : World)
def ObjOk (H : Hp) (h : Heap) (a : Addr) : HO -> Prop
  | .lst xs => xs.length <= sizeLine /\ ∃ (its : List Value) (n : Nat), Vals xs its /\ h.get? a = some { cls := .type "list", data := .seq its.toArray n }
  | .tup xs => xs.length <= sizeLine /\ ∃ its : List Value, Vals xs its /\ IsTup h a its.toArray
  | .dK kvs => kvs.length <= sizeLine /\ (a == sysModules) = false /\ ∃ vs, KV kvs vs /\ h.DictOf (mixKind P w) a vs
  | .dT kvs => kvs.length <= sizeLine /\ (a == sysModules) = false /\ ∃ xs : List (List Key × Addr × Value),
      Paired (fun (p : List Key × V) (q : List Key × Addr × Value) => p.1 = q.1 /\ H q.2.1 = some (.tup (p.1.map kV)) /\ RelV p.2 q.2.2) kvs xs /\
      ∃ o es ep, h.get? a = some o /\ o.ExactDict /\ o.data = .dict es ep /\ es.toList = xs.map (entryOfKey (tupleKind (mixKind P w))) /\ (xs.map (·.1)).Nodup
  | .set S n => h.SetOf (intKind P w) a S n
  | .ins C dx fs => H dx = some (.own a) /\ fs.length <= 1000 /\ dx ≠ a /\ h.get? a = some (PySem.W.instObj C dx) /\
      ∃ mA, h.Ns1 dx mA /\ (∀ f, RelO (fs.lookup f) (mA f)) /\ PySem.Within mA (fs.map (·.1))
  | .own _ => ∃ o, h.get? a = some o
  | .xd fs => ∃ mA, h.Ns1 a mA /\ ∀ f, RelO (fs.lookup f) (mA f)
  | .rng lo hi => ∃ t u v, h.get? a = some { cls := .type "range", data := .fields #[.int lo t, .int hi u, .int 1 v] }
  | .frz o u => h.get? a = some o /\ ObjOk H h a u
  | .tbl ps => h.get? a = some { cls := .none, data := .fields ps }
  | .met f x => h.get? a = some (PySem.W.methodObj (.ref f) (.ref x))
  | .ext φ => φ h /\ (∃ o, h.get? a = some o) /\ ∀ h1 h2 : Heap, φ h1 -> (∀ o, h1.get? a = some o -> h2.get? a = some o) -> φ h2
def HOk (H : Hp) (h : Heap) : Prop := ∀ a o, H a = some o -> ObjOk P w H h a o
end
section
variable {P : Program} {w : World} {H H' : Hp} {h h' : Heap} {a : Addr} {o : HO}
theorem ObjOk.lt (x : ObjOk P w H h a o) : a < h.objs.size := by
  cases o with
  | lst xs => obtain ⟨_, _, _, _, e⟩ := x; exact Heap.lt_size e
  | tup xs => obtain ⟨_, _, _, p⟩ := x; exact p.lt
  | dK kvs => obtain ⟨_, _, _, _, o, _, _, e, _⟩ := x; exact Heap.lt_size e
  | dT kvs => obtain ⟨_, _, _, _, o, _, _, e, _⟩ := x; exact Heap.lt_size e
  | set S n => obtain ⟨o, _, _, _, e, _⟩ := x; exact Heap.lt_size e
  | ins C dx fs => obtain ⟨_, _, _, e, _⟩ := x; exact Heap.lt_size e
  | own y => obtain ⟨_, e⟩ := x; exact Heap.lt_size e
  | xd fs => obtain ⟨_, ⟨_, _, _, e, _⟩, _⟩ := x; exact Heap.lt_size e
  | rng lo hi => obtain ⟨_, _, _, e⟩ := x; exact Heap.lt_size e
  | frz ob u => obtain ⟨e, _⟩ := x; exact Heap.lt_size e
  | tbl ps => exact Heap.lt_size (show h.get? a = some _ from x)
  | met f y => exact Heap.lt_size (show h.get? a = some _ from x)
  | ext φ => obtain ⟨_, ⟨_, e⟩, _⟩ := x; exact Heap.lt_size e
theorem Paired.mapP {α β : Type} {F G : α -> β -> Prop} : ∀ {l₁ : List α} {l₂ : List β}, Paired F l₁ l₂ -> (∀ a b, F a b -> G a b) -> Paired G l₁ l₂
  | _, _, .nil, _ => .nil
  | _, _, .cons r t, f => .cons (f _ _ r) (Paired.mapP t f)
theorem ObjOk.stay (x : ObjOk P w H h a o) (k : ∀ b u, (b = a \/ H b = some (.own a)) -> h.get? b = some u -> h'.get? b = some u)
    (ho : ∀ b, H b = some (.own a) -> H' b = some (.own a)) (ht : ∀ b xs, H b = some (.tup xs) -> H' b = some (.tup xs)) : ObjOk P w H' h' a o := by
  induction o with
  | lst xs => obtain ⟨z, its, n, r, e⟩ := x; exact ⟨z, its, n, r, k _ _ (.inl rfl) e⟩
  | tup xs => obtain ⟨z, its, r, ob, e, c⟩ := x; exact ⟨z, its, r, ob, k _ _ (.inl rfl) e, c⟩
  | dK kvs => obtain ⟨z, y, vs, r, ob, es, ep, e, c⟩ := x; exact ⟨z, y, vs, r, ob, es, ep, k _ _ (.inl rfl) e, c⟩
  | dT kvs =>
    obtain ⟨z, y, xs, r, ob, es, ep, e, c⟩ := x
    exact ⟨z, y, xs, Paired.mapP r fun p q z => ⟨z.1, ht _ _ z.2.1, z.2.2⟩, ob, es, ep, k _ _ (.inl rfl) e, c⟩
  | set S n => obtain ⟨ob, es, ep, t, e, c⟩ := x; exact ⟨ob, es, ep, t, k _ _ (.inl rfl) e, c⟩
  | ins C dx fs =>
    obtain ⟨d, z, ne, e, mA, ⟨od, es, ep, e2, c⟩, r⟩ := x
    exact ⟨ho _ d, z, ne, k _ _ (.inl rfl) e, mA, ⟨od, es, ep, k _ _ (.inr d) e2, c⟩, r⟩
  | own y => obtain ⟨ob, e⟩ := x; exact ⟨ob, k _ _ (.inl rfl) e⟩
  | xd fs => obtain ⟨mA, ⟨od, es, ep, e, c⟩, r⟩ := x; exact ⟨mA, ⟨od, es, ep, k _ _ (.inl rfl) e, c⟩, r⟩
  | rng lo hi => obtain ⟨t, u, v, e⟩ := x; exact ⟨t, u, v, k _ _ (.inl rfl) e⟩
  | frz ob u ih => obtain ⟨e, q⟩ := x; exact ⟨k _ _ (.inl rfl) e, ih q⟩
  | tbl ps =>
    have e : h.get? a = some { cls := .none, data := .fields ps } := x
    show h'.get? a = some { cls := .none, data := .fields ps }
    exact k a _ (.inl rfl) e
  | met f y =>
    have e : h.get? a = some (PySem.W.methodObj (.ref f) (.ref y)) := x
    show h'.get? a = some (PySem.W.methodObj (.ref f) (.ref y))
    exact k a _ (.inl rfl) e
  | ext φ => obtain ⟨p, ⟨o, e⟩, st⟩ := x; exact ⟨st _ _ p fun o q => k _ _ (.inl rfl) q, ⟨o, k _ _ (.inl rfl) e⟩, st⟩
theorem HOk.lt (x : HOk P w H h) (e : H a = some o) : a < h.objs.size := (x a o e).lt
theorem HOk.fresh (x : HOk P w H h) (e : h.objs.size <= a) : H a = none := by
  cases q : H a with
  | none => rfl
  | some u => exact absurd (Nat.lt_of_lt_of_le (x.lt q) e) (Nat.lt_irrefl _)
theorem HOk.kept (x : HOk P w H h) (k : ∀ b u, h.get? b = some u -> h'.get? b = some u) : HOk P w H h' := fun a o e =>
  (x a o e).stay (fun b u _ q => k b u q) (fun _ q => q) fun _ _ q => q
theorem HOk.laid (x : HOk P w H h) (k : ∀ b u, h.get? b = some u -> h'.get? b = some u) (hp : h.objs.size <= a) (new : ObjOk P w (upd H a o) h' a o) : HOk P w (upd H a o) h' := fun b u e => by
  have hn := x.fresh hp
  by_cases hb : b = a
  . subst hb; rw [upd_same] at e; cases e; exact new
  . rw [upd_ne hb] at e
    exact (x b u e).stay (fun c v _ q => k c v q) (fun c q => by rw [upd_ne (ne_of_none q hn)]; exact q) fun c xs q => by rw [upd_ne (ne_of_none q hn)]; exact q
end
def Rd (H : Hp) (a : Addr) (u : HO) : Prop := H a = some u \/ ∃ o, H a = some (.frz o u)
theorem Rd.ok {P : Program} {w : World} {H : Hp} {h : Heap} {a : Addr} {u : HO} (r : Rd H a u) (x : HOk P w H h) : ObjOk P w H h a u := by
  rcases r with r | ⟨o, r⟩
  . exact x a u r
  . obtain ⟨_, q⟩ := x a _ r
    exact q
def Mut : Option HO -> Prop
  | some (.lst _) => True
  | some (.dK _) => True
  | some (.dT _) => True
  | some (.set _ _) => True
  | some (.ins _ _ _) => True
  | some (.ext _) => True
  | _ => False
section
variable {P : Program} {w : World} {H : Hp} {h h' : Heap} {x e : Addr} {o' : HO}
theorem HOk.write (ok : HOk P w H h) (mu : Mut (H x)) (he : e = x \/ H e = some (.own x)) (k : ∀ b u, b ≠ e -> h.get? b = some u -> h'.get? b = some u) (heo : ∃ u, h'.get? e = some u)
    (new : ObjOk P w (upd H x o') h' x o') : HOk P w (upd H x o') h' := fun b u q => by
  have nown : ∀ c y, H c = some (.own y) -> c ≠ x := fun c y r z => by subst z; rw [r] at mu; exact mu
  have ntup : ∀ c xs, H c = some (.tup xs) -> c ≠ x := fun c xs r z => by subst z; rw [r] at mu; exact mu
  by_cases hb : b = x
  . subst hb; rw [upd_same] at q; cases q; exact new
  . rw [upd_ne hb] at q
    by_cases hbe : b = e
    . have q' : H b = some (.own x) := by
        rcases he with z | z
        . exact absurd (hbe.trans z) hb
        . rw [hbe]; exact z
      rw [q] at q'; cases q'
      obtain ⟨v, hv⟩ := heo
      exact ⟨v, by rw [hbe]; exact hv⟩
    . refine (ok b u q).stay (fun c v hc r => k c v ?_ r) (fun c r => by rw [upd_ne (nown c b r)]; exact r) fun c xs r => by rw [upd_ne (ntup c xs r)]; exact r
      rcases hc with rfl | hc
      . exact hbe
      . rintro rfl
        rcases he with z | z
        . exact nown c b hc z
        . rw [hc] at z; cases z; exact hb rfl
end
structure Un (fs ex : List Addr) (H H' : Hp) (h h' : Heap) : Prop where
  keep : ∀ b o, h.get? b = some o -> H b = none -> b ∉ fs -> b ∉ ex -> h'.get? b = some o
  slot : ∀ b o, h.get? b = some o -> H b = none -> b ∈ fs -> b ∉ ex -> ∃ sl, h'.get? b = some { o with slots := sl }
  free : ∀ b o, h.get? b = some o -> H b = none -> b ∉ ex -> H' b = none
  there : ∀ b o, h.get? b = some o -> b ∉ ex -> ∃ o', h'.get? b = some o'
  tups : ∀ b xs, H b = some (.tup xs) -> H' b = some (.tup xs)
  frzs : ∀ b o u, H b = some (.frz o u) -> H' b = some (.frz o u)
  tbls : ∀ b ps, H b = some (.tbl ps) -> ∃ more, H' b = some (.tbl (ps ++ more))
section
variable {fs fs' ex ex' : List Addr} {H H1 H2 : Hp} {h h1 h2 h' : Heap} {a x e : Addr} {o : HO}
theorem Un.any (u : Un fs ex H H1 h h1) {b : Addr} {ob : Obj} (q : h.get? b = some ob) (n : H b = none) (hx : b ∉ ex) : ∃ sl, h1.get? b = some { ob with slots := sl } := by
  by_cases hb : b ∈ fs
  . exact u.slot b ob q n hb hx
  . exact ⟨ob.slots, u.keep b ob q n hb hx⟩
theorem Un.kept (k : ∀ b u, h.get? b = some u -> h'.get? b = some u) : Un fs ex H H h h' :=
  ⟨fun b ob q _ _ _ => k b ob q, fun b ob q _ _ _ => ⟨ob.slots, k b ob q⟩, fun _ _ _ n _ => n, fun b ob q _ => ⟨ob, k b ob q⟩, fun _ _ q => q, fun _ _ _ q => q, fun _ ps q => ⟨#[], by rw [q]; simp⟩⟩
theorem Un.refl : Un fs ex H H h h := Un.kept fun _ _ q => q
theorem Un.laid (k : ∀ b u, h.get? b = some u -> h'.get? b = some u) (hp : h.objs.size <= a) (hn : H a = none) : Un fs ex H (upd H a o) h h' where
  keep := fun b u q _ _ _ => k b u q
  slot := fun b u q _ _ _ => ⟨u.slots, k b u q⟩
  free := fun b u q n _ => by rw [upd_ne (Nat.ne_of_lt (Nat.lt_of_lt_of_le (Heap.lt_size q) hp))]; exact n
  there := fun b u q _ => ⟨u, k b u q⟩
  tups := fun b xs q => by rw [upd_ne (ne_of_none q hn)]; exact q
  frzs := fun b u xs q => by rw [upd_ne (ne_of_none q hn)]; exact q
  tbls := fun b ps q => ⟨#[], by rw [upd_ne (ne_of_none q hn), q]; simp⟩
theorem Un.write (mu : Mut (H x)) (he : e = x \/ H e = some (.own x)) (k : ∀ b u, b ≠ e -> h.get? b = some u -> h'.get? b = some u) (heo : ∃ u, h'.get? e = some u) : Un fs ex H (upd H x o) h h' := by
  have hx : ∀ b, H b = none -> b ≠ x := fun b n z => by subst z; rw [n] at mu; exact mu
  have hb : ∀ b, H b = none -> b ≠ e := fun b n z => by
    subst z
    rcases he with r | r
    . exact hx b n r
    . rw [n] at r; cases r
  have hm : ∀ b u, H b = some u -> ¬ Mut (some u) -> b ≠ x := fun b u q nm z => by subst z; rw [q] at mu; exact nm mu
  refine ⟨fun b u q n _ _ => k b u (hb b n) q, fun b u q n _ _ => ⟨u.slots, k b u (hb b n) q⟩, fun b u q n _ => by rw [upd_ne (hx b n)]; exact n, fun b u q _ => ?_,
    fun b xs q => by rw [upd_ne (hm b _ q fun z => z)]; exact q, fun b u xs q => by rw [upd_ne (hm b _ q fun z => z)]; exact q, fun b ps q => ⟨#[], by rw [upd_ne (hm b _ q fun z => z), q]; simp⟩⟩
  by_cases hbe : b = e
  . subst hbe; exact heo
  . exact ⟨u, k b u hbe q⟩
end
def trk (h : Heap) (H : Hp) : List Addr := (List.range h.objs.size).filter fun a => (H a).isSome
def hidT (h : Heap) (H : Hp) : Heap := PySem.W.hideAll h (trk h H)
theorem hidT_size (h : Heap) (H : Hp) : (hidT h H).objs.size = h.objs.size := PySem.W.hideAll_size _ _
theorem hidT_get {h : Heap} {H : Hp} {b : Addr} {o : Obj} (e : h.get? b = some o) (n : H b = none) : (hidT h H).get? b = some o :=
  PySem.W.hideAll_get _ e fun hm => by
    have q : (H b).isSome = true := (List.mem_filter.mp hm).2
    rw [n] at q; simp at q
theorem of_hidT {h : Heap} {H : Hp} {b : Addr} {o : Obj} (e : (hidT h H).get? b = some o) : h.get? b = some o /\ H b = none := by
  have e' : h.get? b = some o := PySem.W.of_hideAll (trk h H) e
  refine ⟨e', ?_⟩
  cases q : H b with
  | none => rfl
  | some x =>
    have hm : b ∈ trk h H := List.mem_filter.mpr ⟨List.mem_range.mpr (Heap.lt_size e'), by simp [q]⟩
    have z : (hidT h H).get? b = none := PySem.W.hideAll_none (trk h H) hm
    rw [z] at e; cases e
def allNews (g h : Heap) (L : Addr) : List (Addr × Obj) := (List.range h.objs.size).filterMap fun a => if a = L \/ (g.get? a).isSome = true then none else (h.get? a).map fun o => (a, o)
def rest (g h : Heap) (L d : Addr) : List (Addr × Obj) := (allNews g h L).filter fun p => decide (p.1 ≠ d)
end L2
namespace L2
open PySem PySem.Spec PyProof.Rows
structure Mod (K : PySem.W.Frag) (mg : Str -> Option Value) (base : Heap) : Prop where
  kin : K.In base
  glob : base.Ns mainGlobals mg
  blt : ∃ mb, base.Ns builtinsNs mb /\ ∀ x : Str, x ≠ "__name__" -> mb x = bootBuiltins x
  nolimit : base.NoLimit
structure Cx where
  prog : Program
  w : World
  K : PySem.W.Frag
  mg : Str -> Option Value
  base : Heap
  A : Around
  N : List Str
  s₀ : Shared
  H₀ : Hp
  env : Env
  outer : List Env
  stack : List Env
  ex : List Addr
  fn : Str -> Bool
  calm : Bool
  pn : List (Addr × Obj)
  xe : Value -> Shared -> Prop
def frs (l : List Env) : List Addr := l.filterMap (·.frame)
abbrev Cx.fs (X : Cx) : List Addr := frs X.outer
def Vis (sc : Scope) (x : Str) : Prop := sc.names.lookup x = some .local \/ sc.names.lookup x = some .cell \/ sc.names.lookup x = some .free
def Loc (sc : Scope) (x : Str) : Prop := sc.names.lookup x = some .local \/ sc.names.lookup x = some .cell
def Look (env : Env) (h : Heap) (m : Str -> Option Value) (x : Str) (u : Value) : Prop :=
  (env.kindOf x = some .local /\ m x = some u) \/ ((env.kindOf x = some .cell \/ env.kindOf x = some .free) /\ ∃ c, env.cells.lookup x = some c /\ h.IsCell c (some u))
structure Cx.Ok (X : Cx) : Prop where
  mod : Mod X.K X.mg X.base
  kind : X.env.scope.kind = .function
  glob : X.env.globals = mainGlobals
  blt : X.env.builtins = builtinsNs
  above : X.s₀.heap.objs.size <= X.env.locals
  inj : ∀ x y c, X.env.cells.lookup x = some c -> X.env.cells.lookup y = some c -> x = y
  has : ∀ x, (X.env.kindOf x = some .cell \/ X.env.kindOf x = some .free) -> ∃ c, X.env.cells.lookup x = some c
  cab : ∀ x c, X.fn x = true -> X.env.cells.lookup x = some c -> X.s₀.heap.objs.size <= c
  hd : X.calm = true -> X.A.handled = none
  frames : X.A.frames = some X.stack
  stk : X.stack = X.outer \/ (X.stack = X.env :: X.outer /\ X.env.frame = some X.env.locals)
  exf : ∀ b ∈ X.ex, b ≠ X.env.locals /\ ∀ x c, X.env.cells.lookup x = some c -> c ≠ b
  bs : ∀ b o, X.base.get? b = some o -> X.s₀.heap.get? b = some o /\ X.H₀ b = none
  bsz : X.base.objs.size <= X.s₀.heap.objs.size
  noex : ∀ b o, X.base.get? b = some o -> b ∉ X.ex
  exfs : ∀ b ∈ X.ex, b ∉ X.fs
  funs : X.s₀.heap.FunFrames X.base X.outer
  frf : ∀ b ∈ X.fs, X.H₀ b = none
structure Inv (X : Cx) (pins : List (Addr × Obj)) (σ : List (Option V)) (H : Hp) (s : Shared) : Prop where
  ok : X.Ok
  os : s.os = X.s₀.os
  bare : AllBare s.gens
  base : Un X.fs X.ex X.H₀ H X.s₀.heap s.heap
  loc : ∃ m, s.heap.Ns X.env.locals m /\ ∀ (i : Nat) (x : Str) (v : V), X.N[i]? = some x -> σ[i]? = some (some v) -> Vis X.env.scope x -> ∃ u, RelV v u /\ Look X.env s.heap m x u
  cell : ∀ x c, X.env.cells.lookup x = some c -> ∃ v, s.heap.IsCell c v
  free : H X.env.locals = none
  freeC : ∀ x c, X.env.cells.lookup x = some c -> H c = none
  pin : ∀ p ∈ X.pn ++ pins, s.heap.get? p.1 = some p.2 /\ H p.1 = none /\ p.1 ≠ X.env.locals /\ p.1 ∉ X.fs /\ ∀ v, p.2.data ≠ .cell v
  hok : HOk X.prog X.w H s.heap
  len : σ.length = X.N.length
section
variable {X : Cx} {pins : List (Addr × Obj)} {σ : List (Option V)} {H H' : Hp} {s : Shared} {h' : Heap}
theorem Cx.Ok.nofr (ok : X.Ok) {b : Addr} {o : Obj} (e : X.base.get? b = some o) : b ∉ X.fs := fun hb => by
  have := (ok.funs.mem hb).1
  rw [e] at this; cases this
theorem Inv.bs (I : Inv X pins σ H s) : ∀ b o, X.base.get? b = some o -> s.heap.get? b = some o /\ H b = none := fun b o e =>
  ⟨I.base.keep b o (I.ok.bs b o e).1 (I.ok.bs b o e).2 (I.ok.nofr e) (I.ok.noex b o e), I.base.free b o (I.ok.bs b o e).1 (I.ok.bs b o e).2 (I.ok.noex b o e)⟩
theorem Inv.bk (I : Inv X pins σ H s) : ∀ b o, X.base.get? b = some o -> s.heap.get? b = some o := fun b o e => (I.bs b o e).1
theorem Inv.mod (I : Inv X pins σ H s) : Mod X.K X.mg X.base := I.ok.mod
theorem Inv.kIn (I : Inv X pins σ H s) : X.K.In s.heap := I.ok.mod.kin.keeps I.bk
theorem Inv.lt (I : Inv X pins σ H s) : X.env.locals < s.heap.objs.size := let ⟨_, hn, _⟩ := I.loc; hn.lt
theorem Inv.sz (I : Inv X pins σ H s) : X.s₀.heap.objs.size <= s.heap.objs.size := Nat.le_trans I.ok.above (Nat.le_of_lt I.lt)
theorem Inv.nofs (I : Inv X pins σ H s) {a : Addr} (h : s.heap.objs.size <= a) : a ∉ X.fs := fun hb => by
  obtain ⟨_, o, ho, _⟩ := I.ok.funs.mem hb
  exact absurd (Nat.lt_of_lt_of_le (Heap.lt_size ho) (Nat.le_trans I.sz h)) (Nat.lt_irrefl _)
theorem Inv.cne (I : Inv X pins σ H s) : ∀ x c, X.env.cells.lookup x = some c -> c ≠ X.env.locals := fun x c e z => by
  obtain ⟨v, o, ho, hd⟩ := I.cell x c e
  obtain ⟨m, ⟨o', es, ep, ho', hd', _⟩, _⟩ := I.loc
  rw [z, ho'] at ho; cases ho; rw [hd'] at hd; cases hd
theorem Inv.funs (I : Inv X pins σ H s) : s.heap.FunFrames X.base X.outer := by
  have all : ∀ (l : List Env), (∀ b ∈ frs l, b ∈ X.fs) -> X.s₀.heap.FunFrames X.base l -> s.heap.FunFrames X.base l := by
    intro l
    induction l with
    | nil => intro _ _; trivial
    | cons env r ih =>
      intro hs hl
      obtain ⟨hk, ⟨L, o, hf, hn, ho, hd⟩, hr⟩ := hl
      have hL : L ∈ X.fs := hs L (by unfold frs; rw [List.filterMap_cons, hf]; exact List.mem_cons_self)
      obtain ⟨sl, e⟩ := I.base.slot L o ho (I.ok.frf L hL) hL fun z => I.ok.exfs L z hL
      exact ⟨hk, ⟨L, _, hf, hn, e, hd⟩, ih (fun b hb => hs b (by unfold frs; rw [List.filterMap_cons, hf]; exact List.mem_cons_of_mem _ hb)) hr⟩
  exact all X.outer (fun _ hb => hb) I.ok.funs
theorem Inv.stack (I : Inv X pins σ H s) : s.heap.FunFrames X.base X.stack := by
  rcases I.ok.stk with e | ⟨e, hf⟩
  . rw [e]; exact I.funs
  . rw [e]
    obtain ⟨m, hn, _⟩ := I.loc
    refine .cons (by rw [I.ok.kind]; decide) hf hn ?_ I.funs
    exact Heap.get?_none_of_le (Nat.le_trans I.ok.bsz I.ok.above)
theorem Inv.stkSub (I : Inv X pins σ H s) : ∀ b ∈ frs X.stack, b ∈ X.env.locals :: X.fs := fun b hb => by
  rcases I.ok.stk with e | ⟨e, hf⟩
  . rw [e] at hb; exact List.mem_cons_of_mem _ hb
  . rw [e] at hb
    unfold frs at hb
    rw [List.filterMap_cons, hf] at hb
    exact hb
theorem Inv.stkFree (I : Inv X pins σ H s) : ∀ b ∈ frs X.stack, H b = none := fun b hb => by
  rcases List.mem_cons.mp (I.stkSub b hb) with e | hb
  . rw [e]; exact I.free
  . obtain ⟨_, o, ho, _⟩ := I.ok.funs.mem hb
    exact I.base.free b o ho (I.ok.frf b hb) fun z => I.ok.exfs b z hb
theorem Inv.step {g' : Array GenState} {t' : Nat} {d' : Drawn} {ch : List Addr} (I : Inv X pins σ H s)
    (hch : ∀ b ∈ ch, (b ∈ X.ex \/ X.s₀.heap.objs.size <= b) /\ b ≠ X.env.locals /\ (∀ x c, X.env.cells.lookup x = some c -> c ≠ b) /\ ∀ p ∈ X.pn ++ pins, p.1 ≠ b)
    (keep : ∀ b o, b ≠ X.env.locals -> b ∉ X.fs -> b ∉ ch -> s.heap.get? b = some o -> H b = none -> h'.get? b = some o)
    (slot : ∀ b o, b ≠ X.env.locals -> b ∈ X.fs -> b ∉ ch -> s.heap.get? b = some o -> H b = none -> ∃ sl, h'.get? b = some { o with slots := sl }) (free : ∀ b o, b ∉ ch -> s.heap.get? b = some o -> H b = none -> H' b = none)
    (there : ∀ b o, b ∉ ch -> s.heap.get? b = some o -> ∃ o', h'.get? b = some o')
    (tups : ∀ b xs, H b = some (.tup xs) -> H' b = some (.tup xs)) (frzs : ∀ b o u, H b = some (.frz o u) -> H' b = some (.frz o u)) (tbls : ∀ b ps, H b = some (.tbl ps) -> ∃ more, H' b = some (.tbl (ps ++ more)))
    (ns : ∀ m, s.heap.Ns X.env.locals m -> h'.Ns X.env.locals m) (hok : HOk X.prog X.w H' h') (hg : AllBare g') :
    Inv X pins σ H' { s with heap := h', gens := g', drawn := d', toks := t' } := by
  have neL : ∀ b o, X.s₀.heap.get? b = some o -> b ≠ X.env.locals := fun b o e => Nat.ne_of_lt (Nat.lt_of_lt_of_le (Heap.lt_size e) I.ok.above)
  have neC : ∀ b o, X.s₀.heap.get? b = some o -> b ∉ X.ex -> b ∉ ch := fun b o e hx hb => by
    rcases (hch b hb).1 with z | z
    . exact hx z
    . exact absurd (Nat.lt_of_lt_of_le (Heap.lt_size e) z) (Nat.lt_irrefl _)
  have cellK : ∀ x c, X.env.cells.lookup x = some c -> ∀ v, s.heap.IsCell c v -> h'.IsCell c v := fun x c e v ⟨o, ho, hd⟩ => by
    have nch : c ∉ ch := fun z => (hch c z).2.2.1 x c e rfl
    by_cases hc : c ∈ X.fs
    . obtain ⟨sl, q⟩ := slot c o (I.cne x c e) hc nch ho (I.freeC x c e)
      exact ⟨_, q, hd⟩
    . exact ⟨o, keep c o (I.cne x c e) hc nch ho (I.freeC x c e), hd⟩
  refine ⟨I.ok, I.os, hg, ⟨fun b o e n hb hx => ?_, fun b o e n hb hx => ?_, fun b o e n hx => ?_, fun b o e hx => ?_, fun b xs e => tups b xs (I.base.tups b xs e), fun b o xs e => frzs b o xs (I.base.frzs b o xs e), fun b ps e => ?_⟩, ?_, fun x c e => ?_, ?_, fun x c e => ?_, fun p hp => ?_, hok, I.len⟩
  . exact keep b o (neL b o e) hb (neC b o e hx) (I.base.keep b o e n hb hx) (I.base.free b o e n hx)
  . obtain ⟨sl, e1⟩ := I.base.slot b o e n hb hx
    obtain ⟨sl', e2⟩ := slot b _ (neL b o e) hb (neC b o e hx) e1 (I.base.free b o e n hx)
    exact ⟨sl', e2⟩
  . obtain ⟨o', e1⟩ := I.base.there b o e hx
    exact free b o' (neC b o e hx) e1 (I.base.free b o e n hx)
  . obtain ⟨o', e1⟩ := I.base.there b o e hx
    exact there b o' (neC b o e hx) e1
  . obtain ⟨m1, e1⟩ := I.base.tbls b ps e
    obtain ⟨m2, e2⟩ := tbls b _ e1
    exact ⟨m1 ++ m2, by rw [e2, Array.append_assoc]⟩
  . obtain ⟨m, hn, hl⟩ := I.loc
    refine ⟨m, ns m hn, fun i x v e1 e2 e3 => ?_⟩
    obtain ⟨u, r, l⟩ := hl i x v e1 e2 e3
    refine ⟨u, r, ?_⟩
    rcases l with l | ⟨k, c, e, z⟩
    . exact .inl l
    . exact .inr ⟨k, c, e, cellK x c e _ z⟩
  . obtain ⟨v, z⟩ := I.cell x c e
    exact ⟨v, cellK x c e v z⟩
  . obtain ⟨m, ⟨o, _, _, ho, _⟩, _⟩ := I.loc
    exact free _ o (fun z => (hch _ z).2.1 rfl) ho I.free
  . obtain ⟨v, o, ho, hd⟩ := I.cell x c e
    exact free c o (fun z => (hch c z).2.2.1 x c e rfl) ho (I.freeC x c e)
  . obtain ⟨e, n, ne, nf, d⟩ := I.pin p hp
    have nch : p.1 ∉ ch := fun z => (hch p.1 z).2.2.2 p hp rfl
    exact ⟨keep p.1 p.2 ne nf nch e n, free p.1 p.2 nch e n, ne, nf, d⟩
theorem Inv.un {t' : Nat} (I : Inv X pins σ H s) (u : Un X.fs [] H H' s.heap h') (hok : HOk X.prog X.w H' h') : Inv X pins σ H' { s with heap := h', toks := t' } := by
  obtain ⟨m, ⟨o, es, ep, ho, r⟩, _⟩ := id I.loc
  obtain ⟨sl, hL⟩ := u.any ho I.free (by simp)
  exact I.step (g' := s.gens) (d' := s.drawn) (ch := []) (fun _ z => nomatch z) (fun b o _ hb _ e n => u.keep b o e n hb (by simp)) (fun b o _ hb _ e n => u.slot b o e n hb (by simp)) (fun b o _ e n => u.free b o e n (by simp)) (fun b o _ e => u.there b o e (by simp)) u.tups u.frzs u.tbls (fun m' hm => by
    obtain ⟨o', es', ep', ho', r'⟩ := hm
    rw [ho] at ho'; cases ho'
    exact ⟨_, es', ep', hL, r'⟩) hok I.bare
theorem Inv.call {g' : Array GenState} {t' : Nat} {d' : Drawn} {ch : List Addr} (I : Inv X pins σ H s) (u : Un (frs X.stack) ch H H' s.heap h') (hok : HOk X.prog X.w H' h') (hg : AllBare g')
    (hch : ∀ b ∈ ch, (b ∈ X.ex \/ X.s₀.heap.objs.size <= b) /\ b ≠ X.env.locals /\ (∀ x c, X.env.cells.lookup x = some c -> c ≠ b) /\ ∀ p ∈ X.pn ++ pins, p.1 ≠ b) :
    Inv X pins σ H' { s with heap := h', gens := g', drawn := d', toks := t' } := by
  obtain ⟨m, ⟨o, es, ep, ho, r⟩, _⟩ := id I.loc
  obtain ⟨sl, hL⟩ := u.any ho I.free fun z => (hch _ z).2.1 rfl
  exact I.step (ch := ch) hch (fun b o hL hb hc e n => u.keep b o e n (fun z => (List.mem_cons.mp (I.stkSub b z)).elim hL hb) hc) (fun b o _ _ hc e n => u.any e n hc) (fun b o hc e n => u.free b o e n hc) (fun b o hc e => u.there b o e hc) u.tups u.frzs u.tbls (fun m' hm => by
    obtain ⟨o', es', ep', ho', r'⟩ := hm
    rw [ho] at ho'; cases ho'
    exact ⟨_, es', ep', hL, r'⟩) hok hg
theorem Inv.turned {t' : Nat} {it : Addr} (I : Inv X pins σ H s) (k : ∀ b o, b ≠ it -> s.heap.get? b = some o -> h'.get? b = some o) (hn : H it = none) (hL : it ≠ X.env.locals)
    (h1 : it ∈ X.ex \/ X.s₀.heap.objs.size <= it) (h2 : ∀ x c, X.env.cells.lookup x = some c -> c ≠ it) (h3 : ∀ p ∈ X.pn ++ pins, p.1 ≠ it) : Inv X pins σ H { s with heap := h', toks := t' } := by
  have nit : ∀ b u, H b = some u -> b ≠ it := fun b u e z => by rw [z, hn] at e; cases e
  refine I.step (g' := s.gens) (d' := s.drawn) (ch := [it]) (fun b hb => ?_) (fun b o _ _ hc e _ => k b o (fun z => hc (by simp [z])) e) (fun b o _ _ hc e _ => ⟨o.slots, k b o (fun z => hc (by simp [z])) e⟩) (fun _ _ _ _ n => n)
    (fun b o hc e => ⟨o, k b o (fun z => hc (by simp [z])) e⟩) (fun _ _ e => e) (fun _ _ _ e => e) (fun b ps e => ⟨#[], by rw [e]; simp⟩) (fun m hm => ?_) (fun b u e => ?_) I.bare
  . have e : b = it := by simpa using hb
    subst e
    exact ⟨h1, hL, h2, h3⟩
  . obtain ⟨o, es, ep, ho, r⟩ := hm
    exact ⟨o, es, ep, k _ o (Ne.symm hL) ho, r⟩
  . refine (I.hok b u e).stay (fun c v hc q => k c v ?_ q) (fun _ q => q) fun _ _ q => q
    rcases hc with z | z
    . rw [z]; exact nit b u e
    . exact nit c _ z
theorem Inv.tok (I : Inv X pins σ H s) (t : Nat) : Inv X pins σ H { s with toks := t } := I.un (h' := s.heap) (t' := t) Un.refl I.hok
theorem Inv.kept {t' : Nat} (I : Inv X pins σ H s) (k : ∀ b u, s.heap.get? b = some u -> h'.get? b = some u) : Inv X pins σ H { s with heap := h', toks := t' } := I.un (Un.kept k) (I.hok.kept k)
theorem Inv.laid {a : Addr} {o : HO} {t' : Nat} (I : Inv X pins σ H s) (k : ∀ b u, s.heap.get? b = some u -> h'.get? b = some u) (hp : s.heap.objs.size <= a) (new : ObjOk X.prog X.w (upd H a o) h' a o) :
    Inv X pins σ (upd H a o) { s with heap := h', toks := t' } := I.un (Un.laid k hp (I.hok.fresh hp)) (I.hok.laid k hp new)
theorem Inv.write {x e : Addr} {o : HO} {t' : Nat} (I : Inv X pins σ H s) (mu : Mut (H x)) (he : e = x \/ H e = some (.own x)) (k : ∀ b u, b ≠ e -> s.heap.get? b = some u -> h'.get? b = some u) (heo : ∃ u, h'.get? e = some u)
    (new : ObjOk X.prog X.w (upd H x o) h' x o) : Inv X pins σ (upd H x o) { s with heap := h', toks := t' } := I.un (Un.write mu he k heo) (I.hok.write mu he k heo new)
theorem Inv.pins_of {pins' : List (Addr × Obj)} (I : Inv X pins σ H s) (h : ∀ p ∈ pins', s.heap.get? p.1 = some p.2 /\ H p.1 = none /\ p.1 ≠ X.env.locals /\ p.1 ∉ X.fs /\ ∀ v, p.2.data ≠ .cell v) : Inv X pins' σ H s :=
  ⟨I.ok, I.os, I.bare, I.base, I.loc, I.cell, I.free, I.freeC, fun p hp => (List.mem_append.mp hp).elim (fun z => I.pin p (List.mem_append_left _ z)) (h p), I.hok, I.len⟩
theorem nodup_ix {N : List Str} (hN : N.Nodup) {i j : Nat} {x : Str} (a : N[i]? = some x) (b : N[j]? = some x) : i = j := by
  obtain ⟨h1, e1⟩ := List.getElem?_eq_some_iff.mp a
  obtain ⟨h2, e2⟩ := List.getElem?_eq_some_iff.mp b
  exact (List.getElem_inj hN).mp (e1.trans e2.symm)
theorem store_ok2 {M : Model} {A : Around} {E : Value -> Shared -> Prop} {i : Nat} {x : Str} {v : V} {u : Value} {Q : Unit -> Shared -> Prop} (I : Inv X pins σ H s) (hN : X.N.Nodup) (hi : X.N[i]? = some x) (hx : Loc X.env.scope x) (r : RelV v u)
    (h : ∀ s', Inv X pins (σ.set i (some v)) H s' -> (∃ a, Heap.SameBut a s.heap s'.heap /\ (a = X.env.locals \/ X.env.cells.lookup x = some a)) -> Q () s') (hf : X.fn x = true \/ X.env.scope.names.lookup x = some .local := by first | exact .inl rfl | exact .inr rfl | assumption) : wpAny M A (storeName X.env x u) Q E s := by
  obtain ⟨m, hn, hl⟩ := id I.loc
  have hcls : (X.env.scope.kind == .class || (X.env.scope.kind == .module && X.env.locals != X.env.globals)) = false := by rw [I.ok.kind]; rfl
  have hiσ : i < σ.length := by rw [I.len]; exact (List.getElem?_eq_some_iff.mp hi).1
  have cne := I.cne
  have tracked : ∀ {a : Addr} {h' : Heap}, (∃ o, s.heap.get? a = some o /\ H a = none) -> Heap.SameBut a s.heap h' -> HOk X.prog X.w H h' := fun {a h'} ha hs b ob e => by
    obtain ⟨_, _, hfree⟩ := ha
    refine (I.hok b ob e).stay (fun c w' hc q => (hs.2 c ?_).trans q) (fun _ q => q) fun _ _ q => q
    rintro rfl
    rcases hc with rfl | hc
    . rw [hfree] at e; cases e
    . rw [hfree] at hc; cases hc
  rcases hx with hk | hk
  . refine wpAny_storeName_local hk hn (fun h' hn' hs => ?_) hcls
    obtain ⟨oL, _, _, hoL, _⟩ := id hn
    refine h _ ⟨I.ok, I.os, I.bare, ⟨fun b o e n hb hx => ?_, fun b o e n hb hx => ?_, I.base.free, fun b o e hx => ?_, I.base.tups, I.base.frzs, I.base.tbls⟩, ⟨_, hn', fun j y v' e1 e2 e3 => ?_⟩, fun y c e => ?_, I.free, I.freeC, fun p hp => ?_, tracked ⟨oL, hoL, I.free⟩ hs, by simpa using I.len⟩ ⟨_, hs, .inl rfl⟩
    . exact (hs.2 b (Nat.ne_of_lt (Nat.lt_of_lt_of_le (Heap.lt_size e) I.ok.above))).trans (I.base.keep b o e n hb hx)
    . obtain ⟨sl, e1⟩ := I.base.slot b o e n hb hx
      exact ⟨sl, (hs.2 b (Nat.ne_of_lt (Nat.lt_of_lt_of_le (Heap.lt_size e) I.ok.above))).trans e1⟩
    . obtain ⟨o', e1⟩ := I.base.there b o e hx
      exact ⟨o', (hs.2 b (Nat.ne_of_lt (Nat.lt_of_lt_of_le (Heap.lt_size e) I.ok.above))).trans e1⟩
    . by_cases hj : j = i
      . subst hj
        rw [hi] at e1; cases e1
        rw [List.getElem?_set_self hiσ] at e2
        cases e2
        exact ⟨u, r, .inl ⟨hk, by simp⟩⟩
      . rw [List.getElem?_set_ne (Ne.symm hj)] at e2
        obtain ⟨u', r', q⟩ := hl j y v' e1 e2 e3
        refine ⟨u', r', ?_⟩
        rcases q with ⟨k, e⟩ | ⟨k, c, e, z⟩
        . refine .inl ⟨k, ?_⟩
          have : y ≠ x := fun e => hj (nodup_ix hN e1 (e ▸ hi))
          simp [this, e]
        . exact .inr ⟨k, c, e, z.sameBut hs (cne y c e)⟩
    . obtain ⟨w', z⟩ := I.cell y c e
      exact ⟨w', z.sameBut hs (cne y c e)⟩
    . obtain ⟨e, n, ne, nf, d⟩ := I.pin p hp
      exact ⟨(hs.2 p.1 ne).trans e, n, ne, nf, d⟩
  . have hfn : X.fn x = true := by
      rcases hf with z | z
      . exact z
      . rw [z] at hk; cases hk
    obtain ⟨c, hc⟩ := I.ok.has x (.inl hk)
    obtain ⟨w', z⟩ := I.cell x c hc
    refine wpAny_storeName_cell I.ok.kind hk hc z (fun h' hc' hs => ?_)
    obtain ⟨oc, hoc, hocd⟩ := id z
    refine h { s with heap := h' } ⟨I.ok, I.os, I.bare, ⟨fun b o e n hb hx => ?_, fun b o e n hb hx => ?_, I.base.free, fun b o e hx => ?_, I.base.tups, I.base.frzs, I.base.tbls⟩, ⟨m, hn.sameBut hs (Ne.symm (cne x c hc)), fun j y v' e1 e2 e3 => ?_⟩, fun y c' e => ?_, I.free, I.freeC, fun p hp => ?_, tracked ⟨oc, hoc, I.freeC x c hc⟩ hs, by simpa using I.len⟩ ⟨c, hs, .inr hc⟩
    . exact (hs.2 b (Nat.ne_of_lt (Nat.lt_of_lt_of_le (Heap.lt_size e) (I.ok.cab x c hfn hc)))).trans (I.base.keep b o e n hb hx)
    . obtain ⟨sl, e1⟩ := I.base.slot b o e n hb hx
      exact ⟨sl, (hs.2 b (Nat.ne_of_lt (Nat.lt_of_lt_of_le (Heap.lt_size e) (I.ok.cab x c hfn hc)))).trans e1⟩
    . obtain ⟨o', e1⟩ := I.base.there b o e hx
      exact ⟨o', (hs.2 b (Nat.ne_of_lt (Nat.lt_of_lt_of_le (Heap.lt_size e) (I.ok.cab x c hfn hc)))).trans e1⟩
    . by_cases hj : j = i
      . subst hj
        rw [hi] at e1; cases e1
        rw [List.getElem?_set_self hiσ] at e2
        cases e2
        exact ⟨u, r, .inr ⟨.inl hk, c, hc, hc'⟩⟩
      . rw [List.getElem?_set_ne (Ne.symm hj)] at e2
        obtain ⟨u', r', q⟩ := hl j y v' e1 e2 e3
        refine ⟨u', r', ?_⟩
        rcases q with q | ⟨k, c', e, z'⟩
        . exact .inl q
        . refine .inr ⟨k, c', e, z'.sameBut hs ?_⟩
          rintro rfl
          exact hj (nodup_ix hN e1 (I.ok.inj _ _ _ e hc ▸ hi))
    . by_cases hcc : c' = c
      . subst hcc; exact ⟨_, hc'⟩
      . obtain ⟨w2, z2⟩ := I.cell y c' e
        exact ⟨w2, z2.sameBut hs hcc⟩
    . obtain ⟨e, n, ne, nf, d⟩ := I.pin p hp
      refine ⟨(hs.2 p.1 ?_).trans e, n, ne, nf, d⟩
      intro q
      rw [q, hoc] at e
      have q' : oc = p.2 := Option.some.inj e
      exact d w' (by rw [<- q']; exact hocd)
theorem store_ok {M : Model} {A : Around} {E : Value -> Shared -> Prop} {i : Nat} {x : Str} {v : V} {u : Value} {Q : Unit -> Shared -> Prop} (I : Inv X pins σ H s) (hN : X.N.Nodup) (hi : X.N[i]? = some x) (hx : Loc X.env.scope x) (r : RelV v u)
    (h : ∀ s', Inv X pins (σ.set i (some v)) H s' -> Q () s') (hf : X.fn x = true \/ X.env.scope.names.lookup x = some .local := by first | exact .inl rfl | exact .inr rfl | assumption) : wpAny M A (storeName X.env x u) Q E s :=
  store_ok2 I hN hi hx r (fun s' I' _ => h s' I') hf
theorem Inv.call' {s' : Shared} {ch : List Addr} (I : Inv X pins σ H s) (ho : s'.os = s.os) (u : Un (frs X.stack) ch H H' s.heap s'.heap) (hok : HOk X.prog X.w H' s'.heap) (hg : AllBare s'.gens)
    (hch : ∀ b ∈ ch, (b ∈ X.ex \/ X.s₀.heap.objs.size <= b) /\ b ≠ X.env.locals /\ (∀ x c, X.env.cells.lookup x = some c -> c ≠ b) /\ ∀ p ∈ X.pn ++ pins, p.1 ≠ b) : Inv X pins σ H' s' := by
  obtain ⟨h', g', d', t', o'⟩ := s'
  have e : o' = s.os := ho
  subst e
  exact I.call (g' := g') (t' := t') (d' := d') u hok hg hch
end
abbrev XK := Value -> Option Addr -> Hp -> Prop
abbrev St := List (Option V)
abbrev VK := V -> Hp -> Prop
abbrev TE := St -> Hp -> VK -> Prop
abbrev TT := St -> Hp -> (Bool -> Hp -> Prop) -> Prop
abbrev TA := St -> Hp -> (List V -> Hp -> Prop) -> Prop
structure Ends where
  nx : St -> Hp -> Prop
  rt : VK
  bk : St -> Hp -> Prop := fun _ _ => False
  ct : St -> Hp -> Prop := fun _ _ => False
abbrev TS := Ends -> St -> Hp -> Prop
def EP (X : Cx) (pins : List (Addr × Obj)) (σ : St) (Q : VK) (u : Value) (s' : Shared) : Prop := ∃ v H', Inv X pins σ H' s' /\ RelV v u /\ Q v H'
def TP (X : Cx) (pins : List (Addr × Obj)) (σ : St) (Q : Bool -> Hp -> Prop) (b : Bool) (s' : Shared) : Prop := ∃ H', Inv X pins σ H' s' /\ Q b H'
def AP (X : Cx) (pins : List (Addr × Obj)) (σ : St) (Q : List V -> Hp -> Prop) (us : List Value) (s' : Shared) : Prop := ∃ vs H', Inv X pins σ H' s' /\ Vals vs us /\ Q vs H'
def SP (X : Cx) (pins : List (Addr × Obj)) (D : Ends) (f : Flow) (s' : Shared) : Prop :=
  match f with
  | .next => ∃ σ' H', Inv X pins σ' H' s' /\ D.nx σ' H'
  | .brk => ∃ σ' H', Inv X pins σ' H' s' /\ D.bk σ' H'
  | .cont => ∃ σ' H', Inv X pins σ' H' s' /\ D.ct σ' H'
  | .ret u => ∃ v σ' H', Inv X pins σ' H' s' /\ RelV v u /\ D.rt v H'
def PE (X : Cx) (e : Expr) (t : TE) : Prop :=
  ∀ (pins : List (Addr × Obj)) (s : Shared) (σ : St) (H : Hp) (Q : VK), Inv X pins σ H s -> t σ H Q -> wpAny (model X.prog X.w) X.A (eval e X.env) (EP X pins σ Q) X.xe s
def PT (X : Cx) (e : Expr) (t : TT) : Prop :=
  ∀ (pins : List (Addr × Obj)) (s : Shared) (σ : St) (H : Hp) (Q : Bool -> Hp -> Prop), Inv X pins σ H s -> t σ H Q -> wpAny (model X.prog X.w) X.A (isTrue e X.env (eval e X.env)) (TP X pins σ Q) X.xe s
def PW (X : Cx) (e : Expr) (t : TT) : Prop :=
  ∀ (whole : Sem Value) (pins : List (Addr × Obj)) (s : Shared) (σ : St) (H : Hp) (Q : Bool -> Hp -> Prop), Inv X pins σ H s -> t σ H Q -> wpAny (model X.prog X.w) X.A (isTrue e X.env whole) (TP X pins σ Q) X.xe s
theorem PW.pt {X : Cx} {e : Expr} {t : TT} (h : PW X e t) : PT X e t := h _
def PA (X : Cx) (es : List Expr) (t : TA) : Prop :=
  ∀ (pos : Pos) (pins : List (Addr × Obj)) (s : Shared) (σ : St) (H : Hp) (Q : List V -> Hp -> Prop), Inv X pins σ H s -> t σ H Q -> wpAny (model X.prog X.w) X.A (spliced (backTo pos (starEach es X.env))) (AP X pins σ Q) X.xe s
def PS (X : Cx) (st : Stmt) (t : TS) : Prop :=
  ∀ (pins : List (Addr × Obj)) (s : Shared) (σ : St) (H : Hp) (D : Ends), Inv X pins σ H s -> t D σ H -> wpAny (model X.prog X.w) X.A (exec st X.env) (SP X pins D) X.xe s
def PSs (X : Cx) (st : List Stmt) (t : TS) : Prop :=
  ∀ (pins : List (Addr × Obj)) (s : Shared) (σ : St) (H : Hp) (D : Ends), Inv X pins σ H s -> t D σ H -> wpAny (model X.prog X.w) X.A (execs st X.env) (SP X pins D) X.xe s
theorem thn {α : Type} {t : Sem α} {Q Q' : α -> Shared -> Prop} {M : Model} {A : Around} {E : Value -> Shared -> Prop} {s : Shared} (h : wpAny M A t Q E s) (hQ : ∀ a s, Q a s -> Q' a s) : wpAny M A t Q' E s := wpAny_mono h hQ fun _ _ x => x
end L2
namespace L2
open PySem PySem.Spec PyProof.Rows
section
variable {X : Cx}
def tVar (i : Nat) : TE := fun σ H Q => ∃ v, σ[i]? = some (some v) /\ Q v H
def tC (v : V) : TE := fun _ H Q => Q v H
theorem pe_var {i : Nat} {x : Str} {pos : Pos} (hN : X.N[i]? = some x) (hv : Vis X.env.scope x) (hd : (x == ("__debug__" : Str)) = false := by decide) (hcd : (x == ("__classdict__" : Str)) = false := by decide) : PE X (.Name x pos) (tVar i) := by
  intro pins s σ H Q I h
  obtain ⟨v, e, h⟩ := h
  obtain ⟨m, hn, hl⟩ := I.loc
  obtain ⟨u, r, l⟩ := hl i x v hN e hv
  have fin : EP X pins σ Q u s := ⟨v, H, I, r, h⟩
  rcases l with ⟨hk, hm⟩ | ⟨hk, c, hc, hcell⟩
  . exact wpAny_Name (wpAny_loadName_local I.ok.kind hk hn hm fin) hd
  . rcases hk with hk | hk
    . exact wpAny_Name (wpAny_loadName_cell I.ok.kind hk hc hcell fin) hd
    . exact wpAny_Name (wpAny_loadName_free I.ok.kind hk hc hcell fin hcd) hd
theorem pe_int {i j pos} : PE X (.Constant (.int i) j pos) (tC (.int i)) := fun _ _ _ H _ I h => wpAny_Constant_int ⟨.int i, H, I.tok _, ⟨_, rfl⟩, h⟩
theorem pe_bl {b j pos} : PE X (.Constant (.bool b) j pos) (tC (.bl b)) := fun _ _ _ H _ I h => Constant_bool ⟨.bl b, H, I, rfl, h⟩
theorem pe_str {x j pos} : PE X (.Constant (.str x) j pos) (tC (.str x)) := fun _ _ _ H _ I h => Calls.Constant_str ⟨.str x, H, I.tok _, ⟨_, rfl⟩, h⟩
def Gl (X : Cx) (x : Str) : Prop := X.env.kindOf x = some .globalImplicit
theorem ld_glob {E : Value -> Shared -> Prop} {pins : List (Addr × Obj)} {s : Shared} {σ : St} {H : Hp} {x : Str} {u : Value} {pos : Pos} {Q : Value -> Shared -> Prop} (I : Inv X pins σ H s) (hg : Gl X x) (hm : X.mg x = some u) (h : Q u s)
    (hd : (x == ("__debug__" : Str)) = false := by decide) : wpAny (model X.prog X.w) X.A (eval (.Name x pos) X.env) Q E s :=
  Calls.Name_function_global I.ok.kind hg (Calls.loadGlobal_global (by rw [I.ok.glob]; exact I.mod.glob.keeps I.bk) hm h) hd
theorem ld_blt {E : Value -> Shared -> Prop} {pins : List (Addr × Obj)} {s : Shared} {σ : St} {H : Hp} {x : Str} {u : Value} {pos : Pos} {Q : Value -> Shared -> Prop} (I : Inv X pins σ H s) (hg : Gl X x) (hm : X.mg x = none) (hv : bootBuiltins x = some u) (h : Q u s)
    (hn : x ≠ "__name__" := by decide) (hd : (x == ("__debug__" : Str)) = false := by decide) : wpAny (model X.prog X.w) X.A (eval (.Name x pos) X.env) Q E s := by
  obtain ⟨mb, h1, h2⟩ := I.mod.blt
  exact Calls.Name_function_global I.ok.kind hg (Calls.loadGlobal_builtin (by rw [I.ok.glob]; exact I.mod.glob.keeps I.bk) hm (by rw [I.ok.blt]; exact h1.keeps I.bk) ((h2 x hn).trans hv) h) hd
theorem pe_glob {x : Str} {v : V} {u : Value} {pos : Pos} (hg : Gl X x) (hm : X.mg x = some u) (r : RelV v u) (hd : (x == ("__debug__" : Str)) = false := by decide) : PE X (.Name x pos) (tC v) :=
  fun _ _ _ H _ I h => ld_glob I hg hm ⟨v, H, I, r, h⟩ hd
theorem pe_bltn {x : Str} {v : V} {u : Value} {pos : Pos} (hg : Gl X x) (hm : X.mg x = none) (hv : bootBuiltins x = some u) (r : RelV v u) (hn : x ≠ "__name__" := by decide) (hd : (x == ("__debug__" : Str)) = false := by decide) : PE X (.Name x pos) (tC v) :=
  fun _ _ _ H _ I h => ld_blt I hg hm hv ⟨v, H, I, r, h⟩ hn hd
variable {a b : Expr} {ta tb : TE} {pos : Pos}
def PC (X : Cx) (op : CmpOp) (a b : Expr) (t : TE) : Prop :=
  ∀ (pins : List (Addr × Obj)) (s : Shared) (σ : St) (H : Hp) (Q : VK), Inv X pins σ H s -> t σ H Q ->
    wpAny (model X.prog X.w) X.A (eval a X.env) (fun v s₁ => wpAny (model X.prog X.w) X.A (eval b X.env) (fun u s₂ => wpAny (model X.prog X.w) X.A (compareOp op v u) (EP X pins σ Q) X.xe s₂) X.xe s₁) X.xe s
def tB (t : TE) : TT := fun σ H Q => t σ H fun x H1 => ∃ c, x = .bl c /\ Q c H1
theorem pt_val {e : Expr} {t : TE} (h : PE X e t) (he : ∀ whole, isTrue e X.env whole = (do let v <- whole; standAt e.pos; holding [v] (truthy v)) := by intro _; rfl) : PT X e (tB t) := by
  intro pins s σ H Q I hw
  refine isTrue_plain (thn (h pins s σ H _ I hw) fun v s1 ⟨x, H1, I1, r1, q1⟩ => ?_) (he _)
  obtain ⟨d, rfl, q⟩ := q1
  cases r1
  exact wpAny_truthy_bool ⟨H1, I1, q⟩
variable {tA tB' : TT} {rest : List Expr}
def tAnd (t u : TT) : TT := fun σ H Q => t σ H fun c H1 => if c = true then u σ H1 Q else Q false H1
def tOr (t u : TT) : TT := fun σ H Q => t σ H fun c H1 => if c = true then Q true H1 else u σ H1 Q
def tNot (t : TT) : TT := fun σ H Q => t σ H fun c H1 => Q (!c) H1
theorem pw_and1 (ha : PT X a tA) : PW X (.BoolOp .And [a] pos) tA := by
  intro wh pins s σ H Q I h
  refine isTrue_and (thn (ha pins s σ H Q I h) fun c s1 e => ?_)
  cases c with
  | true => exact isTrue_and_nil e
  | false => exact e
theorem pw_or1 (ha : PT X a tA) : PW X (.BoolOp .Or [a] pos) tA := by
  intro wh pins s σ H Q I h
  refine isTrue_or (thn (ha pins s σ H Q I h) fun c s1 e => ?_)
  cases c with
  | false => exact isTrue_or_nil e
  | true => exact e
theorem pw_and (ha : PT X a tA) (hb : PW X (.BoolOp .And (b :: rest) pos) tB') : PW X (.BoolOp .And (a :: b :: rest) pos) (tAnd tA tB') := by
  intro wh pins s σ H Q I h
  refine isTrue_and (thn (ha pins s σ H _ I h) fun c s1 ⟨H1, I1, q1⟩ => ?_)
  cases c with
  | true => exact hb wh pins s1 σ H1 Q I1 q1
  | false => exact ⟨H1, I1, q1⟩
theorem pw_or (ha : PT X a tA) (hb : PW X (.BoolOp .Or (b :: rest) pos) tB') : PW X (.BoolOp .Or (a :: b :: rest) pos) (tOr tA tB') := by
  intro wh pins s σ H Q I h
  refine isTrue_or (thn (ha pins s σ H _ I h) fun c s1 ⟨H1, I1, q1⟩ => ?_)
  cases c with
  | true => exact ⟨H1, I1, q1⟩
  | false => exact hb wh pins s1 σ H1 Q I1 q1
theorem pt_not (ha : PT X a tA) : PT X (.UnaryOp .Not a pos) (tNot tA) := by
  intro pins s σ H Q I h
  exact isTrue_not (ha pins s σ H (fun c H1 => Q (!c) H1) I h)
def tAndV (ta tb : TE) : TE := fun σ H Q => ta σ H fun x H1 => ∃ c, x = .bl c /\ if c = true then tb σ H1 Q else Q (.bl false) H1
def tNotV (ta : TE) : TE := fun σ H Q => ta σ H fun x H1 => ∃ c, x = .bl c /\ Q (.bl (!c)) H1
theorem pe_one {op} {t : TE} (h : PE X a t) : PE X (.BoolOp op [a] pos) t := fun pins s σ H Q I hw => BoolOp_one (h pins s σ H Q I hw)
theorem pe_and (ha : PE X a ta) (hb : PE X (.BoolOp .And (b :: rest) pos) tb) : PE X (.BoolOp .And (a :: b :: rest) pos) (tAndV ta tb) := by
  intro pins s σ H Q I h
  refine BoolOp_and (thn (ha pins s σ H _ I h) fun v s1 ⟨x, H1, I1, r1, q1⟩ => ?_)
  obtain ⟨c, rfl, q1⟩ := q1
  cases r1
  refine wpAny_truthy_bool ?_
  cases c with
  | true => exact hb pins s1 σ H1 Q I1 q1
  | false => exact ⟨.bl false, H1, I1, rfl, q1⟩
theorem pe_not (ha : PE X a ta) : PE X (.UnaryOp .Not a pos) (tNotV ta) := by
  intro pins s σ H Q I h
  refine UnaryOp_ (thn (ha pins s σ H _ I h) fun v s1 ⟨x, H1, I1, r1, q1⟩ => ?_)
  obtain ⟨c, rfl, q1⟩ := q1
  cases r1
  exact not_of (wpAny_truthy_bool ⟨.bl (!c), H1, I1, rfl, q1⟩)
end
end L2
namespace L2
open PySem PySem.Spec PyProof.Rows
def SqL (K : PySem.W.Frag) (H : Hp) (a : Addr) (xs : List V) : Prop :=
  Rd H a (.lst xs) \/
    ∃ (o : Obj) (its : Array Value) (n : Nat), K.lookup a = some o /\ o.cls = .type "list" /\ o.dict = none /\ o.data = .seq its n /\ its.size <= sizeLine /\ Vals xs its.toList
def SqT (K : PySem.W.Frag) (H : Hp) (a : Addr) (xs : List V) : Prop :=
  Rd H a (.tup xs) \/
    ∃ (o : Obj) (its : Array Value) (n : Nat), K.lookup a = some o /\ o.cls = .type "tuple" /\ o.data = .seq its n /\ its.size <= sizeLine /\ Vals xs its.toList
def absV : Value -> Option V
  | .none => some .non
  | .bool b => some (.bl b)
  | .int i _ => some (.int i)
  | .str x _ => some (.str x)
  | .bytes b _ => some (.byt b)
  | .float b _ => some (.flt b)
  | .ref a => some (.ref a)
  | .type n => some (.ty n)
  | _ => none
theorem RelV.abs {x : V} {u : Value} (r : RelV x u) : absV u = some x := by
  cases x with
  | non => cases r; rfl
  | bl _ => cases r; rfl
  | int _ => obtain ⟨t, rfl⟩ := r; rfl
  | str _ => obtain ⟨t, rfl⟩ := r; rfl
  | byt _ => obtain ⟨t, rfl⟩ := r; rfl
  | flt _ => obtain ⟨t, rfl⟩ := r; rfl
  | ref _ => cases r; rfl
  | ty _ => cases r; rfl
theorem RelV.inj {x y : V} {u : Value} (r : RelV x u) (q : RelV y u) : x = y := Option.some.inj (r.abs.symm.trans q.abs)
theorem Vals.inj : ∀ {xs ys : List V} {us : List Value}, Vals xs us -> Vals ys us -> xs = ys
  | _, _, _, .nil, .nil => rfl
  | _, _, _, .cons r t, .cons r' t' => by rw [r.inj r', Vals.inj t t']
section
variable {X : Cx} {pins : List (Addr × Obj)} {σ : St} {H : Hp} {s : Shared} {a : Addr} {xs ys : List V}
theorem SqL.of {K : PySem.W.Frag} (h : H a = some (.lst xs)) : SqL K H a xs := .inl (.inl h)
theorem SqT.of {K : PySem.W.Frag} (h : H a = some (.tup xs)) : SqT K H a xs := .inl (.inl h)
theorem Inv.list (I : Inv X pins σ H s) (h : SqL X.K H a xs) : ∃ its : List Value, Vals xs its /\ PlainL s.heap a its.toArray /\ xs.length <= sizeLine := by
  rcases h with h | ⟨o, its, n, hk, hc, hd, hs, hz, r⟩
  . obtain ⟨z, its, n, r, e⟩ := h.ok I.hok
    exact ⟨its, r, ⟨_, n, e, rfl, rfl, rfl⟩, z⟩
  . refine ⟨its.toList, r, ⟨o, n, I.kIn a o hk, hc, hd, by simpa using hs⟩, ?_⟩
    have e := r.length
    simp only [Array.length_toList] at e
    omega
theorem Inv.tuple (I : Inv X pins σ H s) (h : SqT X.K H a xs) : ∃ its : List Value, Vals xs its /\ IsTup s.heap a its.toArray /\ xs.length <= sizeLine := by
  rcases h with h | ⟨o, its, n, hk, hc, hs, hz, r⟩
  . obtain ⟨z, its, r, p⟩ := h.ok I.hok
    exact ⟨its, r, p, z⟩
  . refine ⟨its.toList, r, ⟨o, I.kIn a o hk, hc, n, by simpa using hs⟩, ?_⟩
    have e := r.length
    simp only [Array.length_toList] at e
    omega
theorem Inv.list_inj (I : Inv X pins σ H s) (h : SqL X.K H a xs) (h' : SqL X.K H a ys) : xs = ys := by
  obtain ⟨its, r, ⟨o, n, e, _, _, d⟩, _⟩ := I.list h
  obtain ⟨its', r', ⟨o', n', e', _, _, d'⟩, _⟩ := I.list h'
  rw [e] at e'; cases e'
  rw [d] at d'
  injection d' with d1 _
  have : its = its' := by simpa using congrArg Array.toList d1
  subst this
  exact r.inj r'
theorem Inv.tuple_inj (I : Inv X pins σ H s) (h : SqT X.K H a xs) (h' : SqT X.K H a ys) : xs = ys := by
  obtain ⟨its, r, ⟨o, e, _, n, d⟩, _⟩ := I.tuple h
  obtain ⟨its', r', ⟨o', e', _, n', d'⟩, _⟩ := I.tuple h'
  rw [e] at e'; cases e'
  rw [d] at d'
  injection d' with d1 _
  have : its = its' := by simpa using congrArg Array.toList d1
  subst this
  exact r.inj r'
end
abbrev Cx.wish (X : Cx) (E : Value -> Shared -> Prop) : Cx := { X with xe := E }
abbrev Cx.nox (X : Cx) : Cx := X.wish fun _ _ => False
theorem Cx.Ok.wish {X : Cx} (ok : X.Ok) (E : Value -> Shared -> Prop) : (X.wish E).Ok :=
  ⟨ok.mod, ok.kind, ok.glob, ok.blt, ok.above, ok.inj, ok.has, ok.cab, ok.hd, ok.frames, ok.stk, ok.exf, ok.bs, ok.bsz, ok.noex, ok.exfs, ok.funs, ok.frf⟩
theorem Cx.Ok.unwish {X : Cx} {E : Value -> Shared -> Prop} (ok : (X.wish E).Ok) : X.Ok :=
  ⟨ok.mod, ok.kind, ok.glob, ok.blt, ok.above, ok.inj, ok.has, ok.cab, ok.hd, ok.frames, ok.stk, ok.exf, ok.bs, ok.bsz, ok.noex, ok.exfs, ok.funs, ok.frf⟩
section
variable {X : Cx} {pins : List (Addr × Obj)} {σ : St} {H : Hp} {s : Shared} {E : Value -> Shared -> Prop}
theorem Inv.wish (I : Inv X pins σ H s) (E : Value -> Shared -> Prop) : Inv (X.wish E) pins σ H s := ⟨I.ok.wish E, I.os, I.bare, I.base, I.loc, I.cell, I.free, I.freeC, I.pin, I.hok, I.len⟩
theorem Inv.unwish (I : Inv (X.wish E) pins σ H s) : Inv X pins σ H s := ⟨I.ok.unwish, I.os, I.bare, I.base, I.loc, I.cell, I.free, I.freeC, I.pin, I.hok, I.len⟩
theorem SP.unwish {D : Ends} {f : Flow} {s' : Shared} (h : SP (X.wish E) pins D f s') : SP X pins D f s' := by
  cases f with
  | next => obtain ⟨σ', H', I, q⟩ := h; exact ⟨σ', H', I.unwish, q⟩
  | brk => obtain ⟨σ', H', I, q⟩ := h; exact ⟨σ', H', I.unwish, q⟩
  | cont => obtain ⟨σ', H', I, q⟩ := h; exact ⟨σ', H', I.unwish, q⟩
  | ret u => obtain ⟨v, σ', H', I, r, q⟩ := h; exact ⟨v, σ', H', I.unwish, r, q⟩
theorem PSs.nox {st : List Stmt} {t : TS} (h : PSs X.nox st t) : PSs X st t := fun pins s σ H D I hw =>
  wpAny_mono (h pins s σ H D (I.wish _) hw) (fun _ _ q => q.unwish) fun _ _ z => False.elim z
end
section
variable {X : Cx} {st : Stmt} {rest : List Stmt} {t u : TS} {e : Expr} {te : TE} {pos : Pos}
def tNext : TS := fun D σ H => D.nx σ H
def tSeq (t u : TS) : TS := fun D σ H => t { D with nx := u D } σ H
theorem pss_nil : PSs X [] tNext := fun _ _ σ H _ I h => wpAny_execs_nil ⟨σ, H, I, h⟩
theorem pss_cons (h1 : PS X st t) (h2 : PSs X rest u) : PSs X (st :: rest) (tSeq t u) := by
  intro pins s σ H D I h
  refine wpAny_execs_cons (thn (h1 pins s σ H { D with nx := u D } I h) fun f s1 q => ?_)
  cases f with
  | next =>
    obtain ⟨σ', H', I', q⟩ := q
    exact h2 pins s1 σ' H' D I' q
  | ret v => exact q
  | brk => exact q
  | cont => exact q
theorem pss_one (h1 : PS X st t) : PSs X [st] t := by
  intro pins s σ H D I h
  refine wpAny_execs_cons (thn (h1 pins s σ H D I h) fun f s1 q => ?_)
  cases f with
  | next => exact wpAny_execs_nil q
  | ret v => exact q
  | brk => exact q
  | cont => exact q
def tCont : TS := fun D σ H => D.ct σ H
theorem ps_continue : PS X (.Continue pos) tCont := fun _ _ σ H _ I h => wpAny_Continue ⟨σ, H, I, h⟩
theorem Inv.quiet {pins : List (Addr × Obj)} {σ : St} {H : Hp} {s : Shared} (I : Inv X pins σ H s) : interactive X.env = false := by simp [interactive, I.ok.kind]
def tDrop (te : TE) : TS := fun D σ H => te σ H fun _ H1 => D.nx σ H1
theorem ps_expr (he : PE X e te) (hs : swapsWith e none pos.line X.env = pure false := by rfl) : PS X (.Expr e pos) (tDrop te) := by
  intro pins s σ H D I h
  exact wpAny_Expr_any (thn (he pins s σ H _ I h) fun v s1 ⟨x, H1, I1, r1, q1⟩ => ⟨σ, H1, I1, q1⟩) I.quiet hs
def tRet (te : TE) : TS := fun D σ H => te σ H D.rt
theorem ps_ret (he : PE X e te) : PS X (.Return (some e) pos) (tRet te) := by
  intro pins s σ H D I h
  exact wpAny_Return_some (thn (he pins s σ H _ I h) fun v s1 ⟨x, H1, I1, r1, q1⟩ => ⟨x, σ, H1, I1, r1, q1⟩)
def tIfS (c : TT) (t u : TS) : TS := fun D σ H => c σ H fun b H1 => if b = true then t D σ H1 else u D σ H1
theorem ps_if {c : Expr} {a b : List Stmt} {tc : TT} (hc : PT X c tc) (ha : PSs X a t) (hb : PSs X b u) : PS X (.If c a b pos) (tIfS tc t u) := by
  intro pins s σ H D I h
  refine wpAny_If (thn (hc pins s σ H _ I h) fun d s1 ⟨H1, I1, q1⟩ => ?_)
  cases d with
  | true => exact ha pins s1 σ H1 D I1 q1
  | false => exact hb pins s1 σ H1 D I1 q1
def tNever : TS := fun _ _ _ => False
theorem ps_never : PS X st tNever := fun _ _ _ _ _ _ h => h.elim
end
abbrev TG := V -> St -> Hp -> (St -> Hp -> Prop) -> Prop
abbrev TGs := List V -> St -> Hp -> (St -> Hp -> Prop) -> Prop
def PG (X : Cx) (target : Expr) (t : TG) : Prop :=
  ∀ (pins : List (Addr × Obj)) (s : Shared) (σ : St) (H : Hp) (v : V) (u : Value) (Q : St -> Hp -> Prop), Inv X pins σ H s -> RelV v u -> t v σ H Q ->
    wpAny (model X.prog X.w) X.A (assign target X.env u) (fun _ s' => ∃ σ' H', Inv X pins σ' H' s' /\ Q σ' H') X.xe s
def PGs (X : Cx) (ts : List Expr) (t : TGs) : Prop :=
  ∀ (pins : List (Addr × Obj)) (s : Shared) (σ : St) (H : Hp) (vs : List V) (us : List Value) (Q : St -> Hp -> Prop), Inv X pins σ H s -> Vals vs us -> t vs σ H Q ->
    wpAny (model X.prog X.w) X.A (assignInOrder ((assignEach ts X.env).map (·.2)) us) (fun _ s' => ∃ σ' H', Inv X pins σ' H' s' /\ Q σ' H') X.xe s
abbrev TSet := V -> V -> V -> Hp -> (Hp -> Prop) -> Prop
def PSet (X : Cx) (t : TSet) : Prop :=
  ∀ (pins : List (Addr × Obj)) (s : Shared) (σ : St) (H : Hp) (o i v : V) (ov iv u : Value) (Q : Hp -> Prop), Inv X pins σ H s -> RelV o ov -> RelV i iv -> RelV v u -> t o i v H Q ->
    wpAny (model X.prog X.w) X.A (setItem ov iv u) (fun _ s' => ∃ H', Inv X pins σ H' s' /\ Q H') X.xe s
abbrev TIp := V -> V -> Hp -> VK -> Prop
def PIp (X : Cx) (op : Operator) (t : TIp) : Prop :=
  ∀ (pins : List (Addr × Obj)) (s : Shared) (σ : St) (H : Hp) (x y : V) (v u : Value) (Q : VK), Inv X pins σ H s -> RelV x v -> RelV y u -> t x y H Q ->
    wpAny (model X.prog X.w) X.A (inplaceOp op v u) (EP X pins σ Q) X.xe s
section
variable {X : Cx} {pos : Pos}
def gName (i : Nat) : TG := fun v σ H Q => Q (σ.set i (some v)) H
theorem pg_name {i : Nat} {x : Str} (hN : X.N.Nodup) (hi : X.N[i]? = some x) (hx : Loc X.env.scope x) (hf : X.fn x = true \/ X.env.scope.names.lookup x = some .local := by first | exact .inl rfl | exact .inr rfl | assumption) : PG X (.Name x pos) (gName i) := by
  intro pins s σ H v u Q I r h
  exact wpAny_assign_Name (store_ok I hN hi hx r (fun s' I' => ⟨_, H, I', h⟩) hf)
def gNil : TGs := fun vs σ H Q => vs = [] /\ Q σ H
def gCons (t : TG) (u : TGs) : TGs := fun vs σ H Q => ∃ v r, vs = v :: r /\ t v σ H fun σ' H' => u r σ' H' Q
theorem pgs_nil : PGs X [] gNil := by
  intro pins s σ H vs us Q I r h
  obtain ⟨e, h⟩ := h
  subst e
  cases r
  exact assignInOrder_nil ⟨σ, H, I, h⟩
theorem pgs_cons {e : Expr} {es : List Expr} {t : TG} {u : TGs} (h1 : PG X e t) (h2 : PGs X es u)
    (hs : (assignEach (e :: es) X.env).map (·.2) = assign e X.env :: (assignEach es X.env).map (·.2) := by rfl) : PGs X (e :: es) (gCons t u) := by
  intro pins s σ H vs us Q I r h
  obtain ⟨v, vr, e1, h⟩ := h
  subst e1
  cases r with
  | cons r rr =>
    rw [hs]
    refine assignInOrder_cons (thn (h1 pins s σ H _ _ _ I r h) fun _ s1 ⟨σ1, H1, I1, q1⟩ => ?_)
    exact h2 pins s1 σ1 H1 _ _ Q I1 rr q1
def gTup (K : PySem.W.Frag) (n : Nat) (t : TGs) : TG := fun v σ H Q => ∃ a xs, v = .ref a /\ SqT K H a xs /\ xs.length = n /\ t xs σ H Q
theorem pg_tup {es : List Expr} {k : Nat} {t : TGs} {n : Nat} (hc : X.calm = true) (h : PGs X es t)
    (hn : (assignEach es X.env).length = n := by rfl) (hst : (assignEach es X.env).findIdx? (·.1) = none := by rfl) : PG X (.Tuple es k pos) (gTup X.K n t) := by
  intro pins s σ H v u Q I r hw
  obtain ⟨a, xs, e1, hq, hl, hw⟩ := hw
  subst e1
  cases r
  obtain ⟨its, rv, ht, hz⟩ := I.tuple hq
  refine assign_Tuple_tuple (I.ok.hd hc) ht (by simp [hn, <- hl, rv.length]) hst fun h' hx => ?_
  have I1 : Inv X pins σ H { s with heap := h' } := I.kept (t' := s.toks) fun b o e => hx b o (Nat.ne_of_lt (Heap.lt_size e)) e
  exact h pins _ σ H xs _ Q I1 (by simpa using rv) hw
def gSub (to ti : TE) (t : TSet) : TG := fun v σ H Q => to σ H fun o H1 => ti σ H1 fun i H2 => t o i v H2 fun H3 => Q σ H3
theorem pg_sub {o i : Expr} {to ti : TE} {t : TSet} (ho : PE X o to) (hi : PE X i ti) (hs : PSet X t)
    (ha : ∀ v, assign (.Subscript o i pos) X.env v = (do
      let ov <- holding [v] (eval o X.env)
      let iv <- holding [v, ov] (eval i X.env)
      standAt pos
      holding [v, ov, iv] (setItem ov iv v)
      release [v, ov, iv] []) := by intro _; rfl) : PG X (.Subscript o i pos) (gSub to ti t) := by
  intro pins s σ H v u Q I r h
  rw [ha]
  refine wpAny_bind (wpAny_holding (thn (ho pins s σ H _ I h) fun ov s1 ⟨x, H1, I1, r1, q1⟩ => ?_))
  refine wpAny_bind (wpAny_holding (thn (hi pins s1 σ H1 _ I1 q1) fun iv s2 ⟨y, H2, I2, r2, q2⟩ => ?_))
  refine wpAny_bind (wpAny_standAt (wpAny_bind (wpAny_holding (thn (hs pins s2 σ H2 x y v ov iv u _ I2 r1 r2 r q2) fun _ s3 ⟨H3, I3, q3⟩ => ?_))))
  exact wpAny_release ⟨σ, H3, I3, q3⟩
def tAsg (te : TE) (g : TG) : TS := fun D σ H => te σ H fun x H1 => g x σ H1 D.nx
theorem ps_asg {tg e : Expr} {te : TE} {g : TG} (he : PE X e te) (hg : PG X tg g) (hs : swapsWithSole [tg] e pos.line X.env = pure false := by rfl) (hw : swappedStores [tg] e X.env = pure none := by rfl)
    (h1 : (assignEach [tg] X.env).map (·.2) = [assign tg X.env] := by rfl) : PS X (.Assign [tg] e pos) (tAsg te g) := by
  intro pins s σ H D I h
  refine wpAny_Assign_stores (thn (he pins s σ H _ I h) fun v s1 ⟨x, H1, I1, r1, q1⟩ => ?_) hs hw
  rw [h1]
  exact thn (hg pins s1 σ H1 x v _ I1 r1 q1) fun _ s2 q => q
theorem ps_set {i : Nat} {x : Str} {e : Expr} {te : TE} {pos' : Pos} (hN : X.N.Nodup) (hi : X.N[i]? = some x) (hx : Loc X.env.scope x) (he : PE X e te) (hs : swapsWith e (some (.Name x pos')) pos.line X.env = pure false := by rfl) (hf : X.fn x = true \/ X.env.scope.names.lookup x = some .local := by first | exact .inl rfl | exact .inr rfl | assumption) :
    PS X (.Assign [.Name x pos'] e pos) (tAsg te (gName i)) := by
  intro pins s σ H D I h
  refine wpAny_Assign_Name (thn (he pins s σ H _ I h) fun v s1 ⟨y, H1, I1, r1, q1⟩ => ?_) hs
  exact store_ok I1 hN hi hx r1 (fun s2 I2 => ⟨_, H1, I2, q1⟩) hf
def tAug (i : Nat) (te : TE) (ti : TIp) : TS := fun D σ H => ∃ x, σ[i]? = some (some x) /\ te σ H fun y H1 => ti x y H1 fun z H2 => D.nx (σ.set i (some z)) H2
theorem ps_aug {i : Nat} {x : Str} {e : Expr} {te : TE} {op : Operator} {ti : TIp} {pos' : Pos} (hN : X.N.Nodup) (hi : X.N[i]? = some x) (hx : Loc X.env.scope x) (he : PE X e te) (ho : PIp X op ti) (hf : X.fn x = true \/ X.env.scope.names.lookup x = some .local := by first | exact .inl rfl | exact .inr rfl | assumption) :
    PS X (.AugAssign (.Name x pos') op e pos) (tAug i te ti) := by
  intro pins s σ H D I h
  obtain ⟨v, e1, h⟩ := h
  obtain ⟨m, hn, hl⟩ := I.loc
  have vis : Vis X.env.scope x := by rcases hx with k | k; exact .inl k; exact .inr (.inl k)
  obtain ⟨u, r, l⟩ := hl i x v hi e1 vis
  refine wpAny_AugAssign_Name ?_
  have go : wpAny (model X.prog X.w) X.A (eval e X.env) (fun w s₂ => wpAny (model X.prog X.w) X.A (inplaceOp op u w) (fun r s₃ => wpAny (model X.prog X.w) X.A (storeName X.env x r) (fun _ => SP X pins D .next) X.xe s₃) X.xe s₂) X.xe s := by
    refine thn (he pins s σ H _ I h) fun w s1 ⟨y, H1, I1, r1, q1⟩ => ?_
    refine thn (ho pins s1 σ H1 v y u w _ I1 r r1 q1) fun z s2 ⟨zv, H2, I2, r2, q2⟩ => ?_
    exact store_ok I2 hN hi hx r2 (fun s3 I3 => ⟨_, H2, I3, q2⟩) hf
  rcases l with ⟨hk, hm⟩ | ⟨hk, c, hc, hcell⟩
  . exact wpAny_loadName_local I.ok.kind hk hn hm go
  . rcases hk with hk | hk
    . exact wpAny_loadName_cell I.ok.kind hk hc hcell go
    . rcases hx with k | k
      . have : X.env.scope.names.lookup x = some .free := hk
        rw [k] at this; cases this
      . have : X.env.scope.names.lookup x = some .free := hk
        rw [k] at this; cases this
def ipI (f : Int -> Int -> Int) : TIp := fun x y H Q => ∃ i j, x = .int i /\ y = .int j /\ Q (.int (f i j)) H
theorem ip_add : PIp X .Add (ipI fun i j => i + j) := by
  intro pins s σ H x y v u Q I r1 r2 h
  obtain ⟨i, j, e1, e2, q⟩ := h
  subst e1; subst e2
  obtain ⟨t, rfl⟩ := r1
  obtain ⟨t', rfl⟩ := r2
  exact iadd_int ⟨.int _, H, I.tok _, ⟨_, rfl⟩, q⟩
theorem ip_sub : PIp X .Sub (ipI fun i j => i - j) := by
  intro pins s σ H x y v u Q I r1 r2 h
  obtain ⟨i, j, e1, e2, q⟩ := h
  subst e1; subst e2
  obtain ⟨t, rfl⟩ := r1
  obtain ⟨t', rfl⟩ := r2
  exact isub_int ⟨.int _, H, I.tok _, ⟨_, rfl⟩, q⟩
end
section
variable {X : Cx} {pos : Pos}
end
structure It where
  go : Nat -> Hp -> Prop
  yld : Nat -> Hp -> V -> Hp -> Prop
  stop : Nat -> Hp -> Prop
def FpOk (X : Cx) (pins : List (Addr × Obj)) (H : Hp) (b : Addr) : Prop :=
  H b = none /\ b ≠ X.env.locals /\ b ∉ X.fs /\ (b ∈ X.ex \/ X.s₀.heap.objs.size <= b) /\ (∀ x c, X.env.cells.lookup x = some c -> c ≠ b) /\ ∀ p ∈ X.pn ++ pins, p.1 ≠ b
theorem Inv.fpOk {X : Cx} {pins : List (Addr × Obj)} {σ : St} {H H' : Hp} {s : Shared} {b : Addr} (I : Inv X pins σ H s) (hb : s.heap.objs.size <= b) (hn : H' b = none) : FpOk X pins H' b := by
  refine ⟨hn, Nat.ne_of_gt (Nat.lt_of_lt_of_le I.lt hb), I.nofs hb, .inr (Nat.le_trans I.sz hb), fun x c e z => ?_, fun p hp z => ?_⟩
  . obtain ⟨v, q⟩ := I.cell x c e
    exact absurd (Nat.lt_of_lt_of_le q.lt (by rw [z]; exact hb)) (Nat.lt_irrefl _)
  . exact absurd (Nat.lt_of_lt_of_le (Heap.lt_size (I.pin p hp).1) (by rw [z]; exact hb)) (Nat.lt_irrefl _)
structure Turn (P : Program) (w : World) (K : PySem.W.Frag) (tg : Expr) (J : It) (fp : List Addr) (it : Addr) (tn : Nat -> Heap -> Prop) : Prop where
  mem : it ∈ fp
  obj : ∀ i h, tn i h -> ∀ b ∈ fp, ∃ o, h.get? b = some o /\ ∀ v, o.data ≠ .cell v
  keep : ∀ i h h', tn i h -> (∀ b ∈ fp, ∀ o, h.get? b = some o -> h'.get? b = some o) -> tn i h'
  item : ∀ (X : Cx), X.prog = P -> X.w = w -> X.K = K -> X.calm = true -> ∀ (i : Nat) (pins : List (Addr × Obj)) (s : Shared) (σ : St) (H : Hp) (E : Value -> Shared -> Prop), Inv X pins σ H s -> (∀ b ∈ fp, FpOk X pins H b) -> tn i s.heap -> J.go i H ->
    wpAny (model P w) X.A (pyNext (.ref it)) (fun r s1 => ∃ u, r = some u /\
      wpAny (model P w) X.A (letOwnedTupleGo tg (.ref it) u) (fun _ s2 => ∃ x H', Inv X pins σ H' s2 /\ RelV x u /\ J.yld i H x H' /\ tn (i + 1) s2.heap /\ ∀ b ∈ fp, H' b = none) E s1) E s
  done : ∀ (X : Cx), X.prog = P -> X.w = w -> X.K = K -> X.calm = true -> ∀ (i : Nat) (pins : List (Addr × Obj)) (s : Shared) (σ : St) (H : Hp) (E : Value -> Shared -> Prop), Inv X pins σ H s -> (∀ b ∈ fp, FpOk X pins H b) -> tn i s.heap -> J.stop i H ->
    wpAny (model P w) X.A (pyNext (.ref it)) (fun r s1 => r = none /\ Inv X pins σ H s1) E s
  self : ∀ (A : Around) (i : Nat) (s : Shared) (Q : Value -> Shared -> Prop) (E : Value -> Shared -> Prop), tn i s.heap -> Q (.ref it) s -> wpAny (model P w) A (pyIter (.ref it)) Q E s
abbrev TI := St -> Hp -> (It -> Hp -> Prop) -> Prop
def PIE (X : Cx) (pins : List (Addr × Obj)) (σ : St) (tg : Expr) (R : It -> Hp -> Prop) (itv : Value) (s2 : Shared) : Prop :=
  ∃ (it : Addr) (fp : List Addr) (tn : Nat -> Heap -> Prop) (J : It) (H' : Hp), itv = .ref it /\ Inv X pins σ H' s2 /\ Turn X.prog X.w X.K tg J fp it tn /\ tn 0 s2.heap /\ (∀ b ∈ fp, FpOk X pins H' b) /\ R J H'
def PI (X : Cx) (tg iter : Expr) (wi : TI) : Prop :=
  ∀ (pins : List (Addr × Obj)) (s : Shared) (σ : St) (H : Hp) (R : It -> Hp -> Prop), Inv X pins σ H s -> wi σ H R ->
    wpAny (model X.prog X.w) X.A (eval iter X.env) (fun v s1 => wpAny (model X.prog X.w) X.A (pyIter v) (PIE X pins σ tg R) X.xe s1) X.xe s
theorem go_of {M : Model} {A : Around} {E : Value -> Shared -> Prop} {s : Shared} {tg : Expr} {it : Addr} {u : Value} {o : Obj} {n : String} {vs : Array Value} {Q : Unit -> Shared -> Prop} (ho : s.heap.get? it = some o) (hc : o.cls = .type n) (hd : o.data = .fields vs)
    (hn : ["enumerate", "zip", "dict_itemiterator", "dict_reverseitemiterator", "odict_iterator", "itertools.zip_longest", "itertools.pairwise"].contains n = false) (hQ : Q () s) : wpAny M A (letOwnedTupleGo tg (.ref it) u) Q E s := by
  unfold letOwnedTupleGo
  cases tg <;> first
    | exact wpAny_pure hQ
    | (cases u <;> first
        | exact wpAny_pure hQ
        | (refine wpAny_bind (wpAny_load ho ?_)
           rw [hc, hd]
           show wpAny M A (if (["enumerate", "zip", "dict_itemiterator", "dict_reverseitemiterator", "odict_iterator", "itertools.zip_longest", "itertools.pairwise"].contains n && vs[0]? == some (rawInt _)) = true then _ else _) Q E s
           rw [if_neg (by intro h; rw [hn, Bool.false_and] at h; cases h)]
           exact wpAny_pure hQ))
def Itl (K : PySem.W.Frag) (a : Addr) : It :=
  ⟨fun i H => ∃ xs x, SqL K H a xs /\ xs[i]? = some x, fun i H x H' => H' = H /\ ∀ xs, SqL K H a xs -> xs[i]? = some x, fun i H => ∃ xs, SqL K H a xs /\ xs.length <= i⟩
def Itt (K : PySem.W.Frag) (a : Addr) : It :=
  ⟨fun i H => ∃ xs x, SqT K H a xs /\ xs[i]? = some x, fun i H x H' => H' = H /\ ∀ xs, SqT K H a xs -> xs[i]? = some x, fun i H => ∃ xs, SqT K H a xs /\ xs.length <= i⟩
def Itr (lo : Int) (n : Nat) : It := ⟨fun i _ => i < n, fun i H x H' => H' = H /\ x = .int (lo + i), fun i _ => n <= i⟩
theorem turn_list {P : Program} {w : World} {K : PySem.W.Frag} {tg : Expr} (a it : Addr) : Turn P w K tg (Itl K a) [it] it (fun i h => h.IsListIter it a i) where
  mem := by simp
  obj := fun i h st b hb => by
    have e : b = it := by simpa using hb
    subst e
    obtain ⟨o, e, c, d⟩ := st
    exact ⟨o, e, fun v z => by rw [d] at z; cases z⟩
  keep := fun i h h' st k => st.at fun o e => k it (by simp) o e
  item := by
    intro X hP hw hK hc i pins s σ H E I hf st hg
    subst hP hw hK
    obtain ⟨xs, x, hq, hx⟩ := hg
    obtain ⟨its, rv, p, hz⟩ := I.list hq
    obtain ⟨u, hu, ru⟩ := rv.get hx
    obtain ⟨f0, f1, f2, f3, f4, f5⟩ := hf it (by simp)
    refine wpAny_pyNext_list_item st p.isList (x := u) (by simpa using hu) fun h' st' sb => ?_
    have I1 : Inv X pins σ H { s with heap := h' } := I.turned (t' := s.toks) (fun b o hb e => (sb.2 b hb).trans e) f0 f1 f3 f4 f5
    obtain ⟨o, e, c, d⟩ := id st'
    exact ⟨u, rfl, go_of (s := { s with heap := h' }) e c d (by decide) ⟨x, H, I1, ru, ⟨rfl, fun ys hy => by rw [I.list_inj hy hq]; exact hx⟩, st', fun b hb => (hf b hb).1⟩⟩
  done := by
    intro X hP hw hK hc i pins s σ H E I hf st hg
    subst hP hw hK
    obtain ⟨xs, hq, hx⟩ := hg
    obtain ⟨its, rv, p, hz⟩ := I.list hq
    obtain ⟨f0, f1, f2, f3, f4, f5⟩ := hf it (by simp)
    have hl := rv.length
    exact wpAny_pyNext_list_end (I.ok.hd hc) st p.isList (by simp; omega) fun h' eb => ⟨rfl, I.turned (t' := s.toks) (fun b o hb e => eb b o hb e) f0 f1 f3 f4 f5⟩
  self := fun _ _ _ _ _ st h => wpAny_pyIter_listiter st h
theorem turn_tuple {P : Program} {w : World} {K : PySem.W.Frag} {tg : Expr} (a it : Addr) : Turn P w K tg (Itt K a) [it] it (fun i h => h.IsTupleIter it a i) where
  mem := by simp
  obj := fun i h st b hb => by
    have e : b = it := by simpa using hb
    subst e
    obtain ⟨o, e, c, d⟩ := st
    exact ⟨o, e, fun v z => by rw [d] at z; cases z⟩
  keep := fun i h h' st k => st.at fun o e => k it (by simp) o e
  item := by
    intro X hP hw hK hc i pins s σ H E I hf st hg
    subst hP hw hK
    obtain ⟨xs, x, hq, hx⟩ := hg
    obtain ⟨its, rv, p, hz⟩ := I.tuple hq
    obtain ⟨u, hu, ru⟩ := rv.get hx
    obtain ⟨f0, f1, f2, f3, f4, f5⟩ := hf it (by simp)
    refine wpAny_pyNext_tuple_item st (show s.heap.IsTuple a its.toArray from p) (x := u) (by simpa using hu) fun h' st' sb => ?_
    have I1 : Inv X pins σ H { s with heap := h' } := I.turned (t' := s.toks) (fun b o hb e => (sb.2 b hb).trans e) f0 f1 f3 f4 f5
    obtain ⟨o, e, c, d⟩ := id st'
    exact ⟨u, rfl, go_of (s := { s with heap := h' }) e c d (by decide) ⟨x, H, I1, ru, ⟨rfl, fun ys hy => by rw [I.tuple_inj hy hq]; exact hx⟩, st', fun b hb => (hf b hb).1⟩⟩
  done := by
    intro X hP hw hK hc i pins s σ H E I hf st hg
    subst hP hw hK
    obtain ⟨xs, hq, hx⟩ := hg
    obtain ⟨its, rv, p, hz⟩ := I.tuple hq
    obtain ⟨f0, f1, f2, f3, f4, f5⟩ := hf it (by simp)
    have hl := rv.length
    exact wpAny_pyNext_tuple_end (I.ok.hd hc) st (show s.heap.IsTuple a its.toArray from p) (by simp; omega) fun h' eb => ⟨rfl, I.turned (t' := s.toks) (fun b o hb e => eb b o hb e) f0 f1 f3 f4 f5⟩
  self := fun _ _ _ _ _ st h => wpAny_pyIter_tupleiter st h
theorem turn_range {P : Program} {w : World} {K : PySem.W.Frag} {tg : Expr} (it : Addr) (lo : Int) (n : Nat) : Turn P w K tg (Itr lo n) [it] it (fun i h => IsRangeIter h it (lo + (i : Nat) * 1) ((n : Int) - (i : Nat)) 1) where
  mem := by simp
  obj := fun i h st b hb => by
    have e : b = it := by simpa using hb
    subst e
    exact ⟨_, st, fun v z => by
      have z' : Data.fields _ = Data.cell v := z
      cases z'⟩
  keep := fun i h h' st k => k it (by simp) _ st
  item := by
    intro X hP hw hK hc i pins s σ H E I hf st hg
    subst hP hw hK
    obtain ⟨f0, f1, f2, f3, f4, f5⟩ := hf it (by simp)
    have W := Walks.range (prog := X.prog) (w := X.w) (I.ok.hd hc) it lo 1 n
    refine W.item i s _ _ hg st fun v h' tk hv st' kk => ?_
    obtain ⟨t, rfl⟩ := hv
    have I1 : Inv X pins σ H { s with heap := h', toks := tk } := I.turned (fun b o hb e => kk b o (by simpa using hb) e) f0 f1 f3 f4 f5
    refine ⟨_, rfl, go_of (s := { s with heap := h', toks := tk }) (n := "range_iterator") st' rfl rfl (by decide) ⟨.int (lo + i), H, I1, ⟨t, ?_⟩, ⟨rfl, rfl⟩, st', fun b hb => (hf b hb).1⟩⟩
    rw [Int.mul_one]
  done := by
    intro X hP hw hK hc i pins s σ H E I hf st hg
    subst hP hw hK
    obtain ⟨f0, f1, f2, f3, f4, f5⟩ := hf it (by simp)
    exact wpAny_pyNext_range_end (I.ok.hd hc) st (by have : n <= i := hg; omega) fun h' eb => ⟨rfl, I.turned (t' := s.toks) (fun b o hb e => eb b o hb e) f0 f1 f3 f4 f5⟩
  self := fun _ _ _ _ _ st h => wpAny_pyIter_rangeiter st h
end L2
namespace L2
open PySem PySem.Spec PyProof.Rows
section
variable {X : Cx} {tg : Expr}
def iList (K : PySem.W.Frag) (tl : TE) : TI := fun σ H R => tl σ H fun x H1 => ∃ a, x = .ref a /\ (∃ xs, SqL K H1 a xs) /\ R (Itl K a) H1
def iTup (K : PySem.W.Frag) (tl : TE) : TI := fun σ H R => tl σ H fun x H1 => ∃ a, x = .ref a /\ (∃ xs, SqT K H1 a xs) /\ R (Itt K a) H1
theorem pi_list {l : Expr} {tl : TE} (hl : PE X l tl) : PI X tg l (iList X.K tl) := by
  intro pins s σ H R I h
  refine thn (hl pins s σ H _ I h) fun v s1 ⟨x, H1, I1, r1, q1⟩ => ?_
  obtain ⟨a, e, ⟨xs, hq⟩, q⟩ := q1
  subst e
  cases r1
  obtain ⟨its, rv, p, hz⟩ := I1.list hq
  refine wpAny_pyIter_list p.isList ?_
  refine ⟨s1.heap.objs.size, [s1.heap.objs.size], _, _, H1, rfl, I1.kept (t' := s1.toks) fun b o e => Heap.get?_push_of_some _ e, turn_list a _, ⟨_, Heap.get?_push_size _ rfl, rfl, rfl⟩, fun b hb => ?_, q⟩
  have e : b = s1.heap.objs.size := by simpa using hb
  subst e
  exact I1.fpOk (Nat.le_refl _) (I1.hok.fresh (Nat.le_refl _))
theorem pi_tup {l : Expr} {tl : TE} (hl : PE X l tl) : PI X tg l (iTup X.K tl) := by
  intro pins s σ H R I h
  refine thn (hl pins s σ H _ I h) fun v s1 ⟨x, H1, I1, r1, q1⟩ => ?_
  obtain ⟨a, e, ⟨xs, hq⟩, q⟩ := q1
  subst e
  cases r1
  obtain ⟨its, rv, p, hz⟩ := I1.tuple hq
  refine wpAny_pyIter_tuple (show s1.heap.IsTuple a its.toArray from p) ?_
  refine ⟨s1.heap.objs.size, [s1.heap.objs.size], _, _, H1, rfl, I1.kept (t' := s1.toks) fun b o e => Heap.get?_push_of_some _ e, turn_tuple a _, ⟨_, Heap.get?_push_size _ rfl, rfl, rfl⟩, fun b hb => ?_, q⟩
  have e : b = s1.heap.objs.size := by simpa using hb
  subst e
  exact I1.fpOk (Nat.le_refl _) (I1.hok.fresh (Nat.le_refl _))
theorem range_it {pins : List (Addr × Obj)} {σ : St} {H : Hp} {s : Shared} {R : It -> Hp -> Prop} {E : Value -> Shared -> Prop} {lo hi : Int} {t u v : Tok} {tk : Nat} (I : Inv X pins σ H s) (h1 : -(2 ^ 62) <= lo) (h2 : lo < 2 ^ 62) (h3 : -(2 ^ 62) <= hi) (h4 : hi < 2 ^ 62)
    (q : R (Itr lo (hi - lo).toNat) H) : wpAny (model X.prog X.w) X.A (pyIter (.ref s.heap.objs.size)) (PIE X pins σ tg R) E { s with heap := s.heap.push { cls := .type "range", data := .fields #[.int lo t, .int hi u, .int 1 v] }, toks := tk } := by
  refine wpAny_pyIter_range (IsRange.new ..) (small_one h1 h2 h3 h4) ?_
  have I1 : Inv X pins σ H { s with heap := s.heap.push { cls := .type "range", data := .fields #[.int lo t, .int hi u, .int 1 v] }, toks := tk } := I.kept fun b o e => Heap.get?_push_of_some _ e
  refine ⟨(s.heap.push { cls := .type "range", data := .fields #[.int lo t, .int hi u, .int 1 v] }).objs.size, [(s.heap.push { cls := .type "range", data := .fields #[.int lo t, .int hi u, .int 1 v] }).objs.size], _, _, H, rfl,
    I1.kept (t' := tk) fun b o e => Heap.get?_push_of_some _ e, turn_range _ lo (hi - lo).toNat, ?_, fun b hb => ?_, q⟩
  . have e1 : lo + ((0 : Nat) : Int) * 1 = lo := by simp
    have e2 : (((hi - lo).toNat : Nat) : Int) - ((0 : Nat) : Int) = Builtin.Range.rangeSize lo hi 1 := by rw [rangeSize_one]; split <;> omega
    show IsRangeIter _ _ (lo + ((0 : Nat) : Int) * 1) ((((hi - lo).toNat : Nat) : Int) - ((0 : Nat) : Int)) 1
    rw [e1, e2]
    exact Heap.get?_push_size _ rfl
  . have e : b = (s.heap.push { cls := .type "range", data := .fields #[.int lo t, .int hi u, .int 1 v] }).objs.size := by simpa using hb
    subst e
    exact I1.fpOk (Nat.le_refl _) (I1.hok.fresh (Nat.le_refl _))
def iRng1 (ta : TA) : TI := fun σ H R => ta σ H fun vs H1 => ∃ j : Int, vs = [.int j] /\ -(2 ^ 62) <= j /\ j < 2 ^ 62 /\ R (Itr 0 j.toNat) H1
theorem pi_range1 {a : Expr} {ta : TA} {p pos : Pos} (hg : Gl X "range") (hm : X.mg "range" = none) (ha : PA X [a] ta) (hs : starEach [a] X.env = [(false, eval a X.env)] := by rfl) : PI X tg (.Call (.Name "range" p) [a] [] pos) (iRng1 ta) := by
  intro pins s σ H R I h
  refine Call_ (ld_blt I hg hm boot_range (PyProof.Rows.callWith_type1 (thn (ha pos pins s σ H _ I h) fun us s1 ⟨vs, H1, I1, r1, q1⟩ => ?_) hs rfl))
  obtain ⟨j, e, q1, q2, q⟩ := q1
  subst e
  cases r1 with
  | cons r rr =>
    cases rr
    obtain ⟨t, rfl⟩ := r
    exact call_range_1 (range_it I1 (by omega) (by omega) q1 q2 (by simpa using q))
def tFor (wi : TI) (g : TG) (tb : TS) : TS := fun D σ H => wi σ H fun J H1 => ∃ W : Nat -> Nat -> St -> Hp -> Prop, (∃ m, W 0 m σ H1) /\ ∀ i m σ H, W i m σ H ->
  (J.stop i H /\ D.nx σ H) \/ (J.go i H /\ ∃ N : St -> Hp -> Prop, (∀ σ' H', N σ' H' -> ∃ m', m' < m /\ W (i + 1) m' σ' H') /\ ∀ x H', J.yld i H x H' -> g x σ H' fun σ2 H2 => tb { D with nx := N, ct := N, bk := D.nx } σ2 H2)
def pinsAt (fp : List Addr) (h : Heap) : List (Addr × Obj) := fp.filterMap fun b => (h.get? b).map fun o => (b, o)
theorem mem_pinsAt {fp : List Addr} {h : Heap} {b : Addr} {o : Obj} (hb : b ∈ fp) (e : h.get? b = some o) : (b, o) ∈ pinsAt fp h := List.mem_filterMap.mpr ⟨b, hb, by rw [e]; rfl⟩
theorem of_pinsAt {fp : List Addr} {h : Heap} {p : Addr × Obj} (hp : p ∈ pinsAt fp h) : p.1 ∈ fp /\ h.get? p.1 = some p.2 := by
  obtain ⟨b, hb, e⟩ := List.mem_filterMap.mp hp
  cases q : h.get? b with
  | none => rw [q] at e; cases e
  | some o =>
    rw [q] at e
    have e' : (b, o) = p := Option.some.inj e
    subst e'
    exact ⟨hb, q⟩
theorem Inv.pinned {pins : List (Addr × Obj)} {σ : St} {H : Hp} {s : Shared} {fp : List Addr} (I : Inv X pins σ H s) (hf : ∀ b ∈ fp, FpOk X pins H b) (ho : ∀ b ∈ fp, ∃ o, s.heap.get? b = some o /\ ∀ v, o.data ≠ .cell v) : Inv X (pins ++ pinsAt fp s.heap) σ H s :=
  I.pins_of fun p hp => (List.mem_append.mp hp).elim (fun z => I.pin p (List.mem_append_right _ z)) fun z => by
    obtain ⟨hb, e⟩ := of_pinsAt z
    obtain ⟨f0, f1, f2, _⟩ := hf p.1 hb
    obtain ⟨o, e', d⟩ := ho p.1 hb
    rw [e] at e'; cases e'
    exact ⟨e, f0, f1, f2, d⟩
theorem Inv.unpinned {pins pl : List (Addr × Obj)} {σ : St} {H : Hp} {s : Shared} (I : Inv X (pins ++ pl) σ H s) : Inv X pins σ H s := I.pins_of fun p hp => I.pin p (List.mem_append_right _ (List.mem_append_left _ hp))
theorem ps_for {iter : Expr} {body : List Stmt} {wi : TI} {g : TG} {tb : TS} {pos : Pos} (hp : PassesOwn (model X.prog X.w) X.A X.env X.xe) (hc : X.calm = true) (hi : PI X tg iter wi) (hg : PG X tg g) (hb : PSs X body tb)
    (hs : ∀ x, foldedSetIterable iter X.env x = pure x := by intro _; rfl) : PS X (.For tg iter body [] pos) (tFor wi g tb) := by
  intro pins s σ H D I h
  refine wpAny_For (thn (hi pins s σ H _ I h) fun v s1 h1 => thn h1 fun itv s2 h2 => ?_) hs
  obtain ⟨it, fp, tn, J, H2, e, I2, T, st2, f2, W, ⟨m0, w0⟩, turn⟩ := h2
  subst e
  -- what stays true of the iterator's objects through the loop
  have stat : ∀ {H' : Hp}, (∀ b ∈ fp, H' b = none) -> ∀ b ∈ fp, FpOk X pins H' b := fun hn b hb => ⟨hn b hb, (f2 b hb).2⟩
  refine codeAny_forLoop_any (fun n s' => ∃ i σ' H', Inv X pins σ' H' s' /\ tn i s'.heap /\ (∀ b ∈ fp, H' b = none) /\ W i n σ' H') ?_ m0 ⟨0, σ, H2, I2, st2, fun b hb => (f2 b hb).1, w0⟩
  rintro n s3 ⟨i, σ3, H3, I3, st3, fr3, w3⟩
  rcases turn i n σ3 H3 w3 with ⟨stop, qn⟩ | ⟨go, N, hN, step⟩
  . refine wpAny_passesOwn hp (thn (T.done X rfl rfl rfl hc i pins s3 σ3 H3 X.xe I3 (stat fr3) st3 stop) fun r s4 ⟨hr, I4⟩ => ?_)
    subst hr
    exact wpAny_execs_nil ⟨σ3, H3, I4, qn⟩
  . refine wpAny_passesOwn hp (thn (T.item X rfl rfl rfl hc i pins s3 σ3 H3 X.xe I3 (stat fr3) st3 go) fun r s4 ⟨u, hr, h4⟩ => ?_)
    subst hr
    refine wpAny_passesOwn hp (thn h4 fun _ s5 ⟨x, H5, I5, r5, y5, st5, fr5⟩ => ?_)
    have I5' := I5.pinned (stat fr5) (T.obj _ _ st5)
    refine wpAny_passesOwn hp (thn (hg _ s5 σ3 H5 x u _ I5' r5 (step x H5 y5)) fun _ s6 ⟨σ6, H6, I6, q6⟩ => ?_)
    refine wpAny_passesOwn hp (thn (hb _ s6 σ6 H6 _ I6 q6) fun f s7 q7 => ?_)
    have again : ∀ {σ7 : St} {H7 : Hp}, Inv X (pins ++ pinsAt fp s5.heap) σ7 H7 s7 -> N σ7 H7 -> ∃ m, m < n /\ ∃ i σ' H', Inv X pins σ' H' s7 /\ tn i s7.heap /\ (∀ b ∈ fp, H' b = none) /\ W i m σ' H' := fun {σ7 H7} I7 n7 => by
      obtain ⟨m', hm, w7⟩ := hN σ7 H7 n7
      refine ⟨m', hm, i + 1, σ7, H7, I7.unpinned, T.keep _ _ _ st5 fun b hb o e => (I7.pin (b, o) (List.mem_append_right _ (List.mem_append_right _ (mem_pinsAt hb e)))).1, fun b hb => ?_, w7⟩
      obtain ⟨o, e, d⟩ := T.obj _ _ st5 b hb
      exact (I7.pin (b, o) (List.mem_append_right _ (List.mem_append_right _ (mem_pinsAt hb e)))).2.1
    cases f with
    | next => obtain ⟨σ7, H7, I7, n7⟩ := q7; exact again I7 n7
    | cont => obtain ⟨σ7, H7, I7, n7⟩ := q7; exact again I7 n7
    | brk => obtain ⟨σ7, H7, I7, q7⟩ := q7; exact ⟨σ7, H7, I7.unpinned, q7⟩
    | ret v => obtain ⟨x7, σ7, H7, I7, r7, q7⟩ := q7; exact ⟨x7, σ7, H7, I7.unpinned, r7, q7⟩
end
theorem for_list {K : PySem.W.Frag} {a : Addr} {xs : List V} {g : TG} {tb : TS} {D : Ends} {σ : St} {H : Hp} (Pv : Nat -> St -> Hp -> Prop) (h0 : Pv 0 σ H) (hl : ∀ i σ H, i <= xs.length -> Pv i σ H -> SqL K H a xs)
    (hs : ∀ i x σ H, xs[i]? = some x -> Pv i σ H -> g x σ H fun σ2 H2 => tb { D with nx := Pv (i + 1), ct := Pv (i + 1), bk := D.nx } σ2 H2) (hd : ∀ σ H, Pv xs.length σ H -> D.nx σ H) :
    ∃ W : Nat -> Nat -> St -> Hp -> Prop, (∃ m, W 0 m σ H) /\ ∀ i m σ H, W i m σ H ->
      ((Itl K a).stop i H /\ D.nx σ H) \/ ((Itl K a).go i H /\ ∃ N : St -> Hp -> Prop, (∀ σ' H', N σ' H' -> ∃ m', m' < m /\ W (i + 1) m' σ' H') /\ ∀ x H', (Itl K a).yld i H x H' -> g x σ H' fun σ2 H2 => tb { D with nx := N, ct := N, bk := D.nx } σ2 H2) := by
  refine ⟨fun i m σ H => m = xs.length - i /\ i <= xs.length /\ Pv i σ H, ⟨xs.length, by simp, Nat.zero_le _, h0⟩, ?_⟩
  rintro i m σ H ⟨rfl, hi, p⟩
  have q := hl i σ H hi p
  by_cases hlt : i < xs.length
  . refine .inr ⟨⟨xs, xs[i], q, by simp [hlt]⟩, Pv (i + 1), fun σ' H' p' => ⟨xs.length - (i + 1), by omega, rfl, hlt, p'⟩, fun x H' y => ?_⟩
    obtain ⟨e, y⟩ := y
    subst e
    exact hs i x σ _ (y xs q) p
  . have e : i = xs.length := by omega
    subst e
    exact .inl ⟨⟨xs, q, Nat.le_refl _⟩, hd σ H p⟩
theorem for_tup {K : PySem.W.Frag} {a : Addr} {xs : List V} {g : TG} {tb : TS} {D : Ends} {σ : St} {H : Hp} (Pv : Nat -> St -> Hp -> Prop) (h0 : Pv 0 σ H) (hl : ∀ i σ H, i <= xs.length -> Pv i σ H -> SqT K H a xs)
    (hs : ∀ i x σ H, xs[i]? = some x -> Pv i σ H -> g x σ H fun σ2 H2 => tb { D with nx := Pv (i + 1), ct := Pv (i + 1), bk := D.nx } σ2 H2) (hd : ∀ σ H, Pv xs.length σ H -> D.nx σ H) :
    ∃ W : Nat -> Nat -> St -> Hp -> Prop, (∃ m, W 0 m σ H) /\ ∀ i m σ H, W i m σ H ->
      ((Itt K a).stop i H /\ D.nx σ H) \/ ((Itt K a).go i H /\ ∃ N : St -> Hp -> Prop, (∀ σ' H', N σ' H' -> ∃ m', m' < m /\ W (i + 1) m' σ' H') /\ ∀ x H', (Itt K a).yld i H x H' -> g x σ H' fun σ2 H2 => tb { D with nx := N, ct := N, bk := D.nx } σ2 H2) := by
  refine ⟨fun i m σ H => m = xs.length - i /\ i <= xs.length /\ Pv i σ H, ⟨xs.length, by simp, Nat.zero_le _, h0⟩, ?_⟩
  rintro i m σ H ⟨rfl, hi, p⟩
  have q := hl i σ H hi p
  by_cases hlt : i < xs.length
  . refine .inr ⟨⟨xs, xs[i], q, by simp [hlt]⟩, Pv (i + 1), fun σ' H' p' => ⟨xs.length - (i + 1), by omega, rfl, hlt, p'⟩, fun x H' y => ?_⟩
    obtain ⟨e, y⟩ := y
    subst e
    exact hs i x σ _ (y xs q) p
  . have e : i = xs.length := by omega
    subst e
    exact .inl ⟨⟨xs, q, Nat.le_refl _⟩, hd σ H p⟩
theorem for_range {lo : Int} {n : Nat} {g : TG} {tb : TS} {D : Ends} {σ : St} {H : Hp} (Pv : Nat -> St -> Hp -> Prop) (h0 : Pv 0 σ H)
    (hs : ∀ i σ H, i < n -> Pv i σ H -> g (.int (lo + i)) σ H fun σ2 H2 => tb { D with nx := Pv (i + 1), ct := Pv (i + 1), bk := D.nx } σ2 H2) (hd : ∀ σ H, Pv n σ H -> D.nx σ H) :
    ∃ W : Nat -> Nat -> St -> Hp -> Prop, (∃ m, W 0 m σ H) /\ ∀ i m σ H, W i m σ H ->
      ((Itr lo n).stop i H /\ D.nx σ H) \/ ((Itr lo n).go i H /\ ∃ N : St -> Hp -> Prop, (∀ σ' H', N σ' H' -> ∃ m', m' < m /\ W (i + 1) m' σ' H') /\ ∀ x H', (Itr lo n).yld i H x H' -> g x σ H' fun σ2 H2 => tb { D with nx := N, ct := N, bk := D.nx } σ2 H2) := by
  refine ⟨fun i m σ H => m = n - i /\ i <= n /\ Pv i σ H, ⟨n, by simp, Nat.zero_le _, h0⟩, ?_⟩
  rintro i m σ H ⟨rfl, hi, p⟩
  by_cases hlt : i < n
  . refine .inr ⟨hlt, Pv (i + 1), fun σ' H' p' => ⟨n - (i + 1), by omega, rfl, hlt, p'⟩, fun x H' y => ?_⟩
    obtain ⟨e, y⟩ := y
    subst e y
    exact hs i σ _ hlt p
  . have e : i = n := by omega
    subst e
    exact .inl ⟨Nat.le_refl _, hd σ H p⟩
end L2
namespace L2
open PySem PySem.Spec PyProof.Rows
abbrev R2 := V -> V -> Hp -> VK -> Prop
def OpR (X : Cx) (f : Value -> Value -> Sem Value) (r : R2) : Prop :=
  ∀ (pins : List (Addr × Obj)) (s : Shared) (σ : St) (H : Hp) (x y : V) (v u : Value) (Q : VK), Inv X pins σ H s -> RelV x v -> RelV y u -> r x y H Q ->
    wpAny (model X.prog X.w) X.A (f v u) (EP X pins σ Q) X.xe s
def UnR (X : Cx) (f : Value -> Sem Value) (r : V -> Hp -> VK -> Prop) : Prop :=
  ∀ (pins : List (Addr × Obj)) (s : Shared) (σ : St) (H : Hp) (x : V) (v : Value) (Q : VK), Inv X pins σ H s -> RelV x v -> r x H Q ->
    wpAny (model X.prog X.w) X.A (f v) (EP X pins σ Q) X.xe s
def CallR (X : Cx) (f : Value) (r : List V -> Hp -> VK -> Prop) : Prop :=
  ∀ (pins : List (Addr × Obj)) (s : Shared) (σ : St) (H : Hp) (xs : List V) (us : List Value) (Q : VK), Inv X pins σ H s -> Vals xs us -> r xs H Q ->
    wpAny (model X.prog X.w) X.A (call f us) (EP X pins σ Q) X.xe s
def tOp (r : R2) (ta tb : TE) : TE := fun σ H Q => ta σ H fun x H1 => tb σ H1 fun y H2 => r x y H2 Q
def tUn (r : V -> Hp -> VK -> Prop) (ta : TE) : TE := fun σ H Q => ta σ H fun x H1 => r x H1 Q
def rI (C : Int -> Int -> Prop) (g : Int -> Int -> V) : R2 := fun x y H Q => ∃ i j, x = .int i /\ y = .int j /\ C i j /\ Q (g i j) H
def rI0 (g : Int -> Int -> V) : R2 := fun x y H Q => ∃ i j, x = .int i /\ y = .int j /\ Q (g i j) H
def rU (g : Int -> V) : V -> Hp -> VK -> Prop := fun x H Q => ∃ i, x = .int i /\ Q (g i) H
section
variable {X : Cx} {a b c : Expr} {ta tb tc : TE} {pos : Pos}
theorem binT (ha : PE X a ta) (hb : PE X b tb) {pins : List (Addr × Obj)} {s : Shared} {σ : St} {H : Hp} {R : V -> V -> Hp -> Prop} (I : Inv X pins σ H s)
    (h : ta σ H fun x H1 => tb σ H1 fun y H2 => R x y H2) {Q : Value -> Shared -> Prop} {f : Value -> Value -> Sem Value}
    (hf : ∀ v u s2 x y H2, Inv X pins σ H2 s2 -> RelV x v -> RelV y u -> R x y H2 -> wpAny (model X.prog X.w) X.A (f v u) Q X.xe s2) :
    wpAny (model X.prog X.w) X.A (eval a X.env) (fun v s₁ => wpAny (model X.prog X.w) X.A (eval b X.env) (fun u s₂ => wpAny (model X.prog X.w) X.A (f v u) Q X.xe s₂) X.xe s₁) X.xe s := by
  refine thn (ha pins s σ H _ I h) fun v s1 ⟨x, H1, I1, r1, q1⟩ => ?_
  refine thn (hb pins s1 σ H1 _ I1 q1) fun u s2 ⟨y, H2, I2, r2, q2⟩ => ?_
  exact hf v u s2 x y H2 I2 r1 r2 q2
theorem pe_op {op : Operator} {r : R2} (ho : OpR X (binaryOp op) r) (ha : PE X a ta) (hb : PE X b tb) : PE X (.BinOp a op b pos) (tOp r ta tb) := by
  intro pins s σ H Q I h
  exact wpAny_BinOp (binT ha hb I h fun v u s2 x y H2 I2 rx ry q => ho pins s2 σ H2 x y v u Q I2 rx ry q)
theorem pe_un {op : UnaryOp} {r : V -> Hp -> VK -> Prop} (ho : UnR X (unaryOp op) r) (ha : PE X a ta) : PE X (.UnaryOp op a pos) (tUn r ta) := by
  intro pins s σ H Q I h
  exact UnaryOp_ (thn (ha pins s σ H _ I h) fun v s1 ⟨x, H1, I1, r1, q1⟩ => ho pins s1 σ H1 x v Q I1 r1 q1)
theorem opI {f : Value -> Value -> Sem Value} {C : Int -> Int -> Prop} {g : Int -> Int -> Int}
    (rule : ∀ (i j : Int) (t u : Tok) (s : Shared) (Q : Value -> Shared -> Prop) (E : Value -> Shared -> Prop), C i j -> Q (.int (g i j) s.toks) { s with toks := s.toks + 1 } -> wpAny (model X.prog X.w) X.A (f (.int i t) (.int j u)) Q E s) :
    OpR X f (rI C fun i j => .int (g i j)) := by
  intro pins s σ H x y v u Q I rx ry h
  obtain ⟨i, j, rfl, rfl, hc, q⟩ := h
  obtain ⟨t, rfl⟩ := rx
  obtain ⟨t', rfl⟩ := ry
  exact rule i j t t' s _ _ hc ⟨.int (g i j), H, I.tok _, ⟨_, rfl⟩, q⟩
theorem opI0 {f : Value -> Value -> Sem Value} {g : Int -> Int -> Int}
    (rule : ∀ (i j : Int) (t u : Tok) (s : Shared) (Q : Value -> Shared -> Prop) (E : Value -> Shared -> Prop), Q (.int (g i j) s.toks) { s with toks := s.toks + 1 } -> wpAny (model X.prog X.w) X.A (f (.int i t) (.int j u)) Q E s) :
    OpR X f (rI0 fun i j => .int (g i j)) := by
  intro pins s σ H x y v u Q I rx ry h
  obtain ⟨i, j, rfl, rfl, q⟩ := h
  obtain ⟨t, rfl⟩ := rx
  obtain ⟨t', rfl⟩ := ry
  exact rule i j t t' s _ _ ⟨.int (g i j), H, I.tok _, ⟨_, rfl⟩, q⟩
theorem opB0 {f : Value -> Value -> Sem Value} {g : Int -> Int -> Bool}
    (rule : ∀ (i j : Int) (t u : Tok) (s : Shared) (Q : Value -> Shared -> Prop) (E : Value -> Shared -> Prop), Q (.bool (g i j)) s -> wpAny (model X.prog X.w) X.A (f (.int i t) (.int j u)) Q E s) :
    OpR X f (rI0 fun i j => .bl (g i j)) := by
  intro pins s σ H x y v u Q I rx ry h
  obtain ⟨i, j, rfl, rfl, q⟩ := h
  obtain ⟨t, rfl⟩ := rx
  obtain ⟨t', rfl⟩ := ry
  exact rule i j t t' s _ _ ⟨.bl (g i j), H, I, rfl, q⟩
def CDiv (i j : Int) : Prop := 0 < j /\ j < 1073741824
def CPow (i j : Int) : Prop := 0 <= j /\ j <= 1000000 /\ i.natAbs < 2 ^ 64
def CMul (i j : Int) : Prop := (-(2 ^ 64) < i /\ i < 2 ^ 64) \/ (-(2 ^ 64) < j /\ j < 2 ^ 64)
theorem CMul.ok {i j : Int} (h : CMul i j) : IntMulOk i j := by
  rcases h with ⟨h1, h2⟩ | ⟨h1, h2⟩
  . exact .of_left (intBits_le_64 h1 h2)
  . exact .of_right (intBits_le_64 h1 h2)
theorem op_add : OpR X (binaryOp .Add) (rI0 fun i j => .int (i + j)) := opI0 fun _ _ _ _ _ _ _ q => add_int q
theorem op_sub : OpR X (binaryOp .Sub) (rI0 fun i j => .int (i - j)) := opI0 fun _ _ _ _ _ _ _ q => sub_int q
theorem op_mul : OpR X (binaryOp .Mult) (rI CMul fun i j => .int (i * j)) := opI fun _ _ _ _ _ _ _ hc q => mul_int q hc.ok
theorem op_fdiv : OpR X (binaryOp .FloorDiv) (rI CDiv fun i j => .int (i / j)) := opI fun i j _ _ _ _ _ hc q => by
  have h1 : (0 : Int) < j := hc.1
  have h2 : j < 1073741824 := hc.2
  exact floordiv_int (by omega) (by rw [Int.fdiv_eq_ediv_of_nonneg i (by omega)]; exact q) (.inl (PyProof.noPylong_small (by omega)))
theorem op_mod : OpR X (binaryOp .Mod) (rI (fun _ j => 0 < j) fun i j => .int (i % j)) := opI fun i j _ _ _ _ _ hc q => by
  have h1 : (0 : Int) < j := hc
  exact mod_int' (by omega) (by rw [Int.fmod_eq_emod_of_nonneg i (by omega)]; exact q)
theorem op_pow : OpR X (binaryOp .Pow) (rI CPow fun i j => .int (i ^ j.toNat)) := opI fun _ _ _ _ _ _ _ hc q => pow_int_small hc.1 hc.2.1 hc.2.2 q
theorem unI {f : Value -> Sem Value} {g : Int -> Int}
    (rule : ∀ (i : Int) (t : Tok) (s : Shared) (Q : Value -> Shared -> Prop) (E : Value -> Shared -> Prop), Q (.int (g i) s.toks) { s with toks := s.toks + 1 } -> wpAny (model X.prog X.w) X.A (f (.int i t)) Q E s) :
    UnR X f (rU fun i => .int (g i)) := by
  intro pins s σ H x v Q I rx h
  obtain ⟨i, rfl, q⟩ := h
  obtain ⟨t, rfl⟩ := rx
  exact rule i t s _ _ ⟨.int (g i), H, I.tok _, ⟨_, rfl⟩, q⟩
theorem un_neg : UnR X (unaryOp .USub) (rU fun i => .int (-i)) := unI fun _ _ _ _ _ q => neg_int q
end
def scal : V -> V -> Bool
  | .non, .non => true | .non, .int _ => true | .int _, .non => true | .non, .bl _ => true | .bl _, .non => true | .non, .str _ => true | .str _, .non => true
  | .int _, .int _ => true | .bl _, .bl _ => true | .str _, .str _ => true | .byt _, .byt _ => true
  | .int _, .str _ => true | .str _, .int _ => true | .bl _, .str _ => true | .str _, .bl _ => true
  | _, _ => false
def rEq : R2 := fun x y H Q => scal x y = true /\ Q (.bl (decide (x = y))) H
def rNe : R2 := fun x y H Q => scal x y = true /\ Q (.bl (!decide (x = y))) H
theorem dec_int {i j : Int} : decide (V.int i = V.int j) = (i == j) := by
  rw [Bool.eq_iff_iff]
  simp
theorem dec_bl {i j : Bool} : decide (V.bl i = V.bl j) = (i == j) := by
  rw [Bool.eq_iff_iff]
  simp
theorem dec_str {i j : Str} : decide (V.str i = V.str j) = (i == j) := by
  rw [Bool.eq_iff_iff]
  simp
theorem dec_byt {i j : Array UInt8} : decide (V.byt i = V.byt j) = (i.toList == j.toList) := by
  rw [Bool.eq_iff_iff]
  cases i
  cases j
  simp
section
variable {X : Cx} {a b c : Expr} {ta tb tc : TE} {pos : Pos}
theorem fin_bl {pins : List (Addr × Obj)} {σ : St} {H : Hp} {s : Shared} {Q : VK} {k k' : Bool} (I : Inv X pins σ H s) (q : Q (.bl k) H) (e : k = k') : EP X pins σ Q (.bool k') s := by
  subst e
  exact ⟨.bl k, H, I, rfl, q⟩
theorem op_eq : OpR X (compareOp .Eq) rEq := by
  intro pins s σ H x y v u Q I rx ry h
  obtain ⟨hs, q⟩ := h
  cases x with
  | non =>
    cases rx
    cases y with
    | non => cases ry; exact PySem.EqNone.eq_none_none (fin_bl I q (by simp))
    | bl j => cases ry; exact PySem.EqNone.eq_none_bool (fin_bl I q (by simp))
    | int j => obtain ⟨t', rfl⟩ := ry; exact PySem.EqNone.eq_none_int (fin_bl I q (by simp))
    | str j => obtain ⟨t', rfl⟩ := ry; exact PySem.EqNone.eq_none_str (fin_bl I q (by simp))
    | _ => exact absurd (show false = true from hs) Bool.false_ne_true
  | bl i =>
    cases rx
    cases y with
    | non => cases ry; exact PySem.EqNone.eq_bool_none (fin_bl I q (by simp))
    | bl j => cases ry; exact eq_bool (fin_bl I q dec_bl)
    | str j => obtain ⟨t', rfl⟩ := ry; exact PySem.EqMixed.eq_bool_str (fin_bl I q (by simp))
    | _ => exact absurd (show false = true from hs) Bool.false_ne_true
  | int i =>
    obtain ⟨t, rfl⟩ := rx
    cases y with
    | non => cases ry; exact PySem.EqNone.eq_int_none (fin_bl I q (by simp))
    | int j => obtain ⟨t', rfl⟩ := ry; exact eq_int (fin_bl I q dec_int)
    | str j => obtain ⟨t', rfl⟩ := ry; exact PySem.EqMixed.eq_int_str (fin_bl I q (by simp))
    | _ => exact absurd (show false = true from hs) Bool.false_ne_true
  | str i =>
    obtain ⟨t, rfl⟩ := rx
    cases y with
    | non => cases ry; exact PySem.EqNone.eq_str_none (fin_bl I q (by simp))
    | bl j => cases ry; exact PySem.EqMixed.eq_str_bool (fin_bl I q (by simp))
    | int j => obtain ⟨t', rfl⟩ := ry; exact PySem.EqMixed.eq_str_int (fin_bl I q (by simp))
    | str j => obtain ⟨t', rfl⟩ := ry; exact eq_str (fin_bl I q dec_str)
    | _ => exact absurd (show false = true from hs) Bool.false_ne_true
  | byt i =>
    obtain ⟨t, rfl⟩ := rx
    cases y with
    | byt j => obtain ⟨t', rfl⟩ := ry; exact PySem.W.eq_bytes (fin_bl I q dec_byt)
    | _ => exact absurd (show false = true from hs) Bool.false_ne_true
  | _ => cases y <;> exact absurd (show false = true from hs) Bool.false_ne_true
theorem op_ne : OpR X (compareOp .NotEq) rNe := by
  intro pins s σ H x y v u Q I rx ry h
  obtain ⟨hs, q⟩ := h
  cases x with
  | non =>
    cases rx
    cases y with
    | non => cases ry; exact PySem.EqNone.ne_none_none (fin_bl I q (by simp))
    | bl j => cases ry; exact PySem.EqNone.ne_none_bool (fin_bl I q (by simp))
    | int j => obtain ⟨t', rfl⟩ := ry; exact PySem.EqNone.ne_none_int (fin_bl I q (by simp))
    | str j => obtain ⟨t', rfl⟩ := ry; exact PySem.EqNone.ne_none_str (fin_bl I q (by simp))
    | _ => exact absurd (show false = true from hs) Bool.false_ne_true
  | bl i =>
    cases rx
    cases y with
    | non => cases ry; exact PySem.EqNone.ne_bool_none (fin_bl I q (by simp))
    | bl j => cases ry; exact ne_bool (fin_bl I q (congrArg not dec_bl))
    | str j => obtain ⟨t', rfl⟩ := ry; exact PySem.EqMixed.ne_bool_str (fin_bl I q (by simp))
    | _ => exact absurd (show false = true from hs) Bool.false_ne_true
  | int i =>
    obtain ⟨t, rfl⟩ := rx
    cases y with
    | non => cases ry; exact PySem.EqNone.ne_int_none (fin_bl I q (by simp))
    | int j => obtain ⟨t', rfl⟩ := ry; exact ne_int (fin_bl I q (congrArg not dec_int))
    | str j => obtain ⟨t', rfl⟩ := ry; exact PySem.EqMixed.ne_int_str (fin_bl I q (by simp))
    | _ => exact absurd (show false = true from hs) Bool.false_ne_true
  | str i =>
    obtain ⟨t, rfl⟩ := rx
    cases y with
    | non => cases ry; exact PySem.EqNone.ne_str_none (fin_bl I q (by simp))
    | bl j => cases ry; exact PySem.EqMixed.ne_str_bool (fin_bl I q (by simp))
    | int j => obtain ⟨t', rfl⟩ := ry; exact PySem.EqMixed.ne_str_int (fin_bl I q (by simp))
    | str j => obtain ⟨t', rfl⟩ := ry; exact ne_str (fin_bl I q (congrArg not dec_str))
    | _ => exact absurd (show false = true from hs) Bool.false_ne_true
  | byt i =>
    obtain ⟨t, rfl⟩ := rx
    cases y with
    | byt j => obtain ⟨t', rfl⟩ := ry; exact PySem.W.ne_bytes (fin_bl I q (congrArg not dec_byt))
    | _ => exact absurd (show false = true from hs) Bool.false_ne_true
  | _ => cases y <;> exact absurd (show false = true from hs) Bool.false_ne_true
theorem op_lt : OpR X (compareOp .Lt) (rI0 fun i j => .bl (decide (i < j))) := opB0 fun _ _ _ _ _ _ _ q => lt_int q
theorem op_le : OpR X (compareOp .LtE) (rI0 fun i j => .bl (decide (i <= j))) := opB0 fun _ _ _ _ _ _ _ q => le_int q
theorem op_gt : OpR X (compareOp .Gt) (rI0 fun i j => .bl (decide (j < i))) := opB0 fun _ _ _ _ _ _ _ q => gt_int q
theorem op_ge : OpR X (compareOp .GtE) (rI0 fun i j => .bl (decide (j <= i))) := opB0 fun _ _ _ _ _ _ _ q => ge_int q
theorem nomark (b : Expr) {op : CmpOp} (h : op ≠ .In := by decide) (h2 : op ≠ .NotIn := by decide) : behindInMarks op b = false := by
  have e1 : (op == CmpOp.In) = false := by cases op <;> first | rfl | exact absurd rfl h
  have e2 : (op == CmpOp.NotIn) = false := by cases op <;> first | rfl | exact absurd rfl h2
  cases b <;> simp [behindInMarks, e1, e2]
theorem pe_cmpR {op : CmpOp} {r : R2} (ho : OpR X (compareOp op) r) (ha : PE X a ta) (hb : PE X b tb) (hm : behindInMarks op b = false) : PE X (.Compare a [op] [b] pos) (tOp r ta tb) := by
  intro pins s σ H Q I h
  exact wpAny_Compare1 (binT ha hb I h fun v u s2 x y H2 I2 rx ry q => ho pins s2 σ H2 x y v u Q I2 rx ry q) hm
def tTest (t : TE) : TT := fun σ H Q => t σ H fun x H' => ∃ k, x = .bl k /\ Q k H'
theorem pt_cmpR {op : CmpOp} {r : R2} (ho : OpR X (compareOp op) r) (ha : PE X a ta) (hb : PE X b tb) (hm : behindInMarks op b = false) : PT X (.Compare a [op] [b] pos) (tTest (tOp r ta tb)) := by
  intro pins s σ H Q I h
  refine wpAny_isTrue_Compare1 (thn (ha pins s σ H _ I h) fun v s1 ⟨x, H1, I1, r1, q1⟩ => thn (hb pins s1 σ H1 _ I1 q1) fun u s2 ⟨y, H2, I2, r2, q2⟩ =>
    thn (ho pins s2 σ H2 x y v u _ I2 r1 r2 q2) fun c s3 ⟨z, H3, I3, r3, k, e, q3⟩ => ?_) hm
  subst e
  cases r3
  exact wpAny_truthy_bool ⟨H3, I3, q3⟩
def tChain (r r' : R2) (ta tb tc : TE) : TE := fun σ H Q => ta σ H fun x H1 => tb σ H1 fun y H2 => r x y H2 fun z H3 => ∃ k, z = .bl k /\
  (if k = true then tc σ H3 fun w' H4 => r' y w' H4 Q else Q (.bl false) H3)
theorem pe_chain {op op' : CmpOp} {r r' : R2} (ho : OpR X (compareOp op) r) (ho' : OpR X (compareOp op') r') (ha : PE X a ta) (hb : PE X b tb) (hc : PE X c tc)
    (hm : lastMarks [op, op'] [b, c] = false := by with_unfolding_all rfl) : PE X (.Compare a [op, op'] [b, c] pos) (tChain r r' ta tb tc) := by
  intro pins s σ H Q I h
  refine Compare_chain (thn (ha pins s σ H _ I h) fun v s1 ⟨x, H1, I1, r1, q1⟩ => chain_link (thn (hb pins s1 σ H1 _ I1 q1) fun u s2 ⟨y, H2, I2, r2, q2⟩ =>
    thn (ho pins s2 σ H2 x y v u _ I2 r1 r2 q2) fun d s3 ⟨z, H3, I3, r3, k, e, q3⟩ => ?_)) hm
  subst e
  cases r3
  refine wpAny_truthy_bool ?_
  cases k with
  | false => exact ite_ff ⟨.bl false, H3, I3, rfl, q3⟩
  | true => exact ite_tt (chain_last (thn (hc pins s3 σ H3 _ I3 q3) fun w' s4 ⟨z', H4, I4, r4, q4⟩ => ho' pins s4 σ H4 y z' u w' Q I4 r2 r4 q4))
theorem pt_chain {op op' : CmpOp} {r r' : R2} (ho : OpR X (compareOp op) r) (ho' : OpR X (compareOp op') r') (ha : PE X a ta) (hb : PE X b tb) (hc : PE X c tc)
    (hm : lastMarks [op, op'] [b, c] = false := by with_unfolding_all rfl) : PT X (.Compare a [op, op'] [b, c] pos) (tTest (tChain r r' ta tb tc)) := by
  intro pins s σ H Q I h
  refine isTrue_chain (thn (ha pins s σ H _ I h) fun v s1 ⟨x, H1, I1, r1, q1⟩ => test_link (thn (hb pins s1 σ H1 _ I1 q1) fun u s2 ⟨y, H2, I2, r2, q2⟩ =>
    thn (ho pins s2 σ H2 x y v u _ I2 r1 r2 q2) fun d s3 ⟨z, H3, I3, r3, k, e, q3⟩ => ?_)) hm
  subst e
  cases r3
  refine wpAny_truthy_bool ?_
  cases k with
  | false =>
    obtain ⟨k', e', q'⟩ := q3
    cases e'
    exact ite_ff ⟨H3, I3, q'⟩
  | true =>
    refine ite_tt (test_last (thn (hc pins s3 σ H3 _ I3 q3) fun w' s4 ⟨z', H4, I4, r4, q4⟩ => thn (ho' pins s4 σ H4 y z' u w' _ I4 r2 r4 q4) fun d' s5 ⟨z2, H5, I5, r5, k2, e2, q5⟩ => ?_))
    subst e2
    cases r5
    exact wpAny_truthy_bool ⟨H5, I5, q5⟩
theorem line63 : (sizeLine : Nat) < 2 ^ 63 := by rw [sizeLine_eq]; decide
theorem vals1 {x : V} {us : List Value} (r : Vals [x] us) : ∃ u, us = [u] /\ RelV x u := by
  cases r with
  | cons r1 r2 => cases r2; exact ⟨_, rfl, r1⟩
theorem vals2 {x y : V} {us : List Value} (r : Vals [x, y] us) : ∃ u w', us = [u, w'] /\ RelV x u /\ RelV y w' := by
  cases r with
  | cons r1 r2 =>
    cases r2 with
    | cons r3 r4 => cases r4; exact ⟨_, _, rfl, r1, r3⟩
theorem call_max2 (hc : X.calm = true) : CallR X (.builtin "max") (fun xs H Q => ∃ i j, xs = [.int i, .int j] /\ Q (.int (if j > i then j else i)) H) := by
  intro pins s σ H xs us Q I r h
  obtain ⟨i, j, rfl, q⟩ := h
  obtain ⟨u, w', rfl, ⟨t, rfl⟩, ⟨t', rfl⟩⟩ := vals2 r
  refine max_two_ints (I.ok.hd hc) fun h' tk k => ⟨_, H, I.kept k, ?_, q⟩
  by_cases hj : j > i
  . rw [if_pos hj, if_pos hj]; exact ⟨_, rfl⟩
  . rw [if_neg hj, if_neg hj]; exact ⟨_, rfl⟩
theorem call_min2 (hc : X.calm = true) : CallR X (.builtin "min") (fun xs H Q => ∃ i j, xs = [.int i, .int j] /\ Q (.int (if j < i then j else i)) H) := by
  intro pins s σ H xs us Q I r h
  obtain ⟨i, j, rfl, q⟩ := h
  obtain ⟨u, w', rfl, ⟨t, rfl⟩, ⟨t', rfl⟩⟩ := vals2 r
  refine min_two_ints (I.ok.hd hc) fun h' tk k => ⟨_, H, I.kept k, ?_, q⟩
  by_cases hj : j < i
  . rw [if_pos hj, if_pos hj]; exact ⟨_, rfl⟩
  . rw [if_neg hj, if_neg hj]; exact ⟨_, rfl⟩
end
end L2
namespace L2
open PySem PySem.Spec PyProof.Rows
structure ObjM (h : Heap) (x dx C : Addr) (mA : Str -> Option Value) : Prop where
  obj : h.get? x = some (PySem.W.instObj C dx)
  ns : h.Ns1 dx mA
  ne : dx ≠ x
theorem lookIn_ns {h : Heap} {dx : Addr} {mA : Str -> Option Value} (n : h.Ns1 dx mA) : ∃ od, h.get? dx = some od /\ ∀ name, PySem.W.lookIn name od = some (mA name) := by
  obtain ⟨o, es, ep, ho, hd, hk, _, hm⟩ := n
  refine ⟨o, ho, fun name => ?_⟩
  have e := hm name
  unfold nsFind findBy at e
  rw [<- Array.find?_toList] at e
  unfold PySem.W.lookIn
  rw [hd]
  dsimp only
  split
  . rename_i y q
    rw [q] at e
    exact congrArg some e
  . rename_i q
    rw [q] at e
    have a : es.toList.any (·.refKey) = false := by
      rw [List.any_eq_false]
      intro y hy
      obtain ⟨z, t, hkey⟩ := hk y (Array.mem_toList_iff.mp hy)
      simp [DictEntry.refKey, hkey]
    have a' : ¬ es.toList.any (·.refKey) = true := by rw [a]; exact Bool.false_ne_true
    rw [if_neg a']
    exact congrArg some e
theorem ObjM.look {h : Heap} {x dx C : Addr} {mA : Str -> Option Value} (I : ObjM h x dx C mA) : ∃ od, PySem.W.InstAt h x (PySem.W.instObj C dx) C (some od) /\ ∀ name, PySem.W.lookIn name od = some (mA name) :=
  let ⟨od, ho, hl⟩ := lookIn_ns I.ns
  ⟨od, ⟨I.obj, rfl, rfl, ho⟩, hl⟩
section
variable {prog : Program} {w : World} {A : Around} {E : Value -> Shared -> Prop} {s : Shared} {K : PySem.W.Frag} {x dx C f : Addr} {mA : Str -> Option Value} {name : Str} {v : Value}
end
section
variable {P : Program} {w : World} {H H' : Hp} {h h' : Heap} {a C dx : Addr} {fs fs' : List (Str × V)}
theorem ins_get (hok : HOk P w H h) (e : H a = some (.ins C dx fs)) : ∃ mA, ObjM h a dx C mA /\ (∀ f, RelO (fs.lookup f) (mA f)) /\ PySem.Within mA (fs.map (·.1)) /\ fs.length <= 1000 /\ H dx = some (.own a) := by
  obtain ⟨d, z, ne, ob, mA, n, r, q⟩ := (show ObjOk P w H h a (.ins C dx fs) from hok a _ e)
  exact ⟨mA, ⟨ob, n, ne⟩, r, q, z, d⟩
end
structure Cls (K : PySem.W.Frag) (C : Addr) : Prop where
  pg : PySem.W.plainGet K C Str.empty = true
  hd : PySem.W.hasDictIn K C = true
  po : PySem.W.plainOver K C = true
  sa : PySem.W.findIn K (.ref C) "__setattr__" = some (some (.builtin "object.__setattr__"))
theorem Cls.get {K : PySem.W.Frag} {C : Addr} (c : Cls K C) (f : Str) : PySem.W.plainGet K C f = true := c.pg
section
variable {X : Cx} {pins : List (Addr × Obj)} {σ : St} {H : Hp} {s : Shared} {a C dx : Addr} {fs : List (Str × V)} {f : Str} {v : V} {A : Around} {E : Value -> Shared -> Prop}
end
section
variable {X : Cx} {o e value : Expr} {f : Str} {pos pos' tpos : Pos} {ta tv : TE}
end
section
variable {X : Cx} {pins : List (Addr × Obj)} {σ : St} {H : Hp} {s : Shared} {A : Around} {E : Value -> Shared -> Prop} {Q : Value -> Shared -> Prop} {c : Value} {b : Bool}
inductive TyOf (K : PySem.W.Frag) (H : Hp) : V -> Value -> Prop where
  | non : TyOf K H .non (.type "NoneType")
  | bl (x : Bool) : TyOf K H (.bl x) (.type "bool")
  | int (i : Int) : TyOf K H (.int i) (.type "int")
  | str (x : Str) : TyOf K H (.str x) (.type "str")
  | flt (x : UInt64) : TyOf K H (.flt x) (.type "float")
  | lst {a : Addr} {xs : List V} (e : H a = some (.lst xs)) : TyOf K H (.ref a) (.type "list")
  | frz {a : Addr} {o : Obj} {xs : List V} (e : H a = some (.frz o (.lst xs))) : TyOf K H (.ref a) (.type "list")
  | tup {a : Addr} {xs : List V} (e : H a = some (.tup xs)) : TyOf K H (.ref a) (.type "tuple")
  | dK {a : Addr} {kvs : List (Key × V)} (e : H a = some (.dK kvs)) : TyOf K H (.ref a) (.type "dict")
  | dT {a : Addr} {kvs : List (List Key × V)} (e : H a = some (.dT kvs)) : TyOf K H (.ref a) (.type "dict")
  | ins {a C dx : Addr} {fs : List (Str × V)} (e : H a = some (.ins C dx fs)) (cl : Cls K C) (ha : PySem.W.findIn K (.ref C) "__class__" = some (some (.builtin "object.__class__")))
      (hn : PySem.W.specialIn K (.builtin "object.__class__") "__get__" = some (some (.builtin "getset_descriptor.__get__"))) (htk : PySem.W.takesIn K (.builtin "object.__class__") = some true)
      (hm : PySem.W.mroIn K C (.type "object") = some true) : TyOf K H (.ref a) (.ref C)
theorem isinst_ok {x : V} {u t : Value} (I : Inv X pins σ H s) (rx : RelV x u) (ty : TyOf X.K H x t) (e : PySem.W.kitOne X.K t c = some b) (h : ∀ tk, Q (.bool b) { s with toks := tk }) :
    wpAny (model X.prog X.w) A (call (.builtin "isinstance") [u, c]) Q E s := by
  cases ty with
  | non => cases (show u = Value.none from rx); exact PySem.W.kia_one PySem.W.kitx_none I.kIn True.intro e (fun z => nomatch z) h
  | bl y => cases (show u = Value.bool y from rx); exact PySem.W.kia_one PySem.W.kitx_bool I.kIn True.intro e (fun z => nomatch z) h
  | int i => obtain ⟨t, q⟩ := (show ∃ t, u = Value.int i t from rx); cases q; exact PySem.W.kia_one PySem.W.kitx_int I.kIn True.intro e (fun z => nomatch z) h
  | str y => obtain ⟨t, q⟩ := (show ∃ t, u = Value.str y t from rx); cases q; exact PySem.W.kia_one PySem.W.kitx_str I.kIn True.intro e (fun z => nomatch z) h
  | flt y => obtain ⟨t, q⟩ := (show ∃ t, u = Value.float y t from rx); cases q; exact PySem.W.kia_one PySem.W.kitx_float I.kIn True.intro e (fun z => nomatch z) h
  | @lst a xs ea =>
    cases (show u = Value.ref a from rx)
    obtain ⟨_, _, n, _, h1⟩ := (show ObjOk X.prog X.w H s.heap a (.lst xs) from I.hok a _ ea)
    exact PySem.W.kia_one PySem.W.kitx_list I.kIn ⟨_, h1, rfl⟩ e (fun z => nomatch z) h
  | @frz a ob xs ea =>
    cases (show u = Value.ref a from rx)
    obtain ⟨_, _, _, n, _, h1⟩ := (show ObjOk X.prog X.w H s.heap a (.frz ob (.lst xs)) from I.hok a _ ea)
    exact PySem.W.kia_one PySem.W.kitx_list I.kIn ⟨_, h1, rfl⟩ e (fun z => nomatch z) h
  | @tup a xs ea =>
    cases (show u = Value.ref a from rx)
    obtain ⟨_, _, _, p⟩ := (show ObjOk X.prog X.w H s.heap a (.tup xs) from I.hok a _ ea)
    obtain ⟨o, h1, h2, _⟩ := p
    exact PySem.W.kia_one PySem.W.kitx_tuple I.kIn ⟨o, h1, h2⟩ e (fun z => nomatch z) h
  | @dK a kvs ea =>
    cases (show u = Value.ref a from rx)
    obtain ⟨_, _, vs, _, p⟩ := (show ObjOk X.prog X.w H s.heap a (.dK kvs) from I.hok a _ ea)
    obtain ⟨o, es, ep, h1, h2, _⟩ := p
    exact PySem.W.kia_one PySem.W.kitx_dict I.kIn ⟨o, h1, h2.1⟩ e (fun z => nomatch z) h
  | @dT a kvs ea =>
    cases (show u = Value.ref a from rx)
    obtain ⟨_, _, xs, _, o, es, ep, h1, h2, _⟩ := (show ObjOk X.prog X.w H s.heap a (.dT kvs) from I.hok a _ ea)
    exact PySem.W.kia_one PySem.W.kitx_dict I.kIn ⟨o, h1, h2.1⟩ e (fun z => nomatch z) h
  | @ins a C dx fs ea cl ha hn htk hm =>
    cases (show u = Value.ref a from rx)
    obtain ⟨mA, O, _⟩ := ins_get I.hok ea
    obtain ⟨od, J, _⟩ := O.look
    exact PySem.W.kia_one (PySem.W.kitx_own (cl.get _) cl.hd ha hn htk hm) I.kIn J e (fun z => nomatch z) h
end
end L2
namespace L2
open PySem PySem.Spec PyProof.Rows
structure Room (k : Nat) (A : Around) : Prop where
  hd : A.handled = none
  dp : A.depth + 3 * k + 5 < recursionLimit
  un : A.units + 16 * k + 200 < cLine
theorem Room.mono {j k : Nat} {A : Around} (r : Room k A) (h : j <= k) : Room j A := ⟨r.hd, by have := r.dp; omega, by have := r.un; omega⟩
theorem Room.deeper {k : Nat} {A : Around} (r : Room (k + 1) A) (env : Env) : Room k (A.deeper env) :=
  ⟨r.hd, by have := r.dp; show A.depth + 1 + 3 * k + 5 < _; omega, by have := r.un; show A.units + 3 + 16 * k + 200 < _; omega⟩
theorem Room.depth {k : Nat} {A : Around} (r : Room k A) : A.depth < recursionLimit := by have := r.dp; omega
theorem Room.units {k : Nat} {A : Around} (r : Room k A) : A.units + 64 < cLine := by have := r.un; omega
def tNil : TA := fun _ H Q => Q [] H
def tCons (ta : TE) (tr : TA) : TA := fun σ H Q => ta σ H fun x H1 => tr σ H1 fun xs H2 => Q (x :: xs) H2
section
variable {X : Cx} {e : Expr} {es : List Expr} {te : TE} {t : TA} {pos : Pos}
theorem pa_nil : PA X [] tNil := fun _ _ _ _ H Q I h => Calls.spliced_nil ⟨[], H, I, .nil, h⟩
theorem pa_cons (ha : PE X e te) (hr : PA X es t) (hs : starEach (e :: es) X.env = (false, eval e X.env) :: starEach es X.env := by rfl) : PA X (e :: es) (tCons te t) := by
  intro pos pins s σ H Q I h
  rw [hs]
  show wpAny _ _ (spliced ((false, eval e X.env) :: backTo pos (starEach es X.env))) _ _ s
  refine Calls.spliced_cons (thn (ha pins s σ H _ I h) fun u s1 ⟨x, H1, I1, r1, q1⟩ => ?_)
  exact thn (hr pos pins s1 σ H1 _ I1 q1) fun us s2 ⟨xs, H2, I2, r2, q2⟩ => ⟨x :: xs, H2, I2, .cons r1 r2, q2⟩
def tTup (t : TA) : TE := fun σ H Q => t σ H fun xs H1 => xs.length <= sizeLine /\ ∀ p, H1 p = none -> Q (.ref p) (upd H1 p (.tup xs))
def tLst (t : TA) : TE := fun σ H Q => t σ H fun xs H1 => xs.length <= sizeLine /\ ∀ p, H1 p = none -> Q (.ref p) (upd H1 p (.lst xs))
theorem pe_tup {x1} (h : PA X es t) : PE X (.Tuple es x1 pos) (tTup t) := by
  intro pins s σ H Q I hq
  refine wpAny_Tuple_spliced (thn (h pos pins s σ H _ I hq) fun us s1 ⟨xs, H1, I1, r, z, q⟩ => ⟨by rw [<- r.length]; exact z, ?_⟩)
  have hf : H1 s1.heap.objs.size = none := I1.hok.fresh (Nat.le_refl _)
  refine ⟨.ref s1.heap.objs.size, upd H1 s1.heap.objs.size (.tup xs), I1.laid (t' := s1.toks) (fun b u e => Heap.get?_push_of_some _ e) (Nat.le_refl _) ?_, rfl, q _ hf⟩
  exact ⟨z, us, r, ⟨_, Heap.get?_push_size _ rfl, rfl, _, rfl⟩⟩
theorem pe_lst (h : PA X es t) : PE X (.List es pos) (tLst t) := by
  intro pins s σ H Q I hq
  refine wpAny_List_spliced (thn (h pos pins s σ H _ I hq) fun us s1 ⟨xs, H1, I1, r, z, q⟩ => ⟨by rw [<- r.length]; exact z, ?_⟩)
  have hf : H1 s1.heap.objs.size = none := I1.hok.fresh (Nat.le_refl _)
  refine ⟨.ref s1.heap.objs.size, upd H1 s1.heap.objs.size (.lst xs), I1.laid (t' := s1.toks) (fun b u e => Heap.get?_push_of_some _ e) (Nat.le_refl _) ?_, rfl, q _ hf⟩
  exact ⟨z, us, 0, r, Heap.get?_push_size _ rfl⟩
end
abbrev Sp := List V -> Hp -> VK -> XK -> Prop
abbrev CXT := List Env -> Hp -> Shared -> XK -> Value -> Shared -> Prop
structure Env0 (P : Program) (w : World) (K : PySem.W.Frag) (mg : Str -> Option Value) (base : Heap) (A : Around) (outer : List Env) (s : Shared) (H : Hp) : Prop where
  frames : A.frames = some outer
  mod : Mod K mg base
  bs : ∀ b o, base.get? b = some o -> s.heap.get? b = some o /\ H b = none
  bsz : base.objs.size <= s.heap.objs.size
  funs : s.heap.FunFrames base outer
  frf : ∀ b ∈ frs outer, H b = none
  hok : HOk P w H s.heap
  bare : AllBare s.gens
def CE (outer : List Env) (P : Program) (w : World) (H : Hp) (s : Shared) (Q : VK) (u : Value) (s' : Shared) : Prop :=
  ∃ v H', s'.os = s.os /\ AllBare s'.gens /\ Un (frs outer) [] H H' s.heap s'.heap /\ HOk P w H' s'.heap /\ RelV v u /\ Q v H'
def CR (CX : CXT) (outer : List Env) (P : Program) (w : World) (H : Hp) (s : Shared) (Q : VK) (E : XK) (r : Result) (s' : Shared) : Prop :=
  match r with
  | .ok (.ret u) => CE outer P w H s Q u s'
  | .ok _ => False
  | .error e => CX outer H s E e s'
structure FnOk (P : Program) (w : World) (K : PySem.W.Frag) (mg : Str -> Option Value) (base : Heap) (CX : CXT) (k : Nat) (f : Addr) (fd : FuncData) (ps : List Str) (sp : Sp) : Prop where
  len : ∀ vs H Q E, sp vs H Q E -> vs.length = ps.length
  run : ∀ (A : Around) (outer : List Env) (s : Shared) (H : Hp) (args : Args) (us : List Value) (vs : List V) (Q : VK) (E : XK), Room k A -> Env0 P w K mg base A outer s H -> BindsTo s fd args (ps.zip us) -> Vals vs us -> sp vs H Q E ->
    codeAny (model P w) A (.call (.ref f) args) (CR CX outer P w H s Q E) s
section
variable {X : Cx} {pins : List (Addr × Obj)} {σ : St} {H : Hp} {s s' : Shared}
theorem Inv.env0 (I : Inv X pins σ H s) : Env0 X.prog X.w X.K X.mg X.base X.A X.stack s H :=
  ⟨I.ok.frames, I.ok.mod, I.bs, Nat.le_trans I.ok.bsz I.sz, I.stack, I.stkFree, I.hok, I.bare⟩
theorem Inv.after {Q : VK} {u : Value} (I : Inv X pins σ H s) (h : CE X.stack X.prog X.w H s Q u s') : EP X pins σ Q u s' := by
  obtain ⟨v, H', os, bare, un, hok, r, q⟩ := h
  obtain ⟨hh, g, d, t, os'⟩ := s'
  obtain rfl : os' = s.os := os
  exact ⟨v, H', I.call (h' := hh) (g' := g) (d' := d) (t' := t) (ch := []) un hok bare (fun b z => absurd z (by simp)), r, q⟩
end
def tCall (sp : Sp) (dvs : List V) (E : XK) (t : TA) : TE := fun σ H Q => t σ H fun vs H1 => sp (vs ++ dvs) H1 Q E
def Binds (K : PySem.W.Frag) (fd : FuncData) (ps : List Str) (ds : List Value) : Prop :=
  ∀ (s : Shared) (us : List Value), K.In s.heap -> (us ++ ds).length = ps.length -> BindsTo s fd ⟨us, []⟩ (ps.zip (us ++ ds))
theorem Binds.all {K : PySem.W.Frag} {fd : FuncData} {ps : List Str} (h : ∀ us : List Value, us.length = ps.length -> bindArgs fd ⟨us, []⟩ = pure (ps.zip us)) : Binds K fd ps [] := fun s us _ hl => by
  rw [List.append_nil] at hl ⊢
  exact .of_eq (h us hl)
def Passes (CX : CXT) (X : Cx) (E : XK) : Prop := ∀ (pins : List (Addr × Obj)) (σ : St) (H : Hp) (s : Shared) (e : Value) (s' : Shared), Inv X pins σ H s -> CX X.stack H s E e s' -> X.xe e s'
section
variable {X : Cx} {CX : CXT} {k : Nat} {f C : Addr} {fd : FuncData} {ps : List Str} {sp : Sp} {dvs : List V} {ds : List Value} {E : XK} {x m : Str} {p pos apos : Pos} {e o : Expr} {es : List Expr} {ta : TE} {t : TA}
theorem run_fn {pins : List (Addr × Obj)} {σ : St} {H : Hp} {s : Shared} {Q : VK} {us : List Value} {vs : List V} (F : FnOk X.prog X.w X.K X.mg X.base CX k f fd ps sp) (hr : Room k X.A) (hb : Binds X.K fd ps ds) (hd : Vals dvs ds) (hx : Passes CX X E)
    (I : Inv X pins σ H s) (r : Vals vs us) (h : sp (vs ++ dvs) H Q E) : wpAny (model X.prog X.w) X.A (call (.ref f) us) (EP X pins σ Q) X.xe s := by
  have r2 : Vals (vs ++ dvs) (us ++ ds) := r.append hd
  have hl : (us ++ ds).length = ps.length := by rw [<- r2.length]; exact F.len _ _ _ _ h
  refine wpAny_call (codeAny_mono (F.run X.A X.stack s H ⟨us, []⟩ (us ++ ds) (vs ++ dvs) Q E hr I.env0 (hb s us I.kIn hl) r2 h) fun r s' hq => ?_)
  cases r with
  | error e => exact hx pins σ H s e s' I hq
  | ok fl =>
    cases fl with
    | ret u => exact I.after hq
    | next => exact False.elim hq
    | brk => exact False.elim hq
    | cont => exact False.elim hq
theorem pe_call (F : FnOk X.prog X.w X.K X.mg X.base CX k f fd ps sp) (hr : Room k X.A) (hg : Gl X x) (hm : X.mg x = some (.ref f)) (hk : PySem.W.keepIn X.K (.ref f) = true) (hb : Binds X.K fd ps ds) (hd : Vals dvs ds) (hx : Passes CX X E)
    (ha : PA X (e :: es) t) (hdb : (x == ("__debug__" : Str)) = false := by decide) (he : starEach (e :: es) X.env = (false, eval e X.env) :: starEach es X.env := by rfl) (hpl : (backTo pos (starEach es X.env)).any (·.1) = false := by rfl) :
    PE X (.Call (.Name x p) (e :: es) [] pos) (tCall sp dvs E t) := by
  intro pins s σ H Q I h
  refine wpAny_Call_Name_kw (ld_glob I hg hm ?_ hdb)
  refine PySem.W.callWith_K (h₀ := X.base) I.ok.mod.kin hk (thn (ha pos pins s σ H _ I h) fun us s1 ⟨vs, H1, I1, r, q⟩ => ⟨I1.kIn, ?_⟩) he hpl
  exact run_fn F hr hb hd hx I1 r q
end
section
variable {X : Cx} {CX : CXT} {k : Nat} {f C : Addr} {fd : FuncData} {ps ks : List Str} {sp : Sp} {E : XK} {x m : Str} {p pos apos kpos : Pos} {e o : Expr} {es : List Expr} {kws : List Keyword} {te ta : TE} {t tk : TA} {nm : Option Str}
variable {g : List Value -> List Value -> List Value} {gV : List V -> List V -> List V}
end
structure FnScope (N P : List Str) (sc : Scope) : Prop where
  kind : sc.kind = .function
  co : sc.isCoroutine = false
  gen : sc.isGenerator = false
  nd : N.Nodup
  pre : N.take P.length = P
  par : ∀ x ∈ P, sc.names.lookup x = some .local \/ sc.names.lookup x = some .cell
  nofree : ∀ y ∈ sc.names, y.2 ≠ .free
theorem bindL_out {kindOf : Str -> Option NameKind} {x : Str} : ∀ {binds : List (Str × Value)} {m : Str -> Option Value}, (∀ v, (x, v) ∉ binds) -> bindL kindOf binds m x = m x
  | [], _, _ => rfl
  | (n, v) :: r, m, h => by
    unfold bindL
    rw [bindL_out fun w hw => h w (List.mem_cons_of_mem _ hw)]
    split
    . have : x ≠ n := by rintro rfl; exact h v List.mem_cons_self
      simp [this]
    . rfl
theorem bindC_out {kindOf : Str -> Option NameKind} {x : Str} : ∀ {binds : List (Str × Value)} {m : Str -> Option Value}, (∀ v, (x, v) ∉ binds) -> bindC kindOf binds m x = m x
  | [], _, _ => rfl
  | (n, v) :: r, m, h => by
    unfold bindC
    rw [bindC_out fun w hw => h w (List.mem_cons_of_mem _ hw)]
    split
    . rfl
    . have : x ≠ n := by rintro rfl; exact h v List.mem_cons_self
      simp [this]
theorem bindL_get {kindOf : Str -> Option NameKind} {x : Str} {v : Value} : ∀ {P : List Str} {vs : List Value} {i : Nat} {m : Str -> Option Value}, P.Nodup -> P[i]? = some x -> vs[i]? = some v -> kindOf x = some .local ->
    bindL kindOf (P.zip vs) m x = some v
  | [], _, _, _, _, h, _, _ => by simp at h
  | _ :: _, [], _, _, _, _, h, _ => by simp at h
  | p :: P, w :: vs, 0, m, nd, h1, h2, hk => by
    simp at h1 h2; subst h1; subst h2
    show bindL kindOf ((p, w) :: P.zip vs) m p = _
    unfold bindL
    rw [bindL_out fun v hv => (List.nodup_cons.mp nd).1 (List.of_mem_zip hv).1, if_pos hk]
    simp
  | p :: P, w :: vs, i + 1, m, nd, h1, h2, hk => by
    show bindL kindOf ((p, w) :: P.zip vs) m x = _
    unfold bindL
    exact bindL_get (i := i) (List.nodup_cons.mp nd).2 (by simpa using h1) (by simpa using h2) hk
theorem bindC_get {kindOf : Str -> Option NameKind} {x : Str} {v : Value} : ∀ {P : List Str} {vs : List Value} {i : Nat} {m : Str -> Option Value}, P.Nodup -> P[i]? = some x -> vs[i]? = some v -> kindOf x ≠ some .local ->
    bindC kindOf (P.zip vs) m x = some v
  | [], _, _, _, _, h, _, _ => by simp at h
  | _ :: _, [], _, _, _, _, h, _ => by simp at h
  | p :: P, w :: vs, 0, m, nd, h1, h2, hk => by
    simp at h1 h2; subst h1; subst h2
    show bindC kindOf ((p, w) :: P.zip vs) m p = _
    unfold bindC
    rw [bindC_out fun v hv => (List.nodup_cons.mp nd).1 (List.of_mem_zip hv).1, if_neg hk]
    simp
  | p :: P, w :: vs, i + 1, m, nd, h1, h2, hk => by
    show bindC kindOf ((p, w) :: P.zip vs) m x = _
    unfold bindC
    exact bindC_get (i := i) (List.nodup_cons.mp nd).2 (by simpa using h1) (by simpa using h2) hk
def start (N : List Str) (vs : List V) : St := vs.map some ++ List.replicate (N.length - vs.length) none
def cxOf (CX : CXT) (P : Program) (w : World) (K : PySem.W.Frag) (mg : Str -> Option Value) (base : Heap) (N : List Str) (qual : Str) (scope : Scope) (f : Addr) (cd : Value) (A : Around) (outer : List Env) (s : Shared) (H : Hp) (E : XK) : Cx where
  prog := P
  w := w
  K := K
  mg := mg
  base := base
  A := A.deeper (envOfC qual scope s.heap.objs.size f cd)
  N := N
  s₀ := s
  H₀ := H
  env := envOfC qual scope s.heap.objs.size f cd
  outer := outer
  stack := envOfC qual scope s.heap.objs.size f cd :: outer
  ex := []
  calm := true
  fn := fun _ => true
  pn := []
  xe := fun e s' => wpAny (model P w) (A.deeper (envOfC qual scope s.heap.objs.size f cd)) (leaving (envOfC qual scope s.heap.objs.size f cd) e) (fun _ s'' => CX outer H s E e s'') (fun e' s'' => CX outer H s E e' s'') s'
theorem cell_has {sc : Scope} {n : Nat} {x : Str} (h : sc.names.lookup x = some .cell) : ∃ c, (cellsFrom n sc.names []).lookup x = some c := by
  have q := PySem.W.cellsFrom_some sc.names n [] (.inl h)
  exact Option.isSome_iff_exists.mp q
theorem inv_start {CX : CXT} {P : Program} {w : World} {K : PySem.W.Frag} {mg : Str -> Option Value} {base : Heap} {N ps : List Str} {qual : Str} {scope : Scope} {f : Addr} {cd : Value} {A : Around} {outer : List Env} {s s1 : Shared} {H : Hp} {E : XK} {us : List Value} {vs : List V}
    (S : FnScope N ps scope) (hd : A.handled = none) (e0 : Env0 P w K mg base A outer s H) (hl : vs.length = ps.length) (r : Vals vs us)
    (x : InCallC s s.heap.objs.size (bindL (envOfC qual scope s.heap.objs.size f cd).kindOf (ps.zip us) fun _ => none) (cellsFrom (s.heap.objs.size + 1) scope.names []) (bindC (envOfC qual scope s.heap.objs.size f cd).kindOf (ps.zip us) fun _ => none) s1) :
    Inv (cxOf CX P w K mg base N qual scope f cd A outer s H E) [] (start N vs) H s1 := by
  have hpl : ps.length <= N.length := by have := congrArg List.length S.pre; rw [List.length_take] at this; omega
  obtain ⟨h1, tk, rfl, hk⟩ := x.done
  have noA : ∀ b : Addr, b ∉ (cxOf CX P w K mg base N qual scope f cd A outer s H E).ex := fun b z => absurd (show b ∈ ([] : List Addr) from z) (by simp)
  refine ⟨⟨e0.mod, S.kind, rfl, rfl, Nat.le_refl _, fun y z c h1 h2 => ?_, fun y hy => ?_, fun y c _ h => ?_, fun _ => hd, Around.frames_deeper e0.frames, .inr ⟨rfl, rfl⟩, fun b z => absurd z (noA b), e0.bs, e0.bsz, fun b _ _ => noA b, fun b z => absurd z (noA b), e0.funs, e0.frf⟩,
    rfl, e0.bare, Un.kept hk, ⟨_, x.toInCall.ns, fun i y v h1 h2 h3 => ?_⟩, fun y c h => ⟨_, x.cell y c h⟩, e0.hok.fresh (Nat.le_refl _), fun y c h => ?_, fun p hp => absurd (show p ∈ ([] : List (Addr × Obj)) from hp) (by simp), e0.hok.kept hk, ?_⟩
  . exact name_of_addr x.apart (PySem.mem_of_lookup h1) (PySem.mem_of_lookup h2)
  . have hy : scope.names.lookup y = some .cell \/ scope.names.lookup y = some .free := hy
    rcases hy with hy | hy
    . exact cell_has hy
    . exact absurd rfl (S.nofree _ (PySem.mem_of_lookup hy))
  . exact Nat.le_of_lt (x.above y c (PySem.mem_of_lookup h))
  . have hi : i < vs.length := by
      unfold start at h2
      by_cases hi : i < vs.length
      . exact hi
      . rw [List.getElem?_append_right (by simpa using hi)] at h2
        rw [List.getElem?_replicate] at h2
        split at h2 <;> cases h2
    have ha : vs[i]? = some v := by
      unfold start at h2
      rw [List.getElem?_append_left (by simpa using hi), List.getElem?_map] at h2
      cases e : vs[i]? with
      | none => rw [e] at h2; cases h2
      | some a => rw [e] at h2; cases h2; rfl
    obtain ⟨u, hu, rv⟩ := r.get ha
    have hp : ps[i]? = some y := by
      rw [<- S.pre, List.getElem?_take_of_lt (by omega)]; exact h1
    have ndP : ps.Nodup := by rw [<- S.pre]; exact S.nd.sublist (List.take_sublist _ _)
    refine ⟨u, rv, ?_⟩
    rcases S.par y (List.mem_of_getElem? hp) with k | k
    . exact .inl ⟨k, bindL_get ndP hp hu k⟩
    . obtain ⟨c, e⟩ := cell_has (n := s.heap.objs.size + 1) k
      refine .inr ⟨.inl k, c, e, ?_⟩
      have q := x.cell y c e
      rw [bindC_get ndP hp hu (by show scope.names.lookup y ≠ _; rw [k]; decide)] at q
      exact q
  . exact e0.hok.fresh (Nat.le_of_lt (x.above y c (PySem.mem_of_lookup h)))
  . unfold start
    show _ = N.length
    rw [List.length_append, List.length_map, List.length_replicate]
    omega
theorem fn_of {CX : CXT} {P : Program} {w : World} {K : PySem.W.Frag} {mg : Str -> Option Value} {base : Heap} {k : Nat} {f : Addr} {name qual : Str} {params : Arguments} {body : List Stmt} {scope : Scope} {dV kV doc pm cdv ct oc : Value} {an od : Option Addr}
    {osl : Array (Option Value)} {N ps : List Str} {sp : Sp} (lk : K.lookup f = some ⟨oc, od, .func (PySem.W.fnOf name qual params body scope dV kV doc pm an cdv ct), osl⟩) (hcd : PySem.W.codeIn K cdv qual = true) (S : FnScope N ps scope)
    (len : ∀ vs H Q E, sp vs H Q E -> vs.length = ps.length)
    (hbody : ∀ (A : Around) (outer : List Env) (s : Shared) (H : Hp) (vs : List V) (Q : VK) (E : XK), Room k (A.deeper (envOfC qual scope s.heap.objs.size f cdv)) -> sp vs H Q E ->
      ∃ t, PSs (cxOf CX P w K mg base N qual scope f cdv A outer s H E) body t /\ t { nx := fun _ H' => Q .non H', rt := Q } (start N vs) H) :
    FnOk P w K mg base CX (k + 1) f (PySem.W.fnOf name qual params body scope dV kV doc pm an cdv ct) ps sp := by
  refine ⟨len, fun A outer s H args us vs Q E hr e0 hb r hsp => ?_⟩
  have hl := len _ _ _ _ hsp
  have KX : K.In s.heap := e0.mod.kin.keeps fun b o e => (e0.bs b o e).1
  have lim : s.heap.NoLimit := e0.mod.nolimit.keeps fun b o e => (e0.bs b o e).1
  have hkind : ∀ y ∈ ps.zip us, scope.names.lookup y.1 = some .local \/ (scope.names.lookup y.1 = some .cell /\ ((cellsFrom (s.heap.objs.size + 1) scope.names []).lookup y.1).isSome = true) := fun ⟨n, v⟩ hy => by
    rcases S.par n (List.of_mem_zip hy).1 with q | q
    . exact .inl q
    . exact .inr ⟨q, PySem.W.cellsFrom_some _ _ _ (.inl q)⟩
  refine codeAny_call_function hr.depth (KX _ _ lk) rfl S.co S.gen rfl (PySem.W.codeRec_of KX hcd) (hb _ _ _ _ ?_)
  refine wpAny_newFunctionEnv_cells S.kind hkind fun env he s1 x => ?_
  subst he
  refine ⟨lim.keeps x.toInCall.keep, codeAny_func ?_⟩
  obtain ⟨t, ht, hq⟩ := hbody A outer s H vs Q E (hr.deeper _) hsp
  have I : Inv (cxOf CX P w K mg base N qual scope f cdv A outer s H E) [] (start N vs) H s1 := inv_start S hr.hd e0 hl r x
  refine wpAny_mono (ht [] s1 (start N vs) H _ I hq) (fun fl s' hs => ?_) fun e s' hs => hs
  have fin : ∀ {σ' : St} {H' : Hp} {v : V} {u : Value}, Inv (cxOf CX P w K mg base N qual scope f cdv A outer s H E) [] σ' H' s' -> RelV v u -> Q v H' -> CE outer P w H s Q u s' :=
    fun {σ' H' v u} J rv q => ⟨v, H', J.os, J.bare, J.base, J.hok, rv, q⟩
  cases fl with
  | ret u =>
    obtain ⟨v, σ', H', J, rv, q⟩ := hs
    exact fin J rv q
  | next =>
    obtain ⟨σ', H', J, q⟩ := hs
    exact fin (v := V.non) (u := Value.none) J rfl q
  | brk =>
    obtain ⟨_, _, _, q⟩ := hs
    exact False.elim q
  | cont =>
    obtain ⟨_, _, _, q⟩ := hs
    exact False.elim q
end L2
namespace L2
open PySem PySem.Spec PyProof.Rows
section
variable {X : Cx} {x : Str} {p pos : Pos} {e : Expr} {es : List Expr} {t : TA} {id T : String} {r : List V -> Hp -> VK -> Prop}
def tCB (r : List V -> Hp -> VK -> Prop) (t : TA) : TE := fun σ H Q => t σ H fun vs H1 => r vs H1 Q
theorem pe_callB (hc : CallR X (.builtin id) r) (hg : Gl X x) (hm : X.mg x = none) (hv : bootBuiltins x = some (.builtin id)) (ha : PA X (e :: es) t) (hn : x ≠ "__name__" := by decide) (hdb : (x == ("__debug__" : Str)) = false := by decide)
    (he : starEach (e :: es) X.env = (false, eval e X.env) :: starEach es X.env := by rfl) (hpl : (backTo pos (starEach es X.env)).any (·.1) = false := by rfl) : PE X (.Call (.Name x p) (e :: es) [] pos) (tCB r t) := by
  intro pins s σ H Q I h
  refine wpAny_Call_Name_kw (ld_blt I hg hm hv ?_ hn hdb)
  exact PyProof.Rows.callWith_builtin1 (thn (ha pos pins s σ H _ I h) fun us s1 ⟨vs, H1, I1, r1, q1⟩ => hc pins s1 σ H1 vs us Q I1 r1 q1) he hpl
theorem pe_callTy (hc : CallR X (.type T) r) (hg : Gl X x) (hm : X.mg x = none) (hv : bootBuiltins x = some (.type T)) (ha : PA X (e :: es) t) (hn : x ≠ "__name__" := by decide) (hdb : (x == ("__debug__" : Str)) = false := by decide)
    (he : starEach (e :: es) X.env = (false, eval e X.env) :: starEach es X.env := by rfl) (hpl : (backTo pos (starEach es X.env)).any (·.1) = false := by rfl) : PE X (.Call (.Name x p) (e :: es) [] pos) (tCB r t) := by
  intro pins s σ H Q I h
  refine wpAny_Call_Name_kw (ld_blt I hg hm hv ?_ hn hdb)
  exact PyProof.Rows.callWith_type1 (thn (ha pos pins s σ H _ I h) fun us s1 ⟨vs, H1, I1, r1, q1⟩ => hc pins s1 σ H1 vs us Q I1 r1 q1) he hpl
end
end L2
namespace HT
open PySem PyProof.Rows
section
open PySem.SeqAt
open PySem.AutoSeq1 (wpAny_loadPart')
open PySem.MeetsSeq PySem.MeetsSeq2 PySem.MeetsSeq3
end
section
variable {prog : Program} {w : World} {A : Around} {E : Value -> Shared -> Prop} {s : Shared}
def sIx (n d : Nat) : Option Int -> Nat
  | none => d
  | some v => if v < 0 then (v + (n : Int)).toNat else min v.toNat n
end
end HT
namespace L2
open PySem PySem.Spec PyProof.Rows
abbrev TO := St -> Hp -> (Option Int -> Hp -> Prop) -> Prop
def PO (X : Cx) (e : Option Expr) (t : TO) : Prop :=
  ∀ (pins : List (Addr × Obj)) (s : Shared) (σ : St) (H : Hp) (Q : Option Int -> Hp -> Prop), Inv X pins σ H s -> t σ H Q ->
    wpAny (model X.prog X.w) X.A (evalPart e X.env) (fun u s' => ∃ o H', Inv X pins σ H' s' /\ IsPart u o /\ Q o H') X.xe s
def tPart (t : TE) : TO := fun σ H Q => t σ H fun x H1 => ∃ i, x = .int i /\ Q (some i) H1
section
variable {X : Cx} {e : Expr} {te : TE} {lo hi : Option Expr} {tl th : TO} {pos p2 : Pos}
theorem po_some (h : PE X e te) : PO X (some e) (tPart te) := by
  intro pins s σ H Q I hw
  rw [evalPart_some]
  refine thn (h pins s σ H _ I hw) fun u s1 ⟨x, H1, I1, r1, q1⟩ => ?_
  obtain ⟨i, rfl, q⟩ := q1
  obtain ⟨t, rfl⟩ := r1
  exact ⟨some i, H1, I1, .int i t, q⟩
def SlR (X : Cx) (r : V -> Option Int -> Option Int -> Hp -> VK -> Prop) : Prop :=
  ∀ (pins : List (Addr × Obj)) (s : Shared) (σ : St) (H : Hp) (x : V) (v vl vu : Value) (lo hi : Option Int) (sl : Addr) (Q : VK), Inv X pins σ H s -> RelV x v -> s.heap.IsSliceOf sl vl vu .none -> IsPart vl lo -> IsPart vu hi -> r x lo hi H Q ->
    ∃ T id, typeLookup (.type T) "__getitem__" = pure (some (.builtin id)) /\ s.TypeIs v T /\ wpAny (model X.prog X.w) X.A (getItem v (.ref sl)) (EP X pins σ Q) X.xe s
def tSl (r : V -> Option Int -> Option Int -> Hp -> VK -> Prop) (te : TE) (tl th : TO) : TE := fun σ H Q => te σ H fun x H1 => tl σ H1 fun l H2 => th σ H2 fun u H3 => r x l u H3 Q
theorem pe_slice {r : V -> Option Int -> Option Int -> Hp -> VK -> Prop} (hr : SlR X r) (he : PE X e te) (hl : PO X lo tl) (hu : PO X hi th) : PE X (.Subscript e (.Slice lo hi none p2) pos) (tSl r te tl th) := by
  intro pins s σ H Q I h
  refine Subscript_ (thn (he pins s σ H _ I h) fun v s1 ⟨x, H1, I1, r1, q1⟩ => ?_)
  refine wpAny_Slice (thn (hl pins s1 σ H1 _ I1 q1) fun vl s2 ⟨l, H2, I2, pl, q2⟩ => thn (hu pins s2 σ H2 _ I2 q2) fun vu s3 ⟨u, H3, I3, pu, q3⟩ => ?_)
  rw [evalPart_none]
  refine wpAny_pure ?_
  have I4 : Inv X pins σ H3 { s3 with heap := s3.heap.push { cls := .type "slice", data := .fields #[vl, vu, .none] } } := I3.kept (t' := s3.toks) fun b ob q => Heap.get?_push_of_some _ q
  obtain ⟨T, id, hT, ht, hg⟩ := hr pins { s3 with heap := s3.heap.push { cls := .type "slice", data := .fields #[vl, vu, .none] } } σ H3 x v vl vu l u s3.heap.objs.size Q I4 r1 (Heap.IsSliceOf.new ..) pl pu q3
  show wpAny (model X.prog X.w) X.A (subscriptTail e (.Slice lo hi none p2) v (.ref s3.heap.objs.size)) (EP X pins σ Q) X.xe { s3 with heap := s3.heap.push { cls := .type "slice", data := .fields #[vl, vu, .none] } }
  exact tail_any (ops := [.ref s3.heap.objs.size, v]) ht hT hg (by with_unfolding_all rfl)
def cutV (xs : List V) (lo hi : Option Int) : List V := (xs.drop (HT.sIx xs.length 0 lo)).take (HT.sIx xs.length xs.length hi - HT.sIx xs.length 0 lo)
theorem cutV_length (xs : List V) (lo hi : Option Int) : (cutV xs lo hi).length <= xs.length := by
  unfold cutV
  rw [List.length_take, List.length_drop]
  omega
end
end L2
namespace L2
open PySem PySem.Spec PyProof.Rows
def ixN (n : Nat) (i : Int) : Option Nat := if 0 <= i then (if i < n then some i.toNat else none) else if -(n : Int) <= i then some (i + n).toNat else none
def atI {α : Type} (xs : List α) (i : Int) : Option α := (ixN xs.length i).bind fun j => xs[j]?
theorem ixN_seq {n : Nat} {i : Int} {j : Nat} (h : ixN n i = some j) : seqIndex? i n = some j /\ j < n /\ -(n : Int) <= i /\ i < n := by
  unfold ixN at h
  by_cases h0 : 0 <= i
  . rw [if_pos h0] at h
    by_cases h1 : i < n
    . rw [if_pos h1] at h
      have e : i.toNat = j := Option.some.inj h
      exact ⟨by rw [seqIndex_of h0 h1, e], by omega, by omega, h1⟩
    . rw [if_neg h1] at h; cases h
  . rw [if_neg h0] at h
    by_cases h1 : -(n : Int) <= i
    . rw [if_pos h1] at h
      have e : (i + n).toNat = j := Option.some.inj h
      exact ⟨by rw [seqIndex_neg (by omega) h1, e], by omega, h1, by omega⟩
    . rw [if_neg h1] at h; cases h
theorem atI_get {α : Type} {xs : List α} {i : Int} {v : α} (h : atI xs i = some v) : ∃ j, seqIndex? i xs.length = some j /\ xs[j]? = some v /\ j < xs.length /\ -(xs.length : Int) <= i /\ i < xs.length := by
  unfold atI at h
  cases e : ixN xs.length i with
  | none => rw [e] at h; cases h
  | some j =>
    rw [e] at h
    obtain ⟨h1, h2, h3, h4⟩ := ixN_seq e
    exact ⟨j, h1, h, h2, h3, h4⟩
theorem atI_nat {α : Type} {xs : List α} {j : Nat} {v : α} (h : xs[j]? = some v) : atI xs (j : Int) = some v := by
  have hj : j < xs.length := (List.getElem?_eq_some_iff.mp h).1
  have e : ixN xs.length (j : Int) = some j := by
    unfold ixN
    rw [if_pos (by omega), if_pos (by omega)]; simp
  unfold atI; rw [e]; exact h
def PlainIx (b : Expr) : Prop := ∀ o i, subscripted b false o i = operate [o, i] (getItem o i)
def IxR (X : Cx) (r : R2) : Prop :=
  ∀ (value slice : Expr) (pins : List (Addr × Obj)) (s : Shared) (σ : St) (H : Hp) (x y : V) (v u : Value) (Q : VK), Inv X pins σ H s -> RelV x v -> RelV y u -> r x y H Q ->
    subscripted slice false v u = operate [v, u] (getItem v u) -> wpAny (model X.prog X.w) X.A (subscriptTail value slice v u) (EP X pins σ Q) X.xe s
def MtR (X : Cx) (id : String) (r : V -> List V -> Hp -> VK -> Prop) : Prop :=
  ∀ (pins : List (Addr × Obj)) (s : Shared) (σ : St) (H : Hp) (x : V) (xs : List V) (v : Value) (us : List Value) (Q : VK), Inv X pins σ H s -> RelV x v -> Vals xs us -> r x xs H Q ->
    wpAny (model X.prog X.w) X.A (call (.builtin id) (v :: us)) (EP X pins σ Q) X.xe s
section
variable {X : Cx} {a b : Expr} {ta tb : TE} {pos : Pos}
theorem pe_ix {r : R2} (hr : IxR X r) (ha : PE X a ta) (hb : PE X b tb) (hs : PlainIx b) : PE X (.Subscript a b pos) (tOp r ta tb) := by
  intro pins s σ H Q I h
  exact Subscript_ (binT ha hb I h fun v u s2 x y H2 I2 rx ry q => hr a b pins s2 σ H2 x y v u Q I2 rx ry q (hs _ _))
def rIxL (K : PySem.W.Frag) : R2 := fun x y H Q => ∃ p xs i v, x = .ref p /\ y = .int i /\ SqL K H p xs /\ atI xs i = some v /\ Q v H
def rIxT (K : PySem.W.Frag) : R2 := fun x y H Q => ∃ p xs i v, x = .ref p /\ y = .int i /\ SqT K H p xs /\ atI xs i = some v /\ Q v H
theorem ix_list : IxR X (rIxL X.K) := by
  intro value slice pins s σ H x y v u Q I rx ry h hs
  obtain ⟨p, xs, i, z, rfl, rfl, hq, he, q⟩ := h
  cases rx
  obtain ⟨t, rfl⟩ := ry
  obtain ⟨its, r, pl, hz⟩ := I.list hq
  obtain ⟨j, h1, h2, h3, h4, h5⟩ := atI_get he
  obtain ⟨w, ew, rw'⟩ := r.get h2
  have hl := r.length
  have hn := line63
  have fin : EP X pins σ Q w s := ⟨z, H, I, rw', q⟩
  by_cases h0 : 0 <= i
  . have hj : i.toNat = j := by
      rw [seqIndex_of h0 h5] at h1
      exact Option.some.inj h1
    exact item_listR pl.isList h0 (by omega) (by rw [hj]; simpa using ew) fin hs
  . have hj : (i + (its.toArray.size : Int)).toNat = j := by
      rw [seqIndex_neg (by omega) h4] at h1
      rw [List.size_toArray, <- hl]
      exact Option.some.inj h1
    exact subscriptTail_builtinR (x := w) pl.isList.typeIs slot_list_getitem.lookup
      (wpAny_getItem_list_neg (Q := fun r s' => r = w /\ EP X pins σ Q r s') pl.isList (by omega) (by rw [List.size_toArray] <;> omega) (by omega) (by rw [hj]; simpa using ew) ⟨rfl, fin⟩) hs
theorem ix_tup : IxR X (rIxT X.K) := by
  intro value slice pins s σ H x y v u Q I rx ry h hs
  obtain ⟨p, xs, i, z, rfl, rfl, hq, he, q⟩ := h
  cases rx
  obtain ⟨t, rfl⟩ := ry
  obtain ⟨its, r, pl, hz⟩ := I.tuple hq
  obtain ⟨j, h1, h2, h3, h4, h5⟩ := atI_get he
  obtain ⟨w, ew, rw'⟩ := r.get h2
  have hl := r.length
  have hn := line63
  have fin : EP X pins σ Q w s := ⟨z, H, I, rw', q⟩
  exact subscriptTail_builtinR (x := w) pl.typeIs slot_tuple_getitem.lookup
    (getItem_tuple (j := j) (Q := fun r s' => r = w /\ EP X pins σ Q r s') pl (by omega) (by omega) (by rw [List.size_toArray, <- hl]; exact h1) (by simpa using ew) ⟨rfl, fin⟩) hs
theorem mapSeq_set (its : List Value) (n j : Nat) (u : Value) : Obj.mapSeq (·.setIfInBounds j u) { cls := .type "list", data := .seq its.toArray n } = { cls := .type "list", data := .seq (its.set j u).toArray n } := by
  simp [Obj.mapSeq]
theorem Inv.lst {pins : List (Addr × Obj)} {σ : St} {H : Hp} {s : Shared} {p : Addr} {xs : List V} (I : Inv X pins σ H s) (h : H p = some (.lst xs)) :
    ∃ (its : List Value) (n : Nat), Vals xs its /\ s.heap.get? p = some { cls := .type "list", data := .seq its.toArray n } /\ xs.length <= sizeLine := by
  obtain ⟨z, its, n, r, e⟩ := I.hok p _ h
  exact ⟨its, n, r, e, z⟩
theorem Inv.lstUpd {pins : List (Addr × Obj)} {σ : St} {H : Hp} {s : Shared} {p : Addr} {xs ys : List V} {its its' : List Value} {n n' : Nat} {f : Obj -> Obj} (I : Inv X pins σ H s) (h : H p = some (.lst xs))
    (ho : s.heap.get? p = some { cls := .type "list", data := .seq its.toArray n }) (hf : f { cls := .type "list", data := .seq its.toArray n } = { cls := .type "list", data := .seq its'.toArray n' }) (r : Vals ys its') (hz : ys.length <= sizeLine) (t : Nat) :
    Inv X pins σ (upd H p (.lst ys)) { s with heap := s.heap.update p f, toks := t } := by
  have e : (s.heap.update p f).get? p = some { cls := .type "list", data := .seq its'.toArray n' } := by
    rw [Heap.get?_update_self f ho (by rw [hf] <;> rfl), hf]
  refine I.write (x := p) (e := p) (by rw [h]; trivial) (.inl rfl) (fun b u hb q => (Heap.get?_update_other _ _ (Ne.symm hb)).trans q) ⟨_, e⟩ ?_
  exact ⟨hz, its', n', r, e⟩
def rSetL : V -> V -> V -> Hp -> (Hp -> Prop) -> Prop := fun o i v H Q => ∃ p xs k j, o = .ref p /\ i = .int k /\ H p = some (.lst xs) /\ ixN xs.length k = some j /\ Q (upd H p (.lst (xs.set j v)))
theorem set_list : PSet X rSetL := by
  intro pins s σ H o i v ov iv u Q I ro ri rv h
  obtain ⟨p, xs, k, j, rfl, rfl, hp, hj, q⟩ := h
  cases ro
  obtain ⟨t, rfl⟩ := ri
  obtain ⟨its, n, r, ho, hz⟩ := I.lst hp
  obtain ⟨h1, h2, h3, h4⟩ := ixN_seq hj
  have hl := r.length
  have hn := line63
  have I' : Inv X pins σ (upd H p (.lst (xs.set j v))) { s with heap := s.heap.update p (Obj.mapSeq (·.setIfInBounds j u)) } :=
    I.lstUpd hp ho (mapSeq_set its n j u) (r.set rv j) (by rw [List.length_set]; exact hz) s.toks
  by_cases h0 : 0 <= k
  . have hk : k.toNat = j := by
      rw [seqIndex_of h0 h4] at h1
      exact Option.some.inj h1
    exact PySem.W.ki_setAt ho h0 (by omega) (by rw [List.size_toArray, <- hl]; exact h4) (by rw [hk]; exact ⟨_, I', q⟩)
  . have hk : (k + (its.toArray.size : Int)).toNat = j := by
      rw [seqIndex_neg (by omega) h3] at h1
      rw [List.size_toArray, <- hl]
      exact Option.some.inj h1
    exact PySem.W.ki_setBack ho (by omega) (by rw [List.size_toArray, <- hl]; exact h3) (by omega) (by rw [hk]; exact ⟨_, I', q⟩)
theorem slice_bounds (lo hi : Option Int) (n : Nat) : (sliceBounds lo hi none n).1 = ((HT.sIx n 0 lo : Nat) : Int) /\ (sliceBounds lo hi none n).2.1 = ((HT.sIx n n hi : Nat) : Int) /\ (sliceBounds lo hi none n).2.2 = 1 := by
  refine ⟨?_, ?_, rfl⟩
  . cases lo with
    | none => simp [sliceBounds, HT.sIx]
    | some i =>
      simp only [sliceBounds, HT.sIx, Option.getD_none, show (1 : Int) > 0 by decide, if_true]
      by_cases h : i < 0
      . simp only [h, if_true] <;> omega
      . simp only [h, if_false] <;> omega
  . cases hi with
    | none => simp [sliceBounds, HT.sIx]
    | some i =>
      simp only [sliceBounds, HT.sIx, Option.getD_none, show (1 : Int) > 0 by decide, if_true]
      by_cases h : i < 0
      . simp only [h, if_true] <;> omega
      . simp only [h, if_false] <;> omega
theorem slicePick_cut (its : List Value) (lo hi : Option Int) : slicePick its.toArray lo hi none = ((its.drop (HT.sIx its.length 0 lo)).take (HT.sIx its.length its.length hi - HT.sIx its.length 0 lo)).toArray := by
  obtain ⟨h1, h2, h3⟩ := slice_bounds lo hi its.toArray.size
  unfold slicePick
  rw [h1, h2, h3]
  simp only [sliceRange_one, pick_run, List.size_toArray] <;> rfl
def rSlL (K : PySem.W.Frag) : V -> Option Int -> Option Int -> Hp -> VK -> Prop := fun x lo hi H Q => ∃ a xs, x = .ref a /\ SqL K H a xs /\ ∀ p, H p = none -> Q (.ref p) (upd H p (.lst (cutV xs lo hi)))
theorem sl_list : SlR X (rSlL X.K) := by
  intro pins s σ H x v vl vu lo hi sl Q I rx hs pl pu h
  obtain ⟨a, xs, rfl, hx, q⟩ := h
  cases rx
  obtain ⟨its, r, ht, hz⟩ := I.list hx
  have hlen := r.length
  refine ⟨"list", _, slot_list_getitem.lookup, ht.isList.typeIs, ?_⟩
  refine wpAny_getItem_list_slice ht.isList hs pl pu .none (by simp) ?_ (by rw [List.size_toArray] <;> omega)
  rw [slicePick_cut, <- hlen]
  refine ⟨.ref s.heap.objs.size, _, I.laid (t' := s.toks) (o := .lst (cutV xs lo hi)) (fun b ob q => Heap.get?_push_of_some _ q) (Nat.le_refl _) ?_, rfl, q _ (I.hok.fresh (Nat.le_refl _))⟩
  exact ⟨Nat.le_trans (cutV_length xs lo hi) hz, _, 0, (r.drop (HT.sIx xs.length 0 lo)).take (HT.sIx xs.length xs.length hi - HT.sIx xs.length 0 lo), Heap.get?_push_size _ rfl⟩
def flatV : V -> Bool
  | .non => true
  | .bl _ => true
  | .int _ => true
  | .str _ => true
  | _ => false
def eqV : V -> V -> Bool
  | .non, .non => true
  | .bl a, .bl b => a == b
  | .bl a, .int b => (if a then 1 else 0) == b
  | .int a, .bl b => a == (if b then 1 else 0)
  | .int a, .int b => a == b
  | .str a, .str b => a == b
  | _, _ => false
theorem eqAt_V {A : Around} {s : Shared} {y x : V} {u v : Value} (ry : RelV y u) (rx : RelV x v) (fy : flatV y = true) (fx : flatV x = true) : SeqAt.EqAt A s u v (eqV y x) := by
  cases y with
  | non =>
    cases ry
    cases x with
    | non => cases rx; exact SeqAt.EqAt.same _
    | bl b => cases rx; exact SeqAt.EqAt.none_bool b
    | int b => obtain ⟨t, rfl⟩ := rx; exact SeqAt.EqAt.none_int b t
    | str b => obtain ⟨t, rfl⟩ := rx; exact SeqAt.EqAt.none_str b t
    | _ => exact absurd (show false = true from fx) Bool.false_ne_true
  | bl a =>
    cases ry
    cases x with
    | non => cases rx; exact SeqAt.EqAt.bool_none a
    | bl b => cases rx; exact SeqAt.EqAt.bool_bool a b
    | int b => obtain ⟨t, rfl⟩ := rx; exact SeqAt.EqAt.bool_int a b t
    | str b => obtain ⟨t, rfl⟩ := rx; exact SeqAt.EqAt.bool_str a b t
    | _ => exact absurd (show false = true from fx) Bool.false_ne_true
  | int a =>
    obtain ⟨t', rfl⟩ := ry
    cases x with
    | non => cases rx; exact SeqAt.EqAt.int_none a t'
    | bl b => cases rx; exact SeqAt.EqAt.int_bool a t' b
    | int b => obtain ⟨t, rfl⟩ := rx; exact SeqAt.EqAt.int_int a t' b t
    | str b => obtain ⟨t, rfl⟩ := rx; exact SeqAt.EqAt.int_str a t' b t
    | _ => exact absurd (show false = true from fx) Bool.false_ne_true
  | str a =>
    obtain ⟨t', rfl⟩ := ry
    cases x with
    | non => cases rx; exact SeqAt.EqAt.str_none a t'
    | bl b => cases rx; exact SeqAt.EqAt.str_bool a t' b
    | int b => obtain ⟨t, rfl⟩ := rx; exact SeqAt.EqAt.str_int a t' b t
    | str b => obtain ⟨t, rfl⟩ := rx; exact SeqAt.EqAt.str_str a t' b t
    | _ => exact absurd (show false = true from fx) Bool.false_ne_true
  | _ => exact absurd (show false = true from fy) Bool.false_ne_true
theorem call_len_seq : CallR X (.builtin "len") (fun xs H Q => ∃ p ys, xs = [.ref p] /\ (SqL X.K H p ys \/ SqT X.K H p ys) /\ Q (.int ys.length) H) := by
  intro pins s σ H xs us Q I r h
  obtain ⟨p, ys, rfl, hq, q⟩ := h
  obtain ⟨u, rfl, rx⟩ := vals1 r
  cases rx
  have hn := line63
  rcases hq with hq | hq
  . obtain ⟨its, r', pl, hz⟩ := I.list hq
    have hlen := r'.length
    exact Calls.call_len_list pl.isList (by simp only [List.size_toArray] <;> omega) ⟨.int ys.length, H, I.tok _, ⟨s.toks + 1, by rw [List.size_toArray, hlen]⟩, q⟩
  . obtain ⟨its, r', pl, hz⟩ := I.tuple hq
    have hlen := r'.length
    exact len_tuple pl (by simp only [List.size_toArray] <;> omega) ⟨.int ys.length, H, I.tok _, ⟨s.toks + 1, by rw [List.size_toArray, hlen]⟩, q⟩
theorem call_list_of : CallR X (.type "list") (fun xs H Q => ∃ p ys, xs = [.ref p] /\ (SqL X.K H p ys \/ SqT X.K H p ys) /\ ∀ l, H l = none -> Q (.ref l) (upd H l (.lst ys))) := by
  intro pins s σ H xs us Q I r h
  obtain ⟨p, ys, rfl, hq, q⟩ := h
  obtain ⟨u, rfl, rx⟩ := vals1 r
  cases rx
  have fin : ∀ (its : List Value), Vals ys its -> ys.length <= sizeLine -> ∀ (h' : Heap) (c' : Nat), (∀ b o', s.heap.get? b = some o' -> h'.get? b = some o') ->
      h'.get? s.heap.objs.size = some { cls := .type "list", dict := none, data := .seq its.toArray c', slots := #[] } -> EP X pins σ Q (.ref s.heap.objs.size) { s with heap := h' } := fun its r' hz h' c' kp e =>
    ⟨.ref s.heap.objs.size, _, I.laid (t' := s.toks) kp (Nat.le_refl _) (show ObjOk X.prog X.w _ h' _ (.lst ys) from ⟨hz, its, c', r', e⟩), rfl, q _ (I.hok.fresh (Nat.le_refl _))⟩
  rcases hq with hq | hq
  . obtain ⟨its, r', pl, hz⟩ := I.list hq
    have hlen := r'.length
    obtain ⟨o, ho, hc, n, hd⟩ := pl.isList
    exact call_list_seq p (.inl rfl) ho hc hd (fun h' c' kp e => fin its r' hz h' c' kp e) (by simp only [List.size_toArray] <;> omega)
  . obtain ⟨its, r', pl, hz⟩ := I.tuple hq
    have hlen := r'.length
    obtain ⟨o, ho, hc, n, hd⟩ := pl
    exact call_list_seq p (.inr rfl) ho hc hd (fun h' c' kp e => fin its r' hz h' c' kp e) (by simp only [List.size_toArray] <;> omega)
theorem call_tuple_of : CallR X (.type "tuple") (fun xs H Q => ∃ p ys, xs = [.ref p] /\ ((SqL X.K H p ys /\ ∀ l, H l = none -> Q (.ref l) (upd H l (.tup ys))) \/ (SqT X.K H p ys /\ Q (.ref p) H))) := by
  intro pins s σ H xs us Q I r h
  obtain ⟨p, ys, rfl, h⟩ := h
  obtain ⟨u, rfl, rx⟩ := vals1 r
  cases rx
  rcases h with ⟨hq, q⟩ | ⟨hq, q⟩
  . obtain ⟨its, r', pl, hz⟩ := I.list hq
    have hlen := r'.length
    refine call_tuple_list pl.isList (fun h' kp => ?_) (by simp only [List.size_toArray] <;> omega)
    have I1 : Inv X pins σ H { s with heap := h' } := I.kept (t' := s.toks) kp
    have I2 : Inv X pins σ (upd H h'.objs.size (.tup ys)) { s with heap := h'.push { cls := .type "tuple", data := .seq its.toArray } } :=
      I1.laid (t' := s.toks) (fun b o e => Heap.get?_push_of_some _ e) (Nat.le_refl _) (show ObjOk X.prog X.w _ _ _ (.tup ys) from ⟨hz, its, r', IsTup.new _ _⟩)
    exact ⟨.ref h'.objs.size, _, I2, rfl, q _ (I1.hok.fresh (Nat.le_refl _))⟩
  . obtain ⟨its, r', pl, hz⟩ := I.tuple hq
    exact call_tuple_same pl ⟨.ref p, H, I, rfl, q⟩
def tyV (K : PySem.W.Frag) (T : String) (x : V) (H : Hp) : Prop := match x with
  | .str _ => T = "str"
  | .int _ => T = "int"
  | .ref p => (T = "list" /\ ∃ xs, SqL K H p xs) \/ (T = "tuple" /\ ∃ o, K.lookup p = some o /\ o.cls = .type "tuple" /\ o.dict = none) \/
      (T = "dict" /\ ((∃ kvs, H p = some (.dK kvs)) \/ ∃ kvs, H p = some (.dT kvs))) \/ (T = "set" /\ ∃ S n, H p = some (.set S n))
  | _ => False
theorem tyV_is {pins : List (Addr × Obj)} {σ : St} {H : Hp} {s : Shared} {T : String} {x : V} {v : Value} (I : Inv X pins σ H s) (r : RelV x v) (ty : tyV X.K T x H) :
    s.TypeIs v T /\ ∀ a, v = .ref a -> ∃ ob, s.heap.get? a = some ob /\ ob.dict = none := by
  cases x with
  | str z =>
    obtain ⟨t, rfl⟩ := r
    cases (show T = "str" from ty)
    exact ⟨typeIs_str s z t, fun _ e => nomatch e⟩
  | int i =>
    obtain ⟨t, rfl⟩ := r
    cases (show T = "int" from ty)
    exact ⟨typeIs_int s i t, fun _ e => nomatch e⟩
  | ref p =>
    cases r
    rcases ty with ⟨rfl, xs, hq⟩ | ⟨rfl, o, hk, hc, hd⟩ | ⟨rfl, hk⟩ | ⟨rfl, S, n, hk⟩
    . obtain ⟨its, _, pl, _⟩ := I.list hq
      refine ⟨pl.isList.typeIs, fun a e => ?_⟩
      cases e
      obtain ⟨o, n, e, c, hd, _⟩ := pl
      exact ⟨o, e, hd⟩
    . refine ⟨⟨o, I.kIn p o hk, hc⟩, fun a e => ?_⟩
      cases e
      exact ⟨o, I.kIn _ o hk, hd⟩
    . have z : ∃ o, s.heap.get? p = some o /\ o.ExactDict := by
        rcases hk with ⟨kvs, hk⟩ | ⟨kvs, hk⟩
        . obtain ⟨_, _, _, _, o, _, _, e, ex, _⟩ := I.hok p _ hk
          exact ⟨o, e, ex⟩
        . obtain ⟨_, _, _, _, o, _, _, e, ex, _⟩ := I.hok p _ hk
          exact ⟨o, e, ex⟩
      obtain ⟨o, e, ex⟩ := z
      refine ⟨⟨o, e, ex.1⟩, fun a e2 => ?_⟩
      cases e2
      exact ⟨o, e, ex.2.1⟩
    . obtain ⟨o, _, _, _, e, ex, _⟩ := I.hok p _ hk
      refine ⟨⟨o, e, ex.1⟩, fun a e2 => ?_⟩
      cases e2
      exact ⟨o, e, ex.2.1⟩
  | _ => exact False.elim ty
def tBM0 (K : PySem.W.Frag) (T : String) (r : V -> List V -> Hp -> VK -> Prop) (to : TE) : TE := fun σ H Q => to σ H fun x H1 => tyV K T x H1 /\ r x [] H1 Q
def tBM (K : PySem.W.Frag) (T : String) (r : V -> List V -> Hp -> VK -> Prop) (to : TE) (t : TA) : TE := fun σ H Q => to σ H fun x H1 => tyV K T x H1 /\ t σ H1 fun xs H2 => r x xs H2 Q
variable {o e : Expr} {es : List Expr} {to : TE} {t : TA} {name : Str} {apos cpos : Pos} {T id : String} {r : V -> List V -> Hp -> VK -> Prop}
theorem pe_bm0 (pa : PlainAttrs T) (slot : Slot T name id) (hty : typeOf (.builtin id) = pure (.type "method_descriptor")) (hm : MtR X id r) (ho : PE X o to)
    (hbase : attributeBase o name X.env (eval o X.env) = eval o X.env := by rfl) (hline : (apos.endLine == cpos.line) = true := by rfl) : PE X (.Call (.Attribute o name apos) [] [] cpos) (tBM0 X.K T r to) := by
  intro pins s σ H Q I h
  refine wpAny_Call_method0_late hbase hline (thn (ho pins s σ H _ I h) fun v s1 ⟨x, H1, I1, r1, ty, q1⟩ => ?_)
  obtain ⟨h1, h2⟩ := tyV_is I1 r1 ty
  exact ⟨T, id, pa, slot, hty, h1, h2, Calls.callWith_builtin rfl (PySem.evalArgs_none (hm pins s1 σ H1 x [] v [] Q I1 r1 .nil q1))⟩
theorem pe_bm (pa : PlainAttrs T) (slot : Slot T name id) (hty : typeOf (.builtin id) = pure (.type "method_descriptor")) (hm : MtR X id r) (ho : PE X o to) (ha : PA X (e :: es) t)
    (hbase : attributeBase o name X.env (eval o X.env) = eval o X.env := by rfl)
    (hfew : ((backTo cpos (starEach (e :: es) X.env)).all (fun x => !x.1) && (backToKw cpos (keywordEach [] X.env)).all (fun x => x.1.isSome)
      && decide ((e :: es).length + ([] : List Keyword).length + (if ([] : List Keyword).isEmpty then 0 else 1) < 30)) = true := by rfl)
    (hline : (apos.endLine == cpos.line) = true := by rfl) (hs : starEach (e :: es) X.env = (false, eval e X.env) :: starEach es X.env := by rfl) (hplain : (backTo cpos (starEach es X.env)).any (·.1) = false := by rfl) :
    PE X (.Call (.Attribute o name apos) (e :: es) [] cpos) (tBM X.K T r to t) := by
  intro pins s σ H Q I h
  refine wpAny_Call_method_late hbase hfew hline rfl (thn (ho pins s σ H _ I h) fun v s1 ⟨x, H1, I1, r1, ty, q1⟩ => ?_)
  obtain ⟨h1, h2⟩ := tyV_is I1 r1 ty
  refine ⟨T, id, pa, slot, hty, h1, h2, ?_⟩
  have hA := ha cpos pins s1 σ H1 _ I1 q1
  rw [hs] at hA ⊢
  refine Calls.callWith_builtin (by show (false || (backTo cpos (starEach es X.env)).any (·.1)) = false; rw [hplain] <;> rfl) (Calls.evalArgs_plain ?_)
  exact thn hA fun us s2 ⟨vs, H2, I2, r2, q2⟩ => hm pins s2 σ H2 x vs v us Q I2 r1 r2 q2
/- xs.append(e), list.index on a module's tuple .. are MtR facts of 06m -/
end
end L2
namespace L2
open PySem PySem.Spec PyProof.Rows
def MtM (X : Cx) (id : String) (r : V -> List V -> Hp -> VK -> Prop) : Prop :=
  ∀ (pins : List (Addr × Obj)) (s : Shared) (σ : St) (H : Hp) (x : V) (xs : List V) (v : Value) (us : List Value) (Q : VK), Inv X pins σ H s -> RelV x v -> Vals xs us -> r x xs H Q ->
    wpAny (model X.prog X.w) X.A (call (.builtin id) (v :: us)) (EP X pins σ Q) X.xe s
theorem Vals.one : ∀ {x : V} {us : List Value}, Vals [x] us -> ∃ u, us = [u] /\ RelV x u
  | _, _, .cons r .nil => ⟨_, rfl, r⟩
theorem Vals.zero : ∀ {us : List Value}, Vals [] us -> us = []
  | _, .nil => rfl
theorem Vals.dropLast {xs : List V} {us : List Value} (h : Vals xs us) : Vals xs.dropLast us.dropLast := by
  induction h with
  | nil => exact .nil
  | cons r t ih =>
    cases t with
    | nil => exact .nil
    | cons q t' => exact .cons r ih
theorem Vals.rep {xs : List V} {us : List Value} (h : Vals xs us) : ∀ k : Nat, Vals (List.replicate k xs).flatten (List.replicate k us).flatten
  | 0 => .nil
  | k + 1 => by
    rw [List.replicate_succ, List.replicate_succ, List.flatten_cons, List.flatten_cons]
    exact Vals.append h (Vals.rep h k)
theorem erase_last {α : Type} (l : List α) : l.eraseIdx (l.length - 1) = l.dropLast := by
  induction l with
  | nil => rfl
  | cons a r ih =>
    cases r with
    | nil => rfl
    | cons b r =>
      have e : (a :: b :: r).length - 1 = ((b :: r).length - 1) + 1 := by
        have h1 : (a :: b :: r).length = r.length + 2 := rfl
        have h2 : (b :: r).length = r.length + 1 := rfl
        omega
      rw [e, List.eraseIdx_cons_succ, ih]
      all_goals rfl
theorem foldl_rep (its : List Value) : ∀ (k : Nat) (acc : List Value),
    List.foldl (fun x1 x2 => x1 ++ x2) acc.toArray (List.replicate k its.toArray) = (acc ++ (List.replicate k its).flatten).toArray
  | 0, acc => by simp
  | k + 1, acc => by
    have e : acc.toArray ++ its.toArray = (acc ++ its).toArray := by simp
    have e2 : (acc ++ its) ++ (List.replicate k its).flatten = acc ++ (List.replicate (k + 1) its).flatten := by
      rw [List.replicate_succ, List.flatten_cons, List.append_assoc]
    rw [<- e2, <- foldl_rep its k (acc ++ its), <- e, List.replicate_succ, List.foldl_cons]
section
variable {X : Cx} {pins : List (Addr × Obj)} {σ : St} {H : Hp} {s : Shared} {l b : Addr} {xs ys zs : List V}
theorem Inv.lset {its its' : List Value} {n : Nat} {f : Array Value -> Array Value} {t' : Nat} (I : Inv X pins σ H s) (hH : H l = some (.lst xs))
    (e : s.heap.get? l = some { cls := .type "list", data := .seq its.toArray n }) (hf : f its.toArray = its'.toArray) (hv : Vals ys its') (hz : ys.length <= sizeLine) :
    Inv X pins σ (upd H l (.lst ys)) { s with heap := s.heap.update l (Obj.mapSeq f), toks := t' } := by
  have q := PySem.IsL.update e f
  rw [hf] at q
  refine I.write (x := l) (e := l) (by rw [hH]; exact trivial) (.inl rfl) (fun b' u hb hu => (Heap.get?_update_other s.heap (Obj.mapSeq f) (Ne.symm hb)).trans hu) ⟨_, q⟩ ?_
  exact ⟨hz, its', _, hv, q⟩
theorem Inv.lnew {its : List Value} {t' : Nat} (I : Inv X pins σ H s) (hv : Vals ys its) (hz : ys.length <= sizeLine) :
    Inv X pins σ (upd H s.heap.objs.size (.lst ys)) { s with heap := s.heap.push { cls := .type "list", data := .seq its.toArray }, toks := t' } :=
  I.laid (fun _ _ q => Heap.get?_push_of_some _ q) (Nat.le_refl _) ⟨hz, its, 0, hv, Heap.get?_push_size _ rfl⟩
theorem Inv.fresh (I : Inv X pins σ H s) : H s.heap.objs.size = none := I.hok.fresh (Nat.le_refl _)
theorem Inv.lstM (I : Inv X pins σ H s) (hH : H l = some (.lst xs)) : xs.length <= sizeLine /\ ∃ (its : List Value) (n : Nat), Vals xs its /\ xs.length = its.length /\ s.heap.get? l = some { cls := .type "list", data := .seq its.toArray n } := by
  obtain ⟨z, its, n, r, e⟩ := I.hok l _ hH
  exact ⟨z, its, n, r, r.length, e⟩
theorem notLongL {n : Nat} (h : n <= sizeLine) : Builtin.List.listTooLong n = false := by
  unfold Builtin.List.listTooLong
  exact decide_eq_false (by omega)
end
section
variable {X : Cx}
def rAppend : V -> List V -> Hp -> VK -> Prop := fun x vs H Q => ∃ l xs y, x = .ref l /\ vs = [y] /\ H l = some (.lst xs) /\ xs.length < sizeLine /\ Q .non (upd H l (.lst (xs ++ [y])))
theorem mt_append : MtM X "list.append" rAppend := by
  intro pins s σ H x vs v us Q I rx rv h
  obtain ⟨l, xs, y, rfl, rfl, hH, hz, q⟩ := h
  cases rx
  obtain ⟨u, rfl, ru⟩ := rv.one
  obtain ⟨z, its, n, r, hl, e⟩ := I.lstM hH
  refine call_meets F.slot_list_append ⟨_, e, rfl⟩ F.entry_list_append (F.args_list_append_2 _ _) (PySem.list_append l its.toArray n u (by rw [List.size_toArray]; omega)) ⟨e, ?_⟩
  refine ⟨.non, _, I.lset (its' := its ++ [u]) hH e (by simp) (r.append (.cons ru .nil)) ?_, rfl, q⟩
  rw [List.length_append, List.length_singleton]
  omega
def rPop : V -> List V -> Hp -> VK -> Prop := fun x vs H Q => ∃ l xs y, x = .ref l /\ vs = [] /\ H l = some (.lst xs) /\ xs[xs.length - 1]? = some y /\ Q y (upd H l (.lst xs.dropLast))
theorem mt_pop : MtM X "list.pop" rPop := by
  intro pins s σ H x vs v us Q I rx rv h
  obtain ⟨l, xs, y, rfl, rfl, hH, hy, q⟩ := h
  cases rx
  have hus := rv.zero
  subst hus
  obtain ⟨z, its, n, r, hl, e⟩ := I.lstM hH
  obtain ⟨u, hu, ru⟩ := r.get hy
  have hy' : its.toArray[its.toArray.size - 1]? = some u := by
    show its.toArray[its.length - 1]? = some u
    rw [<- Array.getElem?_toList, <- hl]
    exact hu
  refine call_meets F.slot_list_pop ⟨_, e, rfl⟩ F.entry_list_pop (F.args_list_pop_1 _) (MeetsSeq.list_pop_last l its.toArray n u hy' (by rw [List.size_toArray]; omega)) ⟨e, ?_⟩
  refine ⟨y, _, I.lset (its' := its.dropLast) hH e ?_ r.dropLast ?_, ru, q⟩
  . show its.toArray.eraseIdxIfInBounds (its.toArray.size - 1) = its.dropLast.toArray
    rw [List.size_toArray, List.eraseIdxIfInBounds_toArray, erase_last]
  . rw [List.length_dropLast]
    omega
def rCat : R2 := fun x y H Q => ∃ l b xs zs, x = .ref l /\ y = .ref b /\ H l = some (.lst xs) /\ H b = some (.lst zs) /\ xs.length + zs.length <= sizeLine /\ ∀ p, H p = none -> Q (.ref p) (upd H p (.lst (xs ++ zs)))
theorem op_cat : OpR X (binaryOp .Add) rCat := by
  intro pins s σ H x y v u Q I rx ry h
  obtain ⟨l, b, xs, zs, rfl, rfl, hH, hB, hz, q⟩ := h
  cases rx
  cases ry
  obtain ⟨z, its, n, r, hl, e⟩ := I.lstM hH
  obtain ⟨z2, its2, n2, r2, hl2, e2⟩ := I.lstM hB
  refine PySem.P.add_list e e2 ?_ (by rw [List.size_toArray, List.size_toArray]; omega)
  have ea : its.toArray ++ its2.toArray = (its ++ its2).toArray := by simp
  rw [ea]
  exact ⟨.ref _, _, I.lnew (t' := s.toks) (r.append r2) (by rw [List.length_append]; omega), rfl, q _ I.fresh⟩
def rRep : R2 := fun x y H Q => ∃ l k xs, x = .ref l /\ y = .int k /\ H l = some (.lst xs) /\ -(2 ^ 63) <= k /\ k < 2 ^ 63 /\ xs.length * k.toNat <= sizeLine /\
  ∀ p, H p = none -> Q (.ref p) (upd H p (.lst (List.replicate k.toNat xs).flatten))
theorem len_rep {α : Type} (xs : List α) (k : Nat) : (List.replicate k xs).flatten.length = k * xs.length := by
  induction k with
  | zero => simp
  | succ k ih => rw [List.replicate_succ, List.flatten_cons, List.length_append, ih, Nat.succ_mul, Nat.add_comm]
theorem op_rep : OpR X (binaryOp .Mult) rRep := by
  intro pins s σ H x y v u Q I rx ry h
  obtain ⟨l, k, xs, rfl, rfl, hH, h1, h2, hz, q⟩ := h
  cases rx
  obtain ⟨t, rfl⟩ := ry
  obtain ⟨z, its, n, r, hl, e⟩ := I.lstM hH
  have hlen : its.toArray.size * k.toNat <= sizeLine := by rw [List.size_toArray, <- hl]; exact hz
  have hcap : ¬ its.toArray.size * k.toNat > (2 ^ 63 - 1) / 8 := by
    have : (sizeLine : Nat) <= (2 ^ 63 - 1) / 8 := by decide
    omega
  have hfit : ¬ (!Builtin.List.listFitsIndex k) = true := by
    rw [fitsIndex_both h1 h2]
    exact Bool.false_ne_true
  have hlong : ¬ Builtin.List.listTooLong (its.toArray.size * k.toNat) = true := by
    rw [notLongL hlen]
    exact Bool.false_ne_true
  have hnew : List.foldl (fun x1 x2 => x1 ++ x2) #[] (List.replicate (if its.toArray.isEmpty = true then 0 else k.toNat) its.toArray) = (List.replicate k.toNat its).flatten.toArray := by
    have f0 : ∀ m : Nat, List.foldl (fun x1 x2 => x1 ++ x2) #[] (List.replicate m its.toArray) = (List.replicate m its).flatten.toArray := fun m => by
      have := foldl_rep its m []
      rw [List.nil_append] at this
      exact this
    rw [f0]
    cases its with
    | nil => simp
    | cons a r' => rw [if_neg (by simp)]
  refine wpAny_binaryOp_repeat_ref (T := "list") (U := "int") (by decide) ⟨_, e, rfl⟩ (fun s' => typeIs_int s' k t) noFill_list_mul F.fills_int_mul F.slot_int_rmul repeat_list F.slot_int_index.lookup
    (call_meets F.slot_int_rmul (typeIs_int s k t) F.entry_int_rmul (F.args_int_rmul_2 _ _) (int___rmul___int_list k t l its.toArray n)
      ⟨e, rfl, ⟨_, e, rfl⟩, call_meets F.slot_list_mul ⟨_, e, rfl⟩ F.entry_list_mul (F.args_list_mul_2 _ _) (AutoListH.list___mul___list_int_3 l its.toArray n k t hfit hcap hlong) ⟨e, ?_⟩⟩)
  rw [hnew]
  exact ⟨.ref _, _, I.lnew (t' := s.toks) (r.rep k.toNat) (by rw [len_rep, Nat.mul_comm]; exact hz), rfl, q _ I.fresh⟩
end
section
variable {prog : Program} {w : World} {A : Around} {E : Value -> Shared -> Prop} {s : Shared}
end
section
variable {X : Cx}
end
end L2
namespace Att
open PySem PySem.W PySem.Calls PyProof.Rows
theorem ints_of_wellAll {P : Params} {h : Heap} : ∀ (ns : List Int) (vs : List Value), WellAll P h vs (ns.map WData.int) -> IntsAre vs ns := by
  intro ns
  induction ns with
  | nil =>
    intro vs w
    rw [List.map_nil] at w
    cases w
    exact .nil
  | cons n ns ih =>
    intro vs w
    rw [List.map_cons] at w
    cases w with
    | cons a b =>
      cases a
      exact .cons _ _ (ih _ b)
theorem script_of {l : OpenLaw} {n : Nat} (hn : l.most = some n) {P : Params} {h : Heap} {args : List WData} {vals : List Value}
    (hpre : l.row.toRowW.claim.pre args = true) (hwl : WellAll P h vals args) :
    ∃ a vs ns, vals = [Value.ref a] /\ args = [WData.list (ns.map WData.int)] /\ h.get? a = some { cls := .type "list", data := .seq vs.toArray } /\ IntsAre vs ns /\ ns.length <= n := by
  have hsh : WShape.hasAll [] args [.list .int] = true := (pre_splitW hpre).1
  have hc : l.pre.holds [] { args := args } = true := (pre_splitW hpre).2
  obtain ⟨d, r, rfl, h1, h2⟩ := hasAllW_cons hsh
  obtain rfl := hasAllW_nil h2
  obtain ⟨xs, rfl, h3⟩ := hasW_list h1
  obtain ⟨ns, rfl⟩ := items_int h3
  have hlen : ns.length <= n := by
    unfold OpenLaw.pre at hc
    have h4 : (WTm.not (.lt (.lit (.int (n : Int))) (.len (.arg 0)))).holds [] { args := [.list (ns.map .int)] } = true := by
      have h4 := (holds_andW hc).1
      rw [hn] at h4
      exact h4
    have h5 := condW_of h4 (w_not (w_lt w_lit (w_len_list (w_arg rfl))))
    rw [List.length_map] at h5
    refine Nat.le_of_not_lt fun q => ?_
    have q' : (n : Int) < ((ns.length : Nat) : Int) := by omega
    first
      | (rw [decide_eq_true q'] at h5; exact absurd h5 (by decide))
      | (simp at h5; omega)
  cases hwl with
  | cons w1 w2 =>
    cases w2
    cases w1 with
    | list ho hall => exact ⟨_, _, ns, rfl, rfl, ho, ints_of_wellAll ns _ hall, hlen⟩
theorem post_true (l : OpenLaw) (args : List WData) : l.row.toRowW.claim.post args (.bool true) args = true :=
  postW_of (r := l.row.toRowW) (X := (true == true))
    (show WShape.has [] (.bool true) .bool = true by first | rfl | decide | simp [WShape.has, WShape.arms, WShape.armsAll])
    (show (WTm.eq .res (.lit (.bool true))).value [] { args := args, res := some (.bool true), after := args } = some (.bool (true == true)) from w_eq_bool (w_res rfl) w_lit) rfl
theorem attach_call {l : OpenLaw} {n : Nat} {q : Program} {loose : List Str} {XP : (Str -> Option Value) -> Heap -> Prop} {YP : World -> Heap -> Prop} {d : DefRec}
    (hn : l.most = some n) (hdf : d.params.defaults = [])
    (call : ∀ (w : World) (s₀ s₁ : Shared) (mg mb : Str -> Option Value) (fa : Addr) (o : Obj) (pm cd doc : Value) (a : Addr) (vs : List Value) (ns : List Int),
      Ground q loose [] XP w s₀ mg mb s₁.heap -> YP w s₁.heap ->
      s₁.heap.get? fa = some o -> o.data = .func (docDef d.name d.params d.body d.scope pm cd doc) -> s₁.heap.CodeRec cd d.name -> mg d.name = some (.ref fa) ->
      s₁.heap.get? a = some { cls := .type "list", data := .seq vs.toArray } -> IntsAre vs ns -> ns.length <= n -> s₁.gens = #[] ->
      codeAny (model l.prog w) callerA (.call (.ref fa) ⟨[.ref a], []⟩) (fun r s' => r = .ok (.ret (.bool true)) /\ OldK s₁.heap s'.heap /\ s'.os = s₁.os /\ AllBare s'.gens) s₁) :
    WalkO q loose XP YP l.row.toRowW d [] (fun f vs => PySem.call f vs) := by
  intro w s₀ s₁ mg mb G Y fa o pm cd doc dV kV ho hd hcd hD hmg hg args vals as hpre hlay hrd hwl hlo
  obtain rfl : dV = .none := Dflts.none hD hdf
  obtain rfl : kV = .none := Dflts.noKw hD
  obtain ⟨a, vs, ns, rfl, rfl, hobj, hints, hlen⟩ := script_of hn hpre hwl
  refine enter_call (codeAny_mono (call w s₀ s₁ mg mb fa o pm cd doc a vs ns G Y ho (fd_plain hd) hcd hmg hobj hints hlen hg) fun r s' hq => ?_)
  obtain ⟨rfl, h2, h3, h4⟩ := hq
  exact ⟨.inl ⟨.bool true, .bool true, [], rfl, fun _ => rfl, .bool true, post_true l _, fun _ => ⟨List.Pairwise.nil, fun _ hm => (nomatch hm)⟩⟩, h2, h3, h4⟩
section
variable {prog : Program} {w : World} {A : Around} {E : Value -> Shared -> Prop} {s : Shared} {K : Frag}
end
end Att
namespace L2
open PySem PySem.Spec PyProof.Rows
theorem vals_ints : ∀ {vs : List Value} {ns : List Int}, IntsAre vs ns -> Vals (ns.map V.int) vs
  | _, _, .nil => .nil
  | _, _, .cons n t h => .cons ⟨t, rfl⟩ (vals_ints h)
def Only (H : Hp) : Prop := ∀ b, H b = none \/ ∃ o xs, H b = some (.frz o (.lst xs))
theorem law_call {P : Program} {w : World} {K : PySem.W.Frag} {mg mb : Str -> Option Value} {CX : CXT} {k : Nat} {fa a : Addr} {fd : FuncData} {x : Str} {sp : Sp} {s₁ : Shared} {vs : List Value} {ns : List Int}
    (KX : K.In s₁.heap) (hns : s₁.heap.Ns mainGlobals mg) (hb : s₁.heap.Ns builtinsNs mb) (hbb : ∀ x : Str, x ≠ "__name__" -> mb x = bootBuiltins x) (hlim : s₁.heap.NoLimit) (hg : s₁.gens = #[])
    (ha : s₁.heap.get? a = some { cls := .type "list", data := .seq vs.toArray }) (hi : IntsAre vs ns) (hl : ns.length <= sizeLine) (hr : Room k callerA)
    (F : ∀ base : Heap, K.In base -> base.Ns mainGlobals mg -> FnOk P w K mg base CX k fa fd [x] sp) (hbind : ∀ (s : Shared) (u : Value), BindsTo s fd ⟨[u], []⟩ [(x, u)])
    (hsp : ∀ H : Hp, Only H -> SqL K H a (ns.map V.int) -> sp [.ref a] H (fun v _ => v = .bl true) fun _ _ _ => False)
    (hCX : ∀ H e s', CX [] H s₁ (fun _ _ _ => False) e s' -> False) :
    codeAny (model P w) callerA (.call (.ref fa) ⟨[.ref a], []⟩) (fun r s' => r = .ok (.ret (.bool true)) /\ OldK s₁.heap s'.heap /\ s'.os = s₁.os /\ AllBare s'.gens) s₁ := by
  have rv := vals_ints hi
  have lenV := hi.length
  -- from an abstract heap in which nothing but the script may be tracked
  have core : ∀ H : Hp, Only H -> SqL K H a (ns.map V.int) -> HOk P w H s₁.heap -> (∀ b, H b ≠ none -> b = a) -> (H a ≠ none -> K.lookup a = none) ->
      codeAny (model P w) callerA (.call (.ref fa) ⟨[.ref a], []⟩) (fun r s' => r = .ok (.ret (.bool true)) /\ OldK s₁.heap s'.heap /\ s'.os = s₁.os /\ AllBare s'.gens) s₁ := by
    intro H hO hS hok hA hK
    have base_of : ∀ {b : Addr} {o : Obj}, s₁.heap.get? b = some o -> H b = none -> (hidT s₁.heap H).get? b = some o := fun e n => hidT_get e n
    have noA : ∀ {b : Addr} {o : Obj} {es : Array DictEntry} {ep : Nat}, s₁.heap.get? b = some o -> o.data = .dict es ep -> H b = none := fun {b o es ep} e d => by
      cases q : H b with
      | none => rfl
      | some u =>
        have e' : b = a := hA b (by rw [q]; simp)
        subst e'
        rw [ha] at e; cases e
        have d' : Data.seq vs.toArray _ = Data.dict es ep := d
        cases d'
    have nsK : ∀ {b : Addr} {m : Str -> Option Value}, s₁.heap.Ns b m -> (hidT s₁.heap H).Ns b m := fun {b m} ⟨o, es, ep, e, d, r⟩ => ⟨o, es, ep, base_of e (noA e d), d, r⟩
    have hKb : K.In (hidT s₁.heap H) := fun b o e => base_of (KX b o e) (by
      cases q : H b with
      | none => rfl
      | some u =>
        have e' : b = a := hA b (by rw [q]; simp)
        subst e'
        rw [hK (by rw [q]; simp)] at e; cases e)
    have hM : Mod K mg (hidT s₁.heap H) := ⟨hKb, nsK hns, ⟨mb, nsK hb, hbb⟩, let ⟨mc, h1, h2⟩ := hlim; ⟨mc, nsK h1, h2⟩⟩
    have e0 : Env0 P w K mg (hidT s₁.heap H) callerA [] s₁ H := ⟨rfl, hM, fun b o e => of_hidT e, Nat.le_of_eq (hidT_size _ _), trivial, fun b hb => absurd (show b ∈ ([] : List Addr) from hb) (by simp), hok, .of_eq hg⟩
    refine codeAny_mono ((F _ hKb (nsK hns)).run callerA [] s₁ H ⟨[.ref a], []⟩ [.ref a] [.ref a] _ _ hr e0 (hbind s₁ (.ref a)) (.cons rfl .nil) (hsp H hO hS)) fun r s' h => ?_
    cases r with
    | error e => exact (hCX H e s' h).elim
    | ok fl =>
      cases fl with
      | next => exact False.elim h
      | brk => exact False.elim h
      | cont => exact False.elim h
      | ret u =>
        obtain ⟨v, H', os, bare, un, hok', r', q⟩ := h
        have q' : v = .bl true := q
        subst q'
        obtain rfl : u = Value.bool true := r'
        refine ⟨rfl, OldK.of_keep fun b o e => ?_, os, bare⟩
        cases q : H b with
        | none => exact un.keep b o e q (by intro z; exact absurd (show b ∈ ([] : List Addr) from z) (by simp)) (by simp)
        | some u =>
          rcases hO b with z | ⟨ob, xs, z⟩
          . rw [q] at z; cases z
          . have z2 := un.frzs b ob _ z
            obtain ⟨e1, _⟩ := hok b _ z
            obtain ⟨e2, _⟩ := hok' b _ z2
            rw [e] at e1; cases e1
            exact e2
  cases hk : K.lookup a with
  | some o =>
    -- the script is one of the module's own objects
    have e := KX a o hk
    rw [ha] at e
    cases e
    refine core (fun _ => none) (fun _ => .inl rfl) (.inr ⟨_, vs.toArray, _, hk, rfl, rfl, rfl, by rw [List.size_toArray, lenV]; exact hl, by simpa using rv⟩) (fun b u z => by have z' : (none : Option HO) = some u := z; cases z') (fun b z => absurd rfl z) fun z => absurd rfl z
  | none =>
    refine core (fun b => if b = a then some (.frz { cls := .type "list", data := .seq vs.toArray } (.lst (ns.map V.int))) else none) (fun b => ?_) (.inl (.inr ⟨{ cls := .type "list", data := .seq vs.toArray }, if_pos rfl⟩)) (fun b u z => ?_) (fun b z => ?_) fun _ => hk
    . by_cases hb : b = a
      . exact .inr ⟨_, _, if_pos hb⟩
      . exact .inl (if_neg hb)
    . by_cases hb : b = a
      . have z' := (if_pos hb).symm.trans z
        cases z'
        subst hb
        exact ⟨ha, by rw [List.length_map]; exact hl, vs, _, rv, ha⟩
      . have z' := (if_neg hb).symm.trans z
        cases z'
    . by_cases hb : b = a
      . exact hb
      . exact absurd (if_neg hb) z
end L2
namespace L2
open PySem PySem.Spec PyProof.Rows
theorem walk_of {l : PySem.W.OpenLaw} {n k : Nat} {q : Program} {loose : List Str} {XP : (Str -> Option Value) -> Heap -> Prop} {YP : World -> Heap -> Prop} {d : DefRec} {K : Params -> PySem.W.Frag} {CX : World -> CXT} {sp : World -> Sp} {x : Str}
    (hn : l.most = some n) (hn2 : n <= sizeLine) (hdf : d.params.defaults = []) (hr : Room k callerA)
    (hY : ∀ (w : World) (h : Heap), YP w h -> (K w.params).In h)
    (F : ∀ (w : World) (mg : Str -> Option Value) (fa : Addr) (h : Heap), (K w.params).In h -> h.Ns mainGlobals mg -> mg d.name = some (.ref fa) ->
      ∃ fd : FuncData, (∀ (s : Shared) (u : Value), BindsTo s fd ⟨[u], []⟩ [(x, u)]) /\
        ∀ base : Heap, (K w.params).In base -> base.Ns mainGlobals mg -> FnOk l.prog w (K w.params) mg base (CX w) k fa fd [x] (sp w))
    (hsp : ∀ (w : World) (H : Hp) (a : Addr) (ns : List Int), ns.length <= n -> Only H -> SqL (K w.params) H a (ns.map V.int) -> sp w [.ref a] H (fun v _ => v = .bl true) fun _ _ _ => False)
    (hCX : ∀ (w : World) (H : Hp) (s : Shared) (e : Value) (s' : Shared), CX w [] H s (fun _ _ _ => False) e s' -> False) :
    PySem.W.WalkO q loose XP YP l.row.toRowW d [] (fun f vs => PySem.call f vs) := by
  refine Att.attach_call hn hdf fun w s₀ s₁ mg mb fa o pm cd doc a vs ns G Y ho hd hcd hmg hobj hints hlen hg => ?_
  have KX := hY w _ Y
  obtain ⟨fd, hb, hF⟩ := F w mg fa _ KX G.T.g hmg
  exact law_call KX G.T.g G.T.b G.T.builtins G.T.nolimit hg hobj hints (Nat.le_trans hlen hn2) hr hF hb (fun H hO hS => hsp w H a ns hlen hO hS) fun H e s' => hCX w H s₁ e s'
end L2
namespace L2
open PySem PySem.Spec PyProof.Rows
def defArgs (s : Stmt) : Arguments := match s with
  | .FunctionDef _ a _ _ _ _ _ _ _ _ => a
  | _ => { posonlyargs := [], args := [], vararg := none, kwonlyargs := [], kw_defaults := [], kwarg := none, defaults := [] }
def defBody (s : Stmt) : List Stmt := match s with
  | .FunctionDef _ _ b _ _ _ _ _ _ _ => b
  | _ => []
def defScope (s : Stmt) : Scope := match s with
  | .FunctionDef _ _ _ _ _ _ sc _ _ _ => sc
  | _ => { kind := .function, names := [], isGenerator := false, isCoroutine := false }
abbrev CX0 : CXT := fun _ _ _ _ _ _ => False
abbrev E0 : XK := fun _ _ _ => False
theorem pass0 {X : Cx} : Passes CX0 X E0 := fun _ _ _ _ _ _ _ h => h.elim
structure Fun (K : PySem.W.Frag) (x qual : Str) (st : Stmt) (f : Addr) (fd : FuncData) : Prop where
  ex : ∃ (oc : Value) (od : Option Addr) (kV doc pm : Value) (an : Option Addr) (cdv ct : Value) (osl : Array (Option Value)),
    fd = PySem.W.fnOf x qual (defArgs st) (defBody st) (defScope st) .none kV doc pm an cdv ct /\ K.lookup f = some ⟨oc, od, .func fd, osl⟩ /\ PySem.W.codeIn K cdv qual = true
  kp : PySem.W.keepIn K (.ref f) = true
section
variable {P : Program} {w : World} {K : PySem.W.Frag} {mg : Str -> Option Value} {base : Heap}
theorem Fun.ok {x qual : Str} {st : Stmt} {f : Addr} {fd : FuncData} {N ps : List Str} {k : Nat} {sp : Sp} (F : Fun K x qual st f fd) (S : FnScope N ps (defScope st)) (len : ∀ vs H Q E, sp vs H Q E -> vs.length = ps.length)
    (hbody : ∀ (cdv : Value) (A : Around) (outer : List Env) (s : Shared) (H : Hp) (vs : List V) (Q : VK) (E : XK), Room k (A.deeper (envOfC qual (defScope st) s.heap.objs.size f cdv)) -> sp vs H Q E ->
      ∃ t, PSs (cxOf CX0 P w K mg base N qual (defScope st) f cdv A outer s H E).nox (defBody st) t /\ t { nx := fun _ H' => Q .non H', rt := Q } (start N vs) H) : FnOk P w K mg base CX0 (k + 1) f fd ps sp := by
  obtain ⟨oc, od, kV, doc, pm, an, cdv, ct, osl, rfl, lk, hcd⟩ := F.ex
  refine fn_of lk hcd S len fun A outer s H vs Q E hr hsp => ?_
  obtain ⟨t, h, q⟩ := hbody cdv A outer s H vs Q E hr hsp
  exact ⟨t, h.nox, q⟩
theorem Fun.binds {x qual : Str} {st : Stmt} {f : Addr} {fd : FuncData} {ps : List Str} (F : Fun K x qual st f fd)
    (h : ∀ (kV doc pm : Value) (an : Option Addr) (cdv ct : Value) (us : List Value), us.length = ps.length -> bindArgs (PySem.W.fnOf x qual (defArgs st) (defBody st) (defScope st) .none kV doc pm an cdv ct) ⟨us, []⟩ = pure (ps.zip us)) : Binds K fd ps [] := by
  obtain ⟨oc, od, kV, doc, pm, an, cdv, ct, osl, rfl, lk, hcd⟩ := F.ex
  exact .all (h kV doc pm an cdv ct)
theorem fun_mk {x qual : Str} {st : Stmt} {f : Addr} {oc : Value} {od an : Option Addr} {osl : Array (Option Value)} {kV doc pm cdv ct : Value} (l : K.lookup f = some ⟨oc, od, .func (PySem.W.fnOf x qual (defArgs st) (defBody st) (defScope st) .none kV doc pm an cdv ct), osl⟩)
    (c : PySem.W.codeIn K cdv qual = true) (k : PySem.W.keepIn K (.ref f) = true) : Fun K x qual st f (PySem.W.fnOf x qual (defArgs st) (defBody st) (defScope st) .none kV doc pm an cdv ct) := ⟨⟨oc, od, kV, doc, pm, an, cdv, ct, osl, rfl, l, c⟩, k⟩
end
section
variable {X : Cx}
theorem pv (i : Nat) {x : Str} {pos : Pos} (hN : X.N[i]? = some x := by rfl) (hv : Vis X.env.scope x := by first | exact Or.inl rfl | exact Or.inr (Or.inl rfl) | exact Or.inr (Or.inr rfl)) (hd : (x == ("__debug__" : Str)) = false := by decide)
    (hcd : (x == ("__classdict__" : Str)) = false := by decide) : PE X (.Name x pos) (tVar i) := pe_var hN hv hd hcd
end
theorem ite2 {c A B : Prop} [Decidable c] (h1 : c -> A) (h2 : ¬ c -> B) : if c then A else B := by
  by_cases h : c
  . rw [if_pos h]
    exact h1 h
  . rw [if_neg h]
    exact h2 h
def Same (H H' : Hp) : Prop := ∀ b o, H b = some o -> H' b = some o
theorem Same.refl (H : Hp) : Same H H := fun _ _ h => h
theorem Same.trans {H H1 H2 : Hp} (a : Same H H1) (b : Same H1 H2) : Same H H2 := fun c o h => b c o (a c o h)
theorem Same.free {H H' : Hp} (e : Same H H') {l : Addr} (h : H' l = Option.none) : H l = Option.none := by
  cases q : H l with
  | none => rfl
  | some o =>
    rw [e l o q] at h
    cases h
theorem Same.seq {K : PySem.W.Frag} {H H' : Hp} {a : Addr} {xs : List V} (e : Same H H') (h : SqL K H a xs) : SqL K H' a xs := by
  rcases h with (h | ⟨o, h⟩) | h
  . exact .inl (.inl (e _ _ h))
  . exact .inl (.inr ⟨o, e _ _ h⟩)
  . exact .inr h
end L2
set_option Elab.async false
set_option linter.all false
set_option maxRecDepth 100000
set_option maxHeartbeats 4000000
namespace L2
open PySem PySem.Spec PyProof.Rows
section
variable {κ : Type} [DecidableEq κ]
end
section
variable {P : Program} {w : World} {H : Hp} {h : Heap} {a : Addr}
end
section
variable {X : Cx} {pins : List (Addr × Obj)} {σ : St} {H : Hp} {s : Shared} {a : Addr} {y v : V} {u r : Value} {o : Option V} {A : Around} {E : Value -> Shared -> Prop}
end
section
variable {X : Cx} {pins : List (Addr × Obj)} {σ : St} {H : Hp} {s : Shared} {a : Addr} {kvs : List (Key × V)} {k : Key} {u : Value} {A : Around} {E : Value -> Shared -> Prop}
end
section
variable {X : Cx} {o i e value : Expr} {pos pos' tpos : Pos} {td ty tv : TE}
end
section
variable {X : Cx} {pos : Pos}
end
section
variable {X : Cx} {pins : List (Addr × Obj)} {σ : St} {H : Hp} {s : Shared} {a : Addr} {y d : V} {u r : Value} {o : Option V} {A : Around} {E : Value -> Shared -> Prop}
end
section
variable {X : Cx} {o e f : Expr} {apos cpos : Pos} {td ty tx : TE}
end
section
variable {X : Cx} {pins : List (Addr × Obj)} {σ : St} {H : Hp} {s : Shared} {a : Addr} {kvs : List (Key × V)} {A : Around} {E : Value -> Shared -> Prop}
end
section
variable {X : Cx} {pins : List (Addr × Obj)} {σ : St} {H : Hp} {s : Shared} {a : Addr} {y : V} {u : Value} {A : Around} {E : Value -> Shared -> Prop}
end
end L2
set_option Elab.async false
set_option linter.all false
set_option maxRecDepth 100000
set_option maxHeartbeats 4000000
namespace L2
open PySem PySem.Spec PyProof.Rows
def clOf (env : Env) : List (Str × NameKind) -> List (Str × Addr) -> List (Str × Addr)
  | [], acc => acc
  | (n, k) :: r, acc => if (k == .free) = true then clOf env r ((n, (env.cells.lookup n).getD 0) :: acc) else clOf env r acc
theorem closure_eq {env : Env} {scope : Scope} (h : ∀ p ∈ scope.names, p.2 = .free -> ∃ c, env.cells.lookup p.1 = some c) : closureFor scope env = pure (clOf env scope.names []) := by
  have go : ∀ (l : List (Str × NameKind)) (acc : List (Str × Addr)), (∀ p ∈ l, p.2 = .free -> ∃ c, env.cells.lookup p.1 = some c) ->
      (forIn l acc fun (x : Str × NameKind) (cs : List (Str × Addr)) => (if (x.2 == .free) = true then do let c <- cellOf env x.1; pure (ForInStep.yield ((x.1, c) :: cs)) else pure (ForInStep.yield cs) : Sem (ForInStep (List (Str × Addr))))) = (pure (clOf env l acc) : Sem (List (Str × Addr))) := by
    intro l
    induction l with
    | nil => intro acc _; rfl
    | cons p r ih =>
      intro acc hl
      obtain ⟨n, k⟩ := p
      rw [List.forIn_cons]
      by_cases hk : (k == .free) = true
      . obtain ⟨c, hc⟩ := hl (n, k) List.mem_cons_self (by simpa using hk)
        have e1 : cellOf env n = pure c := by unfold cellOf; rw [hc]
        have ih' := ih ((n, c) :: acc) fun q hq => hl q (List.mem_cons_of_mem _ hq)
        show ((if (k == .free) = true then do let c <- cellOf env n; pure (ForInStep.yield ((n, c) :: acc)) else pure (ForInStep.yield acc) : Sem _) >>= _) = _
        rw [if_pos hk, e1]
        show (forIn r ((n, c) :: acc) _ : Sem _) = _
        rw [clOf, if_pos hk, hc]
        exact ih'
      . have ih' := ih acc fun q hq => hl q (List.mem_cons_of_mem _ hq)
        show ((if (k == .free) = true then do let c <- cellOf env n; pure (ForInStep.yield ((n, c) :: acc)) else pure (ForInStep.yield acc) : Sem _) >>= _) = _
        rw [if_neg hk]
        show (forIn r acc _ : Sem _) = _
        rw [clOf, if_neg hk]
        exact ih'
  have e := go scope.names [] h
  unfold closureFor
  show (forIn scope.names [] _ >>= fun cs => pure cs : Sem _) = _
  have e2 : (forIn scope.names [] (fun (x : Str × NameKind) (r : List (Str × Addr)) => (match x with
      | (name, kind) => if (kind == .free) = true then do let c <- cellOf env name; pure (ForInStep.yield ((name, c) :: r)) else do pure PUnit.unit; pure (ForInStep.yield r) : Sem (ForInStep (List (Str × Addr)))))) = (pure (clOf env scope.names []) : Sem (List (Str × Addr))) := e
  exact congrArg (fun z => z >>= fun cs => pure cs) e2
theorem clOf_mem {env : Env} : ∀ (l : List (Str × NameKind)) (acc : List (Str × Addr)), (∀ p ∈ l, p.2 = .free -> ∃ c, env.cells.lookup p.1 = some c) -> (∀ q ∈ acc, env.cells.lookup q.1 = some q.2) -> ∀ q ∈ clOf env l acc, env.cells.lookup q.1 = some q.2
  | [], _, _, ha, q, hq => ha q hq
  | (n, k) :: r, acc, hl, ha, q, hq => by
    unfold clOf at hq
    by_cases hk : (k == .free) = true
    . rw [if_pos hk] at hq
      obtain ⟨c, hc⟩ := hl (n, k) List.mem_cons_self (by simpa using hk)
      refine clOf_mem r _ (fun p hp => hl p (List.mem_cons_of_mem _ hp)) (fun p hp => ?_) q hq
      rcases List.mem_cons.mp hp with rfl | hp
      . show env.cells.lookup n = some ((env.cells.lookup n).getD 0)
        rw [hc]; rfl
      . exact ha p hp
    . rw [if_neg hk] at hq
      exact clOf_mem r _ (fun p hp => hl p (List.mem_cons_of_mem _ hp)) ha q hq
theorem clOf_has {env : Env} : ∀ (l : List (Str × NameKind)) (acc : List (Str × Addr)) (x : Str), ((x, NameKind.free) ∈ l \/ ∃ c, (x, c) ∈ acc) -> ∃ c, (x, c) ∈ clOf env l acc
  | [], _, _, h => by
    rcases h with h | h
    . cases h
    . exact h
  | (n, k) :: r, acc, x, h => by
    unfold clOf
    by_cases hk : (k == .free) = true
    . rw [if_pos hk]
      refine clOf_has r _ x ?_
      rcases h with h | ⟨c, h⟩
      . rcases List.mem_cons.mp h with h | h
        . cases h
          exact .inr ⟨_, List.mem_cons_self⟩
        . exact .inl h
      . exact .inr ⟨c, List.mem_cons_of_mem _ h⟩
    . rw [if_neg hk]
      refine clOf_has r _ x ?_
      rcases h with h | h
      . rcases List.mem_cons.mp h with h | h
        . cases h
          exact absurd rfl hk
        . exact .inl h
      . exact .inr h
theorem lookup_some_of_mem {β : Type} : ∀ {l : List (Str × β)} {x : Str} {c : β}, (x, c) ∈ l -> ∃ c', l.lookup x = some c'
  | [], _, _, h => by cases h
  | (n, d) :: r, x, c, h => by
    by_cases hx : (x == n) = true
    . exact ⟨d, by rw [List.lookup_cons, hx]⟩
    . rcases List.mem_cons.mp h with h | h
      . cases h; exact absurd (beq_self_eq_true _) hx
      . obtain ⟨c', e⟩ := lookup_some_of_mem h
        exact ⟨c', by rw [List.lookup_cons]; simp only [Bool.not_eq_true] at hx; rw [hx]; exact e⟩
def relF (env : Env) : Str × NameKind -> Str × NameKind := fun (n, k) => if (k == NameKind.free && env.scope.kind == .function && env.kindOf n == some .cell) then (n, NameKind.cell) else (n, k)
theorem relF_yes {env : Env} {n : Str} {k : NameKind} (h : (k == NameKind.free && env.scope.kind == .function && env.kindOf n == some .cell) = true) : relF env (n, k) = (n, .cell) := if_pos h
theorem relF_no {env : Env} {n : Str} {k : NameKind} (h : ¬ (k == NameKind.free && env.scope.kind == .function && env.kindOf n == some .cell) = true) : relF env (n, k) = (n, k) := if_neg h
theorem relabel_kind {env : Env} : ∀ {names : List (Str × NameKind)} {x : Str} {k : NameKind}, (∀ y ∈ names, y.2 ≠ .cell) ->
    (names.map (relF env)).lookup x = some k -> (k = .cell \/ k = .free) -> (x, NameKind.free) ∈ names
  | [], _, _, _, h, _ => by simp at h
  | (n, k') :: r, x, k, hc, h, hk => by
    have ih := @relabel_kind env r x k (fun y hy => hc y (List.mem_cons_of_mem _ hy))
    rw [List.map_cons] at h
    by_cases hb : (k' == NameKind.free && env.scope.kind == .function && env.kindOf n == some .cell) = true
    . rw [relF_yes hb, List.lookup_cons] at h
      cases hx : x == n with
      | true =>
        have e : x = n := by simpa using hx
        subst e
        have e2 : k' = .free := by
          simp only [Bool.and_eq_true] at hb
          simpa using hb.1.1
        subst e2
        exact List.mem_cons_self
      | false =>
        rw [hx] at h
        exact List.mem_cons_of_mem _ (ih h hk)
    . rw [relF_no hb, List.lookup_cons] at h
      cases hx : x == n with
      | true =>
        rw [hx] at h
        have e : x = n := by simpa using hx
        subst e
        have e2 : k' = k := Option.some.inj h
        subst e2
        rcases hk with rfl | rfl
        . exact absurd rfl (hc _ List.mem_cons_self)
        . exact List.mem_cons_self
      | false =>
        rw [hx] at h
        exact List.mem_cons_of_mem _ (ih h hk)
theorem relabel_free {env : Env} : ∀ {names : List (Str × NameKind)} {x : Str}, names.lookup x = some .free ->
    ∃ k, (k = NameKind.cell \/ k = NameKind.free) /\ (names.map (relF env)).lookup x = some k
  | [], _, h => by simp at h
  | (n, k') :: r, x, h => by
    have ih := @relabel_free env r x
    rw [List.lookup_cons] at h
    rw [List.map_cons]
    cases hx : x == n with
    | true =>
      rw [hx] at h
      have e2 : k' = .free := Option.some.inj h
      subst e2
      by_cases hb : ((NameKind.free : NameKind) == NameKind.free && env.scope.kind == .function && env.kindOf n == some .cell) = true
      . exact ⟨.cell, .inl rfl, by rw [relF_yes hb, List.lookup_cons, hx]⟩
      . exact ⟨.free, .inr rfl, by rw [relF_no hb, List.lookup_cons, hx]⟩
    | false =>
      rw [hx] at h
      obtain ⟨k, hk, e⟩ := ih h
      refine ⟨k, hk, ?_⟩
      by_cases hb : (k' == NameKind.free && env.scope.kind == .function && env.kindOf n == some .cell) = true
      . rw [relF_yes hb, List.lookup_cons, hx]; exact e
      . rw [relF_no hb, List.lookup_cons, hx]; exact e
end L2
set_option Elab.async false
set_option linter.all false
set_option maxRecDepth 100000
set_option maxHeartbeats 4000000
namespace L2
open PySem PySem.Spec PyProof.Rows
section
variable {prog : Program} {w : World} {A : Around} {R : Result -> Shared -> Prop} {s : Shared}
abbrev cpW (prog : Program) (w : World) (A : Around) (R : Result -> Shared -> Prop) (env : Env) {α : Type} (m : Sem α) (Q : α -> Shared -> Prop) : Shared -> Prop := wpAny (model prog w) A m Q (notedBy (model prog w) A env fun e t => R (.error e) t)
theorem compLoop_gen {elt target iter : Expr} {ifs : List Expr} {scope : Scope} {pos : Pos} {it acc : Value} {env : Env} (I : Nat -> Shared -> Prop)
    (turn : ∀ n s, I n s -> cpW prog w A R env (pyNext it) (fun r s => match r with
      | none => R (.ok .next) s
      | some v => cpW prog w A R env (letOwnedTupleGo target it v) (fun _ => cpW prog w A R env (assign target env v) fun _ => cpW prog w A R env (forIn ifs true fun c r => if r = true then do let ok <- isTrue c env (eval c env); pure (ForInStep.yield ok) else pure (ForInStep.yield r)) fun ok s =>
          if ok = true then cpW prog w A R env (eval elt env) (fun x => cpW prog w A R env (call (.builtin "list.append") [acc, x]) fun _ t => ∃ m, m < n /\ I m t) s else ∃ m, m < n /\ I m s) s) s)
    (n : Nat) (h : I n s) : codeAny (model prog w) A (.compLoop (.ListComp elt [⟨target, iter, ifs, 0⟩] scope pos) 0 it acc env) R s := by
  have mono : ∀ {α β : Type} {m : Sem α} {f : α -> Sem β} {Q : α -> Shared -> Prop} {Q' : β -> Shared -> Prop} {s : Shared}, cpW prog w A R env m Q s -> (∀ a t, Q a t -> cpW prog w A R env (f a) Q' t) -> cpW prog w A R env (m >>= f) Q' s := fun h k => wpAny_bind (wpAny_mono h k fun _ _ e => e)
  refine codeAny_loop rfl I (fun n s hI => wpAny_noted ?_) n h
  rw [compTurn_list]
  refine wpAny_bind (wpAny_standAt (mono (turn n s hI) fun r s1 h1 => ?_))
  cases r with
  | none => exact wpAny_pure h1
  | some v =>
    refine mono h1 fun _ _ h2 => mono h2 fun _ _ h3 => mono h3 fun ok s4 h4 => ?_
    cases ok with
    | false => exact wpAny_pure ⟨rfl, h4⟩
    | true => exact wpAny_bind (mono h4 fun _ _ h5 => mono h5 fun _ _ h6 => wpAny_pure (wpAny_pure ⟨rfl, h6⟩))
end
abbrev Cx.blk (X : Cx) (N : List Str) (sc : Scope) (C : Addr) (s₀ : Shared) (H₀ : Hp) (ex : List Addr) : Cx :=
  { X with N := N, env := compEnvC sc (clOf X.env sc.names []) C X.env, outer := X.stack, s₀ := s₀, H₀ := H₀, ex := ex, fn := fun _ => false, pn := [], xe := fun _ _ => False }
structure BlkSc (X : Cx) (sc : Scope) : Prop where
  kind : sc.kind = .function
  nocell : ∀ y ∈ sc.names, y.2 ≠ .cell
  loc : ∀ y ∈ sc.names, y.2 = .local -> sc.names.lookup y.1 = some .local
  free : ∀ y ∈ sc.names, y.2 = .free -> X.env.kindOf y.1 = some .cell \/ X.env.kindOf y.1 = some .free
abbrev Caps := List (Str × Option Nat)
def Caps.names (c : Caps) : List Str := c.map (·.1)
def Caps.st (c : Caps) (σ : St) : St := c.map fun p => p.2.bind fun j => (σ[j]?).join
def CapsOk (N : List Str) (sc : Scope) : Caps -> Prop
  | [] => True
  | (_, none) :: r => CapsOk N sc r
  | (x, some j) :: r => (N[j]? = some x /\ sc.names.lookup x = some .free) /\ CapsOk N sc r
theorem CapsOk.get {N : List Str} {sc : Scope} : ∀ {c : Caps} {i : Nat} {x : Str} {j : Nat}, CapsOk N sc c -> c[i]? = some (x, some j) -> N[j]? = some x /\ sc.names.lookup x = some .free
  | [], _, _, _, _, h => by simp at h
  | (y, none) :: r, 0, x, j, _, h => by simp at h
  | (y, none) :: r, i + 1, x, j, ok, h => CapsOk.get (c := r) (i := i) ok (by simpa using h)
  | (y, some k) :: r, 0, x, j, ok, h => by
    simp only [List.getElem?_cons_zero, Option.some.injEq, Prod.mk.injEq] at h
    obtain ⟨rfl, rfl⟩ := h
    exact ok.1
  | (y, some k) :: r, i + 1, x, j, ok, h => CapsOk.get (c := r) (i := i) ok.2 (by simpa using h)
section
variable {X : Cx} {pins : List (Addr × Obj)} {σ : St} {H : Hp} {s : Shared} {sc : Scope} {fp : List Addr}
theorem blk_cells (I : Inv X pins σ H s) (S : BlkSc X sc) : ∀ p ∈ sc.names, p.2 = .free -> ∃ c, X.env.cells.lookup p.1 = some c := fun p hp e => I.ok.has p.1 (S.free p hp e)
theorem blk_lookup (I : Inv X pins σ H s) (S : BlkSc X sc) {x : Str} {c : Addr} (h : (clOf X.env sc.names []).lookup x = some c) : X.env.cells.lookup x = some c :=
  clOf_mem sc.names [] (blk_cells I S) (fun q hq => by cases hq) (x, c) (PySem.mem_of_lookup h)
theorem blk_ok {N : List Str} {C : Addr} (I : Inv X pins σ H s) (S : BlkSc X sc) (hC : s.heap.objs.size <= C) (hf : ∀ b ∈ fp, FpOk X pins H b) (ho : ∀ b ∈ fp, ∃ o, s.heap.get? b = some o) : (X.blk N sc C s H fp).Ok where
  mod := I.ok.mod
  kind := S.kind
  glob := I.ok.glob
  blt := I.ok.blt
  above := hC
  inj := fun x y c h1 h2 => I.ok.inj x y c (blk_lookup I S h1) (blk_lookup I S h2)
  has := fun x hx => by
    have hx' : (x, NameKind.free) ∈ sc.names := by
      rcases hx with hx | hx
      . exact relabel_kind (env := X.env) S.nocell hx (.inl rfl)
      . exact relabel_kind (env := X.env) S.nocell hx (.inr rfl)
    obtain ⟨c, hc⟩ := clOf_has (env := X.env) sc.names [] x (.inl hx')
    exact lookup_some_of_mem hc
  cab := fun x c h => absurd (show false = true from h) Bool.false_ne_true
  hd := I.ok.hd
  frames := I.ok.frames
  stk := .inl rfl
  exf := fun b hb => by
    obtain ⟨o, ho⟩ := ho b hb
    refine ⟨Nat.ne_of_lt (Nat.lt_of_lt_of_le (Heap.lt_size ho) hC), fun x c h => (hf b hb).2.2.2.2.1 x c (blk_lookup I S h)⟩
  bs := I.bs
  bsz := Nat.le_trans I.ok.bsz I.sz
  noex := fun b o e hb => by
    rcases (hf b hb).2.2.2.1 with z | z
    . exact I.ok.noex b o e z
    . exact absurd (Nat.lt_of_lt_of_le (Heap.lt_size (I.ok.bs b o e).1) z) (Nat.lt_irrefl _)
  exfs := fun b hb z => by
    rcases List.mem_cons.mp (I.stkSub b z) with e | e
    . exact (hf b hb).2.1 e
    . exact (hf b hb).2.2.1 e
  funs := I.stack
  frf := I.stkFree
theorem blk_start {c : Caps} {C : Addr} {s4 : Shared} {m : Str -> Option Value} (I : Inv X pins σ H s) (S : BlkSc X sc) (hc : CapsOk X.N sc c) (hC : s.heap.objs.size <= C) (hf : ∀ b ∈ fp, FpOk X pins H b) (ho : ∀ b ∈ fp, ∃ o, s.heap.get? b = some o)
    (hos : s4.os = s.os) (hb : s4.gens = s.gens) (hk : ∀ b o, s.heap.get? b = some o -> s4.heap.get? b = some o) (hn : s4.heap.Ns C m) : Inv (X.blk c.names sc C s H fp) [] (c.st σ) H s4 where
  ok := blk_ok I S hC hf ho
  os := hos
  bare := by rw [hb]; exact I.bare
  base := Un.kept hk
  loc := by
    refine ⟨m, hn, fun i x v h1 h2 hv => ?_⟩
    have h1' : (c.map (·.1))[i]? = some x := h1
    have h2' : (c.map fun p => p.2.bind fun j => (σ[j]?).join)[i]? = some (some v) := h2
    rw [List.getElem?_map] at h1' h2'
    cases e : c[i]? with
    | none => rw [e] at h1'; cases h1'
    | some p =>
      obtain ⟨y, oj⟩ := p
      rw [e] at h1' h2'
      have e1 : y = x := Option.some.inj h1'
      subst e1
      have e2 : (oj.bind fun j => (σ[j]?).join) = some v := Option.some.inj h2'
      cases oj with
      | none => cases e2
      | some j =>
        have e3 : (σ[j]?).join = some v := e2
        have e4 : σ[j]? = some (some v) := by
          cases q : σ[j]? with
          | none => rw [q] at e3; cases e3
          | some z => rw [q] at e3; exact congrArg some e3
        obtain ⟨k1, k2⟩ := CapsOk.get hc e
        have k3 : X.env.kindOf y = some .cell \/ X.env.kindOf y = some .free := S.free (y, .free) (PySem.mem_of_lookup k2) rfl
        have vis : Vis X.env.scope y := by
          rcases k3 with k | k
          . exact .inr (.inl k)
          . exact .inr (.inr k)
        obtain ⟨mX, hnX, hl⟩ := I.loc
        obtain ⟨u, r, l⟩ := hl j y v k1 e4 vis
        refine ⟨u, r, ?_⟩
        rcases l with ⟨k, _⟩ | ⟨_, ca, hca, z⟩
        . rcases k3 with k' | k' <;> (rw [k] at k'; cases k')
        . obtain ⟨kd, hkd, ek⟩ := relabel_free (env := X.env) k2
          have hk2 : (compEnvC sc (clOf X.env sc.names []) C X.env).kindOf y = some kd := ek
          obtain ⟨c', hc'⟩ := clOf_has (env := X.env) sc.names [] y (.inl (PySem.mem_of_lookup k2))
          obtain ⟨c2, hc2⟩ := lookup_some_of_mem hc'
          have e5 := blk_lookup I S hc2
          rw [hca] at e5
          have e6 : ca = c2 := Option.some.inj e5
          subst e6
          refine .inr ⟨?_, ca, hc2, ?_⟩
          . rcases hkd with rfl | rfl
            . exact .inl hk2
            . exact .inr hk2
          . obtain ⟨oc, hoc, hd⟩ := z
            exact ⟨oc, hk _ _ hoc, hd⟩
  cell := fun x ca h => by
    obtain ⟨v, oc, hoc, hd⟩ := I.cell x ca (blk_lookup I S h)
    exact ⟨v, oc, hk _ _ hoc, hd⟩
  free := I.hok.fresh hC
  freeC := fun x ca h => I.freeC x ca (blk_lookup I S h)
  pin := fun p hp => absurd (show p ∈ ([] : List (Addr × Obj)) from hp) (by simp)
  hok := I.hok.kept hk
  len := by show (c.map _).length = (c.map _).length; rw [List.length_map, List.length_map]
theorem HOk.track {P : Program} {w : World} {H : Hp} {h : Heap} {a : Addr} {o : HO} (x : HOk P w H h) (hn : H a = none) (new : ObjOk P w (upd H a o) h a o) : HOk P w (upd H a o) h := fun b u e => by
  by_cases hb : b = a
  . subst hb; rw [upd_same] at e; cases e; exact new
  . rw [upd_ne hb] at e
    exact (x b u e).stay (fun c v _ q => q) (fun c q => by rw [upd_ne (ne_of_none q hn)]; exact q) fun c xs q => by rw [upd_ne (ne_of_none q hn)]; exact q
theorem Un.track {fs ex : List Addr} {H H' : Hp} {h h' : Heap} {a : Addr} {o : HO} (u : Un fs ex H H' h h') (ha : h.objs.size <= a) (hn : H' a = none) : Un fs ex H (upd H' a o) h h' where
  keep := u.keep
  slot := u.slot
  free := fun b ob q n hx => by rw [upd_ne (Nat.ne_of_lt (Nat.lt_of_lt_of_le (Heap.lt_size q) ha))]; exact u.free b ob q n hx
  there := u.there
  tups := fun b xs q => by rw [upd_ne (ne_of_none (u.tups b xs q) hn)]; exact u.tups b xs q
  frzs := fun b ob xs q => by rw [upd_ne (ne_of_none (u.frzs b ob xs q) hn)]; exact u.frzs b ob xs q
  tbls := fun b ps q => by
    obtain ⟨more, e⟩ := u.tbls b ps q
    exact ⟨more, by rw [upd_ne (ne_of_none e hn)]; exact e⟩
theorem blk_end {c : Caps} {C D : Addr} {s' : Shared} {σ' : St} {H' : Hp} {o : HO} (I : Inv X pins σ H s) (J : Inv (X.blk c.names sc C s H fp) [] σ' H' s') (hf : ∀ b ∈ fp, FpOk X pins H b) (hD : s.heap.objs.size <= D) (hn : H' D = none)
    (new : ObjOk X.prog X.w (upd H' D o) s'.heap D o) : Inv X pins σ (upd H' D o) s' := by
  have u : Un (frs X.stack) fp H H' s.heap s'.heap := J.base
  exact I.call' J.os (u.track hD hn) (J.hok.track hn new) J.bare fun b hb => ⟨(hf b hb).2.2.2.1, (hf b hb).2.1, (hf b hb).2.2.2.2.1, (hf b hb).2.2.2.2.2⟩
end
def PF (X : Cx) (ifs : List Expr) (t : TT) : Prop :=
  ∀ (pins : List (Addr × Obj)) (s : Shared) (σ : St) (H : Hp) (Q : Bool -> Hp -> Prop), Inv X pins σ H s -> t σ H Q ->
    wpAny (model X.prog X.w) X.A (forIn ifs true fun c r => if r = true then do let ok <- isTrue c X.env (eval c X.env); pure (ForInStep.yield ok) else pure (ForInStep.yield r)) (TP X pins σ Q) X.xe s
def tTrue : TT := fun _ H Q => Q true H
theorem pf_nil {X : Cx} : PF X [] tTrue := fun _ _ _ H _ I h => wpAny_tests_nil ⟨H, I, h⟩
def tComp (wi : TI) (cp : Caps) (g : TG) (tc : TT) (te : TE) : TE := fun σ H Q => wi σ H fun J H1 => ∃ W : Nat -> Nat -> List V -> St -> Hp -> Prop, (∃ m, W 0 m [] (cp.st σ) H1) /\ ∀ i m ys σ' H', W i m ys σ' H' ->
  ys.length < sizeLine /\ ((J.stop i H' /\ ∀ D, H' D = none -> Q (.ref D) (upd H' D (.lst ys))) \/ (J.go i H' /\ ∃ N : List V -> St -> Hp -> Prop, (∀ zs σ2 H2, N zs σ2 H2 -> ∃ m', m' < m /\ W (i + 1) m' zs σ2 H2) /\ ∀ x H2, J.yld i H' x H2 -> g x σ' H2 fun σ2 H3 => tc σ2 H3 fun b H4 =>
    if b = true then te σ2 H4 fun v H5 => N (ys ++ [v]) σ2 H5 else N ys σ2 H4))
section
variable {X : Cx} {tg iter elt : Expr} {ifs : List Expr} {sc : Scope} {pos : Pos} {wi : TI} {cp : Caps} {g : TG} {tc : TT} {te : TE}
theorem comp_core (hc : X.calm = true) (S : BlkSc X sc) (hcp : CapsOk X.N sc cp)
    (hg : ∀ C s₀ H₀ ex, PG (X.blk cp.names sc C s₀ H₀ ex) tg g) (hf : ∀ C s₀ H₀ ex, PF (X.blk cp.names sc C s₀ H₀ ex) ifs tc) (he : ∀ C s₀ H₀ ex, PE (X.blk cp.names sc C s₀ H₀ ex) elt te)
    {pins : List (Addr × Obj)} {σ : St} {H : Hp} {s : Shared} {J : It} {it : Addr} {fp : List Addr} {tn : Nat -> Heap -> Prop} {Q : VK} {RR : Value -> Addr -> Result -> Shared -> Prop} {E : Value -> Shared -> Prop}
    (I : Inv X pins σ H s) (T : Turn X.prog X.w X.K tg J fp it tn) (st : tn 0 s.heap) (fpo : ∀ b ∈ fp, FpOk X pins H b)
    (hw : ∃ W : Nat -> Nat -> List V -> St -> Hp -> Prop, (∃ m, W 0 m [] (cp.st σ) H) /\ ∀ i m ys σ' H', W i m ys σ' H' ->
      ys.length < sizeLine /\ ((J.stop i H' /\ ∀ D, H' D = none -> Q (.ref D) (upd H' D (.lst ys))) \/ (J.go i H' /\ ∃ N : List V -> St -> Hp -> Prop, (∀ zs σ2 H2, N zs σ2 H2 -> ∃ m', m' < m /\ W (i + 1) m' zs σ2 H2) /\ ∀ x H2, J.yld i H' x H2 -> g x σ' H2 fun σ2 H3 => tc σ2 H3 fun b H4 =>
        if b = true then te σ2 H4 fun v H5 => N (ys ++ [v]) σ2 H5 else N ys σ2 H4)))
    (hR : ∀ D C s' H' (m : Str -> Option Value), Inv X pins σ H' s' -> Q (.ref D) H' -> s'.heap.Ns C m -> H' C = none -> C ≠ X.env.locals -> X.s₀.heap.objs.size <= C -> (∀ x c, X.env.cells.lookup x = some c -> c ≠ C) -> (∀ p ∈ X.pn ++ pins, p.1 ≠ C) -> RR (.ref D) C (.ok .next) s') :
    wpAny (model X.prog X.w) X.A (newList []) (fun acc s₃ => wpAny (model X.prog X.w) X.A (newFunctionEnv sc X.env.globals (clOf X.env sc.names []) [] X.env.qual none .none (some X.env)) (fun cenv s₄ =>
      codeAny (model X.prog X.w) X.A (.compStart (.ListComp elt [⟨tg, iter, ifs, 0⟩] sc pos) 0 (.ref it) acc { cenv with scope := relabel sc X.env }) (RR acc cenv.locals) s₄) E s₃) E s := by
  obtain ⟨W, ⟨m0, w0⟩, turn⟩ := hw
  refine wpAny_newObj_type (wpAny_newFunctionEnv S.nocell (by intro y hy; simp at hy) (fun h₁ hns₁ hsb₁ => ?_) S.kind)
  dsimp only at hns₁ hsb₁ ⊢
  generalize hH2 : s.heap.push { cls := .type "list", dict := none, data := .seq ([] : List Value).toArray } = H2 at hns₁ hsb₁ ⊢
  have hC : H2.objs.size = s.heap.objs.size + 1 := by rw [<- hH2, Heap.size_push]
  have hDC : s.heap.objs.size ≠ H2.objs.size := by rw [hC]; exact Nat.ne_of_lt (Nat.lt_succ_self _)
  have hCle : s.heap.objs.size <= H2.objs.size := by rw [hC]; exact Nat.le_succ _
  have below : ∀ b, b < s.heap.objs.size -> b ≠ H2.objs.size := fun b hb => by rw [hC]; exact Nat.ne_of_lt (Nat.lt_succ_of_lt hb)
  have old : ∀ b o, s.heap.get? b = some o -> h₁.get? b = some o := fun b o e => hsb₁.extBut b o (below b (Heap.lt_size e)) (Heap.get?_push_of_some _ (hH2 ▸ Heap.get?_push_of_some _ e))
  have hacc : h₁.get? s.heap.objs.size = some { cls := .type "list", data := .seq ([] : List Value).toArray 0 } := hsb₁.extBut _ _ hDC (Heap.get?_push_of_some _ (hH2 ▸ Heap.get?_push_size _ rfl))
  have hst₁ : tn 0 h₁ := T.keep 0 _ _ st fun b _ o e => old b o e
  have hobj : ∀ b ∈ fp, ∃ o, s.heap.get? b = some o := fun b hb => let ⟨o, e, _⟩ := T.obj 0 _ st b hb; ⟨o, e⟩
  have J0 : Inv (X.blk cp.names sc H2.objs.size s H fp) [] (cp.st σ) H { s with heap := h₁, toks := s.toks + ([] : List (Str × Value)).length } := blk_start I S hcp hCle fpo hobj rfl rfl old hns₁
  have nfs : ∀ b, s.heap.objs.size <= b -> b ∉ frs X.stack := fun b hb z => by
    rcases List.mem_cons.mp (I.stkSub b z) with e | e
    . exact absurd (Nat.lt_of_lt_of_le I.lt (by rw [<- e]; exact hb)) (Nat.lt_irrefl _)
    . exact I.nofs hb e
  have ncell : ∀ b, s.heap.objs.size <= b -> ∀ x c, X.env.cells.lookup x = some c -> c ≠ b := fun b hb x c e z => by
    obtain ⟨v, q⟩ := I.cell x c e
    exact absurd (Nat.lt_of_lt_of_le q.lt (by rw [z]; exact hb)) (Nat.lt_irrefl _)
  have fpb : ∀ {pins' : List (Addr × Obj)} {H' : Hp}, (∀ b ∈ fp, H' b = none) -> (∀ p ∈ pins', p.1 ∉ fp) -> ∀ b ∈ fp, FpOk (X.blk cp.names sc H2.objs.size s H fp) pins' H' b := fun {pins' H'} hn hp b hb => by
    obtain ⟨o, e⟩ := hobj b hb
    refine ⟨hn b hb, below b (Heap.lt_size e), fun z => ?_, .inl hb, fun x c h => (fpo b hb).2.2.2.2.1 x c (blk_lookup I S h), fun p hp' z => ?_⟩
    . rcases List.mem_cons.mp (I.stkSub b z) with e | e
      . exact (fpo b hb).2.1 e
      . exact (fpo b hb).2.2.1 e
    . have hp'' : p ∈ pins' := by simpa using hp'
      exact hp p hp'' (by rw [z]; exact hb)
  have loop : ∀ s₃ : Shared, s₃ = { s with heap := h₁, toks := s.toks + ([] : List (Str × Value)).length } ->
      codeAny (model X.prog X.w) X.A (.compLoop (.ListComp elt [⟨tg, iter, ifs, 0⟩] sc pos) 0 (.ref it) (.ref s.heap.objs.size) (compEnvC sc (clOf X.env sc.names []) H2.objs.size X.env))
        (RR (.ref s.heap.objs.size) H2.objs.size) s₃ := by
    rintro s₃ rfl
    refine compLoop_gen (fun n s' => ∃ i σ' H' ys its k, Inv (X.blk cp.names sc H2.objs.size s H fp) [] σ' H' s' /\ tn i s'.heap /\ (∀ b ∈ fp, H' b = none) /\ H' s.heap.objs.size = none /\
      s'.heap.get? s.heap.objs.size = some { cls := .type "list", data := .seq its.toArray k } /\ Vals ys its /\ W i n ys σ' H') ?_ m0
      ⟨0, _, H, [], [], 0, J0, hst₁, fun b hb => (fpo b hb).1, I.hok.fresh (Nat.le_refl _), hacc, .nil, w0⟩
    rintro n s3 ⟨i, σ3, H3, ys, its, k, I3, st3, fr3, hD3, e3, rv, w3⟩
    obtain ⟨hz, tr⟩ := turn i n ys σ3 H3 w3
    have hlen := rv.length
    -- the accumulator stands still while anything else runs
    have dpin : ∀ p ∈ [(s.heap.objs.size, ({ cls := .type "list", data := .seq its.toArray k } : Obj))], p.1 ∉ fp := fun p hp z => by
      have e : p = _ := List.mem_singleton.mp hp
      subst e
      obtain ⟨o, e⟩ := hobj _ z
      exact absurd (Heap.lt_size e) (Nat.lt_irrefl _)
    have I3' : Inv (X.blk cp.names sc H2.objs.size s H fp) [(s.heap.objs.size, ({ cls := .type "list", data := .seq its.toArray k } : Obj))] σ3 H3 s3 := I3.pins_of fun p hp => by
      have e : p = _ := List.mem_singleton.mp hp
      subst e
      exact ⟨e3, hD3, hDC, nfs _ (Nat.le_refl _), fun v z => by cases z⟩
    have stat : ∀ b ∈ fp, FpOk (X.blk cp.names sc H2.objs.size s H fp) [(s.heap.objs.size, ({ cls := .type "list", data := .seq its.toArray k } : Obj))] H3 b := fpb fr3 dpin
    rcases tr with ⟨stop, qn⟩ | ⟨go, N, hN, step⟩
    . refine thn (T.done (X.blk cp.names sc H2.objs.size s H fp) rfl rfl rfl hc i _ s3 σ3 H3 _ I3' stat st3 stop) fun r s4 ⟨hr, I4⟩ => ?_
      subst hr
      obtain ⟨e4, n4, _⟩ := I4.pin (s.heap.objs.size, ({ cls := .type "list", data := .seq its.toArray k } : Obj)) (by simp)
      have new : ObjOk X.prog X.w (upd H3 s.heap.objs.size (.lst ys)) s4.heap s.heap.objs.size (.lst ys) := ⟨Nat.le_of_lt hz, its, k, rv, e4⟩
      obtain ⟨mC, hnC, _⟩ := I4.loc
      have I4' : Inv (X.blk cp.names sc H2.objs.size s H fp) [] σ3 H3 s4 := I4.pins_of fun p hp => by cases hp
      have I5 := blk_end I I4' fpo (Nat.le_refl _) n4 new
      refine hR _ _ s4 _ mC I5 (qn _ n4) hnC ?_ (Nat.ne_of_gt (Nat.lt_of_lt_of_le I.lt hCle)) (Nat.le_trans I.sz hCle) (ncell _ hCle) fun p hp z => ?_
      . rw [upd_ne (Ne.symm hDC)]; exact I4.free
      . exact absurd (Nat.lt_of_lt_of_le (Heap.lt_size (I.pin p hp).1) (by rw [z]; exact hCle)) (Nat.lt_irrefl _)
    . refine thn (T.item (X.blk cp.names sc H2.objs.size s H fp) rfl rfl rfl hc i _ s3 σ3 H3 _ I3' stat st3 go) fun r s4 ⟨u, hr, h4⟩ => ?_
      subst hr
      refine thn h4 fun _ s5 ⟨x, H5, I5, r5, y5, st5, fr5⟩ => ?_
      have I5' := I5.pinned (fpb fr5 dpin) (T.obj _ _ st5)
      have fin : ∀ {σ7 : St} {H7 : Hp} {s7 : Shared}, Inv (X.blk cp.names sc H2.objs.size s H fp) ([(s.heap.objs.size, ({ cls := .type "list", data := .seq its.toArray k } : Obj))] ++ pinsAt fp s5.heap) σ7 H7 s7 ->
          s7.heap.get? s.heap.objs.size = some { cls := .type "list", data := .seq its.toArray k } /\ H7 s.heap.objs.size = none /\ (∀ b ∈ fp, H7 b = none) /\ ∀ b ∈ fp, ∀ o, s5.heap.get? b = some o -> s7.heap.get? b = some o := fun {σ7 H7 s7} I7 => by
        obtain ⟨e7, n7, _⟩ := I7.pin (s.heap.objs.size, ({ cls := .type "list", data := .seq its.toArray k } : Obj)) (by simp)
        refine ⟨e7, n7, fun b hb => ?_, fun b hb o e => ?_⟩
        . obtain ⟨o, e, _⟩ := T.obj _ _ st5 b hb
          exact (I7.pin (b, o) (List.mem_append_right _ (List.mem_append_right _ (mem_pinsAt hb e)))).2.1
        . exact (I7.pin (b, o) (List.mem_append_right _ (List.mem_append_right _ (mem_pinsAt hb e)))).1
      refine wpAny_mono (hg _ _ _ _ _ s5 σ3 H5 x u _ I5' r5 (step x H5 y5)) (fun _ s6 ⟨σ6, H6, I6, q6⟩ => ?_) fun _ _ z => False.elim z
      refine wpAny_mono (hf _ _ _ _ _ s6 σ6 H6 _ I6 q6) (fun ok s7 ⟨H7, I7, q7⟩ => ?_) fun _ _ z => False.elim z
      cases ok with
      | false =>
        rw [if_neg Bool.false_ne_true]
        rw [if_neg Bool.false_ne_true] at q7
        obtain ⟨m', hm, w7⟩ := hN _ _ _ q7
        obtain ⟨e7, n7, fr7, k7⟩ := fin I7
        exact ⟨m', hm, i + 1, σ6, H7, ys, its, k, I7.pins_of (fun p hp => by cases hp), T.keep _ _ _ st5 k7, fr7, n7, e7, rv, w7⟩
      | true =>
        rw [if_pos rfl]
        rw [if_pos rfl] at q7
        refine wpAny_mono (he _ _ _ _ _ s7 σ6 H7 _ I7 q7) (fun v s8 ⟨y, H8, I8, r8, q8⟩ => ?_) fun _ _ z => False.elim z
        obtain ⟨m', hm, w8⟩ := hN _ _ _ q8
        obtain ⟨e8, n8, fr8, k8⟩ := fin I8
        refine call_meets F.slot_list_append ⟨_, e8, rfl⟩ F.entry_list_append (F.args_list_append_2 _ _) (PySem.list_append s.heap.objs.size its.toArray k v (by rw [List.size_toArray]; omega)) ⟨e8, ?_⟩
        obtain ⟨k', q⟩ : ∃ k', (s8.heap.update s.heap.objs.size (Obj.mapSeq fun x => x.push v)).get? s.heap.objs.size = some { cls := .type "list", data := .seq (its ++ [v]).toArray k' } := ⟨_, by
          have q := PySem.IsL.update e8 fun x => x.push v
          have e : (its ++ [v]).toArray = its.toArray.push v := by simp
          rw [e]
          exact q⟩
        have I8' : Inv (X.blk cp.names sc H2.objs.size s H fp) [] σ6 H8 s8 := I8.pins_of fun p hp => by cases hp
        have I9 : Inv (X.blk cp.names sc H2.objs.size s H fp) [] σ6 H8 { s8 with heap := s8.heap.update s.heap.objs.size (Obj.mapSeq fun x => x.push v), toks := s8.toks } :=
          I8'.turned (it := s.heap.objs.size) (fun b o hb e => (Heap.get?_update_other _ _ (Ne.symm hb)).trans e) n8 hDC (.inr (Nat.le_refl _)) (fun x c e => ncell _ (Nat.le_refl _) x c (blk_lookup I S e)) (fun p hp => by cases hp)
        refine ⟨m', hm, i + 1, σ6, H8, ys ++ [y], its ++ [v], k', I9, T.keep (i + 1) s5.heap _ st5 (fun b hb o e => ?_), fr8, n8, q, rv.append (.cons r8 .nil), w8⟩
        . refine (Heap.get?_update_other _ _ ?_).trans (k8 b hb o e)
          intro z
          obtain ⟨ob, eb⟩ := hobj b hb
          exact absurd (Heap.lt_size eb) (by rw [<- z]; exact Nat.lt_irrefl _)
  exact codeAny_compStart_list (loop _ rfl) (T.self _ 0 _ _ _ hst₁ (loop _ rfl))
theorem pe_comp (hc : X.calm = true) (S : BlkSc X sc) (hcp : CapsOk X.N sc cp) (hi : PI X tg iter wi)
    (hg : ∀ C s₀ H₀ ex, PG (X.blk cp.names sc C s₀ H₀ ex) tg g) (hf : ∀ C s₀ H₀ ex, PF (X.blk cp.names sc C s₀ H₀ ex) ifs tc) (he : ∀ C s₀ H₀ ex, PE (X.blk cp.names sc C s₀ H₀ ex) elt te)
    (hs : ∀ x, foldedSetIterable iter X.env x = pure x := by intro _; rfl) : PE X (.ListComp elt [⟨tg, iter, ifs, 0⟩] sc pos) (tComp wi cp g tc te) := by
  intro pins s σ H Q I h
  rw [eval_ListComp]
  refine wpAny_comprehension_free (use := none) rfl hs (closure_eq (blk_cells I S)) S.kind S.loc (thn (hi pins s σ H _ I h) fun xv s₁ h₁ => thn h₁ fun itv s₂ h₂ => ?_)
  obtain ⟨it, fp, tn, J, H2, e, I2, T, st2, f2, hw⟩ := h₂
  subst e
  refine comp_core (RR := fun acc C => compPost (model X.prog X.w) X.A X.xe none (EP X pins σ Q) acc C) hc S hcp hg hf he I2 T st2 f2 hw ?_
  intro D C s' H' m I' q hn hC hL hz hcl hp
  exact ⟨m, hn, fun h' hs' => ⟨.ref D, H', I'.turned (t' := s'.toks) (it := C) (fun b o hb e => hs'.extBut b o hb e) hC hL (.inr hz) hcl hp, rfl, q⟩⟩
end
theorem comp_list {K : PySem.W.Frag} {a : Addr} {xs : List V} {g : TG} {tc : TT} {te : TE} {Q : VK} {σ : St} {H : Hp} (Pv : Nat -> List V -> St -> Hp -> Prop) (h0 : Pv 0 [] σ H) (hz : xs.length < sizeLine)
    (hl : ∀ i ys σ H, i <= xs.length -> Pv i ys σ H -> SqL K H a xs /\ ys.length <= i)
    (hs : ∀ i x ys σ H, xs[i]? = some x -> Pv i ys σ H -> g x σ H fun σ2 H2 => tc σ2 H2 fun b H3 => if b = true then te σ2 H3 fun v H4 => Pv (i + 1) (ys ++ [v]) σ2 H4 else Pv (i + 1) ys σ2 H3)
    (hd : ∀ ys σ H, Pv xs.length ys σ H -> ∀ D, H D = none -> Q (.ref D) (upd H D (.lst ys))) :
    ∃ W : Nat -> Nat -> List V -> St -> Hp -> Prop, (∃ m, W 0 m [] σ H) /\ ∀ i m ys σ' H', W i m ys σ' H' ->
      ys.length < sizeLine /\ (((Itl K a).stop i H' /\ ∀ D, H' D = none -> Q (.ref D) (upd H' D (.lst ys))) \/ ((Itl K a).go i H' /\ ∃ N : List V -> St -> Hp -> Prop, (∀ zs σ2 H2, N zs σ2 H2 -> ∃ m', m' < m /\ W (i + 1) m' zs σ2 H2) /\ ∀ x H2, (Itl K a).yld i H' x H2 -> g x σ' H2 fun σ2 H3 => tc σ2 H3 fun b H4 =>
        if b = true then te σ2 H4 fun v H5 => N (ys ++ [v]) σ2 H5 else N ys σ2 H4)) := by
  refine ⟨fun i m ys σ H => m = xs.length - i /\ i <= xs.length /\ Pv i ys σ H, ⟨xs.length, by simp, Nat.zero_le _, h0⟩, ?_⟩
  rintro i m ys σ H ⟨rfl, hi, p⟩
  obtain ⟨q, ly⟩ := hl i ys σ H hi p
  refine ⟨by omega, ?_⟩
  by_cases hlt : i < xs.length
  . refine .inr ⟨⟨xs, xs[i], q, by simp [hlt]⟩, Pv (i + 1), fun zs σ' H' p' => ⟨xs.length - (i + 1), by omega, rfl, hlt, p'⟩, fun x H' y => ?_⟩
    obtain ⟨e, y⟩ := y
    subst e
    exact hs i x ys σ _ (y xs q) p
  . have e : i = xs.length := by omega
    subst e
    exact .inl ⟨⟨xs, q, Nat.le_refl _⟩, hd ys σ H p⟩
theorem comp_tup {K : PySem.W.Frag} {a : Addr} {xs : List V} {g : TG} {tc : TT} {te : TE} {Q : VK} {σ : St} {H : Hp} (Pv : Nat -> List V -> St -> Hp -> Prop) (h0 : Pv 0 [] σ H) (hz : xs.length < sizeLine)
    (hl : ∀ i ys σ H, i <= xs.length -> Pv i ys σ H -> SqT K H a xs /\ ys.length <= i)
    (hs : ∀ i x ys σ H, xs[i]? = some x -> Pv i ys σ H -> g x σ H fun σ2 H2 => tc σ2 H2 fun b H3 => if b = true then te σ2 H3 fun v H4 => Pv (i + 1) (ys ++ [v]) σ2 H4 else Pv (i + 1) ys σ2 H3)
    (hd : ∀ ys σ H, Pv xs.length ys σ H -> ∀ D, H D = none -> Q (.ref D) (upd H D (.lst ys))) :
    ∃ W : Nat -> Nat -> List V -> St -> Hp -> Prop, (∃ m, W 0 m [] σ H) /\ ∀ i m ys σ' H', W i m ys σ' H' ->
      ys.length < sizeLine /\ (((Itt K a).stop i H' /\ ∀ D, H' D = none -> Q (.ref D) (upd H' D (.lst ys))) \/ ((Itt K a).go i H' /\ ∃ N : List V -> St -> Hp -> Prop, (∀ zs σ2 H2, N zs σ2 H2 -> ∃ m', m' < m /\ W (i + 1) m' zs σ2 H2) /\ ∀ x H2, (Itt K a).yld i H' x H2 -> g x σ' H2 fun σ2 H3 => tc σ2 H3 fun b H4 =>
        if b = true then te σ2 H4 fun v H5 => N (ys ++ [v]) σ2 H5 else N ys σ2 H4)) := by
  refine ⟨fun i m ys σ H => m = xs.length - i /\ i <= xs.length /\ Pv i ys σ H, ⟨xs.length, by simp, Nat.zero_le _, h0⟩, ?_⟩
  rintro i m ys σ H ⟨rfl, hi, p⟩
  obtain ⟨q, ly⟩ := hl i ys σ H hi p
  refine ⟨by omega, ?_⟩
  by_cases hlt : i < xs.length
  . refine .inr ⟨⟨xs, xs[i], q, by simp [hlt]⟩, Pv (i + 1), fun zs σ' H' p' => ⟨xs.length - (i + 1), by omega, rfl, hlt, p'⟩, fun x H' y => ?_⟩
    obtain ⟨e, y⟩ := y
    subst e
    exact hs i x ys σ _ (y xs q) p
  . have e : i = xs.length := by omega
    subst e
    exact .inl ⟨⟨xs, q, Nat.le_refl _⟩, hd ys σ H p⟩
theorem comp_range {lo : Int} {n : Nat} {g : TG} {tc : TT} {te : TE} {Q : VK} {σ : St} {H : Hp} (Pv : Nat -> List V -> St -> Hp -> Prop) (h0 : Pv 0 [] σ H) (hz : n < sizeLine)
    (hl : ∀ i ys σ H, i <= n -> Pv i ys σ H -> ys.length <= i)
    (hs : ∀ i ys σ H, i < n -> Pv i ys σ H -> g (.int (lo + i)) σ H fun σ2 H2 => tc σ2 H2 fun b H3 => if b = true then te σ2 H3 fun v H4 => Pv (i + 1) (ys ++ [v]) σ2 H4 else Pv (i + 1) ys σ2 H3)
    (hd : ∀ ys σ H, Pv n ys σ H -> ∀ D, H D = none -> Q (.ref D) (upd H D (.lst ys))) :
    ∃ W : Nat -> Nat -> List V -> St -> Hp -> Prop, (∃ m, W 0 m [] σ H) /\ ∀ i m ys σ' H', W i m ys σ' H' ->
      ys.length < sizeLine /\ (((Itr lo n).stop i H' /\ ∀ D, H' D = none -> Q (.ref D) (upd H' D (.lst ys))) \/ ((Itr lo n).go i H' /\ ∃ N : List V -> St -> Hp -> Prop, (∀ zs σ2 H2, N zs σ2 H2 -> ∃ m', m' < m /\ W (i + 1) m' zs σ2 H2) /\ ∀ x H2, (Itr lo n).yld i H' x H2 -> g x σ' H2 fun σ2 H3 => tc σ2 H3 fun b H4 =>
        if b = true then te σ2 H4 fun v H5 => N (ys ++ [v]) σ2 H5 else N ys σ2 H4)) := by
  refine ⟨fun i m ys σ H => m = n - i /\ i <= n /\ Pv i ys σ H, ⟨n, by simp, Nat.zero_le _, h0⟩, ?_⟩
  rintro i m ys σ H ⟨rfl, hi, p⟩
  have ly := hl i ys σ H hi p
  refine ⟨by omega, ?_⟩
  by_cases hlt : i < n
  . refine .inr ⟨hlt, Pv (i + 1), fun zs σ' H' p' => ⟨n - (i + 1), by omega, rfl, hlt, p'⟩, fun x H' y => ?_⟩
    obtain ⟨e, y⟩ := y
    subst e y
    exact hs i ys σ _ hlt p
  . have e : i = n := by omega
    subst e
    exact .inl ⟨Nat.le_refl _, hd ys σ H p⟩
end L2
set_option Elab.async false
set_option linter.all false
set_option maxRecDepth 100000
set_option maxHeartbeats 4000000
namespace L2
open PySem PySem.Spec PyProof.Rows
section
variable {X : Cx}
theorem vals_bool_get {bs : List Bool} {its : List Value} (r : Vals (bs.map V.bl) its) {i : Nat} {v : Value} (h : its[i]? = some v) : ∃ b, bs[i]? = some b /\ v = .bool b := by
  have hi : i < its.length := (List.getElem?_eq_some_iff.mp h).1
  have hl := r.length
  rw [List.length_map] at hl
  obtain ⟨u, hu, ru⟩ := r.get (i := i) (x := V.bl bs[i]) (by rw [List.getElem?_map]; simp [show i < bs.length by omega])
  rw [h] at hu
  cases hu
  exact ⟨bs[i], by simp [show i < bs.length by omega], ru⟩
theorem map_at (bs : List Bool) : (List.range bs.length).map (fun i => bs.getD i false) = bs :=
  List.ext_getElem (by simp) fun i _ h => by simp [h]
theorem range_all {bs : List Bool} : (List.range bs.length).all (fun i => bs.getD i false) = bs.all id := by
  have e := congrArg (fun l => l.all id) (map_at bs)
  rw [List.all_map] at e; exact e
theorem truth_bools {bs : List Bool} {its : List Value} {A : Around} {P : Program} {w : World} (r : Vals (bs.map V.bl) its) : TruthOf P w A (fun i v => its.toArray[i]? = some v) (fun i => bs.getD i false) := by
  intro i v s Q E hv hq
  obtain ⟨b, hb, e⟩ := vals_bool_get r (by simpa using hv)
  subst e
  refine wpAny_truthy_bool ?_
  have e : bs.getD i false = b := by rw [List.getD_eq_getElem?_getD, hb]; rfl
  have hq' : Q (bs.getD i false) s := hq
  rw [e] at hq'
  exact hq'
theorem call_all (hc : X.calm = true) : CallR X (.builtin "all") (fun xs H Q => ∃ (p : Addr) (bs : List Bool), xs = [.ref p] /\ SqL X.K H p (bs.map V.bl) /\ Q (.bl (bs.all id)) H) := by
  intro pins s σ H xs us Q I r h
  obtain ⟨p, bs, rfl, hq, q⟩ := h
  obtain ⟨u, rfl, ru⟩ := vals1 r
  cases ru
  obtain ⟨its, rv, pl, hz⟩ := I.list hq
  have hlen := rv.length
  rw [List.length_map] at hlen
  have hh : X.A.in1.handled = none := I.ok.hd hc
  obtain ⟨o, ho, _⟩ := id pl.isList
  have hne : p ≠ s.heap.objs.size := Nat.ne_of_lt (Heap.lt_size ho)
  refine call_all_walk (wpAny_pyIter_list pl.isList ?_)
  refine ⟨s.heap.objs.size, _, _, its.toArray.size, _, _, fun i => bs.getD i false, rfl, Walks.list hh _ p hne its.toArray, ⟨⟨_, Heap.get?_push_size _ rfl, rfl, rfl⟩, pl.isList.at fun o e => Heap.get?_push_of_some _ e⟩, truth_bools rv, fun h' tk hk => ?_⟩
  refine ⟨.bl (bs.all id), H, I.kept (t' := tk) fun b o e => hk b o ?_ (Heap.get?_push_of_some _ e), ?_, q⟩
  . intro hb
    have e' : b = s.heap.objs.size := by simpa using hb
    exact absurd (Heap.lt_size e) (by rw [e']; exact Nat.lt_irrefl _)
  . rw [List.size_toArray, <- hlen, range_all]; rfl
theorem call_isinst : CallR X (.builtin "isinstance") (fun xs H Q => ∃ x c cv t b, xs = [x, c] /\ TyOf X.K H x t /\ (∀ u, RelV c u -> u = cv) /\ PySem.W.kitOne X.K t cv = some b /\ Q (.bl b) H) := by
  intro pins s σ H xs us Q I r h
  obtain ⟨x, c, cv, t, b, rfl, ty, hc, hk, q⟩ := h
  obtain ⟨u, w', rfl, rx, rc⟩ := vals2 r
  rw [hc _ rc]
  exact isinst_ok I rx ty hk fun tk => ⟨.bl b, H, I.tok tk, rfl, q⟩
def EqD (K : PySem.W.Frag) (H : Hp) : Nat -> V -> V -> Bool -> Prop
  | 0, x, y, b => flatV x = true /\ flatV y = true /\ b = eqV x y
  | n + 1, x, y, b => (flatV x = true /\ flatV y = true /\ b = eqV x y) \/ ∃ a c xs ys, x = .ref a /\ y = .ref c /\ ((SqL K H a xs /\ SqL K H c ys) \/ (SqT K H a xs /\ SqT K H c ys)) /\ 
      ∃ e : Nat -> Bool, (∀ i x y, xs[i]? = some x -> ys[i]? = some y -> EqD K H n x y (e i)) /\ b = (decide (xs.length = ys.length) && (List.range (min xs.length ys.length)).all e)
theorem in1_units (A : Around) : A.in1.units = A.units + 1 := rfl
theorem eqV_self {x : V} (h : flatV x = true) : eqV x x = true := by
  cases x <;> first | rfl | (simp [eqV]; done) | exact absurd (show false = true from h) Bool.false_ne_true
theorem EqD.self {pins : List (Addr × Obj)} {s : Shared} {σ : St} {H : Hp} (I : Inv X pins σ H s) : ∀ (n : Nat) {x : V} {b : Bool}, EqD X.K H n x x b -> b = true := by
  intro n
  induction n with
  | zero =>
    rintro x b ⟨fx, _, rfl⟩
    exact eqV_self fx
  | succ n ih =>
    rintro x b (⟨fx, _, rfl⟩ | ⟨a, c, xs, ys, rfl, e2, hq, e, he, rfl⟩)
    . exact eqV_self fx
    . cases e2
      have exy : xs = ys := by
        rcases hq with ⟨h1, h2⟩ | ⟨h1, h2⟩
        . exact I.list_inj h1 h2
        . exact I.tuple_inj h1 h2
      subst exy
      simp only [decide_true, Bool.true_and, Nat.min_self, List.all_eq_true, List.mem_range]
      intro i hi
      exact ih (he i xs[i] xs[i] (by simp [hi]) (by simp [hi]))
theorem all_and {n m : Nat} {e : Nat -> Bool} : ((List.range (min n m)).all e && n == m) = (decide (n = m) && (List.range (min n m)).all e) := by
  rw [Bool.and_comm]
  congr 1
theorem EqD.at {pins : List (Addr × Obj)} {s : Shared} {σ : St} {H : Hp} (I : Inv X pins σ H s) : ∀ (n : Nat) (A : Around) {x y : V} {u v : Value} {b : Bool}, A.units + n < cLine -> RelV x u -> RelV y v -> EqD X.K H n x y b ->
    SeqAt.EqAt A s u v b /\ ∀ a c, x = .ref a -> y = .ref c -> SeqAt.RcAt A s u v b := by
  intro n
  induction n with
  | zero =>
    intro A x y u v b hu rx ry h
    obtain ⟨fx, fy, rfl⟩ := h
    refine ⟨eqAt_V rx ry fx fy, ?_⟩
    rintro a c rfl rfl
    exact absurd (show false = true from fx) Bool.false_ne_true
  | succ n ih =>
    intro A x y u v b hu rx ry h
    have hself := h
    rcases h with ⟨fx, fy, rfl⟩ | ⟨a, c, xs, ys, rfl, rfl, hq, e, he, rfl⟩
    . refine ⟨eqAt_V rx ry fx fy, ?_⟩
      rintro a c rfl rfl
      exact absurd (show false = true from fx) Bool.false_ne_true
    . cases rx
      cases ry
      have key : ∀ (its its2 : List Value), Vals xs its -> Vals ys its2 -> ∀ j (h1 : j < its.toArray.size) (h2 : j < its2.toArray.size), SeqAt.EqAt A.in1 s its.toArray[j] its2.toArray[j] (e j) := fun its its2 r1 r2 j h1 h2 => by
        have l1 := r1.length
        have l2 := r2.length
        rw [List.size_toArray] at h1 h2
        obtain ⟨u1, g1, q1⟩ := r1.get (i := j) (x := xs[j]'(by omega)) (by simp [show j < xs.length by omega])
        obtain ⟨u2, g2, q2⟩ := r2.get (i := j) (x := ys[j]'(by omega)) (by simp [show j < ys.length by omega])
        have k1 : its.toArray[j]'(by rw [List.size_toArray]; exact h1) = u1 := by
          have := (List.getElem?_eq_some_iff.mp g1).2
          simpa using this
        have k2 : its2.toArray[j]'(by rw [List.size_toArray]; exact h2) = u2 := by
          have := (List.getElem?_eq_some_iff.mp g2).2
          simpa using this
        rw [k1, k2]
        exact (ih A.in1 (by rw [in1_units]; omega) q1 q2 (he j _ _ (by simp [show j < xs.length by omega]) (by simp [show j < ys.length by omega]))).1
      have rc : SeqAt.RcAt A s (.ref a) (.ref c) (decide (xs.length = ys.length) && (List.range (min xs.length ys.length)).all e) := by
        rcases hq with ⟨h1, h2⟩ | ⟨h1, h2⟩
        . obtain ⟨its, r1, p1, _⟩ := I.list h1
          obtain ⟨its2, r2, p2, _⟩ := I.list h2
          have l1 := r1.length
          have l2 := r2.length
          by_cases hl : xs.length = ys.length
          . have := SeqAt.RcAt.lists (e := e) p1.isList p2.isList (by rw [List.size_toArray, List.size_toArray]; omega) (by omega) (key its its2 r1 r2)
            rw [List.size_toArray, <- l1] at this
            rw [decide_eq_true hl, Bool.true_and, <- hl, Nat.min_self]
            exact this
          . rw [decide_eq_false hl, Bool.false_and]
            exact SeqAt.RcAt.lists_lengths p1.isList p2.isList (by rw [List.size_toArray, List.size_toArray]; simp; omega) (by omega)
        . obtain ⟨its, r1, p1, _⟩ := I.tuple h1
          obtain ⟨its2, r2, p2, _⟩ := I.tuple h2
          have l1 := r1.length
          have l2 := r2.length
          have := SeqAt.RcAt.tuples (e := e) (show s.heap.IsTuple a its.toArray from p1) (show s.heap.IsTuple c its2.toArray from p2) (by omega) (key its its2 r1 r2)
          rw [List.size_toArray, List.size_toArray, <- l1, <- l2, all_and] at this
          exact this
      refine ⟨?_, fun a' c' _ _ => rc⟩
      by_cases hac : a = c
      . subst hac
        rw [EqD.self I (n + 1) hself]
        exact SeqAt.EqAt.same _
      . exact SeqAt.EqAt.of_refs hac rc
def rEqD (K : PySem.W.Frag) (n : Nat) : R2 := fun x y H Q => ∃ a c b, x = .ref a /\ y = .ref c /\ EqD K H n x y b /\ Q (.bl b) H
theorem op_eqD (n : Nat) (hu : X.A.units + n < cLine) : OpR X (compareOp .Eq) (rEqD X.K n) := by
  intro pins s σ H x y v u Q I rx ry h
  obtain ⟨a, c, b, ex, ey, h, q⟩ := h
  exact (EqD.at I n X.A hu rx ry h).2 a c ex ey _ _ _ _ ⟨.bl b, H, I, rfl, q⟩
theorem EqD.flat {K : PySem.W.Frag} {H : Hp} {a c : Addr} {xs ys : List V} (hq : (SqL K H a xs /\ SqL K H c ys) \/ (SqT K H a xs /\ SqT K H c ys)) (fx : ∀ x ∈ xs, flatV x = true) (fy : ∀ y ∈ ys, flatV y = true) (hi : ∀ x ∈ xs, ∀ y ∈ ys, eqV x y = decide (x = y)) (n : Nat) :
    EqD K H (n + 1) (.ref a) (.ref c) (decide (xs = ys)) := by
  have base : ∀ m i x y, xs[i]? = some x -> ys[i]? = some y -> EqD K H m x y (decide (x = y)) := fun m i x y h1 h2 => by
    have m1 := List.mem_of_getElem? h1
    have m2 := List.mem_of_getElem? h2
    cases m with
    | zero => exact ⟨fx _ m1, fy _ m2, (hi _ m1 _ m2).symm⟩
    | succ m => exact .inl ⟨fx _ m1, fy _ m2, (hi _ m1 _ m2).symm⟩
  refine .inr ⟨a, c, xs, ys, rfl, rfl, hq, fun i => match xs[i]?, ys[i]? with | some x, some y => decide (x = y) | _, _ => true, fun i x y h1 h2 => ?_, ?_⟩
  . simp only [h1, h2]
    exact base n i x y h1 h2
  . rw [Bool.eq_iff_iff]
    simp only [decide_eq_true_eq, Bool.and_eq_true, List.all_eq_true, List.mem_range]
    constructor
    . rintro rfl
      refine ⟨rfl, fun i hi => ?_⟩
      have hi : i < xs.length := by omega
      simp [hi]
    . rintro ⟨hl, h⟩
      refine List.ext_getElem? fun i => ?_
      by_cases hi : i < xs.length
      . have := h i (by omega)
        simp [hi, show i < ys.length by omega] at this
        simp [hi, show i < ys.length by omega, this]
      . rw [List.getElem?_eq_none (by omega), List.getElem?_eq_none (by omega)]
end
end L2
namespace L2
open PySem PySem.Spec PyProof.Rows
def blkOk (outer : List (Str × NameKind)) (sc : Scope) : Bool :=
  sc.kind == .function && sc.names.all (fun y => y.2 != .cell && (y.2 != .local || sc.names.lookup y.1 == some .local) && (y.2 != .free || outer.lookup y.1 == some .cell || outer.lookup y.1 == some .free))
theorem blk_mk {X : Cx} {sc : Scope} (h : blkOk X.env.scope.names sc = true) : BlkSc X sc := by
  unfold blkOk at h
  rw [Bool.and_eq_true, List.all_eq_true] at h
  obtain ⟨h1, h2⟩ := h
  refine ⟨by simpa using h1, fun y hy z => ?_, fun y hy z => ?_, fun y hy z => ?_⟩
  . have := h2 y hy
    simp only [Bool.and_eq_true] at this
    have := this.1.1
    rw [z] at this
    exact absurd this (by decide)
  . have := h2 y hy
    simp only [Bool.and_eq_true] at this
    have := this.1.2
    rw [z] at this
    simpa using this
  . have := h2 y hy
    simp only [Bool.and_eq_true] at this
    have := this.2
    rw [z] at this
    have t : (X.env.scope.names.lookup y.1 == some .cell || X.env.scope.names.lookup y.1 == some .free) = true := by simpa using this
    rw [Bool.or_eq_true] at t
    rcases t with t | t
    . exact .inl (by show X.env.scope.names.lookup y.1 = some .cell; simpa using t)
    . exact .inr (by show X.env.scope.names.lookup y.1 = some .free; simpa using t)
end L2
set_option Elab.async false
set_option linter.all false
set_option maxRecDepth 100000
set_option maxHeartbeats 4000000
namespace L2
open PySem PySem.Spec PyProof.Rows
section
variable {t u : TS} {te ta tb tc' : TE} {tt tu : TT} {A B : TA} {D : Ends} {σ : St} {H : Hp} {Q : VK} {R : Bool -> Hp -> Prop} {S : List V -> Hp -> Prop} {i : Nat} {v : V} {g : TG} {r r' : R2} {K : PySem.W.Frag} {wi : TI} {cp : Caps}
theorem r_seq : tSeq t u D σ H = t { D with nx := u D } σ H := rfl
theorem r_next : tNext D σ H = D.nx σ H := rfl
theorem r_asg : tAsg te g D σ H = te σ H fun x H1 => g x σ H1 D.nx := rfl
theorem r_gname {N : St -> Hp -> Prop} : gName i v σ H N = N (σ.set i (some v)) H := rfl
theorem r_var : tVar i σ H Q = ∃ v, σ[i]? = some (some v) /\ Q v H := rfl
theorem r_c : tC v σ H Q = Q v H := rfl
theorem r_op : tOp r ta tb σ H Q = ta σ H fun x H1 => tb σ H1 fun y H2 => r x y H2 Q := rfl
theorem r_un {f : V -> Hp -> VK -> Prop} : tUn f ta σ H Q = ta σ H fun x H1 => f x H1 Q := rfl
theorem r_I {C : Int -> Int -> Prop} {f : Int -> Int -> V} {x y : V} : rI C f x y H Q = ∃ i j, x = .int i /\ y = .int j /\ C i j /\ Q (f i j) H := rfl
theorem r_I0 {f : Int -> Int -> V} {x y : V} : rI0 f x y H Q = ∃ i j, x = .int i /\ y = .int j /\ Q (f i j) H := rfl
theorem r_U {f : Int -> V} {x : V} : rU f x H Q = ∃ i, x = .int i /\ Q (f i) H := rfl
theorem r_call {sp : Sp} {dvs : List V} {E : XK} : tCall sp dvs E A σ H Q = A σ H fun vs H1 => sp (vs ++ dvs) H1 Q E := rfl
theorem r_cons : tCons te A σ H S = te σ H fun x H1 => A σ H1 fun xs H2 => S (x :: xs) H2 := rfl
theorem r_nil : tNil σ H S = S [] H := rfl
theorem r_ret : tRet te D σ H = te σ H D.rt := rfl
theorem r_drop : tDrop te D σ H = te σ H fun _ H1 => D.nx σ H1 := rfl
theorem r_if : tIfS tt t u D σ H = tt σ H fun b H1 => if b = true then t D σ H1 else u D σ H1 := rfl
theorem r_B : tB te σ H R = te σ H fun x H1 => ∃ c, x = .bl c /\ R c H1 := rfl
theorem r_test : tTest te σ H R = te σ H fun x H1 => ∃ c, x = .bl c /\ R c H1 := rfl
theorem r_and : tAnd tt tu σ H R = tt σ H fun c H1 => if c = true then tu σ H1 R else R false H1 := rfl
theorem r_or : tOr tt tu σ H R = tt σ H fun c H1 => if c = true then R true H1 else tu σ H1 R := rfl
theorem r_not : tNot tt σ H R = tt σ H fun c H1 => R (!c) H1 := rfl
theorem r_andV : tAndV ta tb σ H Q = ta σ H fun x H1 => ∃ c, x = .bl c /\ if c = true then tb σ H1 Q else Q (.bl false) H1 := rfl
theorem r_notV : tNotV ta σ H Q = ta σ H fun x H1 => ∃ c, x = .bl c /\ Q (.bl (!c)) H1 := rfl
theorem r_chain : tChain r r' ta tb tc' σ H Q = ta σ H fun x H1 => tb σ H1 fun y H2 => r x y H2 fun z H3 => ∃ k, z = .bl k /\ (if k = true then tc' σ H3 fun w' H4 => r' y w' H4 Q else Q (.bl false) H3) := rfl
theorem r_CB {f : List V -> Hp -> VK -> Prop} : tCB f A σ H Q = A σ H fun vs H1 => f vs H1 Q := rfl
theorem r_lst : tLst A σ H Q = A σ H fun xs H1 => xs.length <= sizeLine /\ ∀ p, H1 p = none -> Q (.ref p) (upd H1 p (.lst xs)) := rfl
theorem r_tup : tTup A σ H Q = A σ H fun xs H1 => xs.length <= sizeLine /\ ∀ p, H1 p = none -> Q (.ref p) (upd H1 p (.tup xs)) := rfl
theorem r_ixL {x y : V} : rIxL K x y H Q = ∃ p xs i v, x = .ref p /\ y = .int i /\ SqL K H p xs /\ atI xs i = some v /\ Q v H := rfl
theorem r_ixT {x y : V} : rIxT K x y H Q = ∃ p xs i v, x = .ref p /\ y = .int i /\ SqT K H p xs /\ atI xs i = some v /\ Q v H := rfl
theorem r_sl {f : V -> Option Int -> Option Int -> Hp -> VK -> Prop} {tl th : TO} : tSl f te tl th σ H Q = te σ H fun x H1 => tl σ H1 fun l H2 => th σ H2 fun u H3 => f x l u H3 Q := rfl
theorem r_part {U : Option Int -> Hp -> Prop} : tPart te σ H U = te σ H fun x H1 => ∃ i, x = .int i /\ U (some i) H1 := rfl
theorem r_slL {x : V} {lo hi : Option Int} : rSlL K x lo hi H Q = ∃ a xs, x = .ref a /\ SqL K H a xs /\ ∀ p, H p = none -> Q (.ref p) (upd H p (.lst (cutV xs lo hi))) := rfl
theorem r_BM {T : String} {f : V -> List V -> Hp -> VK -> Prop} : tBM K T f te A σ H Q = te σ H fun x H1 => tyV K T x H1 /\ A σ H1 fun xs H2 => f x xs H2 Q := rfl
theorem r_BM0 {T : String} {f : V -> List V -> Hp -> VK -> Prop} : tBM0 K T f te σ H Q = te σ H fun x H1 => tyV K T x H1 /\ f x [] H1 Q := rfl
theorem r_append {x : V} {vs : List V} : rAppend x vs H Q = ∃ l xs y, x = .ref l /\ vs = [y] /\ H l = some (.lst xs) /\ xs.length < sizeLine /\ Q .non (upd H l (.lst (xs ++ [y]))) := rfl
theorem r_gsub {to ti : TE} {ts : TSet} {N : St -> Hp -> Prop} : gSub to ti ts v σ H N = to σ H fun o H1 => ti σ H1 fun i H2 => ts o i v H2 fun H3 => N σ H3 := rfl
theorem r_setL {o k : V} {N : Hp -> Prop} : rSetL o k v H N = ∃ p xs m j, o = .ref p /\ k = .int m /\ H p = some (.lst xs) /\ ixN xs.length m = some j /\ N (upd H p (.lst (xs.set j v))) := rfl
theorem r_Eq {x y : V} : rEq x y H Q = (scal x y = true /\ Q (.bl (decide (x = y))) H) := rfl
theorem r_Ne {x y : V} : rNe x y H Q = (scal x y = true /\ Q (.bl (!decide (x = y))) H) := rfl
theorem r_eqD {n : Nat} {x y : V} : rEqD K n x y H Q = ∃ a c b, x = .ref a /\ y = .ref c /\ EqD K H n x y b /\ Q (.bl b) H := rfl
theorem r_iList {Z : It -> Hp -> Prop} : iList K te σ H Z = te σ H fun x H1 => ∃ a, x = .ref a /\ (∃ xs, SqL K H1 a xs) /\ Z (Itl K a) H1 := rfl
theorem r_iTup {Z : It -> Hp -> Prop} : iTup K te σ H Z = te σ H fun x H1 => ∃ a, x = .ref a /\ (∃ xs, SqT K H1 a xs) /\ Z (Itt K a) H1 := rfl
theorem r_iRng1 {Z : It -> Hp -> Prop} : iRng1 A σ H Z = A σ H fun vs H1 => ∃ j : Int, vs = [.int j] /\ -(2 ^ 62) <= j /\ j < 2 ^ 62 /\ Z (Itr 0 j.toNat) H1 := rfl
theorem r_aug {ti : TIp} : tAug i te ti D σ H = ∃ x, σ[i]? = some (some x) /\ te σ H fun y H1 => ti x y H1 fun z H2 => D.nx (σ.set i (some z)) H2 := rfl
theorem r_ip {f : Int -> Int -> Int} {x y : V} : ipI f x y H Q = ∃ i j, x = .int i /\ y = .int j /\ Q (.int (f i j)) H := rfl
theorem r_true : tTrue σ H R = R true H := rfl
end
theorem Same.new {H : Hp} {p : Addr} {o : HO} (h : H p = none) : Same H (upd H p o) := fun b u e => by rw [upd_ne (ne_of_none e h)]; exact e
theorem Same.newT {H H' : Hp} {p : Addr} {o : HO} (s : Same H H') (h : H' p = none) : Same H (upd H' p o) := s.trans (Same.new h)
theorem Same.over {H H' : Hp} {p : Addr} {o : HO} (s : Same H H') (h : H p = none) : Same H (upd H' p o) := fun b u e => by rw [upd_ne (ne_of_none e h)]; exact s b u e
theorem none_of_upd {H : Hp} {p D : Addr} {o : HO} (h : upd H p o D = none) : H D = none /\ D ≠ p := by
  by_cases e : D = p
  . subst e; rw [upd_same] at h; cases h
  . rw [upd_ne e] at h; exact ⟨h, e⟩
theorem Same.seqT {K : PySem.W.Frag} {H H' : Hp} {a : Addr} {xs : List V} (e : Same H H') (h : SqT K H a xs) : SqT K H' a xs := by
  rcases h with (h | ⟨o, h⟩) | h
  . exact .inl (.inl (e _ _ h))
  . exact .inl (.inr ⟨o, e _ _ h⟩)
  . exact .inr h
theorem hu9 {k : Nat} {A : Around} (hr : Room k A) : A.units + 8 < cLine := by have := hr.units; omega
section
variable {K : PySem.W.Frag} {wi : TI} {cp : Caps} {g : TG} {tc : TT} {te : TE} {σ : St} {H : Hp} {Q : VK}
theorem r_cxK {CX : CXT} {P : Program} {w : World} {mg : Str -> Option Value} {base : Heap} {N : List Str} {qual : Str} {scope : Scope} {f : Addr} {cd : Value} {A : Around} {outer : List Env} {s : Shared} {E : XK} : (cxOf CX P w K mg base N qual scope f cd A outer s H E).K = K := rfl
def CompW (J : It) (cp : Caps) (g : TG) (tc : TT) (te : TE) (σ : St) (H1 : Hp) (Q : VK) : Prop := ∃ W : Nat -> Nat -> List V -> St -> Hp -> Prop, (∃ m, W 0 m [] (cp.st σ) H1) /\ ∀ i m ys σ' H', W i m ys σ' H' ->
  ys.length < sizeLine /\ ((J.stop i H' /\ ∀ D, H' D = none -> Q (.ref D) (upd H' D (.lst ys))) \/ (J.go i H' /\ ∃ N : List V -> St -> Hp -> Prop, (∀ zs σ2 H2, N zs σ2 H2 -> ∃ m', m' < m /\ W (i + 1) m' zs σ2 H2) /\ ∀ x H2, J.yld i H' x H2 -> g x σ' H2 fun σ2 H3 => tc σ2 H3 fun b H4 =>
    if b = true then te σ2 H4 fun v H5 => N (ys ++ [v]) σ2 H5 else N ys σ2 H4))
theorem r_comp : tComp wi cp g tc te σ H Q = wi σ H fun J H1 => CompW J cp g tc te σ H1 Q := rfl
def ForW (J : It) (g : TG) (tb : TS) (D : Ends) (σ : St) (H1 : Hp) : Prop := ∃ W : Nat -> Nat -> St -> Hp -> Prop, (∃ m, W 0 m σ H1) /\ ∀ i m σ H, W i m σ H ->
  (J.stop i H /\ D.nx σ H) \/ (J.go i H /\ ∃ N : St -> Hp -> Prop, (∀ σ' H', N σ' H' -> ∃ m', m' < m /\ W (i + 1) m' σ' H') /\ ∀ x H', J.yld i H x H' -> g x σ H' fun σ2 H2 => tb { D with nx := N, ct := N, bk := D.nx } σ2 H2)
theorem r_for {tb : TS} {D : Ends} : tFor wi g tb D σ H = wi σ H fun J H1 => ForW J g tb D σ H1 := rfl
theorem forL {a : Addr} {xs : List V} {g : TG} {tb : TS} {D : Ends} {σ : St} {H : Hp} (Pv : Nat -> St -> Hp -> Prop) (h0 : Pv 0 σ H) (hl : ∀ i σ H, i <= xs.length -> Pv i σ H -> SqL K H a xs)
    (hs : ∀ i x σ H, xs[i]? = some x -> Pv i σ H -> g x σ H fun σ2 H2 => tb { D with nx := Pv (i + 1), ct := Pv (i + 1), bk := D.nx } σ2 H2) (hd : ∀ σ H, Pv xs.length σ H -> D.nx σ H) : ForW (Itl K a) g tb D σ H := for_list Pv h0 hl hs hd
theorem forT {a : Addr} {xs : List V} {g : TG} {tb : TS} {D : Ends} {σ : St} {H : Hp} (Pv : Nat -> St -> Hp -> Prop) (h0 : Pv 0 σ H) (hl : ∀ i σ H, i <= xs.length -> Pv i σ H -> SqT K H a xs)
    (hs : ∀ i x σ H, xs[i]? = some x -> Pv i σ H -> g x σ H fun σ2 H2 => tb { D with nx := Pv (i + 1), ct := Pv (i + 1), bk := D.nx } σ2 H2) (hd : ∀ σ H, Pv xs.length σ H -> D.nx σ H) : ForW (Itt K a) g tb D σ H := for_tup Pv h0 hl hs hd
theorem forR {lo : Int} {n : Nat} {g : TG} {tb : TS} {D : Ends} {σ : St} {H : Hp} (Pv : Nat -> St -> Hp -> Prop) (h0 : Pv 0 σ H)
    (hs : ∀ i σ H, i < n -> Pv i σ H -> g (.int (lo + i)) σ H fun σ2 H2 => tb { D with nx := Pv (i + 1), ct := Pv (i + 1), bk := D.nx } σ2 H2) (hd : ∀ σ H, Pv n σ H -> D.nx σ H) : ForW (Itr lo n) g tb D σ H := for_range Pv h0 hs hd
theorem compL {a : Addr} {xs : List V} (Pv : Nat -> List V -> St -> Hp -> Prop) (h0 : Pv 0 [] (cp.st σ) H) (hz : xs.length < sizeLine)
    (hl : ∀ i ys σ H, i <= xs.length -> Pv i ys σ H -> SqL K H a xs /\ ys.length <= i)
    (hs : ∀ i x ys σ H, xs[i]? = some x -> Pv i ys σ H -> g x σ H fun σ2 H2 => tc σ2 H2 fun b H3 => if b = true then te σ2 H3 fun v H4 => Pv (i + 1) (ys ++ [v]) σ2 H4 else Pv (i + 1) ys σ2 H3)
    (hd : ∀ ys σ H, Pv xs.length ys σ H -> ∀ D, H D = none -> Q (.ref D) (upd H D (.lst ys))) : CompW (Itl K a) cp g tc te σ H Q := comp_list Pv h0 hz hl hs hd
theorem compT {a : Addr} {xs : List V} (Pv : Nat -> List V -> St -> Hp -> Prop) (h0 : Pv 0 [] (cp.st σ) H) (hz : xs.length < sizeLine)
    (hl : ∀ i ys σ H, i <= xs.length -> Pv i ys σ H -> SqT K H a xs /\ ys.length <= i)
    (hs : ∀ i x ys σ H, xs[i]? = some x -> Pv i ys σ H -> g x σ H fun σ2 H2 => tc σ2 H2 fun b H3 => if b = true then te σ2 H3 fun v H4 => Pv (i + 1) (ys ++ [v]) σ2 H4 else Pv (i + 1) ys σ2 H3)
    (hd : ∀ ys σ H, Pv xs.length ys σ H -> ∀ D, H D = none -> Q (.ref D) (upd H D (.lst ys))) : CompW (Itt K a) cp g tc te σ H Q := comp_tup Pv h0 hz hl hs hd
theorem compR {lo : Int} {n : Nat} (Pv : Nat -> List V -> St -> Hp -> Prop) (h0 : Pv 0 [] (cp.st σ) H) (hz : n < sizeLine)
    (hl : ∀ i ys σ H, i <= n -> Pv i ys σ H -> ys.length <= i)
    (hs : ∀ i ys σ H, i < n -> Pv i ys σ H -> g (.int (lo + i)) σ H fun σ2 H2 => tc σ2 H2 fun b H3 => if b = true then te σ2 H3 fun v H4 => Pv (i + 1) (ys ++ [v]) σ2 H4 else Pv (i + 1) ys σ2 H3)
    (hd : ∀ ys σ H, Pv n ys σ H -> ∀ D, H D = none -> Q (.ref D) (upd H D (.lst ys))) : CompW (Itr lo n) cp g tc te σ H Q := comp_range Pv h0 hz hl hs hd
theorem compMapT {a : Addr} {xs : List V} {σ' : St} (f : V -> V) (e : cp.st σ = none :: σ') (hl : SqT K H a xs) (hz : xs.length < sizeLine) (hs : ∀ x ∈ xs, ∀ R : VK, R (f x) H -> te (some x :: σ') H R) (hd : ∀ D, H D = none -> Q (.ref D) (upd H D (.lst (xs.map f)))) :
    CompW (Itt K a) cp (gName 0) tTrue te σ H Q := by
  refine compT (xs := xs) (fun i ys σ2 H2 => H2 = H /\ ys = (xs.take i).map f /\ ∃ o, σ2 = o :: σ') ⟨rfl, by simp, none, e⟩ hz (fun i ys σ2 H2 hi h => ?_) (fun i x ys σ2 H2 hx h => ?_) (fun ys σ2 H2 h => ?_)
  . obtain ⟨rfl, rfl, _⟩ := h
    exact ⟨hl, by rw [List.length_map, List.length_take]; omega⟩
  . obtain ⟨rfl, rfl, o, rfl⟩ := h
    refine hs x (List.mem_of_getElem? hx) _ ⟨rfl, ?_, some x, rfl⟩
    rw [List.take_add_one, hx]; simp
  . obtain ⟨rfl, rfl, _⟩ := h
    rw [List.take_length]
    exact hd
end
def tCut (t u : TS) : TS := fun D σ H => ∃ R : St -> Hp -> Prop, t { D with nx := R } σ H /\ ∀ σ' H', R σ' H' -> u D σ' H'
theorem pss_cut {X : Cx} {st : Stmt} {rest : List Stmt} {t u : TS} (h1 : PS X st t) (h2 : PSs X rest u) : PSs X (st :: rest) (tCut t u) := by
  intro pins s σ H D I h
  obtain ⟨R, ha, hb⟩ := h
  refine wpAny_execs_cons (thn (h1 pins s σ H { D with nx := R } I ha) fun f s1 q => ?_)
  cases f with
  | next =>
    obtain ⟨σ', H', I', q⟩ := q
    exact h2 pins s1 σ' H' D I' (hb σ' H' q)
  | ret v => exact q
  | brk => exact q
  | cont => exact q
theorem line1000 : 1000000 < sizeLine := by rw [sizeLine_eq]; decide
theorem mem_mapI {ns : List Int} {x : V} (h : x ∈ ns.map V.int) : ∃ n, n ∈ ns /\ x = .int n := by
  obtain ⟨n, hn, e⟩ := List.mem_map.mp h
  exact ⟨n, hn, e.symm⟩
theorem get_mapI {ns : List Int} {i : Nat} {x : V} (h : (ns.map V.int)[i]? = some x) : ∃ n, ns[i]? = some n /\ x = .int n := by
  rw [List.getElem?_map] at h
  cases e : ns[i]? with
  | none => rw [e] at h; cases h
  | some n => rw [e] at h; exact ⟨n, rfl, (Option.some.inj h).symm⟩
def cutI (ns : List Int) (lo hi : Option Int) : List Int := (ns.drop (HT.sIx ns.length 0 lo)).take (HT.sIx ns.length ns.length hi - HT.sIx ns.length 0 lo)
theorem cut_ints (ns : List Int) (lo hi : Option Int) : cutV (ns.map V.int) lo hi = (cutI ns lo hi).map V.int := by
  unfold cutV cutI
  rw [List.length_map, <- List.map_drop, <- List.map_take]
theorem ixN_of {n : Nat} {i : Int} (h0 : 0 <= i) (h1 : i < n) : ixN n i = some i.toNat := by
  unfold ixN; rw [if_pos h0, if_pos h1]
theorem atI_of {α : Type} {xs : List α} {i : Int} {v : α} (h0 : 0 <= i) (h : xs[i.toNat]? = some v) : atI xs i = some v := by
  have := atI_nat h
  rwa [show ((i.toNat : Nat) : Int) = i by omega] at this
theorem kit_self {K : PySem.W.Frag} {t : Value} : PySem.W.kitOne K t t = some true := by unfold PySem.W.kitOne; rw [if_pos (by simp)]
theorem kit_int_bool {K : PySem.W.Frag} : PySem.W.kitOne K (.type "int") (.type "bool") = some false := by
  first | rfl | decide +kernel | (unfold PySem.W.kitOne; kernel_rfl)
theorem rel_ty {n : String} : ∀ u, RelV (V.ty n) u -> u = .type n := fun _ h => h
theorem rel_ref {a : Addr} : ∀ u, RelV (V.ref a) u -> u = .ref a := fun _ h => h
end L2
set_option Elab.async false
set_option linter.all false
set_option maxRecDepth 100000
set_option maxHeartbeats 4000000
namespace L2
open PySem PySem.W PySem.Spec PySem.Calls PyProof.Rows
section
variable {prog : Program} {w : World} {A : Around} {E : Value -> Shared -> Prop} {s : Shared} {K : Frag} {x D : Addr} {ox : Obj}
structure ExcCls (K : Frag) (D : Addr) : Prop where
  ga : findIn K (.ref D) "__getattribute__" = some (some (.builtin "BaseException.__getattribute__"))
  hk : findIn K (.ref D) "__getattr__" = some none
  cl : (clsIn K D).isSome = true
  ca : findIn K (.ref D) "__class__" = some (some (.builtin "object.__class__"))
  gs : specialIn K (.builtin "object.__class__") "__get__" = some (some (.builtin "getset_descriptor.__get__"))
  tk : takesIn K (.builtin "object.__class__") = some true
  mo : mroIn K D (.type "object") = some true
  mb : mroIn K D (.type "BaseException") = some true
def ExcAt (x D : Addr) (h : Heap) : Prop := ∃ ox, h.get? x = some ox /\ ox.cls = .ref D
theorem ExcAt.type {M : Model} {h : Heap} (I : ExcAt x D h) : Looks M h (typeOf (.ref x)) (.ref D) := by
  obtain ⟨ox, h1, h2⟩ := I
  exact h2 ▸ (Looks.ld h1).andThen .now
theorem exc_find {M : Model} {h : Heap} (X : K.In h) (C : ExcCls K D) : Looks M h (Builtin.ObjectAttr.find (.ref x) (.ref D) "__class__") (.bind (.builtin "getset_descriptor.__get__") (.builtin "object.__class__")) :=
  (looks_findIn X C.ca).andThen ((show Looks M h (Builtin.ObjectAttr.getOf (some (.builtin "object.__class__"))) _ from looks_specialIn X C.gs).andThen
    ((show Looks M h (Builtin.ObjectAttr.dataDescriptor? (some (.builtin "object.__class__")) (some (.builtin "getset_descriptor.__get__"))) (some (.builtin "getset_descriptor.__get__", .builtin "object.__class__")) from (looks_takesIn X C.tk).andThen .now).andThen (Looks.tag .now)))
open Builtin Builtin.ObjectAttr Builtin.Getset_descriptor in
theorem exc_get {R : Result -> Shared -> Prop} {tp : Value} (X : K.In s.heap) (I : ExcAt x D s.heap) (hm : mroIn K D (.type "object") = some true) (h : R (.ok (.ret (.ref D))) s) : codeAny (model prog w) A (.call (.builtin "getset_descriptor.__get__") ⟨[.builtin "object.__class__", .ref x, tp], []⟩) R s := by
  have l0 := I.type (M := model prog w)
  have l1 := looks_mroIn (M := model prog w) X hm
  obtain ⟨_, _, _, _, _⟩ := s
  have sg := KF.slot_gs
  refine codeAny_call_builtin sg.plain KF.entry_gs (sg.check _ _ _ _ _ _ _ _ KF.type_class (KF.args_gs _ _ _) ?_)
  unfold Builtin.«getset_descriptor.__get__» descrGet
  rw [dga_obj]
  unfold descrGetter descrCheckInstance isInstance descrNameAndClass
  refine wpAny_bind (wpAny_pure ?_)
  simp only [KF.owner_class]
  repeat lk
  refine ⟨Code.quiet_builtin _ (by decide +kernel), codeAny_builtin KF.entry_class ?_⟩
  unfold Builtin.«object.__class__» shownTypeOf
  repeat lk
  exact h
theorem exc_check {M : Model} {nameV : Value} {Q : Unit -> Shared -> Prop} (X : K.In s.heap) (I : ExcAt x D s.heap) (C : ExcCls K D) (hq : Q () s) : wpAny M A (checkBuiltinCall "BaseException.__getattribute__" ⟨[.ref x, nameV], []⟩) Q E s := by
  have a1 := F.args_bexc_ga (.ref x) nameV
  have l0 := I.type (M := M)
  have l1 := looks_mroIn (M := M) X C.mb
  obtain ⟨_, _, _, _, _⟩ := s
  simp only [checkBuiltinCall, show builtinKind "BaseException.__getattribute__" = some .slot by decide +kernel, show splitId "BaseException.__getattribute__" = some ("BaseException", "__getattribute__") by decide +kernel, isInstance]
  repeat (first | lk | wp_step)
  exact hq
theorem exc_entry {tk : Tok} {Q : Fin -> Shared -> Prop} (X : K.In s.heap) (I : ExcAt x D s.heap) (C : ExcCls K D) (hq : Q (.done (.ret (.ref D))) s) : wpAny (model prog w) A (Builtin.«object.__getattribute__» ⟨[.ref x, .str "__class__" tk], []⟩) Q E s := by
  obtain ⟨hh, g, d, t, os⟩ := s
  have L0 := I.type (M := model prog w)
  have L1 := exc_find (M := model prog w) (x := x) X C
  unfold Builtin.«object.__getattribute__»
  refine wpAny_bind (wpAny_pure ?_)
  refine wpAny_bind (wpAny_pure ?_)
  refine wpAny_bind (L0.at ?_)
  refine wpAny_bind (L1.at ?_)
  show wpAny _ _ (Builtin.ObjectAttr.bindTo _ _ _ _) _ _ _
  unfold Builtin.ObjectAttr.bindTo
  dsimp only
  refine wpAny_bind (wpAny_holding (wpAny_call (exc_get (K := K) (s := ⟨hh, g, d, t, os⟩) X I C.mo ?_)))
  exact wpAny_pure hq
theorem exc_class {Q : Option Value -> Shared -> Prop} (X : K.In s.heap) (I : ExcAt x D s.heap) (C : ExcCls K D) (h : Q (some (.ref D)) { s with toks := s.toks + 1 }) : wpAny (model prog w) A (getAttr? (.ref x) "__class__") Q E s := by
  obtain ⟨hh, g, d, t, os⟩ := s
  have L0 := I.type (M := model prog w)
  have L1 := looks_findIn (M := model prog w) X C.ga
  have L2 := looks_findIn (M := model prog w) X C.hk
  unfold getAttr? getAttrBy? getAttrBy
  refine wpAny_bind (wpAny_mkText (wpAny_bind (wpAny_attempt (wpAny_holding (wpAny_bind (L0.at (wpAny_bind (L1.at ?_))))))))
  show wpAny _ _ (getAttrByItsOwn _ _ _ _ _ _) _ _ _
  unfold getAttrByItsOwn hookBefore
  refine wpAny_bind ?_
  rw [if_pos (by rfl)]
  refine L2.at (wpAny_bind (wpAny_attempt (wpAny_holding ?_)))
  unfold callGetattribute
  rw [if_neg (by decide)]
  unfold boundAndCalled
  have f3 := PySem.F.attr_ValueError.ga.bind (.ref x)
  refine wpAny_bind (wpAny_of_eq f3 ?_)
  refine wpAny_call (codeAny_call_builtin PySem.F.attr_ValueError.ga.plain F.entry_bexc_ga (exc_check (K := K) (s := ⟨hh, g, d, t + 1, os⟩) X I C (exc_entry (K := K) (s := ⟨hh, g, d, t + 1, os⟩) X I C ?_)))
  exact wpAny_pure (wpAny_pure h)
theorem kitx_exc (C : ExcCls K D) : KitX K (.ref x) (.ref D) (ExcAt x D) := by
  have cl := C.cl
  unfold clsIn at cl
  refine ⟨fun _ _ _ I => I.type, fun _ _ X _ => ?_, fun h tp dd its n sl X htp => ?_, fun X I k => exc_class X I C k⟩
  . split at cl
    . rename_i ho
      intro A' Q' E' s' k q
      exact wpAny_bind (wpAny_loadPart (k _ _ (X _ _ ho)) (wpAny_pure q))
    . cases cl
  . split at cl
    . rename_i ho
      cases hb : (Value.ref D == Value.ref tp) with
      | false => rfl
      | true =>
        obtain rfl : D = tp := Value.ref.inj (beq_iff_eq.mp hb)
        cases (X _ _ ho).symm.trans htp
    . cases cl
end
section
variable {P : Program} {w : World}
theorem ObjOk.there {H : Hp} {h : Heap} {a : Addr} {o : HO} (x : ObjOk P w H h a o) : ∃ ob, h.get? a = some ob := by
  induction o with
  | lst xs => obtain ⟨_, _, _, _, e⟩ := x; exact ⟨_, e⟩
  | tup xs => obtain ⟨_, _, _, ob, e, _⟩ := x; exact ⟨_, e⟩
  | dK kvs => obtain ⟨_, _, _, _, o, _, _, e, _⟩ := x; exact ⟨_, e⟩
  | dT kvs => obtain ⟨_, _, _, _, o, _, _, e, _⟩ := x; exact ⟨_, e⟩
  | set S n => obtain ⟨o, _, _, _, e, _⟩ := x; exact ⟨_, e⟩
  | ins C dx fs => obtain ⟨_, _, _, e, _⟩ := x; exact ⟨_, e⟩
  | own y => obtain ⟨_, e⟩ := x; exact ⟨_, e⟩
  | xd fs => obtain ⟨_, ⟨_, _, _, e, _⟩, _⟩ := x; exact ⟨_, e⟩
  | rng lo hi => obtain ⟨_, _, _, e⟩ := x; exact ⟨_, e⟩
  | frz ob u ih => obtain ⟨e, _⟩ := x; exact ⟨_, e⟩
  | tbl ps => exact ⟨_, (show h.get? a = some _ from x)⟩
  | met f y => exact ⟨_, (show h.get? a = some _ from x)⟩
  | ext φ => obtain ⟨_, ⟨_, e⟩, _⟩ := x; exact ⟨_, e⟩
structure Fly (P : Program) (w : World) (fs : List Addr) (H1 H' : Hp) (h1 g B : Heap) : Prop where
  un : Un fs [] H1 H' h1 g
  hok : HOk P w H' g
  cov : ∀ b o, g.get? b = some o -> (H' b ≠ none \/ ∃ o', h1.get? b = some o') -> b ∉ fs -> B.get? b = some o
theorem Fly.move {fs : List Addr} {H1 H' : Hp} {h1 g B h2 : Heap} (x : Fly P w fs H1 H' h1 g B) (frees : ∀ b ∈ fs, H' b = none) (st : B.StaysIn h2) (up : ∀ b ∈ fs, ∀ o, g.get? b = some o -> ∃ sl, h2.get? b = some { o with slots := sl }) : Fly P w fs H1 H' h1 h2 B := by
  have keep : ∀ b o, g.get? b = some o -> (H' b ≠ none \/ ∃ o', h1.get? b = some o') -> b ∉ fs -> h2.get? b = some o := fun b o e h n => st b o (x.cov b o e h n)
  have nfs : ∀ b u, H' b = some u -> b ∉ fs := fun b u e z => by rw [frees b z] at e; cases e
  refine ⟨⟨fun b o e n hb hx => ?_, fun b o e n hb hx => ?_, fun b o e n hx => x.un.free b o e n hx, fun b o e hx => ?_, x.un.tups, x.un.frzs, x.un.tbls⟩, fun b u e => ?_, fun b o e h n => ?_⟩
  . exact keep b o (x.un.keep b o e n hb hx) (.inr ⟨o, e⟩) hb
  . obtain ⟨sl, e1⟩ := x.un.slot b o e n hb hx
    obtain ⟨sl', e2⟩ := up b hb _ e1
    exact ⟨sl', e2⟩
  . obtain ⟨o', e1⟩ := x.un.there b o e hx
    by_cases hb : b ∈ fs
    . obtain ⟨sl', e2⟩ := up b hb _ e1
      exact ⟨_, e2⟩
    . exact ⟨o', keep b o' e1 (.inr ⟨o, e⟩) hb⟩
  . refine (x.hok b u e).stay (fun c v hc q => ?_) (fun _ q => q) fun _ _ q => q
    rcases hc with rfl | hc
    . exact keep c v q (.inl (by rw [e]; simp)) (nfs c u e)
    . exact keep c v q (.inl (by rw [hc]; simp)) (nfs c _ hc)
  . -- B has it still
    have ⟨o1, e1⟩ : ∃ o1, g.get? b = some o1 := by
      rcases h with h | ⟨o', h⟩
      . cases q : H' b with
        | none => exact absurd q h
        | some u => exact (x.hok b u q).there
      . exact x.un.there b o' h (by simp)
    have e2 := x.cov b o1 e1 h n
    have e3 := st b o1 e2
    rw [e] at e3
    cases e3
    exact e2
def CXe (P : Program) (w : World) : CXT := fun outer H s E e s' => ∃ (ea : Addr) (cls a0 : Value) (H' : Hp) (B : Heap), e = .ref ea /\ s'.os = s.os /\ AllBare s'.gens /\ Fly P w (frs outer) H H' s.heap s'.heap B /\ Heap.FlyingW B outer ea cls a0 s'.heap /\ E cls none H'
theorem fly_frees {X : Cx} {pins : List (Addr × Obj)} {σ : St} {H1 H' : Hp} {s1 : Shared} {g B : Heap} (I : Inv X pins σ H1 s1) (x : Fly P w (frs X.stack) H1 H' s1.heap g B) : ∀ b ∈ frs X.stack, H' b = none := fun b hb => by
  obtain ⟨_, o, ho, _⟩ := I.stack.mem hb
  exact x.un.free b o ho (I.stkFree b hb) (by simp)
theorem passE {K : PySem.W.Frag} {mg : Str -> Option Value} {base : Heap} {N : List Str} {qual : Str} {scope : Scope} {f : Addr} {cd : Value} {A : Around} {outer : List Env} {s : Shared} {H : Hp} {E E' : XK} (hE : ∀ c d H', E' c d H' -> E c d H') :
    Passes (CXe P w) (cxOf (CXe P w) P w K mg base N qual scope f cd A outer s H E) E' := by
  intro pins σ H1 s1 e s' I hc
  obtain ⟨ea, cls, a0, H', B, rfl, os, bare, fl, fw, q⟩ := hc
  have fr : (cxOf (CXe P w) P w K mg base N qual scope f cd A outer s H E).A.frames = some (envOfC qual scope s.heap.objs.size f cd :: outer) := I.ok.frames
  refine wpAny_leaves_onW fr rfl fw fun h' fw' ups => ?_
  have fl2 := fl.move (fly_frees I fl) fw'.1 (fun b hb o e => by
    obtain ⟨_, o', ho', nf⟩ := fw.2.2.1.mem hb
    rw [e] at ho'; cases ho'
    exact ups b o e nf)
  have I2 : Inv (cxOf (CXe P w) P w K mg base N qual scope f cd A outer s H E) pins σ H' { s' with heap := h' } := I.call' (s' := { s' with heap := h' }) os fl2.un fl2.hok bare (fun b hb => by cases hb)
  refine ⟨ea, cls, a0, H', B, rfl, I2.os, I2.bare, ⟨I2.base, I2.hok, fun b o e h n => fl2.cov b o e ?_ (fun z => ?_)⟩, fw', hE _ _ _ q⟩
  . rcases h with h | ⟨o', h⟩
    . exact .inl h
    . obtain ⟨o2, e2⟩ := I.base.there b o' h (by show b ∉ ([] : List Addr); simp)
      exact .inr ⟨o2, e2⟩
  . rcases List.mem_cons.mp (I.stkSub b z) with e' | e'
    . rcases h with h | ⟨o', h⟩
      . exact h (by rw [e']; exact I2.free)
      . have := Heap.lt_size h
        rw [e'] at this
        exact absurd (Nat.lt_of_lt_of_le this I.ok.above) (Nat.lt_irrefl _)
    . exact n e'
theorem raiseE {K : PySem.W.Frag} {mg : Str -> Option Value} {base : Heap} {N : List Str} {qual : Str} {scope : Scope} {f : Addr} {cd : Value} {A : Around} {outer : List Env} {s : Shared} {H : Hp} {E : XK}
    {pins : List (Addr × Obj)} {σ : St} {H1 : Hp} {s1 : Shared} {h' : Heap} {ea : Addr} {cls : Value} {vs : List Value}
    (I : Inv (cxOf (CXe P w) P w K mg base N qual scope f cd A outer s H E) pins σ H1 s1) (hx : Heap.MadeExcOf s1.heap h' ea cls vs) (q : E cls none H1) :
    (cxOf (CXe P w) P w K mg base N qual scope f cd A outer s H E).xe (.ref ea) { s1 with heap := h' } := by
  have fr : (cxOf (CXe P w) P w K mg base N qual scope f cd A outer s H E).A.frames = some (envOfC qual scope s.heap.objs.size f cd :: outer) := I.ok.frames
  have hin : ∀ env ∈ (envOfC qual scope s.heap.objs.size f cd :: outer), ∀ b, env.frame = some b -> b ∈ frs (envOfC qual scope s.heap.objs.size f cd :: outer) := fun env he b hb => List.mem_filterMap.mpr ⟨env, he, hb⟩
  have stk := I.stack
  have fl : Fly P w (frs (envOfC qual scope s.heap.objs.size f cd :: outer)) H1 H1 s1.heap s1.heap (PySem.W.hideAll s1.heap (frs (envOfC qual scope s.heap.objs.size f cd :: outer))) := ⟨Un.refl, I.hok, fun b o e _ n => PySem.W.hideAll_get _ e n⟩
  refine wpAny_leaves_madeW (base := PySem.W.hideAll s1.heap (frs (envOfC qual scope s.heap.objs.size f cd :: outer))) (h := s1.heap) fr rfl (fun b o q => PySem.W.of_hideAll _ q) ?_ hx fun h'' t fw' ht hnt ups => ?_
  . exact PySem.W.funFrames_hide stk hin
  . have fl2 := fl.move (fly_frees (X := cxOf (CXe P w) P w K mg base N qual scope f cd A outer s H E) I fl) fw'.1 (fun b hb o e => by
      obtain ⟨_, o', ho', nf⟩ := stk.mem hb
      rw [e] at ho'; cases ho'
      exact ups b o (hx.keeps b o e) nf)
    have I2 : Inv (cxOf (CXe P w) P w K mg base N qual scope f cd A outer s H E) pins σ H1 { s1 with heap := h'' } := I.call' (s' := { s1 with heap := h'' }) rfl fl2.un fl2.hok I.bare (fun b hb => by cases hb)
    refine ⟨ea, cls, .ref t, H1, _, rfl, I2.os, I2.bare, ⟨I2.base, I2.hok, fun b o e h n => fl2.cov b o e ?_ (fun z => ?_)⟩, fw', q⟩
    . rcases h with h | ⟨o', h⟩
      . exact .inl h
      . obtain ⟨o2, e2⟩ := I.base.there b o' h (by show b ∉ ([] : List Addr); simp)
        exact .inr ⟨o2, e2⟩
    . rcases List.mem_cons.mp (I.stkSub b z) with e' | e'
      . rcases h with h | ⟨o', h⟩
        . exact h (by rw [e']; exact I2.free)
        . have := Heap.lt_size h
          rw [e'] at this
          exact absurd (Nat.lt_of_lt_of_le this I.ok.above) (Nat.lt_irrefl _)
      . exact n e'
end
theorem exc_obj {K : Frag} {h : Heap} {C : Addr} {bmB : List Value} {newId : String} (X : K.In h) (q : excIn K C bmB newId = true) :
    ∃ bm N nm q bs hdct sn sub ab col dd k0 k1 k2 k3 k5 mN, h.get? C = some (excClassObj nm q C N bs bm hdct sn sub ab col dd k0 k1 k2 k3 k5 newId) /\ h.Ns N mN /\ mN "__init__" = none /\ OwnTail h bmB bm := by
  delta excIn at q
  split at q
  case h_2 => cases q
  rename_i d0 c0 s0 hl
  split at q
  case h_2 => cases q
  rename_i B tl a0 a1 a2 a3 id0 a5 em es
  have g := X C _ hl
  repeat rw [Bool.and_eq_true] at q
  rcases q with ⟨⟨⟨⟨⟨e1, e2⟩, e3⟩, e4⟩, e5⟩, e6⟩
  cases eq_of_beq e1
  cases eq_of_beq e2
  rcases s0 with ⟨l0⟩
  cases es
  rcases c0 with ⟨f0, f1, f2, f3, f4, f5, f6, f7, f8, f9, f10⟩
  cases em
  cases f10
  . exact ⟨tl, f3, f0, f4, f1, f5, f6, f7, f8, f9, d0, a0, a1, a2, a3, a5, h.nsMap f3, g, .of_isNs (isNs_of_in X e5), nsMap_none_of_in X e5 (eq_of_beq e6), tail_of_in X e4⟩
  . cases e3
def bmV : List Value := [.type "ValueError", .type "Exception", .type "BaseException", .type "object"]
section
variable {P : Program} {w : World} {K : PySem.W.Frag} {mg : Str -> Option Value} {base : Heap} {N : List Str} {qual : Str} {scope : Scope} {f : Addr} {cd : Value} {A : Around} {outer : List Env} {s : Shared} {H : Hp} {E : XK}
def tRaise (C : Addr) (E : XK) (ta : TA) : TS := fun _ σ H => ta σ H fun vs H1 => vs.length <= sizeLine /\ E (.ref C) none H1
theorem ps_raise {x : Str} {C : Addr} {newId : String} {np cpos pos : Pos} {e₀ : Expr} {rest : List Expr} {ta : TA} (hm : mg x = some (.ref C)) (hx : excIn K C bmV newId = true) (hg : Gl (cxOf (CXe P w) P w K mg base N qual scope f cd A outer s H E) x)
    (hn : newId = "ValueError.__new__") (ha : PA (cxOf (CXe P w) P w K mg base N qual scope f cd A outer s H E) (e₀ :: rest) ta)
    (he : starEach (e₀ :: rest) (cxOf (CXe P w) P w K mg base N qual scope f cd A outer s H E).env = (false, eval e₀ (cxOf (CXe P w) P w K mg base N qual scope f cd A outer s H E).env) :: starEach rest (cxOf (CXe P w) P w K mg base N qual scope f cd A outer s H E).env := by rfl)
    (hplain : (backTo cpos (starEach rest (cxOf (CXe P w) P w K mg base N qual scope f cd A outer s H E).env)).any (·.1) = false := by rfl) (hd : (x == ("__debug__" : Str)) = false := by decide) :
    PS (cxOf (CXe P w) P w K mg base N qual scope f cd A outer s H E) (.Raise (some (.Call (.Name x np) (e₀ :: rest) [] cpos)) none pos) (tRaise C E ta) := by
  intro pins s1 σ H1 D I h
  subst hn
  obtain ⟨bm, Nc, nm, q, bs, hdct, sn, sub, ab, col, dd, k0, k1, k2, k3, k5, mN, hC, hN, hni, T⟩ := exc_obj I.mod.kin hx
  refine wpAny_Raise_call_subU (C := C) (nm := nm) (q := q) (N := Nc) (bs := bs) (bm := bm) (hdct := hdct) (sn := sn) (sub := sub) (ab := ab) (col := col) (dd := dd) (k0 := k0) (k1 := k1) (k2 := k2) (k3 := k3) (k5 := k5)
    PySem.F.excBase_ValueError (bmB := bmV) (by decide +kernel) PySem.F.excBase_ValueError (mN := mN) (T.hasType PySem.F.excBase_ValueError.hasBase) (I.ok.hd rfl) (by rw [he]; show (false || (backTo cpos (starEach rest _)).any (·.1)) = false; rw [hplain]; rfl) hni (ld_glob I hg hm ⟨rfl, ?_⟩ hd)
  have hA := ha cpos pins s1 σ H1 _ I h
  rw [he] at hA ⊢
  refine Calls.evalArgs_plain (thn hA fun us s2 ⟨vs, H2, I2, r2, hz, q2⟩ => ⟨rfl, by rw [<- r2.length]; exact hz, I2.bk _ _ hC, hN.keeps I2.bk, T.keeps I2.bk, fun h' e hm => raiseE I2 hm q2⟩)
end
end L2
set_option Elab.async false
set_option linter.all false
set_option maxRecDepth 100000
set_option maxHeartbeats 4000000
namespace L2
open PySem PySem.Spec PyProof.Rows
abbrev Cx.body (X : Cx) (xe : Value -> Shared -> Prop) (pn : List (Addr × Obj)) : Cx := { X with xe := xe, pn := pn }
abbrev Cx.suite (X : Cx) (ea : Addr) (pn : List (Addr × Obj)) : Cx := { X with A := X.A.mark (some (.ref ea)), calm := false, xe := fun _ _ => False, pn := pn }
section
variable {X : Cx} {pins pins' : List (Addr × Obj)} {σ : St} {H : Hp} {s : Shared} {xe xe' : Value -> Shared -> Prop} {ea : Addr}
theorem Inv.toBody (I : Inv X pins σ H s) : Inv (X.body xe (X.pn ++ pins)) [] σ H s :=
  ⟨⟨I.ok.mod, I.ok.kind, I.ok.glob, I.ok.blt, I.ok.above, I.ok.inj, I.ok.has, I.ok.cab, I.ok.hd, I.ok.frames, I.ok.stk, I.ok.exf, I.ok.bs, I.ok.bsz, I.ok.noex, I.ok.exfs, I.ok.funs, I.ok.frf⟩, I.os, I.bare, I.base, I.loc, I.cell, I.free, I.freeC, fun p hp => I.pin p (by simpa using hp), I.hok, I.len⟩
theorem Inv.ofBody (I : Inv (X.body xe (X.pn ++ pins)) pins' σ H s) : Inv X pins σ H s :=
  ⟨⟨I.ok.mod, I.ok.kind, I.ok.glob, I.ok.blt, I.ok.above, I.ok.inj, I.ok.has, I.ok.cab, I.ok.hd, I.ok.frames, I.ok.stk, I.ok.exf, I.ok.bs, I.ok.bsz, I.ok.noex, I.ok.exfs, I.ok.funs, I.ok.frf⟩, I.os, I.bare, I.base, I.loc, I.cell, I.free, I.freeC, fun p hp => I.pin p (List.mem_append_left _ hp), I.hok, I.len⟩
theorem Inv.reBody {pn : List (Addr × Obj)} (I : Inv (X.body xe pn) pins' σ H s) : Inv (X.body xe' pn) pins' σ H s :=
  ⟨⟨I.ok.mod, I.ok.kind, I.ok.glob, I.ok.blt, I.ok.above, I.ok.inj, I.ok.has, I.ok.cab, I.ok.hd, I.ok.frames, I.ok.stk, I.ok.exf, I.ok.bs, I.ok.bsz, I.ok.noex, I.ok.exfs, I.ok.funs, I.ok.frf⟩, I.os, I.bare, I.base, I.loc, I.cell, I.free, I.freeC, I.pin, I.hok, I.len⟩
theorem Inv.toSuite (I : Inv X pins σ H s) : Inv (X.suite ea (X.pn ++ pins)) [] σ H s :=
  ⟨⟨I.ok.mod, I.ok.kind, I.ok.glob, I.ok.blt, I.ok.above, I.ok.inj, I.ok.has, I.ok.cab, fun z => absurd (show false = true from z) Bool.false_ne_true, I.ok.frames, I.ok.stk, I.ok.exf, I.ok.bs, I.ok.bsz, I.ok.noex, I.ok.exfs, I.ok.funs, I.ok.frf⟩, I.os, I.bare, I.base, I.loc, I.cell, I.free, I.freeC, fun p hp => I.pin p (by simpa using hp), I.hok, I.len⟩
theorem Inv.ofSuite (hd : X.calm = true -> X.A.handled = none) (I : Inv (X.suite ea (X.pn ++ pins)) pins' σ H s) : Inv X pins σ H s :=
  ⟨⟨I.ok.mod, I.ok.kind, I.ok.glob, I.ok.blt, I.ok.above, I.ok.inj, I.ok.has, I.ok.cab, hd, I.ok.frames, I.ok.stk, I.ok.exf, I.ok.bs, I.ok.bsz, I.ok.noex, I.ok.exfs, I.ok.funs, I.ok.frf⟩, I.os, I.bare, I.base, I.loc, I.cell, I.free, I.freeC, fun p hp => I.pin p (List.mem_append_left _ hp), I.hok, I.len⟩
theorem Inv.forget {i : Nat} {n : Str} {m : Str -> Option Value} {v : Option Value} {h' : Heap} {t' : Nat} (I : Inv X pins σ H s) (hN : X.N.Nodup) (hi : X.N[i]? = some n) (hx : X.env.scope.names.lookup n = some .local)
    (hl : ∀ (i : Nat) (x : Str) (v : V), X.N[i]? = some x -> σ[i]? = some (some v) -> Vis X.env.scope x -> ∃ u, RelV v u /\ Look X.env s.heap m x u) (hn : s.heap.Ns X.env.locals m)
    (hn' : h'.Ns X.env.locals (fun x => if x = n then v else m x)) (hs : Heap.SameBut X.env.locals s.heap h') : Inv X pins (σ.set i none) H { s with heap := h', toks := t' } := by
  have cne := I.cne
  obtain ⟨oL, _, _, hoL, _⟩ := id hn
  have tracked : HOk X.prog X.w H h' := fun b ob e => by
    refine (I.hok b ob e).stay (fun c w' hc q => (hs.2 c ?_).trans q) (fun _ q => q) fun _ _ q => q
    rintro rfl
    rcases hc with rfl | hc
    . rw [I.free] at e; cases e
    . rw [I.free] at hc; cases hc
  refine ⟨I.ok, I.os, I.bare, ⟨fun b o e n hb hx => ?_, fun b o e n hb hx => ?_, I.base.free, fun b o e hx => ?_, I.base.tups, I.base.frzs, I.base.tbls⟩, ⟨_, hn', fun j y v' e1 e2 e3 => ?_⟩, fun y c e => ?_, I.free, I.freeC, fun p hp => ?_, tracked, by simpa using I.len⟩
  . exact (hs.2 b (Nat.ne_of_lt (Nat.lt_of_lt_of_le (Heap.lt_size e) I.ok.above))).trans (I.base.keep b o e n hb hx)
  . obtain ⟨sl, e1⟩ := I.base.slot b o e n hb hx
    exact ⟨sl, (hs.2 b (Nat.ne_of_lt (Nat.lt_of_lt_of_le (Heap.lt_size e) I.ok.above))).trans e1⟩
  . obtain ⟨o', e1⟩ := I.base.there b o e hx
    exact ⟨o', (hs.2 b (Nat.ne_of_lt (Nat.lt_of_lt_of_le (Heap.lt_size e) I.ok.above))).trans e1⟩
  . by_cases hj : j = i
    . subst hj
      have hlt : j < σ.length := by
        have := (List.getElem?_eq_some_iff.mp e2).1
        simpa using this
      rw [List.getElem?_set_self hlt] at e2
      cases e2
    . rw [List.getElem?_set_ne (Ne.symm hj)] at e2
      obtain ⟨u', r', q⟩ := hl j y v' e1 e2 e3
      refine ⟨u', r', ?_⟩
      rcases q with ⟨k, e⟩ | ⟨k, c, e, z⟩
      . refine .inl ⟨k, ?_⟩
        have : y ≠ n := fun e => hj (nodup_ix hN e1 (e ▸ hi))
        simp [this, e]
      . exact .inr ⟨k, c, e, z.sameBut hs (cne y c e)⟩
  . obtain ⟨w', z⟩ := I.cell y c e
    exact ⟨w', z.sameBut hs (cne y c e)⟩
  . obtain ⟨e, n, ne, nf, d⟩ := I.pin p hp
    exact ⟨(hs.2 p.1 ne).trans e, n, ne, nf, d⟩
end
def PassesAt (CX : CXT) (X : Cx) (σ : St) (E : XK) : Prop := ∀ (pins : List (Addr × Obj)) (H : Hp) (s : Shared) (e : Value) (s' : Shared), Inv X pins σ H s -> CX X.stack H s E e s' -> X.xe e s'
def tCallE (sp : Sp) (dvs : List V) (E : St -> XK) (t : TA) : TE := fun σ H Q => t σ H fun vs H1 => sp (vs ++ dvs) H1 Q (E σ)
section
variable {X : Cx} {CX : CXT} {k : Nat} {f C : Addr} {fd : FuncData} {ps : List Str} {sp : Sp} {dvs : List V} {ds : List Value} {E : St -> XK} {x : Str} {p pos : Pos} {e : Expr} {es : List Expr} {t : TA}
theorem run_fnE {pins : List (Addr × Obj)} {σ : St} {H : Hp} {s : Shared} {Q : VK} {us : List Value} {vs : List V} {E : XK} (F : FnOk X.prog X.w X.K X.mg X.base CX k f fd ps sp) (hr : Room k X.A) (hb : Binds X.K fd ps ds) (hd : Vals dvs ds) (hx : PassesAt CX X σ E)
    (I : Inv X pins σ H s) (r : Vals vs us) (h : sp (vs ++ dvs) H Q E) : wpAny (model X.prog X.w) X.A (call (.ref f) us) (EP X pins σ Q) X.xe s := by
  have r2 : Vals (vs ++ dvs) (us ++ ds) := r.append hd
  have hl : (us ++ ds).length = ps.length := by rw [<- r2.length]; exact F.len _ _ _ _ h
  refine wpAny_call (codeAny_mono (F.run X.A X.stack s H ⟨us, []⟩ (us ++ ds) (vs ++ dvs) Q E hr I.env0 (hb s us I.kIn hl) r2 h) fun r s' hq => ?_)
  cases r with
  | error e => exact hx pins H s e s' I hq
  | ok fl =>
    cases fl with
    | ret u => exact I.after hq
    | next => exact False.elim hq
    | brk => exact False.elim hq
    | cont => exact False.elim hq
theorem pe_callE (F : FnOk X.prog X.w X.K X.mg X.base CX k f fd ps sp) (hr : Room k X.A) (hg : Gl X x) (hm : X.mg x = some (.ref f)) (hk : PySem.W.keepIn X.K (.ref f) = true) (hb : Binds X.K fd ps ds) (hd : Vals dvs ds) (hx : ∀ σ, PassesAt CX X σ (E σ))
    (ha : PA X (e :: es) t) (hdb : (x == ("__debug__" : Str)) = false := by decide) (he : starEach (e :: es) X.env = (false, eval e X.env) :: starEach es X.env := by rfl) (hpl : (backTo pos (starEach es X.env)).any (·.1) = false := by rfl) :
    PE X (.Call (.Name x p) (e :: es) [] pos) (tCallE sp dvs E t) := by
  intro pins s σ H Q I h
  refine wpAny_Call_Name_kw (ld_glob I hg hm ?_ hdb)
  refine PySem.W.callWith_K (h₀ := X.base) I.ok.mod.kin hk (thn (ha pos pins s σ H _ I h) fun us s1 ⟨vs, H1, I1, r, q⟩ => ⟨I1.kIn, ?_⟩) he hpl
  exact run_fnE F hr hb hd (hx σ) I1 r q
end
def excO (ea C : Addr) : HO := .ext (ExcAt ea C)
def Ends.un (D : Ends) (i : Nat) : Ends := { nx := fun σ H => D.nx (σ.set i none) H, rt := D.rt, bk := fun σ H => D.bk (σ.set i none) H, ct := fun σ H => D.ct (σ.set i none) H }
def tTry (K : PySem.W.Frag) (Ca : Addr) (i : Nat) (E : St -> XK) (tb ts : TS) : TS := fun D σ H => tb D σ H /\ ∀ σ' cls H', E σ' cls none H' ->
  ∃ C, cls = .ref C /\ PySem.W.exmOne K (.ref C) (.ref Ca) = some true /\ ∀ ea, H' ea = none -> ts (D.un i) (σ'.set i (some (.ref ea))) (upd H' ea (excO ea C))
theorem ps_try {X : Cx} {body : List Stmt} {c n : Str} {Ca : Addr} {np hpos pos : Pos} {b₀ : Stmt} {suite : List Stmt} {i : Nat} {E : St -> XK} {tb ts : TS} (hN : X.N.Nodup) (hi : X.N[i]? = some n) (hn : X.env.scope.names.lookup n = some .local)
    (hg : Gl X c) (hm : X.mg c = some (.ref Ca)) (hst : X.stack = X.env :: X.outer) (hL : X.env.frame = some X.env.locals) (hex : X.ex = [])
    (hb : ∀ xe pn, (∀ σ, PassesAt (CXe X.prog X.w) (X.body xe pn) σ (E σ)) -> PSs (X.body xe pn) body tb) (hs : ∀ ea pn, PSs (X.suite ea pn) (b₀ :: suite) ts) (hd : (c == ("__debug__" : Str)) = false := by decide) :
    PS X (.Try body [.ExceptHandler (some (.Name c np)) (some n) (b₀ :: suite) hpos] [] [] pos) (tTry X.K Ca i E tb ts) := by
  intro pins s σ H D I h
  obtain ⟨hbody, hhand⟩ := h
  have hB := hb (fun e s' => ∃ pins' σ' H1 s1, Inv (X.body (fun _ _ => True) (X.pn ++ pins)) pins' σ' H1 s1 /\ CXe X.prog X.w X.stack H1 s1 (E σ') e s') (X.pn ++ pins) (fun σ pins' H s e s' I' hcx => ⟨pins', σ, H, s, I'.reBody, hcx⟩) [] s σ H D I.toBody hbody
  refine wpAny_Try_except (wpAny_mono hB (fun f s1 q => ?_) fun e s1 q => ?_)
  . cases f with
    | next => obtain ⟨σ1, H1, I1, q1⟩ := q; exact wpAny_execs_nil ⟨σ1, H1, I1.ofBody, q1⟩
    | brk => obtain ⟨σ1, H1, I1, q1⟩ := q; exact ⟨σ1, H1, I1.ofBody, q1⟩
    | cont => obtain ⟨σ1, H1, I1, q1⟩ := q; exact ⟨σ1, H1, I1.ofBody, q1⟩
    | ret v => obtain ⟨x1, σ1, H1, I1, r1, q1⟩ := q; exact ⟨x1, σ1, H1, I1.ofBody, r1, q1⟩
  . obtain ⟨pins', σ', H1, s2, I2, ea, cls, a0, H', B, rfl, os, bare, fl, fw, hE⟩ := q
    obtain ⟨C, rfl, hexm, hts⟩ := hhand σ' cls H' hE
    have I2' : Inv X pins σ' H1 s2 := I2.ofBody
    have fr : X.A.frames = some (X.env :: X.outer) := by rw [I.ok.frames, hst]
    have frees := fly_frees I2' fl
    have fw0 := fw
    rw [hst] at fw
    have invAt : ∀ h', Heap.FlyingW B (X.env :: X.outer) ea (.ref C) a0 h' -> s1.heap.UpToSlots h' -> Inv X pins σ' H' { s1 with heap := h' } := fun h' fw' ups => by
      have fl2 := fl.move frees fw'.1 (fun b hb o e => by
        obtain ⟨_, o', ho', nf⟩ := fw0.2.2.1.mem hb
        rw [e] at ho'; cases ho'
        exact ups b o e nf)
      exact I2'.call' (s' := { s1 with heap := h' }) os fl2.un fl2.hok bare (fun b hb => by cases hb)
    refine wpAny_looks_onW fr hL fw fun h4 held4 up4 => ?_
    refine wpAny_landsW held4 fun h5 fw5 up5 => ?_
    have I5 := invAt h5 fw5 (up4.trans up5)
    have I5m : Inv (X.suite ea (X.pn ++ pins)) [] σ' H' { s1 with heap := h5 } := I5.toSuite
    refine wpAny_handleBy_cons (codeAny_handlers_test (ld_glob (X := X.suite ea (X.pn ++ pins)) I5m hg hm ?_ hd)) (by intro q; cases q)
    have LT : PySem.W.Looks (model X.prog X.w) h5 (typeOf (.ref ea)) (.ref C) := by
      obtain ⟨ob, hob, hoc⟩ := fw5.there
      exact hoc ▸ (PySem.W.Looks.ld hob).andThen .now
    refine (PySem.W.exm_one (K := X.K) (M := model X.prog X.w) I5.kIn LT hexm) _ _ _ _ (fun b o e => e) ?_
    refine codeAny_handlers_suite_as ?_
    refine lands_againW fw5 fun h6 fw6 up6 => ?_
    have I6 := invAt h6 fw6 ((up4.trans up5).trans up6)
    -- the exception's object is not tracked yet
    have hne : H' ea = none := by
      cases q : H' ea with
      | none => rfl
      | some u =>
        have nfs : ea ∉ frs X.stack := fun z => by rw [frees ea z] at q; cases q
        obtain ⟨o, ho⟩ := (fl.hok ea u q).there
        have := fl.cov ea o ho (.inl (by rw [q]; simp)) nfs
        rw [fw.2.1] at this
        cases this
    have new : ObjOk X.prog X.w (upd H' ea (excO ea C)) h6 ea (excO ea C) := by
      obtain ⟨ob, hob, hoc⟩ := fw6.there
      refine ⟨⟨ob, hob, hoc⟩, ⟨ob, hob⟩, fun g1 g2 ⟨o1, e1, c1⟩ k => ⟨o1, k o1 e1, c1⟩⟩
    have hsz : s2.heap.get? ea = none := by
      cases q : s2.heap.get? ea with
      | none => rfl
      | some o =>
        by_cases z : ea ∈ frs X.stack
        . obtain ⟨_, o', ho', nf⟩ := fw0.2.2.1.mem z
          obtain ⟨oe, vs, hoe, _, hdt, _⟩ := fw.first
          rw [ho'] at hoe; cases hoe
          exact absurd hdt (nf vs)
        . obtain ⟨o', e'⟩ := fl.un.there ea o q (by simp)
          have := fl.cov ea o' e' (.inr ⟨o, q⟩) z
          rw [fw.2.1] at this
          cases this
    have I6t : Inv X pins σ' (upd H' ea (excO ea C)) { s1 with heap := h6 } := by
      refine ⟨I6.ok, I6.os, I6.bare, ?_, I6.loc, I6.cell, ?_, fun x c e => ?_, fun p hp => ?_, I6.hok.track hne new, I6.len⟩
      . -- newer than the entry
        have h0 : X.s₀.heap.get? ea = none := by
          cases q : X.s₀.heap.get? ea with
          | none => rfl
          | some o =>
            obtain ⟨o', e'⟩ := I2'.base.there ea o q (by rw [hex]; simp)
            rw [hsz] at e'; cases e'
        refine ⟨I6.base.keep, I6.base.slot, fun b o e n hx => ?_, I6.base.there, fun b xs q => ?_, fun b ob xs q => ?_, fun b ps q => ?_⟩
        . rw [upd_ne (fun z => by rw [z, h0] at e; cases e)]; exact I6.base.free b o e n hx
        . have := I6.base.tups b xs q; rw [upd_ne (ne_of_none this hne)]; exact this
        . have := I6.base.frzs b ob xs q; rw [upd_ne (ne_of_none this hne)]; exact this
        . obtain ⟨more, e⟩ := I6.base.tbls b ps q
          exact ⟨more, by rw [upd_ne (ne_of_none e hne)]; exact e⟩
      . rw [upd_ne (fun z => ?_)]
        . exact I6.free
        . have := I2'.lt
          obtain ⟨m, ⟨o, _, _, ho, _⟩, _⟩ := I2'.loc
          rw [z, hsz] at ho; cases ho
      . rw [upd_ne (fun z => ?_)]
        . exact I6.freeC x c e
        . obtain ⟨v, o, ho, _⟩ := I2'.cell x c e
          rw [z, hsz] at ho; cases ho
      . obtain ⟨e, n, r⟩ := I6.pin p hp
        refine ⟨e, ?_, r⟩
        rw [upd_ne (fun z => ?_)]
        . exact n
        . have := (I2'.pin p hp).1
          rw [z, hsz] at this; cases this
    have I6m : Inv (X.suite ea (X.pn ++ pins)) [] σ' (upd H' ea (excO ea C)) { s1 with heap := h6 } := I6t.toSuite
    refine store_ok (X := X.suite ea (X.pn ++ pins)) I6m hN hi (.inl hn) (v := .ref ea) rfl (fun s7 I7 => ?_) (.inr hn)
    refine wpAny_mono (hs ea (X.pn ++ pins) [] s7 _ _ (D.un i) I7 (hts ea hne)) (fun f s8 q8 => ?_) (fun _ _ z => False.elim z)
    have hcl : (X.env.scope.kind == .class || (X.env.scope.kind == .module && X.env.locals != X.env.globals)) = false := by rw [I.ok.kind]; rfl
    have goes : ∀ {σ8 : St} {H8 : Hp}, Inv (X.suite ea (X.pn ++ pins)) [] σ8 H8 s8 -> ∀ (R : Unit -> Shared -> Prop), (∀ s9, Inv X pins (σ8.set i none) H8 s9 -> R () s9) ->
        wpAny (model X.prog X.w) X.A (do bindName X.env n .none; unbindBehindTheSuite X.env n hpos) R X.xe s8 := fun {σ8 H8} I8 R hR => by
      have I8' : Inv X pins σ8 H8 s8 := I8.ofSuite I.ok.hd
      obtain ⟨m, hns, hl⟩ := I8'.loc
      exact wpAny_nameGoes_keeps hn hns hcl fun h9 v hn9 sb => hR _ (I8'.forget hN hi hn hl hns hn9 sb)
    cases f with
    | next => obtain ⟨σ8, H8, I8, q⟩ := q8; exact goes I8 _ fun s9 I9 => ⟨_, H8, I9, q⟩
    | brk => obtain ⟨σ8, H8, I8, q⟩ := q8; exact goes I8 _ fun s9 I9 => ⟨_, H8, I9, q⟩
    | cont => obtain ⟨σ8, H8, I8, q⟩ := q8; exact goes I8 _ fun s9 I9 => ⟨_, H8, I9, q⟩
    | ret v => obtain ⟨x8, σ8, H8, I8, r8, q⟩ := q8; exact goes I8 _ fun s9 I9 => ⟨x8, _, H8, I9, r8, q⟩
theorem call_isinstE {X : Cx} : CallR X (.builtin "isinstance") (fun xs H Q => ∃ ea C c cv b, xs = [.ref ea, c] /\ H ea = some (excO ea C) /\ ExcCls X.K C /\ (∀ u, RelV c u -> u = cv) /\ PySem.W.kitOne X.K (.ref C) cv = some b /\ Q (.bl b) H) := by
  intro pins s σ H xs us Q I r h
  obtain ⟨ea, C, c, cv, b, rfl, hea, hC, hc, hk, q⟩ := h
  obtain ⟨u, w', rfl, rx, rc⟩ := vals2 r
  rw [hc _ rc]
  cases rx
  obtain ⟨p, _, _⟩ := (show ObjOk X.prog X.w H s.heap ea (.ext (ExcAt ea C)) from I.hok ea _ hea)
  exact PySem.W.kia_one (kitx_exc hC) I.kIn p hk (fun z => nomatch z) fun tk => ⟨.bl b, H, I.tok tk, rfl, q⟩
end L2
set_option Elab.async false
set_option linter.all false
set_option maxRecDepth 100000
set_option maxHeartbeats 4000000
namespace HT
open PySem PySem.Spec PyProof.Rows
open PySem.AutoSeq1 (wpAny_loadPart')
section
open PySem.SeqAt PySem.MeetsSeq PySem.MeetsSeq2 PySem.MeetsSeq3
end
end HT
namespace L2
open PySem PySem.Spec PyProof.Rows
section
variable {X : Cx}
end
section
variable {K : PySem.W.Frag} {H : Hp} {Q : VK}
end
inductive TyW (K : PySem.W.Frag) (H : Hp) : V -> Value -> Prop where
  | non : TyW K H .non (.type "NoneType")
  | bl (x : Bool) : TyW K H (.bl x) (.type "bool")
  | int (i : Int) : TyW K H (.int i) (.type "int")
  | str (x : Str) : TyW K H (.str x) (.type "str")
  | lst {a : Addr} {xs : List V} (e : SqL K H a xs) : TyW K H (.ref a) (.type "list")
  | tup {a : Addr} {xs : List V} (e : SqT K H a xs) : TyW K H (.ref a) (.type "tuple")
  | exc {a C : Addr} (e : H a = some (excO a C)) (c : ExcCls K C) : TyW K H (.ref a) (.ref C)
theorem call_isinstW {X : Cx} : CallR X (.builtin "isinstance") (fun xs H Q => ∃ x c cv t b, xs = [x, c] /\ TyW X.K H x t /\ (∀ u, RelV c u -> u = cv) /\ PySem.W.kitOne X.K t cv = some b /\ Q (.bl b) H) := by
  intro pins s σ H xs us Q I r h
  obtain ⟨x, c, cv, t, b, rfl, ty, hc, hk, q⟩ := h
  cases ty with
  | non => exact call_isinst pins s σ H _ us Q I r ⟨_, c, cv, _, b, rfl, .non, hc, hk, q⟩
  | bl y => exact call_isinst pins s σ H _ us Q I r ⟨_, c, cv, _, b, rfl, .bl y, hc, hk, q⟩
  | int y => exact call_isinst pins s σ H _ us Q I r ⟨_, c, cv, _, b, rfl, .int y, hc, hk, q⟩
  | str y => exact call_isinst pins s σ H _ us Q I r ⟨_, c, cv, _, b, rfl, .str y, hc, hk, q⟩
  | exc e hC => exact call_isinstE pins s σ H _ us Q I r ⟨_, _, c, cv, b, rfl, e, hC, hc, hk, q⟩
  | @lst a xs e =>
    obtain ⟨u, w', rfl, rx, rc⟩ := vals2 r
    rw [hc _ rc]
    cases rx
    obtain ⟨its, _, pl, _⟩ := I.list e
    obtain ⟨o, ho, hcl, _⟩ := pl.isList
    exact PySem.W.kia_one PySem.W.kitx_list I.kIn ⟨o, ho, hcl⟩ hk (fun z => nomatch z) fun tk => ⟨.bl b, H, I.tok tk, rfl, q⟩
  | @tup a xs e =>
    obtain ⟨u, w', rfl, rx, rc⟩ := vals2 r
    rw [hc _ rc]
    cases rx
    obtain ⟨its, _, ⟨o, ho, hcl, _⟩, _⟩ := I.tuple e
    exact PySem.W.kia_one PySem.W.kitx_tuple I.kIn ⟨o, ho, hcl⟩ hk (fun z => nomatch z) fun tk => ⟨.bl b, H, I.tok tk, rfl, q⟩
end L2
set_option Elab.async false
set_option linter.all false
set_option maxRecDepth 100000
set_option maxHeartbeats 4000000
namespace GW
def placeR (L : Int) : List Int -> Int
  | [] => 0
  | x :: r => placeR L r * L + x + 1
def place (L : Int) (w : List Int) : Int := placeR L w.reverse
def inW (L x : Int) : Bool := decide (0 <= x) && decide (x < L)
def isW (L : Int) (ws : List Int) : Bool := ws.all (inW L)
theorem inW_iff {L x : Int} : inW L x = true ↔ 0 <= x /\ x < L := by simp [inW]
theorem isW_iff {L : Int} {ws : List Int} : isW L ws = true ↔ ∀ x ∈ ws, 0 <= x /\ x < L := by simp [isW, inW_iff]
def many (L : Int) : Nat -> Int
  | 0 => 0
  | k + 1 => many L k * L + 1
end GW
set_option Elab.async false
set_option linter.all false
set_option maxRecDepth 100000
set_option maxHeartbeats 4000000
namespace PySem
section
variable {prog : Program} {w : World} {A : Around} {E : Value -> Shared -> Prop} {s : Shared}
variable {I r : Addr} {T : String} {n : Nat} {wr : Addr -> Prop} {J : Nat -> List Value -> Heap -> Prop} {Fn : List Value -> Heap -> Prop} {R : Result -> Shared -> Prop} {res : Value}
end
end PySem
set_option Elab.async false
set_option linter.all false
set_option maxRecDepth 100000
set_option maxHeartbeats 4000000
namespace PySem
open Sem (wp)
open AutoSeq1 (wpAny_loadPart')
namespace F
end F
section
variable {prog : Program} {w : World} {A : Around} {E : Value -> Shared -> Prop} {s : Shared}
end
end PySem
namespace L2
open PySem PySem.Spec PyProof.Rows
section
variable {P : Program} {w : World} {K : PySem.W.Frag} {mg : Str -> Option Value} {base : Heap}
theorem Fun.okE {x qual : Str} {st : Stmt} {f : Addr} {fd : FuncData} {N ps : List Str} {k : Nat} {sp : Sp} (F : Fun K x qual st f fd) (S : FnScope N ps (defScope st)) (len : ∀ vs H Q E, sp vs H Q E -> vs.length = ps.length)
    (hbody : ∀ (cdv : Value) (A : Around) (outer : List Env) (s : Shared) (H : Hp) (vs : List V) (Q : VK) (E : XK), Room k (A.deeper (envOfC qual (defScope st) s.heap.objs.size f cdv)) -> sp vs H Q E ->
      ∃ t, PSs (cxOf (CXe P w) P w K mg base N qual (defScope st) f cdv A outer s H E) (defBody st) t /\ t { nx := fun _ H' => Q .non H', rt := Q } (start N vs) H) : FnOk P w K mg base (CXe P w) (k + 1) f fd ps sp := by
  obtain ⟨oc, od, kV, doc, pm, an, cdv, ct, osl, rfl, lk, hcd⟩ := F.ex
  exact fn_of lk hcd S len fun A outer s H vs Q E hr hsp => hbody cdv A outer s H vs Q E hr hsp
theorem passNev {X : Cx} : Passes (CXe P w) X E0 := fun _ _ _ _ _ _ _ h => by
  obtain ⟨_, _, _, _, _, _, _, _, _, _, q⟩ := h
  exact q.elim
end
section
variable {te ta tb : TE} {A : TA} {D : Ends} {σ : St} {H : Hp} {Q : VK} {K : PySem.W.Frag} {tbd ts : TS}
theorem r_cat {x y : V} : rCat x y H Q = ∃ l b xs zs, x = .ref l /\ y = .ref b /\ H l = some (.lst xs) /\ H b = some (.lst zs) /\ xs.length + zs.length <= sizeLine /\ ∀ p, H p = none -> Q (.ref p) (upd H p (.lst (xs ++ zs))) := rfl
theorem r_rep {x y : V} : rRep x y H Q = ∃ l k xs, x = .ref l /\ y = .int k /\ H l = some (.lst xs) /\ -(2 ^ 63) <= k /\ k < 2 ^ 63 /\ xs.length * k.toNat <= sizeLine /\ ∀ p, H p = none -> Q (.ref p) (upd H p (.lst (List.replicate k.toNat xs).flatten)) := rfl
theorem r_raise {C : Addr} {E : XK} : tRaise C E A D σ H = A σ H fun vs H1 => vs.length <= sizeLine /\ E (.ref C) none H1 := rfl
theorem r_callE {sp : Sp} {dvs : List V} {E : St -> XK} : tCallE sp dvs E A σ H Q = A σ H fun vs H1 => sp (vs ++ dvs) H1 Q (E σ) := rfl
theorem r_try {Ca : Addr} {i : Nat} {E : St -> XK} : tTry K Ca i E tbd ts D σ H = (tbd D σ H /\ ∀ σ' cls H', E σ' cls none H' ->
  ∃ C, cls = .ref C /\ PySem.W.exmOne K (.ref C) (.ref Ca) = some true /\ ∀ ea, H' ea = none -> ts (D.un i) (σ'.set i (some (.ref ea))) (upd H' ea (excO ea C))) := rfl
theorem r_unnx {i : Nat} : (Ends.un D i).nx σ H = D.nx (σ.set i none) H := rfl
theorem r_unrt {i : Nat} {v : V} : (Ends.un D i).rt v H = D.rt v H := rfl
end
section
variable {X : Cx} {tg : Expr}
end
end L2
namespace L2
open PySem PySem.Spec PyProof.Rows
theorem eqV_int (x y : Int) : eqV (.int x) (.int y) = decide (V.int x = V.int y) := by
  by_cases h : x = y
  . subst h; simp [eqV]
  . rw [decide_eq_false (fun z => h (by injection z))]; simp [eqV, h]
theorem EqD.ints {K : PySem.W.Frag} {H : Hp} {a c : Addr} {xs ys : List Int} (hq : (SqL K H a (xs.map V.int) /\ SqL K H c (ys.map V.int)) \/ (SqT K H a (xs.map V.int) /\ SqT K H c (ys.map V.int))) (n : Nat) : EqD K H (n + 1) (.ref a) (.ref c) (decide (xs = ys)) := by
  have := EqD.flat hq (fun x hx => by obtain ⟨_, _, rfl⟩ := mem_mapI hx; rfl) (fun x hx => by obtain ⟨_, _, rfl⟩ := mem_mapI hx; rfl) (fun x hx y hy => by obtain ⟨_, _, rfl⟩ := mem_mapI hx; obtain ⟨_, _, rfl⟩ := mem_mapI hy; exact eqV_int _ _) n
  have e : decide (xs.map V.int = ys.map V.int) = decide (xs = ys) := by
    rw [Bool.eq_iff_iff]
    simp only [decide_eq_true_eq]
    constructor
    . intro h
      exact (List.map_inj_right (fun a b h => by injection h)).mp h
    . intro h; rw [h]
  rw [e] at this
  exact this
end L2
namespace GW
end GW
namespace GW
end GW
namespace L2
open PySem PySem.Spec PyProof.Rows
def iSeq (K : PySem.W.Frag) (tl : TE) : TI := fun σ H R => tl σ H fun x H1 => ∃ a, x = .ref a /\ (((∃ xs, SqL K H1 a xs) /\ R (Itl K a) H1) \/ ((∃ xs, SqT K H1 a xs) /\ R (Itt K a) H1))
theorem r_iSeq {K : PySem.W.Frag} {te : TE} {σ : St} {H : Hp} {Z : It -> Hp -> Prop} : iSeq K te σ H Z = te σ H fun x H1 => ∃ a, x = .ref a /\ (((∃ xs, SqL K H1 a xs) /\ Z (Itl K a) H1) \/ ((∃ xs, SqT K H1 a xs) /\ Z (Itt K a) H1)) := rfl
theorem pi_seq {X : Cx} {tg l : Expr} {tl : TE} (hl : PE X l tl) : PI X tg l (iSeq X.K tl) := by
  intro pins s σ H R I h
  refine thn (hl pins s σ H _ I h) fun v s1 ⟨x, H1, I1, r1, q1⟩ => ?_
  obtain ⟨a, e, q⟩ := q1
  subst e
  cases r1
  rcases q with ⟨⟨xs, hq⟩, q⟩ | ⟨⟨xs, hq⟩, q⟩
  . obtain ⟨its, rv, p, hz⟩ := I1.list hq
    refine wpAny_pyIter_list p.isList ?_
    refine ⟨s1.heap.objs.size, [s1.heap.objs.size], _, _, H1, rfl, I1.kept (t' := s1.toks) fun b o e => Heap.get?_push_of_some _ e, turn_list a _, ⟨_, Heap.get?_push_size _ rfl, rfl, rfl⟩, fun b hb => ?_, q⟩
    have e : b = s1.heap.objs.size := by simpa using hb
    subst e
    exact I1.fpOk (Nat.le_refl _) (I1.hok.fresh (Nat.le_refl _))
  . obtain ⟨its, rv, p, hz⟩ := I1.tuple hq
    refine wpAny_pyIter_tuple (show s1.heap.IsTuple a its.toArray from p) ?_
    refine ⟨s1.heap.objs.size, [s1.heap.objs.size], _, _, H1, rfl, I1.kept (t' := s1.toks) fun b o e => Heap.get?_push_of_some _ e, turn_tuple a _, ⟨_, Heap.get?_push_size _ rfl, rfl, rfl⟩, fun b hb => ?_, q⟩
    have e : b = s1.heap.objs.size := by simpa using hb
    subst e
    exact I1.fpOk (Nat.le_refl _) (I1.hok.fresh (Nat.le_refl _))
end L2
namespace GW
end GW
namespace L2
open PySem PySem.Spec PyProof.Rows
end L2
namespace L2
open PySem PySem.Spec PyProof.Rows
theorem call_isinstK {X : Cx} {K : PySem.W.Frag} (hK : X.K = K) : CallR X (.builtin "isinstance") (fun xs H Q => ∃ x c cv t b, xs = [x, c] /\ TyW K H x t /\ (∀ u, RelV c u -> u = cv) /\ PySem.W.kitOne K t cv = some b /\ Q (.bl b) H) := by
  subst hK
  exact call_isinstW
end L2
namespace L2
open PySem PySem.Spec PyProof.Rows
section
variable {X : Cx} {K : PySem.W.Frag}
end
end L2
set_option Elab.async false
set_option linter.all false
set_option maxRecDepth 100000
set_option maxHeartbeats 4000000
namespace GW
def stepW (ways : List (List Int)) (r x : Int) : Int := (ways.getD r.toNat []).getD x.toNat 0
def walkW (ways : List (List Int)) (ws : List Int) : Int := ws.foldl (stepW ways) 0
def trailW (ways : List (List Int)) (ws : List Int) : List Int := (List.range (ws.length + 1)).map fun j => walkW ways (ws.take j)
structure Wf (L : Int) (marks : List Int) (ways : List (List Int)) : Prop where
  l1 : 1 <= L
  l6 : L <= 6
  n1 : 1 <= marks.length
  n40 : marks.length <= 40
  len : ways.length = marks.length
  rows : ∀ row ∈ ways, (row.length : Int) = L /\ ∀ x ∈ row, 0 <= x /\ x < marks.length
  mks : ∀ m ∈ marks, 0 <= m /\ m <= 1000000000
theorem stepW_of {ways : List (List Int)} {r x : Int} {row : List Int} {g : Int} (h1 : ways[r.toNat]? = some row) (h2 : row[x.toNat]? = some g) : stepW ways r x = g := by
  unfold stepW
  have e : ways.getD r.toNat [] = row := by rw [List.getD_eq_getElem?_getD, h1]; rfl
  rw [e, List.getD_eq_getElem?_getD, h2]; rfl
theorem Wf.row {L : Int} {marks : List Int} {ways : List (List Int)} (wf : Wf L marks ways) {r : Int} (h0 : 0 <= r) (h1 : r < marks.length) : ∃ row, ways[r.toNat]? = some row /\ row ∈ ways /\ (row.length : Int) = L := by
  have hlt : r.toNat < ways.length := by rw [wf.len]; omega
  exact ⟨ways[r.toNat], by simp [hlt], List.getElem_mem hlt, (wf.rows _ (List.getElem_mem hlt)).1⟩
theorem Wf.step {L : Int} {marks : List Int} {ways : List (List Int)} (wf : Wf L marks ways) {r x : Int} (h0 : 0 <= r) (h1 : r < marks.length) (x0 : 0 <= x) (x1 : x < L) : ∃ row g, ways[r.toNat]? = some row /\ row[x.toNat]? = some g /\ stepW ways r x = g /\ 0 <= g /\ g < marks.length := by
  obtain ⟨row, hr, hm, hl⟩ := wf.row h0 h1
  have hlt : x.toNat < row.length := by omega
  have hg : row[x.toNat]? = some row[x.toNat] := by simp [hlt]
  exact ⟨row, row[x.toNat], hr, hg, stepW_of hr hg, (wf.rows row hm).2 _ (List.getElem_mem hlt)⟩
theorem walkW_snoc (ways : List (List Int)) (ws : List Int) (x : Int) : walkW ways (ws ++ [x]) = stepW ways (walkW ways ws) x := by
  unfold walkW
  rw [List.foldl_append]; rfl
theorem walkW_take {ways : List (List Int)} {ws : List Int} {i : Nat} {x : Int} (h : ws[i]? = some x) : walkW ways (ws.take (i + 1)) = stepW ways (walkW ways (ws.take i)) x := by
  rw [List.take_add_one, h]
  exact walkW_snoc _ _ _
theorem Wf.walk {L : Int} {marks : List Int} {ways : List (List Int)} (wf : Wf L marks ways) {ws : List Int} (hw : isW L ws = true) : ∀ i, 0 <= walkW ways (ws.take i) /\ walkW ways (ws.take i) < marks.length := by
  intro i
  induction i with
  | zero => have := wf.n1; simp [walkW]; omega
  | succ i ih =>
    cases e : ws[i]? with
    | none =>
      have hle := List.getElem?_eq_none_iff.mp e
      rw [List.take_of_length_le (by omega)]
      rw [List.take_of_length_le hle] at ih
      exact ih
    | some x =>
      rw [walkW_take e]
      have hx := isW_iff.mp hw x (List.mem_of_getElem? e)
      obtain ⟨_, g, _, _, h, h0, h1⟩ := wf.step ih.1 ih.2 hx.1 hx.2
      rw [h]; exact ⟨h0, h1⟩
theorem trailW_length (ways : List (List Int)) (ws : List Int) : (trailW ways ws).length = ws.length + 1 := by simp [trailW]
theorem trailW_get {ways : List (List Int)} {ws : List Int} {i : Nat} (h : i <= ws.length) : (trailW ways ws)[i]? = some (walkW ways (ws.take i)) := by
  unfold trailW
  rw [List.getElem?_map, List.getElem?_range (by omega)]; rfl
theorem trailW_last (ways : List (List Int)) (ws : List Int) : (trailW ways ws)[ws.length]? = some (walkW ways ws) := by
  rw [trailW_get (Nat.le_refl _), List.take_length]
end GW
namespace L2
open PySem PySem.Spec PyProof.Rows GW
def Rows (K : PySem.W.Frag) (H : Hp) (w : Addr) (ways : List (List Int)) : Prop := ∃ ts : List Addr, SqT K H w (ts.map V.ref) /\ ts.length = ways.length /\ ∀ (i : Nat) (t : Addr) (row : List Int), ts[i]? = some t -> ways[i]? = some row -> SqT K H t (row.map V.int)
def House (K : PySem.W.Frag) (H : Hp) (h : Addr) (L : Int) (marks : List Int) (ways : List (List Int)) : Prop := ∃ m w : Addr, SqT K H h [.int L, .ref m, .ref w] /\ SqT K H m (marks.map V.int) /\ Rows K H w ways
theorem Rows.mono {K : PySem.W.Frag} {H H' : Hp} {w : Addr} {ways : List (List Int)} (h : Rows K H w ways) (e : Same H H') : Rows K H' w ways := by
  obtain ⟨ts, h1, h2, h3⟩ := h
  exact ⟨ts, e.seqT h1, h2, fun i t r a b => e.seqT (h3 i t r a b)⟩
theorem House.mono {K : PySem.W.Frag} {H H' : Hp} {h : Addr} {L : Int} {marks : List Int} {ways : List (List Int)} (x : House K H h L marks ways) (e : Same H H') : House K H' h L marks ways := by
  obtain ⟨m, w, h1, h2, h3⟩ := x
  exact ⟨m, w, e.seqT h1, e.seqT h2, h3.mono e⟩
theorem Rows.at {K : PySem.W.Frag} {H : Hp} {w : Addr} {ways : List (List Int)} (h : Rows K H w ways) {i : Nat} {row : List Int} (hr : ways[i]? = some row) : ∃ xs t, SqT K H w xs /\ atI xs (i : Int) = some (V.ref t) /\ SqT K H t (row.map V.int) := by
  obtain ⟨ts, h1, h2, h3⟩ := h
  have hlt : i < ts.length := by rw [h2]; exact (List.getElem?_eq_some_iff.mp hr).1
  have ht : ts[i]? = some ts[i] := by simp [hlt]
  exact ⟨_, ts[i], h1, atI_nat (by rw [List.getElem?_map, ht]; rfl), h3 i _ _ ht hr⟩
theorem Rows.atZ {K : PySem.W.Frag} {H : Hp} {w : Addr} {ways : List (List Int)} (h : Rows K H w ways) {r : Int} {row : List Int} (h0 : 0 <= r) (hr : ways[r.toNat]? = some row) : ∃ xs t, SqT K H w xs /\ atI xs r = some (V.ref t) /\ SqT K H t (row.map V.int) := by
  obtain ⟨xs, t, a, b, c⟩ := h.at hr
  exact ⟨xs, t, a, by rw [<- b]; congr 1; omega, c⟩
theorem atI_end {α : Type} {xs : List α} {v : α} (h : xs[xs.length - 1]? = some v) : atI xs (-1) = some v := by
  have hlt := (List.getElem?_eq_some_iff.mp h).1
  unfold atI ixN
  rw [if_neg (by omega), if_pos (by omega)]
  show xs[(-1 + (xs.length : Int)).toNat]? = some v
  rw [show (-1 + (xs.length : Int)).toNat = xs.length - 1 by omega]
  exact h
theorem atI_int {ns : List Int} {i : Int} {v : Int} (h0 : 0 <= i) (h : ns[i.toNat]? = some v) : atI (ns.map V.int) i = some (V.int v) := atI_of h0 (by rw [List.getElem?_map, h]; rfl)
end L2
namespace L2
open PySem PySem.Spec PyProof.Rows GW
theorem seqT_off {K : PySem.W.Frag} {H : Hp} {p t : Addr} {xs ys zs : List V} (hp : H p = some (.lst zs)) (h : SqT K H t xs) : SqT K (upd H p (.lst ys)) t xs := by
  rcases h with (q | ⟨o, q⟩) | q
  . refine .inl (.inl ?_)
    rw [upd_ne (fun z => by rw [z, hp] at q; cases q)]; exact q
  . refine .inl (.inr ⟨o, ?_⟩)
    rw [upd_ne (fun z => by rw [z, hp] at q; cases q)]; exact q
  . exact .inr q
def TupsL (K : PySem.W.Frag) (H : Hp) (l : Addr) (ws : List (List Int)) : Prop := ∃ ts : List Addr, H l = some (.lst (ts.map V.ref)) /\ ts.length = ws.length /\ ∀ (i : Nat) (t : Addr) (w : List Int), ts[i]? = some t -> ws[i]? = some w -> SqT K H t (w.map V.int)
theorem TupsL.mono {K : PySem.W.Frag} {H H' : Hp} {l : Addr} {ws : List (List Int)} (h : TupsL K H l ws) (e : Same H H') : TupsL K H' l ws := by
  obtain ⟨ts, h1, h2, h3⟩ := h
  exact ⟨ts, e _ _ h1, h2, fun i t w a b => e.seqT (h3 i t w a b)⟩
theorem TupsL.off {K : PySem.W.Frag} {H : Hp} {l p : Addr} {ws : List (List Int)} {zs ys : List V} (h : TupsL K H l ws) (hp : H p = some (.lst zs)) (ne : l ≠ p) : TupsL K (upd H p (.lst ys)) l ws := by
  obtain ⟨ts, h1, h2, h3⟩ := h
  exact ⟨ts, by rw [upd_ne ne]; exact h1, h2, fun i t w a b => seqT_off hp (h3 i t w a b)⟩
theorem TupsL.push {K : PySem.W.Frag} {H : Hp} {l t : Addr} {ws : List (List Int)} {w : List Int} (h : TupsL K H l ws) (hw : SqT K H t (w.map V.int)) : ∃ xs, H l = some (.lst xs) /\ xs.length = ws.length /\ TupsL K (upd H l (.lst (xs ++ [V.ref t]))) l (ws ++ [w]) := by
  obtain ⟨ts, h1, h2, h3⟩ := h
  refine ⟨ts.map V.ref, h1, by rw [List.length_map, h2], ts ++ [t], by rw [upd_same, List.map_append]; rfl, by simp [h2], fun i t' w' a b => seqT_off h1 ?_⟩
  by_cases hi : i < ts.length
  . rw [List.getElem?_append_left hi] at a
    rw [List.getElem?_append_left (by omega)] at b
    exact h3 i t' w' a b
  . have ht := (List.getElem?_eq_some_iff.mp a).1
    rw [List.length_append, List.length_singleton] at ht
    have e : i = ts.length := by omega
    subst e
    rw [List.getElem?_append_right (Nat.le_refl _), Nat.sub_self] at a
    rw [List.getElem?_append_right (by omega), h2, Nat.sub_self] at b
    simp at a b
    subst a b
    exact hw
theorem TupsL.nil {K : PySem.W.Frag} {H : Hp} {l : Addr} (h : H l = some (.lst [])) : TupsL K H l [] := ⟨[], h, rfl, fun i t w a _ => by simp at a⟩
theorem TupsL.rows {K : PySem.W.Frag} {H : Hp} {l : Addr} {ws : List (List Int)} (h : TupsL K H l ws) : ∃ xs, H l = some (.lst xs) /\ ∀ t, H t = none -> Rows K (upd H t (.tup xs)) t ws := by
  obtain ⟨ts, h1, h2, h3⟩ := h
  exact ⟨_, h1, fun t ht => ⟨ts, SqT.of upd_same, h2, fun i t' w a b => (Same.new ht).seqT (h3 i t' w a b)⟩⟩
end L2
set_option Elab.async false
set_option linter.all false
set_option maxRecDepth 100000
set_option maxHeartbeats 4000000
namespace PySem
open Sem (wp)
open AutoSeq1 (wpAny_loadPart')
section
variable {prog : Program} {w : World} {A : Around} {E : Value -> Shared -> Prop} {s : Shared}
end
end PySem
namespace L2
open PySem PySem.Spec PyProof.Rows
section
variable {X : Cx} {pins : List (Addr × Obj)} {σ : St} {H : Hp} {s : Shared}
end
theorem r_gTup {K : PySem.W.Frag} {n : Nat} {t : TGs} {v : V} {σ : St} {H : Hp} {N : St -> Hp -> Prop} : gTup K n t v σ H N = ∃ a xs, v = .ref a /\ SqT K H a xs /\ xs.length = n /\ t xs σ H N := rfl
theorem r_gCons {t : TG} {u : TGs} {vs : List V} {σ : St} {H : Hp} {N : St -> Hp -> Prop} : gCons t u vs σ H N = ∃ v r, vs = v :: r /\ t v σ H fun σ' H' => u r σ' H' N := rfl
theorem r_gNil {vs : List V} {σ : St} {H : Hp} {N : St -> Hp -> Prop} : gNil vs σ H N = (vs = [] /\ N σ H) := rfl
section
variable {td ty tv tx : TE} {D : Ends} {σ : St} {H : Hp} {Q : VK}
end
end L2
namespace HT
open PySem PySem.Spec PyProof.Rows
section
open PySem.SeqAt PySem.MeetsSeq PySem.MeetsSeq2 PySem.MeetsSeq3
open PySem.AutoSeq1 (wpAny_loadPart')
end
end HT
namespace L2
open PySem PySem.Spec PyProof.Rows
end L2
set_option Elab.async false
set_option linter.all false
set_option maxRecDepth 100000
set_option maxHeartbeats 4000000
namespace GW
end GW
namespace L2
open PySem PySem.Spec PyProof.Rows GW
end L2
namespace L2
theorem r_cont {D : Ends} {σ : St} {H : Hp} : tCont D σ H = D.ct σ H := rfl
end L2
namespace L2
open PySem PySem.Spec PyProof.Rows
def ups (n : Nat) : List Int := (List.range n).map fun i : Nat => (i : Int)
end L2
namespace L2
open PySem PySem.Spec PyProof.Rows
def rNeD (K : PySem.W.Frag) (n : Nat) : R2 := fun x y H Q => ∃ a c b, x = .ref a /\ y = .ref c /\ EqD K H n x y b /\ Q (.bl (!b)) H
theorem r_neD {K : PySem.W.Frag} {n : Nat} {x y : V} {H : Hp} {Q : VK} : rNeD K n x y H Q = ∃ a c b, x = .ref a /\ y = .ref c /\ EqD K H n x y b /\ Q (.bl (!b)) H := rfl
theorem op_neD {X : Cx} (n : Nat) (hu : X.A.units + n < cLine) : OpR X (compareOp .NotEq) (rNeD X.K n) := by
  intro pins s σ H x y v u Q I rx ry h
  obtain ⟨a, c, b, rfl, rfl, h, q⟩ := h
  cases rx
  cases ry
  cases n with
  | zero => exact absurd (show false = true from h.1) Bool.false_ne_true
  | succ n =>
    rcases h with ⟨fx, _⟩ | ⟨a', c', xs, ys, e1, e2, hq, e, he, rfl⟩
    . exact absurd (show false = true from fx) Bool.false_ne_true
    . cases e1
      cases e2
      have key : ∀ (its its2 : List Value), Vals xs its -> Vals ys its2 -> ∀ j (h1 : j < its.toArray.size) (h2 : j < its2.toArray.size), SeqAt.EqAt X.A.in1 s its.toArray[j] its2.toArray[j] (e j) := fun its its2 r1 r2 j h1 h2 => by
        have l1 := r1.length
        have l2 := r2.length
        rw [List.size_toArray] at h1 h2
        obtain ⟨u1, g1, q1⟩ := r1.get (i := j) (x := xs[j]'(by omega)) (by simp [show j < xs.length by omega])
        obtain ⟨u2, g2, q2⟩ := r2.get (i := j) (x := ys[j]'(by omega)) (by simp [show j < ys.length by omega])
        have k1 : its.toArray[j]'(by rw [List.size_toArray]; exact h1) = u1 := by
          have := (List.getElem?_eq_some_iff.mp g1).2
          simpa using this
        have k2 : its2.toArray[j]'(by rw [List.size_toArray]; exact h2) = u2 := by
          have := (List.getElem?_eq_some_iff.mp g2).2
          simpa using this
        rw [k1, k2]
        exact (EqD.at I n X.A.in1 (by rw [in1_units]; omega) q1 q2 (he j _ _ (by simp [show j < xs.length by omega]) (by simp [show j < ys.length by omega]))).1
      have fin : EP X pins σ Q (.bool (!(decide (xs.length = ys.length) && (List.range (min xs.length ys.length)).all e))) s := ⟨.bl _, H, I, rfl, q⟩
      rcases hq with ⟨h1, h2⟩ | ⟨h1, h2⟩
      . obtain ⟨its, r1, p1, _⟩ := I.list h1
        obtain ⟨its2, r2, p2, _⟩ := I.list h2
        have l1 := r1.length
        have l2 := r2.length
        by_cases hl : xs.length = ys.length
        . have := SeqAt.RcNeAt.lists (e := e) p1.isList p2.isList (by rw [List.size_toArray, List.size_toArray]; omega) (by omega) (key its its2 r1 r2)
          rw [List.size_toArray, <- l1] at this
          rw [decide_eq_true hl, Bool.true_and, <- hl, Nat.min_self] at fin
          exact this _ _ _ _ fin
        . have := SeqAt.RcNeAt.lists_lengths (A := X.A) p1.isList p2.isList (by rw [List.size_toArray, List.size_toArray]; simp; omega) (by omega)
          rw [decide_eq_false hl, Bool.false_and] at fin
          exact this _ _ _ _ fin
      . obtain ⟨its, r1, p1, _⟩ := I.tuple h1
        obtain ⟨its2, r2, p2, _⟩ := I.tuple h2
        have l1 := r1.length
        have l2 := r2.length
        have := SeqAt.RcNeAt.tuples (e := e) (show s.heap.IsTuple a its.toArray from p1) (show s.heap.IsTuple c its2.toArray from p2) (by omega) (key its its2 r1 r2)
        rw [List.size_toArray, List.size_toArray, <- l1, <- l2, all_and] at this
        exact this _ _ _ _ fin
end L2
namespace L2
open PySem PySem.Spec PyProof.Rows
end L2
namespace L2
open PySem PySem.Spec PyProof.Rows
end L2
namespace GW
end GW
namespace L2
end L2
namespace L2
open PySem GW
end L2
namespace GW
end GW
namespace L2
open PySem GW
end L2
namespace GW
end GW
set_option Elab.async false
set_option linter.all false
set_option maxRecDepth 100000
set_option maxHeartbeats 4000000
namespace L2
open PySem PySem.Spec PyProof.Rows
end L2
namespace HT
open PySem PyProof.Rows
section
open PySem.SeqAt
open PySem.AutoSeq1 (wpAny_loadPart')
open PySem.MeetsSeq PySem.MeetsSeq2 PySem.MeetsSeq3
end
end HT
namespace L2
open PySem PySem.Spec PyProof.Rows
end L2
namespace L2
end L2
namespace GW
end GW
set_option Elab.async false
set_option linter.all false
set_option maxRecDepth 100000
set_option maxHeartbeats 4000000
namespace L2
open PySem PySem.Spec PyProof.Rows
end L2
namespace L2
open PySem PySem.Spec PyProof.Rows
theorem r_pop {x : V} {vs : List V} {H : Hp} {Q : VK} : rPop x vs H Q = ∃ l xs y, x = .ref l /\ vs = [] /\ H l = some (.lst xs) /\ xs[xs.length - 1]? = some y /\ Q y (upd H l (.lst xs.dropLast)) := rfl
def rng (i j : Int) : List Int := (List.range (j - i).toNat).map fun k : Nat => i + (k : Int)
end L2
namespace GW
open L2
end GW
namespace GW
end GW
namespace GW
open L2
end GW
namespace L2
open PySem PySem.Spec PyProof.Rows GW
end L2
namespace L2
end L2
namespace L2
end L2
namespace L2
open PySem PySem.Spec PyProof.Rows GW
end L2
namespace GW
end GW
namespace GW
open L2
end GW
set_option Elab.async false
set_option linter.all false
set_option maxRecDepth 100000
set_option maxHeartbeats 4000000
namespace GW
open L2
end GW
set_option Elab.async false
set_option linter.all false
set_option maxRecDepth 100000
set_option maxHeartbeats 4000000
namespace PySem
open Sem (wp)
section
variable {prog : Program} {w : World} {A : Around} {E : Value -> Shared -> Prop} {s : Shared} {d it : Addr} {es : Array DictEntry} {i ep : Nat}
end
end PySem
namespace L2
open PySem PySem.Spec PyProof.Rows
section
variable {X : Cx} {pins : List (Addr × Obj)} {σ : St} {H : Hp} {s : Shared} {a : Addr}
end
end L2
namespace HT
open PySem PyProof.Rows
section
open PySem.SeqAt
open PySem.AutoSeq1 (wpAny_loadPart')
open PySem.MeetsSeq PySem.MeetsSeq2 PySem.MeetsSeq3
end
end HT
namespace L2
open PySem PySem.Spec PyProof.Rows
end L2
set_option Elab.async false
set_option linter.all false
set_option maxRecDepth 100000
set_option maxHeartbeats 4000000
namespace GB
open GW
variable {α : Type} [DecidableEq α]
def walkF (step : α -> Int -> α) (a : α) (ws : List Int) : α := ws.foldl step a
structure B (L : Int) (step : α -> Int -> α) (st : α) (ok : α -> Prop) (ents : List (α × List Int)) (i : Nat) (top : Int) : Prop where
  hd : ents[0]? = some (st, [])
  il : i <= ents.length
  sh : ∀ (j : Nat) (e : α × List Int), ents[j]? = some e -> e.2.length <= j
  nod : (ents.map (·.1)).Nodup
  rng : ∀ e ∈ ents, ok e.1
  wd : ∀ e ∈ ents, isW L e.2 = true /\ walkF step st e.2 = e.1
  inc : ∀ (j k : Nat) (a b : α × List Int), j < k -> ents[j]? = some a -> ents[k]? = some b -> place L a.2 < place L b.2
  bnd : ∀ e ∈ ents, place L e.2 < top
  don : ∀ j, j < i -> ∀ e, ents[j]? = some e -> ∀ x : Int, 0 <= x -> x < L -> ∃ e' ∈ ents, e'.1 = step e.1 x /\ place L e'.2 <= place L (e.2 ++ [x])
variable {L : Int} {step : α -> Int -> α} {st : α} {ok : α -> Prop} {ents : List (α × List Int)} {i : Nat} {top : Int}
def okP (n m : Nat) (p : Int × Int) : Prop := (0 <= p.1 /\ p.1 < (n : Int)) /\ (0 <= p.2 /\ p.2 < (m : Int))
def walkR (ways : List (List Int)) (r : Int) (ws : List Int) : Int := ws.foldl (stepW ways) r
theorem walkR_cons (ways : List (List Int)) (r x : Int) (ws : List Int) : walkR ways r (x :: ws) = walkR ways (stepW ways r x) ws := rfl
theorem walkR_snoc (ways : List (List Int)) (r x : Int) (ws : List Int) : walkR ways r (ws ++ [x]) = stepW ways (walkR ways r ws) x := by
  unfold walkR
  rw [List.foldl_append]; rfl
theorem walkR_take {ways : List (List Int)} {ws : List Int} {i : Nat} {x r : Int} (h : ws[i]? = some x) : walkR ways r (ws.take (i + 1)) = stepW ways (walkR ways r (ws.take i)) x := by
  rw [List.take_add_one, h]
  exact walkR_snoc _ _ _ _
theorem walkR_in {L : Int} {marks : List Int} {ways : List (List Int)} (wf : Wf L marks ways) : ∀ (ws : List Int) {r : Int}, isW L ws = true -> 0 <= r -> r < marks.length -> 0 <= walkR ways r ws /\ walkR ways r ws < marks.length
  | [], r, _, h0, h1 => ⟨h0, h1⟩
  | x :: ws, r, hv, h0, h1 => by
    have hx := isW_iff.mp hv x List.mem_cons_self
    obtain ⟨_, g, _, _, h, g0, g1⟩ := wf.step h0 h1 hx.1 hx.2
    rw [walkR_cons, h]
    exact walkR_in wf ws (isW_iff.mpr fun y hy => isW_iff.mp hv y (List.mem_cons_of_mem _ hy)) g0 g1
end GB
namespace L2
open PySem PySem.Spec PyProof.Rows GW GB
end L2
namespace L2
end L2
namespace GB
open GW
end GB
set_option Elab.async false
set_option linter.all false
set_option maxRecDepth 100000
set_option maxHeartbeats 4000000
namespace GB
open GW
theorem isW_take {L : Int} {w : List Int} (h : isW L w = true) (j : Nat) : isW L (w.take j) = true := isW_iff.mpr fun x hx => isW_iff.mp h x (List.mem_of_mem_take hx)
end GB
namespace L2
open GW
end L2
namespace L2
open PySem PySem.Spec PyProof.Rows GW
def LLs (H0 H : Hp) (xs : List V) (ws : List (List Int)) : Prop := ∃ ts : List Addr, xs = ts.map V.ref /\ ts.length = ws.length /\ ts.Nodup /\ (∀ (i : Nat) (t : Addr) (w : List Int), ts[i]? = some t -> ws[i]? = some w -> H t = some (.lst (w.map V.int))) /\ ∀ t ∈ ts, H0 t = none
theorem LLs.nil (H0 H : Hp) : LLs H0 H [] [] := ⟨[], rfl, rfl, List.nodup_nil, fun i t w h => by simp at h, fun t h => by simp at h⟩
theorem LLs.mono {H0 H H' : Hp} {xs : List V} {ws : List (List Int)} (h : LLs H0 H xs ws) (s : Same H H') : LLs H0 H' xs ws := by
  obtain ⟨ts, a, b, c, d, e⟩ := h
  exact ⟨ts, a, b, c, fun i t w h1 h2 => s _ _ (d i t w h1 h2), e⟩
theorem LLs.len {H0 H : Hp} {xs : List V} {ws : List (List Int)} (h : LLs H0 H xs ws) : xs.length = ws.length := by
  obtain ⟨ts, a, b, _⟩ := h
  rw [a, List.length_map, b]
theorem LLs.snoc {H0 H : Hp} {xs : List V} {ws : List (List Int)} {p : Addr} {w : List Int} (h : LLs H0 H xs ws) (h0 : H0 p = none) (hp : H p = none) : LLs H0 (upd H p (.lst (w.map V.int))) (xs ++ [.ref p]) (ws ++ [w]) := by
  obtain ⟨ts, a, b, c, d, e⟩ := h
  have hts : ∀ t ∈ ts, t ≠ p := fun t ht z => by
    obtain ⟨i, hi, ei⟩ := List.getElem_of_mem ht
    have := d i t ws[i] (by rw [List.getElem?_eq_getElem hi, ei]) (by simp [show i < ws.length by omega])
    rw [z, hp] at this; cases this
  refine ⟨ts ++ [p], by rw [a]; simp, by simp [b], ?_, fun i t v h1 h2 => ?_, fun t ht => ?_⟩
  . rw [List.nodup_append]
    refine ⟨c, by simp, fun x hx y hy => ?_⟩
    simp at hy; subst hy; exact hts x hx
  . by_cases hi : i < ts.length
    . rw [List.getElem?_append_left hi] at h1
      rw [List.getElem?_append_left (by omega)] at h2
      rw [upd_ne (hts t (List.mem_of_getElem? h1))]
      exact d i t v h1 h2
    . have := (List.getElem?_eq_some_iff.mp h1).1
      rw [List.length_append, List.length_singleton] at this
      have ei : i = ts.length := by omega
      subst ei
      rw [List.getElem?_append_right (Nat.le_refl _), Nat.sub_self] at h1
      rw [b, List.getElem?_append_right (Nat.le_refl _), Nat.sub_self] at h2
      simp at h1 h2
      subst h1 h2
      exact upd_same
  . rcases List.mem_append.mp ht with ht | ht
    . exact e t ht
    . rw [List.mem_singleton.mp ht]; exact h0
theorem LLs.at {H0 H : Hp} {xs : List V} {ws : List (List Int)} (h : LLs H0 H xs ws) {i : Nat} {w : List Int} (hw : ws[i]? = some w) : ∃ t, xs[i]? = some (.ref t) /\ H t = some (.lst (w.map V.int)) /\ H0 t = none /\ ∀ j x, LLs H0 (upd H t (.lst ((w.set j x).map V.int))) xs (ws.set i (w.set j x)) := by
  obtain ⟨ts, a, b, c, d, e⟩ := h
  have hi : i < ts.length := by rw [b]; exact (List.getElem?_eq_some_iff.mp hw).1
  have ht : ts[i]? = some ts[i] := by simp [hi]
  refine ⟨ts[i], by rw [a, List.getElem?_map, ht]; rfl, d i _ w ht hw, e _ (List.getElem_mem hi), fun j x => ⟨ts, a, by rw [List.length_set]; exact b, c, fun k t v h1 h2 => ?_, e⟩⟩
  by_cases hk : k = i
  . subst hk
    rw [ht] at h1; cases h1
    rw [List.getElem?_set_self (by omega)] at h2; cases h2
    exact upd_same
  . have hne : t ≠ ts[i] := fun z => hk (by
      have hk' := (List.getElem?_eq_some_iff.mp h1).1
      refine (List.getElem_inj (h₀ := hk') (h₁ := hi) c).mp ?_
      rw [<- z]
      exact (List.getElem?_eq_some_iff.mp h1).2)
    rw [List.getElem?_set_ne (Ne.symm hk)] at h2
    rw [upd_ne hne]
    exact d k t v h1 h2
theorem Same.none {H H' : Hp} (s : Same H H') {p : Addr} (h : H' p = none) : H p = none := by
  cases e : H p with
  | none => rfl
  | some u => rw [s _ _ e] at h; cases h
end L2
namespace GW
end GW
namespace L2
open PySem GW
theorem LLs.off {H0 H : Hp} {xs : List V} {ws : List (List Int)} {p : Addr} {o u : HO} (h : LLs H0 H xs ws) (hp : H0 p = some u) : LLs H0 (upd H p o) xs ws := by
  obtain ⟨ts, a, b, c, d, e⟩ := h
  refine ⟨ts, a, b, c, fun i t w h1 h2 => ?_, e⟩
  rw [upd_ne (fun z => by have := e t (List.mem_of_getElem? h1); rw [z, hp] at this; cases this)]
  exact d i t w h1 h2
end L2
set_option Elab.async false
set_option linter.all false
set_option maxRecDepth 100000
set_option maxHeartbeats 4000000
namespace L2
open PySem PySem.Spec PyProof.Rows
section
variable {X : Cx} {pins : List (Addr × Obj)} {σ : St} {H : Hp} {s : Shared} {sc : Scope} {fp : List Addr}
end
section
variable {X : Cx} {tg iter elt : Expr} {ifs : List Expr} {sc : Scope} {pos : Pos} {wi : TI} {cp : Caps} {g : TG} {tc : TT} {te : TE}
end
end L2
namespace L2
open PySem PySem.Spec PyProof.Rows GW GB
end L2
namespace GB
open GW
end GB
set_option Elab.async false
set_option linter.all false
set_option maxRecDepth 100000
set_option maxHeartbeats 4000000
namespace L2
open PySem PySem.Spec PyProof.Rows GW
end L2
namespace L2
open PySem PySem.Spec PyProof.Rows GW
end L2
namespace GW
def ins (s : List (List Int)) (w : List Int) : List (List Int) := if w ∈ s then s else s ++ [w]
end GW
namespace L2
open PySem PySem.Spec PyProof.Rows GW
def wkey (w : List Int) : List Key := w.map Sum.inl
end L2
set_option Elab.async false
set_option linter.all false
set_option maxRecDepth 100000
set_option maxHeartbeats 4000000
namespace L2
open PySem PySem.Spec PyProof.Rows
section
variable {M : Model} {A : Around} {E : Value -> Shared -> Prop} {s : Shared}
end
section
variable {X : Cx} {N : List Str} {sc : Scope} {C : Addr} {s₀ : Shared} {H₀ : Hp} {ex : List Addr} {xe : Value -> Shared -> Prop} {pins : List (Addr × Obj)} {σ : St} {H : Hp} {s : Shared}
end
section
variable {X : Cx} {tg iter elt : Expr} {ifs : List Expr} {sc : Scope} {pos : Pos} {wi : TI} {cp : Caps} {g : TG} {tc : TT} {te : TE}
end
end L2
set_option Elab.async false
set_option linter.all false
set_option maxRecDepth 100000
set_option maxHeartbeats 4000000
namespace PySem.W
open PySem PySem.Calls PyProof.Rows PyProof.V PySem.Spec
section
variable {prog : Program} {w : World} {A : Around} {E : Value -> Shared -> Prop} {s : Shared}
end
section
variable {prog : Program} {w : World} {A : Around} {E : Value -> Shared -> Prop} {s : Shared} {r d : Addr} {es : Array DictEntry} {ep : Nat} {od : Obj}
end
end PySem.W
set_option Elab.async false
set_option linter.all false
set_option maxRecDepth 100000
set_option maxHeartbeats 4000000
namespace L2
open PySem PySem.Spec PyProof.Rows
end L2
set_option Elab.async false
set_option linter.all false
set_option maxRecDepth 100000
set_option maxHeartbeats 4000000
namespace L2
open PySem PySem.Spec PyProof.Rows
theorem pe_gc {X : Cx} {x : Str} {n : Int} {pos : Pos} (hg : Gl X x) (hm : ∃ t, X.mg x = some (.int n t)) (hd : (x == ("__debug__" : Str)) = false := by decide) : PE X (.Name x pos) (tC (.int n)) := by
  obtain ⟨t, hm⟩ := hm
  exact pe_glob hg hm ⟨_, rfl⟩ hd
section
variable {K : PySem.W.Frag} {ta tv td ty tx : TE} {t : TA} {f m : Str} {σ : St} {H : Hp} {Q : VK} {D : Ends} {C : Addr} {sp : Sp} {dvs : List V} {E : XK}
end
def ents (es : List (List Int × Int)) : List (List Key × V) := es.map fun e => (wkey e.1, V.int e.2)
end L2
set_option Elab.async false
set_option linter.all false
set_option maxRecDepth 100000
set_option maxHeartbeats 4000000
namespace L2
open PySem PySem.Spec PyProof.Rows
end L2
set_option Elab.async false
set_option linter.all false
set_option maxRecDepth 100000
set_option maxHeartbeats 4000000
namespace L2
open PySem PySem.W PySem.Spec PySem.Calls PyProof.Rows
end L2
set_option linter.all false
namespace PrimeO
end PrimeO
set_option Elab.async false
set_option linter.all false
set_option maxRecDepth 100000
set_option maxHeartbeats 4000000
namespace L2
open PySem PySem.Spec PyProof.Rows
section
variable {X : Cx} {CX CX' : CXT} {k k' : Nat} {f f' : Addr} {fd fd' : FuncData} {ps ps' : List Str} {sp sp' : Sp} {dvs dvs' : List V} {ds ds' : List Value} {x : Str} {p pos : Pos} {e : Expr} {es : List Expr} {t : TA}
end
end L2
set_option Elab.async false
set_option linter.all false
set_option maxRecDepth 100000
set_option maxHeartbeats 4000000
namespace PySem
open Sem (wp)
open PySem.F
section
variable {prog : Program} {w : World} {A : Around} {E : Value -> Shared -> Prop} {s : Shared}
end
section
variable {prog : Program} {w : World} {A : Around} {E : Value -> Shared -> Prop} {s : Shared}
end
end PySem
set_option Elab.async false
set_option linter.all false
set_option maxRecDepth 100000
set_option maxHeartbeats 4000000
namespace L2
open PySem PySem.Spec PyProof.Rows GW
def SqB (K : PySem.W.Frag) (H : Hp) (t : Bool) (a : Addr) (xs : List V) : Prop := match t with | false => SqL K H a xs | true => SqT K H a xs
def rInsert : V -> List V -> Hp -> VK -> Prop := fun x vs H Q => ∃ l xs k y, x = .ref l /\ vs = [.int k, y] /\ H l = some (.lst xs) /\ 0 <= k /\ k <= xs.length /\ xs.length < sizeLine /\ Q .non (upd H l (.lst (xs.take k.toNat ++ y :: xs.drop k.toNat)))
theorem r_insert {x : V} {vs : List V} {H : Hp} {Q : VK} : rInsert x vs H Q = ∃ l xs k y, x = .ref l /\ vs = [.int k, y] /\ H l = some (.lst xs) /\ 0 <= k /\ k <= xs.length /\ xs.length < sizeLine /\ Q .non (upd H l (.lst (xs.take k.toNat ++ y :: xs.drop k.toNat))) := rfl
theorem mt_insert {X : Cx} : MtM X "list.insert" rInsert := by
  intro pins s σ H x vs v us Q I rx rv h
  obtain ⟨l, xs, k, y, rfl, rfl, hH, h0, h1, hz, q⟩ := h
  cases rx
  cases rv with
  | cons r1 rr => cases rr with
    | cons r2 rr =>
      cases rr
      obtain ⟨t, rfl⟩ := r1
      obtain ⟨z, its, n, r, hl, e⟩ := I.lstM hH
      have hlen := r.length
      have hb : k < 2 ^ 63 := by have : sizeLine = 2 ^ 24 := rfl; omega
      refine call_meets F.slot_list_insert ⟨_, e, rfl⟩ F.entry_list_insert (F.args_list_insert_3 _ _ _)
        (AutoListH.list_insert_list_int_val_1 l its.toArray n k t _ (by simp [Builtin.List.listFitsIndex]; omega) (by rw [List.size_toArray]; omega)) ⟨e, ?_⟩
      refine ⟨.non, _, I.lset (its' := its.take k.toNat ++ _ :: its.drop k.toNat) hH e ?_ ((r.take _).append (.cons r2 (r.drop _))) ?_, rfl, q⟩
      . have hk : min k.toNat its.length = k.toNat := by omega
        simp [show ¬ k < 0 by omega, hk]
        exact List.take_of_length_le (by rw [List.length_drop]; exact Nat.le_refl _)
      . rw [List.length_append, List.length_cons, List.length_take, List.length_drop]; omega
theorem SqB.or {K : PySem.W.Frag} {H : Hp} {t : Bool} {a : Addr} {xs : List V} (h : SqB K H t a xs) : SqL K H a xs \/ SqT K H a xs := by
  cases t
  . exact .inl h
  . exact .inr h
end L2
set_option linter.all false
namespace Nest
def sl (row : List Int) (b i : Nat) : List Int := (row.take i).drop b
theorem sl_self (row : List Int) (i : Nat) : sl row i i = [] := by unfold sl; exact List.drop_of_length_le (by rw [List.length_take]; omega)
theorem sl_succ {row : List Int} {b i : Nat} {x : Int} (h : row[i]? = some x) (hb : b <= i) : sl row b (i + 1) = sl row b i ++ [x] := by
  have hi := (List.getElem?_eq_some_iff.mp h).1
  unfold sl
  rw [List.take_add_one, h, Option.toList_some, List.drop_append_of_le_length (by rw [List.length_take]; omega)]
def dl (p e x : Int) : Int := if x = e then -1 else if p <= x then 1 else 0
def bal (p e : Int) (l : List Int) : Int := (l.map (dl p e)).sum
theorem bal_app (p e : Int) (l m : List Int) : bal p e (l ++ m) = bal p e l + bal p e m := by unfold bal; rw [List.map_append, List.sum_append]
theorem bal_one (p e x : Int) : bal p e [x] = dl p e x := by unfold bal; simp
theorem bal_nil (p e : Int) : bal p e [] = 0 := rfl
def outF (p e : Int) (s : List Int × Int) (x : Int) : List Int × Int := if x = e then (s.1, s.2 - 1) else (if s.2 = 0 then s.1 ++ [x] else s.1, if p <= x then s.2 + 1 else s.2)
def outS (p e : Int) (l : List Int) : List Int × Int := l.foldl (outF p e) ([], 0)
def outW (p e : Int) (l : List Int) : List Int := (outS p e l).1
theorem outS_app (p e : Int) (l : List Int) (x : Int) : outS p e (l ++ [x]) = outF p e (outS p e l) x := by unfold outS; rw [List.foldl_append]; rfl
def IsCall (p e : Int) (row : List Int) (i a : Nat) : Prop := a < i /\ bal p e (sl row a i) = 1 /\ ∀ b, a < b -> b <= i -> bal p e (sl row b i) <= 0
def prtF (p e : Int) (s : List (Int × List Int) × List Int × List (List Int)) (x : Int) : List (Int × List Int) × List Int × List (List Int) :=
  if x = e then (s.1 ++ [(s.2.1.getLastD 0, s.2.2.getLastD [])], s.2.1.dropLast, s.2.2.dropLast)
  else if p <= x then (s.1, s.2.1 ++ [x - p], s.2.2.dropLast ++ [s.2.2.getLastD [] ++ [x]] ++ [[]])
  else (s.1, s.2.1, s.2.2.dropLast ++ [s.2.2.getLastD [] ++ [x]])
def prtS (p e : Int) (ws : List Int) : List (Int × List Int) × List Int × List (List Int) := ws.foldl (prtF p e) ([], [], [[]])
theorem prtS_take {p e : Int} {ws : List Int} {i : Nat} {x : Int} (h : ws[i]? = some x) : prtS p e (ws.take (i + 1)) = prtF p e (prtS p e (ws.take i)) x := by
  unfold prtS
  rw [List.take_add_one, h, Option.toList_some, List.foldl_append]; rfl
def partsW (p e : Int) (ws : List Int) : List (Int × List Int) := (prtS p e ws).1 ++ [(0, (prtS p e ws).2.2.headD [])]
def nestR (p e : Int) : List Int -> Nat -> Bool
  | [], d => decide (d = 0)
  | x :: l, d => if x < 0 \/ e < x then false else if x = e then (match d with | 0 => false | d + 1 => nestR p e l d) else if p <= x then nestR p e l (d + 1) else nestR p e l d
theorem nestR_drop {p e : Int} {ws : List Int} {i : Nat} {x : Int} (h : ws[i]? = some x) (d : Nat) : nestR p e (ws.drop i) d = if x < 0 \/ e < x then false else if x = e then (match d with | 0 => false | d + 1 => nestR p e (ws.drop (i + 1)) d) else if p <= x then nestR p e (ws.drop (i + 1)) (d + 1) else nestR p e (ws.drop (i + 1)) d := by
  have hi := (List.getElem?_eq_some_iff.mp h).1
  rw [List.drop_eq_getElem_cons hi, (List.getElem?_eq_some_iff.mp h).2]
  rfl
structure Open (p e : Int) (row : List Int) (i : Nat) (S : List Nat) : Prop where
  lt : ∀ (j a : Nat), S[j]? = some a -> a < i
  ba : ∀ (j a : Nat), S[j]? = some a -> bal p e (sl row a i) = (j : Int) + 1
  le : ∀ (j a : Nat), S[j]? = some a -> ∀ b, a < b -> b <= i -> bal p e (sl row b i) <= j
  de : ∀ (j a : Nat), S[j]? = some a -> (outS p e (sl row (a + 1) i)).2 = (j : Int)
  db : (outS p e (row.take i)).2 = (S.length : Int)
theorem Open.zero (p e : Int) (row : List Int) : Open p e row 0 [] := ⟨fun j a h => by simp at h, fun j a h => by simp at h, fun j a h => by simp at h, fun j a h => by simp at h, by simp [outS]⟩
theorem Open.plain {p e : Int} {row : List Int} {i : Nat} {S : List Nat} {x : Int} (h : Open p e row i S) (hx : row[i]? = some x) (h1 : x ≠ e) (h2 : ¬ p <= x) : Open p e row (i + 1) S := by
  have hd : dl p e x = 0 := by unfold dl; rw [if_neg h1, if_neg h2]
  have hF : ∀ s : List Int × Int, (outF p e s x).2 = s.2 := fun s => by unfold outF; rw [if_neg h1]; simp [h2]
  refine ⟨fun j a ha => Nat.lt_succ_of_lt (h.lt j a ha), fun j a ha => ?_, fun j a ha b hb hb2 => ?_, fun j a ha => ?_, ?_⟩
  . rw [sl_succ hx (Nat.le_of_lt (h.lt j a ha)), bal_app, bal_one, hd, h.ba j a ha]; omega
  . by_cases hbi : b = i + 1
    . subst hbi; rw [sl_self, bal_nil]; omega
    . rw [sl_succ hx (by omega), bal_app, bal_one, hd]
      have := h.le j a ha b hb (by omega); omega
  . rw [sl_succ hx (h.lt j a ha), outS_app, hF, h.de j a ha]
  . rw [List.take_add_one, hx, Option.toList_some, outS_app, hF, h.db]
theorem Open.call {p e : Int} {row : List Int} {i : Nat} {S : List Nat} {x : Int} (h : Open p e row i S) (hx : row[i]? = some x) (h1 : x ≠ e) (h2 : p <= x) : Open p e row (i + 1) (i :: S) := by
  have hd : dl p e x = 1 := by unfold dl; rw [if_neg h1, if_pos h2]
  have hF : ∀ s : List Int × Int, (outF p e s x).2 = s.2 + 1 := fun s => by unfold outF; rw [if_neg h1]; simp [h2]
  refine ⟨fun j a ha => ?_, fun j a ha => ?_, fun j a ha b hb hb2 => ?_, fun j a ha => ?_, ?_⟩
  . cases j with
    | zero => simp at ha; omega
    | succ j => exact Nat.lt_succ_of_lt (h.lt j a (by simpa using ha))
  . cases j with
    | zero =>
      simp at ha; subst ha
      rw [sl_succ hx (Nat.le_refl _), sl_self, List.nil_append, bal_one, hd]; rfl
    | succ j =>
      have ha : S[j]? = some a := by simpa using ha
      rw [sl_succ hx (Nat.le_of_lt (h.lt j a ha)), bal_app, bal_one, hd, h.ba j a ha]; omega
  . by_cases hbi : b = i + 1
    . subst hbi; rw [sl_self, bal_nil]; omega
    . cases j with
      | zero => simp at ha; omega
      | succ j =>
        have ha : S[j]? = some a := by simpa using ha
        rw [sl_succ hx (by omega), bal_app, bal_one, hd]
        have := h.le j a ha b hb (by omega); omega
  . cases j with
    | zero => simp at ha; subst ha; rw [sl_self]; simp [outS]
    | succ j =>
      have ha : S[j]? = some a := by simpa using ha
      rw [sl_succ hx (h.lt j a ha), outS_app, hF, h.de j a ha]; omega
  . rw [List.take_add_one, hx, Option.toList_some, outS_app, hF, h.db, List.length_cons]; omega
theorem Open.ends {p e : Int} {row : List Int} {i c : Nat} {S : List Nat} (h : Open p e row i (c :: S)) (hx : row[i]? = some e) : Open p e row (i + 1) S /\ IsCall p e row i c := by
  have hd : dl p e e = -1 := by unfold dl; rw [if_pos rfl]
  have hF : ∀ s : List Int × Int, (outF p e s e).2 = s.2 - 1 := fun s => by unfold outF; rw [if_pos rfl]
  have sh : ∀ {j a : Nat}, S[j]? = some a -> (c :: S)[j + 1]? = some a := fun ha => by simpa using ha
  refine ⟨⟨fun j a ha => Nat.lt_succ_of_lt (h.lt _ a (sh ha)), fun j a ha => ?_, fun j a ha b hb hb2 => ?_, fun j a ha => ?_, ?_⟩, h.lt 0 c rfl, ?_, fun b h1 h2 => ?_⟩
  . rw [sl_succ hx (Nat.le_of_lt (h.lt _ a (sh ha))), bal_app, bal_one, hd, h.ba _ a (sh ha)]; omega
  . by_cases hbi : b = i + 1
    . subst hbi; rw [sl_self, bal_nil]; omega
    . rw [sl_succ hx (by omega), bal_app, bal_one, hd]
      have := h.le _ a (sh ha) b hb (by omega); omega
  . rw [sl_succ hx (h.lt _ a (sh ha)), outS_app, hF, h.de _ a (sh ha)]; omega
  . rw [List.take_add_one, hx, Option.toList_some, outS_app, hF, h.db, List.length_cons]; omega
  . have := h.ba 0 c rfl; simpa using this
  . have := h.le 0 c rfl b h1 h2; simpa using this
def wd (p e : Int) (row : List Int) (i a : Nat) : List Int := outW p e (sl row (a + 1) i)
def gt (p : Int) (row : List Int) (a : Nat) : Int := row.getD a 0 - p
structure Stk (p e : Int) (row : List Int) (i : Nat) (S : List Nat) (t : List (Int × List Int) × List Int × List (List Int)) : Prop where
  op : Open p e row i S
  cs : t.2.1 = (S.map (gt p row)).reverse
  ws : t.2.2 = outW p e (row.take i) :: (S.map (wd p e row i)).reverse
theorem out_same {p e : Int} {l : List Int} {x : Int} (h : (outS p e l).2 ≠ 0) : outW p e (l ++ [x]) = outW p e l := by
  unfold outW; rw [outS_app]; unfold outF; split
  . rfl
  . simp [h]
theorem out_end {p e : Int} {l : List Int} : outW p e (l ++ [e]) = outW p e l := by
  unfold outW; rw [outS_app]; unfold outF; rw [if_pos rfl]
theorem out_put {p e : Int} {l : List Int} {x : Int} (h : (outS p e l).2 = 0) (hx : x ≠ e) : outW p e (l ++ [x]) = outW p e l ++ [x] := by
  unfold outW; rw [outS_app]; unfold outF; rw [if_neg hx]; simp [h]
theorem ws_plain {p e : Int} {row : List Int} {i : Nat} {S : List Nat} {t : List (Int × List Int) × List Int × List (List Int)} {x : Int} (h : Stk p e row i S t) (hx : row[i]? = some x) (h1 : x ≠ e) : t.2.2.dropLast ++ [t.2.2.getLastD [] ++ [x]] = outW p e (row.take (i + 1)) :: (S.map (wd p e row (i + 1))).reverse := by
  have ht : row.take (i + 1) = row.take i ++ [x] := by rw [List.take_add_one, hx]; rfl
  rw [h.ws]
  cases S with
  | nil =>
    have hz : (outS p e (row.take i)).2 = 0 := by have := h.op.db; simpa using this
    simp [ht, out_put hz h1]
  | cons c S =>
    have hb : (outS p e (row.take i)).2 ≠ 0 := by have := h.op.db; rw [this]; simp; omega
    have hc : wd p e row (i + 1) c = wd p e row i c ++ [x] := by
      unfold wd
      rw [sl_succ hx (h.op.lt 0 c rfl)]
      exact out_put (by have := h.op.de 0 c rfl; simpa using this) h1
    have hS : S.map (wd p e row (i + 1)) = S.map (wd p e row i) := by
      refine List.map_congr_left fun a ha => ?_
      obtain ⟨j, hj, ej⟩ := List.getElem_of_mem ha
      have hja : (c :: S)[j + 1]? = some a := by rw [List.getElem?_cons_succ, List.getElem?_eq_getElem hj, ej]
      unfold wd
      rw [sl_succ hx (h.op.lt _ a hja)]
      exact out_same (by have := h.op.de _ a hja; rw [this]; omega)
    rw [ht, out_same hb, List.map_cons, List.map_cons, List.reverse_cons, List.reverse_cons, hc, hS]
    rw [<- List.cons_append, List.dropLast_concat, List.getLastD_concat]; rfl
theorem Stk.plain {p e : Int} {row : List Int} {i : Nat} {S : List Nat} {t : List (Int × List Int) × List Int × List (List Int)} {x : Int} (h : Stk p e row i S t) (hx : row[i]? = some x) (h1 : x ≠ e) (h2 : ¬ p <= x) : Stk p e row (i + 1) S (prtF p e t x) := by
  unfold prtF
  rw [if_neg h1, if_neg h2]
  exact ⟨h.op.plain hx h1 h2, h.cs, ws_plain h hx h1⟩
theorem Stk.call {p e : Int} {row : List Int} {i : Nat} {S : List Nat} {t : List (Int × List Int) × List Int × List (List Int)} {x : Int} (h : Stk p e row i S t) (hx : row[i]? = some x) (h1 : x ≠ e) (h2 : p <= x) : Stk p e row (i + 1) (i :: S) (prtF p e t x) := by
  unfold prtF
  rw [if_neg h1, if_pos h2]
  refine ⟨h.op.call hx h1 h2, ?_, ?_⟩
  . show t.2.1 ++ [x - p] = _
    rw [h.cs, List.map_cons, List.reverse_cons]
    unfold gt
    rw [List.getD_eq_getElem?_getD, hx]; rfl
  . show t.2.2.dropLast ++ [t.2.2.getLastD [] ++ [x]] ++ [[]] = _
    rw [ws_plain h hx h1, List.map_cons, List.reverse_cons, List.cons_append]
    congr 2
    unfold wd
    rw [sl_self]; rfl
theorem Stk.ends {p e : Int} {row : List Int} {i c : Nat} {S : List Nat} {t : List (Int × List Int) × List Int × List (List Int)} (h : Stk p e row i (c :: S) t) (hx : row[i]? = some e) : Stk p e row (i + 1) S (prtF p e t e) /\ (prtF p e t e).1 = t.1 ++ [(gt p row c, wd p e row i c)] /\ IsCall p e row i c := by
  have hop := h.op.ends hx
  have ht : row.take (i + 1) = row.take i ++ [e] := by rw [List.take_add_one, hx]; rfl
  unfold prtF
  rw [if_pos rfl]
  refine ⟨⟨hop.1, ?_, ?_⟩, ?_, hop.2⟩
  . show t.2.1.dropLast = _
    rw [h.cs, List.map_cons, List.reverse_cons, List.dropLast_concat]
  . show t.2.2.dropLast = _
    rw [h.ws, List.map_cons, List.reverse_cons, <- List.cons_append, List.dropLast_concat, ht, out_end]
    congr 2
    refine List.map_congr_left fun a ha => ?_
    obtain ⟨j, hj, ej⟩ := List.getElem_of_mem ha
    have hja : (c :: S)[j + 1]? = some a := by rw [List.getElem?_cons_succ, List.getElem?_eq_getElem hj, ej]
    unfold wd
    rw [sl_succ hx (h.op.lt _ a hja), out_end]
  . show t.1 ++ _ = _
    rw [h.cs, h.ws, List.map_cons, List.map_cons, List.reverse_cons, List.reverse_cons, List.getLastD_concat, <- List.cons_append, List.getLastD_concat]
theorem Stk.zero (p e : Int) (row : List Int) : Stk p e row 0 [] (prtS p e (row.take 0)) := ⟨Open.zero p e row, rfl, by simp [prtS, outW, outS]⟩
theorem nestR_cons (p e x : Int) (l : List Int) (d : Nat) : nestR p e (x :: l) d = if x < 0 \/ e < x then false else if x = e then (match d with | 0 => false | d + 1 => nestR p e l d) else if p <= x then nestR p e l (d + 1) else nestR p e l d := rfl
theorem nestR_ends {p e : Int} (he : 0 <= e) : ∀ (k : Nat) (rest : List Int) (d : Nat), nestR p e (List.replicate k e ++ rest) (d + k) = nestR p e rest d
  | 0, rest, d => by simp
  | k + 1, rest, d => by
    rw [List.replicate_succ, List.cons_append, nestR_cons, if_neg (by omega), if_pos rfl]
    exact nestR_ends he k rest d
theorem nestR_snoc {p e x : Int} {row : List Int} {d : Nat} (h : ∀ rest, nestR p e (row ++ rest) 0 = nestR p e rest d) (h0 : 0 <= x) (h1 : x <= e) (h2 : x = e -> d ≠ 0) : ∀ rest, nestR p e ((row ++ [x]) ++ rest) 0 = nestR p e rest (if x = e then d - 1 else if p <= x then d + 1 else d) := by
  intro rest
  rw [List.append_assoc, h, List.singleton_append]
  conv => lhs; unfold nestR
  rw [if_neg (by omega)]
  by_cases hx : x = e
  . rw [if_pos hx, if_pos hx]
    cases d with
    | zero => exact absurd rfl (h2 hx)
    | succ d => rfl
  . rw [if_neg hx, if_neg hx]
    by_cases hp : p <= x
    . rw [if_pos hp, if_pos hp]
    . rw [if_neg hp, if_neg hp]
def dueW (p e : Int) (row : List Int) (i : Nat) : List (Int × List Int) := (prtS p e (row.take i)).1
theorem walk {p e : Int} {row : List Int} (hn : nestR p e row 0 = true) (i : Nat) (hi : i <= row.length) : ∃ S, Stk p e row i S (prtS p e (row.take i)) /\ nestR p e (row.drop i) S.length = true := by
  induction i with
  | zero => exact ⟨[], Stk.zero p e row, hn⟩
  | succ i ih =>
    obtain ⟨S, hS, hd⟩ := ih (by omega)
    have hx : row[i]? = some row[i] := by simp [show i < row.length by omega]
    generalize row[i] = x at hx
    rw [nestR_drop hx] at hd
    rw [prtS_take hx]
    by_cases h1 : x < 0 \/ e < x
    . rw [if_pos h1] at hd; cases hd
    . rw [if_neg h1] at hd
      by_cases h2 : x = e
      . rw [if_pos h2] at hd
        subst h2
        cases S with
        | nil => cases hd
        | cons c S => exact ⟨S, (hS.ends hx).1, hd⟩
      . rw [if_neg h2] at hd
        by_cases h3 : p <= x
        . rw [if_pos h3] at hd; exact ⟨i :: S, hS.call hx h2 h3, hd⟩
        . rw [if_neg h3] at hd; exact ⟨S, hS.plain hx h2 h3, hd⟩
theorem parts_due {p e : Int} {row : List Int} (hn : nestR p e row 0 = true) : partsW p e row = dueW p e row row.length ++ [(0, outW p e row)] /\ (prtS p e row).2.2.headD [] = outW p e row := by
  obtain ⟨S, hS, hd⟩ := walk hn row.length (Nat.le_refl _)
  have hw := hS.ws
  rw [List.take_length] at hw
  unfold partsW dueW
  rw [List.take_length, hw]
  exact ⟨rfl, rfl⟩
theorem bal_cons (p e x : Int) (l : List Int) : bal p e (x :: l) = dl p e x + bal p e l := by unfold bal; simp
end Nest
set_option Elab.async false
set_option linter.all false
set_option maxRecDepth 100000
set_option maxHeartbeats 4000000
namespace L2
open PySem PySem.Spec PyProof.Rows GW
end L2
namespace HT
open PySem PySem.Spec PyProof.Rows L2
section
variable {prog : Program} {w : World} {A : Around} {E : Value -> Shared -> Prop} {s : Shared}
end
end HT
namespace L2
open PySem PySem.Spec PyProof.Rows GW
end L2
namespace Nest
def spreadN (p e : Int) (rows : List (List Int)) (ws : List Int) : List Int := ws.flatMap fun x => if p <= x then x :: (rows.getD (x - p).toNat [] ++ [e]) else [x]
def dueN (p e : Int) (rows : List (List Int)) (ws : List Int) : List (Int × List Int) := ws.flatMap fun x => if p <= x then (prtS p e (rows.getD (x - p).toNat [])).1 ++ [(x - p, outW p e (rows.getD (x - p).toNat []))] else []
end Nest
set_option linter.all false
namespace Nest
theorem nestR_mem {p e : Int} : ∀ (l : List Int) (d : Nat), nestR p e l d = true -> ∀ x ∈ l, 0 <= x /\ x <= e
  | [], _, _, x, hx => by cases hx
  | y :: l, d, h, x, hx => by
    rw [nestR_cons] at h
    by_cases hy : y < 0 \/ e < y
    . rw [if_pos hy] at h; cases h
    rw [if_neg hy] at h
    rcases List.mem_cons.mp hx with rfl | hx
    . omega
    by_cases he : y = e
    . rw [if_pos he] at h
      cases d with
      | zero => cases h
      | succ d => exact nestR_mem l d h x hx
    rw [if_neg he] at h
    by_cases hp : p <= y
    . rw [if_pos hp] at h; exact nestR_mem l _ h x hx
    . rw [if_neg hp] at h; exact nestR_mem l _ h x hx
theorem nestR_bal {p e : Int} : ∀ (l : List Int) (d : Nat), nestR p e l d = true -> bal p e l = - (d : Int)
  | [], d, h => by
    have : d = 0 := by simpa [nestR] using h
    rw [this]; rfl
  | y :: l, d, h => by
    rw [nestR_cons] at h
    rw [bal_cons]
    unfold dl
    by_cases hy : y < 0 \/ e < y
    . rw [if_pos hy] at h; cases h
    rw [if_neg hy] at h
    by_cases he : y = e
    . rw [if_pos he] at h ⊢
      cases d with
      | zero => cases h
      | succ d =>
        have := nestR_bal l d h
        omega
    rw [if_neg he] at h ⊢
    by_cases hp : p <= y
    . rw [if_pos hp] at h ⊢
      have := nestR_bal l _ h
      omega
    . rw [if_neg hp] at h ⊢
      have := nestR_bal l _ h
      omega
theorem nestR_insert {p e x : Int} {l m : List Int} (h : nestR p e (l ++ m) 0 = true) (hx : p <= x) : nestR p e (l ++ x :: m) 0 = false := by
  cases z : nestR p e (l ++ x :: m) 0 with
  | false => rfl
  | true =>
    have h1 := nestR_bal _ _ h
    have h2 := nestR_bal _ _ z
    rw [bal_app] at h1 h2
    rw [bal_cons] at h2
    unfold dl at h2
    split at h2
    . omega
    . first
        | omega
        | (rw [if_pos hx] at h2; omega)
structure POk (h e : Int) (n : Nat) (t : List (Int × List Int) × List Int × List (List Int)) : Prop where
  tl : ∀ pr ∈ t.1, 0 <= pr.1 /\ pr.1 < h /\ pr.2.length <= n /\ ∀ x ∈ pr.2, 0 <= x /\ x < e
  cs : ∀ c ∈ t.2.1, 0 <= c /\ c < h
  ws : ∀ w ∈ t.2.2, w.length <= n /\ ∀ x ∈ w, 0 <= x /\ x < e
theorem getLastD_mem {α} {l : List α} {d : α} : l.getLastD d = d \/ l.getLastD d ∈ l := by
  rw [List.getLastD_eq_getLast?]
  cases z : l.getLast? with
  | none => left; rfl
  | some a => right; exact List.mem_of_getLast? z
theorem POk.step {p h : Int} {n : Nat} {t : List (Int × List Int) × List Int × List (List Int)} {x : Int} (hh : 1 <= h) (k : POk h (p + h) n t) (h0 : 0 <= x) (h1 : x <= p + h) : POk h (p + h) (n + 1) (prtF p (p + h) t x) := by
  have hw : (t.2.2.getLastD []).length <= n /\ ∀ x ∈ t.2.2.getLastD [], 0 <= x /\ x < p + h := by
    rcases getLastD_mem (l := t.2.2) (d := []) with z | z
    . rw [z]; exact ⟨Nat.zero_le _, fun x hx => by cases hx⟩
    . exact k.ws _ z
  have hc : 0 <= t.2.1.getLastD 0 /\ t.2.1.getLastD 0 < h := by
    rcases getLastD_mem (l := t.2.1) (d := 0) with z | z
    . rw [z]; omega
    . exact k.cs _ z
  have hd : ∀ w ∈ t.2.2.dropLast, w.length <= n + 1 /\ ∀ x ∈ w, 0 <= x /\ x < p + h := fun w hw' => by
    have := k.ws w (List.dropLast_subset _ hw')
    exact ⟨by omega, this.2⟩
  have ht : ∀ pr ∈ t.1, 0 <= pr.1 /\ pr.1 < h /\ pr.2.length <= n + 1 /\ ∀ x ∈ pr.2, 0 <= x /\ x < p + h := fun pr hp => by
    have := k.tl pr hp
    exact ⟨this.1, this.2.1, by omega, this.2.2.2⟩
  unfold prtF
  by_cases he : x = p + h
  . rw [if_pos he]
    refine ⟨fun pr hp => ?_, fun c hc' => k.cs c (List.dropLast_subset _ hc'), hd⟩
    rcases List.mem_append.mp hp with hp | hp
    . exact ht pr hp
    . rw [List.mem_singleton.mp hp]
      exact ⟨hc.1, hc.2, Nat.le_succ_of_le hw.1, hw.2⟩
  rw [if_neg he]
  have hn : (t.2.2.getLastD [] ++ [x]).length <= n + 1 /\ ∀ y ∈ t.2.2.getLastD [] ++ [x], 0 <= y /\ y < p + h := by
    refine ⟨by rw [List.length_append, List.length_singleton]; have := hw.1; omega, fun y hy => ?_⟩
    rcases List.mem_append.mp hy with hy | hy
    . exact hw.2 y hy
    . rw [List.mem_singleton.mp hy]; omega
  by_cases hp : p <= x
  . rw [if_pos hp]
    refine ⟨ht, fun c hc' => ?_, fun w hw' => ?_⟩
    . rcases List.mem_append.mp hc' with hc' | hc'
      . exact k.cs c hc'
      . rw [List.mem_singleton.mp hc']; omega
    . rcases List.mem_append.mp hw' with hw' | hw'
      . rcases List.mem_append.mp hw' with hw' | hw'
        . exact hd w hw'
        . rw [List.mem_singleton.mp hw']; exact hn
      . rw [List.mem_singleton.mp hw']; exact ⟨Nat.zero_le _, fun x hx => by cases hx⟩
  . rw [if_neg hp]
    refine ⟨ht, k.cs, fun w hw' => ?_⟩
    rcases List.mem_append.mp hw' with hw' | hw'
    . exact hd w hw'
    . rw [List.mem_singleton.mp hw']; exact hn
theorem POk.fold {p h : Int} (hh : 1 <= h) : ∀ (l : List Int) (n : Nat) (t : List (Int × List Int) × List Int × List (List Int)), POk h (p + h) n t -> (∀ x ∈ l, 0 <= x /\ x <= p + h) -> POk h (p + h) (n + l.length) (l.foldl (prtF p (p + h)) t)
  | [], n, t, k, _ => k
  | x :: l, n, t, k, hl => by
    have := POk.fold hh l (n + 1) _ (k.step hh (hl x (by simp)).1 (hl x (by simp)).2) (fun y hy => hl y (by simp [hy]))
    rw [List.foldl_cons, List.length_cons, show n + (l.length + 1) = n + 1 + l.length by omega]
    exact this
theorem partsW_ok {p h : Int} (hh : 1 <= h) {l : List Int} (hn : nestR p (p + h) l 0 = true) : ∀ pr ∈ partsW p (p + h) l, 0 <= pr.1 /\ pr.1 < h /\ pr.2.length <= l.length /\ ∀ x ∈ pr.2, 0 <= x /\ x < p + h := by
  have k : POk h (p + h) (0 + l.length) (prtS p (p + h) l) := POk.fold hh l 0 _ ⟨fun pr hp => (by cases hp), fun c hc => (by cases hc), fun w hw => by rw [List.mem_singleton.mp hw]; exact ⟨Nat.zero_le _, fun x hx => by cases hx⟩⟩ (nestR_mem l 0 hn)
  rw [Nat.zero_add] at k
  intro pr hp
  unfold partsW at hp
  rcases List.mem_append.mp hp with hp | hp
  . exact k.tl pr hp
  . rw [List.mem_singleton.mp hp]
    refine ⟨Int.le_refl _, by omega, ?_⟩
    cases z : (prtS p (p + h) l).2.2 with
    | nil => exact ⟨Nat.zero_le _, fun x hx => by cases hx⟩
    | cons w ws => exact k.ws w (by rw [z]; simp)
theorem partsW_len (p e : Int) (l : List Int) : (partsW p e l).length <= l.length + 1 := by
  have : ∀ (l : List Int) (t : List (Int × List Int) × List Int × List (List Int)), (l.foldl (prtF p e) t).1.length <= t.1.length + l.length := by
    intro l
    induction l with
    | nil => intro t; simp
    | cons x l ih =>
      intro t
      have h1 := ih (prtF p e t x)
      have h2 : (prtF p e t x).1.length <= t.1.length + 1 := by
        unfold prtF
        split
        . simp
        . split <;> simp
      rw [List.foldl_cons, List.length_cons]
      omega
  unfold partsW prtS
  have := this l ([], [], [[]])
  rw [List.length_append, List.length_singleton]
  simpa using this
end Nest
namespace L2
open PySem PySem.Spec PyProof.Rows
end L2
set_option Elab.async false
set_option linter.all false
set_option maxRecDepth 100000
set_option maxHeartbeats 4000000
namespace Mine
open PySem L2 GW GB
local macro_rules | `(tactic| walk_at "rd") => `(tactic| try simp only [↓r_seq, ↓r_next, ↓r_asg, ↓r_gname, ↓r_var, ↓r_c, ↓r_op, ↓r_un, ↓r_I, ↓r_I0, ↓r_U, ↓r_call, ↓r_cons, ↓r_nil, ↓r_ret, ↓r_drop, ↓r_if, ↓r_B, ↓r_test, ↓r_and, ↓r_or, ↓r_not, ↓r_andV, ↓r_notV, ↓r_chain, ↓r_CB, ↓r_lst, ↓r_tup, ↓r_ixL, ↓r_ixT, ↓r_sl, ↓r_part, ↓r_slL, ↓r_BM, ↓r_BM0, ↓r_append, ↓r_gsub, ↓r_setL, ↓r_Eq, ↓r_Ne, ↓r_eqD, ↓r_iList, ↓r_iTup, ↓r_iRng1, ↓r_aug, ↓r_ip, ↓r_true, ↓r_comp, ↓r_for, ↓r_cat, ↓r_rep, ↓r_raise, ↓r_callE, ↓r_try, ↓r_unnx, ↓r_unrt, ↓r_neD, ↓r_cont, ↓r_gTup, ↓r_gCons, ↓r_gNil, ↓r_pop, ↓r_iSeq, ↓r_insert, r_cxK, L2.start, List.map_cons, List.map_nil, List.length_cons, List.length_nil, List.cons_append, List.nil_append, List.append_nil, List.replicate, List.getElem?_cons_zero, List.getElem?_cons_succ, List.set_cons_zero, List.set_cons_succ, Option.some.injEq, V.int.injEq, V.ref.injEq, V.bl.injEq, List.cons.injEq, and_true, true_and, and_assoc, exists_and_left, exists_eq_left', exists_eq_left, exists_eq_right, exists_eq, if_true, if_false, Bool.false_eq_true, decide_eq_true_eq, scal, Nat.reduceAdd, Nat.reduceSub, reduceCtorEq, Bool.not_true, Bool.not_false])
def top (i : Nat) : Stmt := PySem.Challenge.pw_guessroom_k79_rows_taken.main.body.getD i (.Pass ⟨0, 0, 0, 0⟩)
abbrev s_is_word : Stmt := top 5
theorem sc_is_word : FnScope ["letters", "word"] ["letters", "word"] (defScope s_is_word) := ⟨rfl, rfl, rfl, by decide +kernel, rfl, by decide +kernel, by decide +kernel⟩
abbrev s_check_word : Stmt := top 6
theorem sc_check_word : FnScope ["letters", "word"] ["letters", "word"] (defScope s_check_word) := ⟨rfl, rfl, rfl, by decide +kernel, rfl, by decide +kernel, by decide +kernel⟩
abbrev s_trail : Stmt := top 8
theorem sc_trail : FnScope ["house", "word", "ways", "rooms", "letter"] ["house", "word"] (defScope s_trail) := ⟨rfl, rfl, rfl, by decide +kernel, rfl, by decide +kernel, by decide +kernel⟩
abbrev s_room_behind : Stmt := top 9
theorem sc_room_behind : FnScope ["house", "word"] ["house", "word"] (defScope s_room_behind) := ⟨rfl, rfl, rfl, by decide +kernel, rfl, by decide +kernel, by decide +kernel⟩
abbrev s_mark_behind : Stmt := top 10
theorem sc_mark_behind : FnScope ["house", "word"] ["house", "word"] (defScope s_mark_behind) := ⟨rfl, rfl, rfl, by decide +kernel, rfl, by decide +kernel, by decide +kernel⟩
abbrev s_end_sign : Stmt := top 12
theorem sc_end_sign : FnScope ["plain", "helpers"] ["plain", "helpers"] (defScope s_end_sign) := ⟨rfl, rfl, rfl, by decide +kernel, rfl, by decide +kernel, by decide +kernel⟩
abbrev s_nested : Stmt := top 13
theorem sc_nested : FnScope ["plain", "helpers", "signs", "end", "depth", "sign"] ["plain", "helpers", "signs"] (defScope s_nested) := ⟨rfl, rfl, rfl, by decide +kernel, rfl, by decide +kernel, by decide +kernel⟩
abbrev s_check_nested : Stmt := top 14
theorem sc_check_nested : FnScope ["plain", "helpers", "signs"] ["plain", "helpers", "signs"] (defScope s_check_nested) := ⟨rfl, rfl, rfl, by decide +kernel, rfl, by decide +kernel, by decide +kernel⟩
abbrev s_parts : Stmt := top 15
theorem sc_parts : FnScope ["plain", "helpers", "signs", "end", "told", "called", "words", "sign"] ["plain", "helpers", "signs"] (defScope s_parts) := ⟨rfl, rfl, rfl, by decide +kernel, rfl, by decide +kernel, by decide +kernel⟩
abbrev s_made_works : Stmt := top 20
theorem sc_made_works : FnScope ["plain", "houses", "house"] ["plain", "houses"] (defScope s_made_works) := ⟨rfl, rfl, rfl, by decide +kernel, rfl, by decide +kernel, by decide +kernel⟩
abbrev s_takes_part : Stmt := top 21
theorem sc_takes_part : FnScope ["works", "part"] ["works", "part"] (defScope s_takes_part) := ⟨rfl, rfl, rfl, by decide +kernel, rfl, by decide +kernel, by decide +kernel⟩
abbrev s_takes : Stmt := top 22
theorem sc_takes : FnScope ["works", "signs"] ["works", "signs"] (defScope s_takes) := ⟨rfl, rfl, rfl, by decide +kernel, rfl, by decide +kernel, by decide +kernel⟩
abbrev s__law_cell_at : Stmt := top 24
theorem sc__law_cell_at : FnScope ["script", "k"] ["script", "k"] (defScope s__law_cell_at) := ⟨rfl, rfl, rfl, by decide +kernel, rfl, by decide +kernel, by decide +kernel⟩
abbrev s__law_nest : Stmt := top 25
theorem sc__law_nest : FnScope ["flow", "plain", "helpers", "row", "deep", "cell", "sign"] ["flow", "plain", "helpers"] (defScope s__law_nest) := ⟨rfl, rfl, rfl, by decide +kernel, rfl, by decide +kernel, by decide +kernel⟩
abbrev s__law_parts : Stmt := top 26
theorem sc__law_parts : FnScope ["plain", "helpers", "signs", "top", "due", "called", "words", "sign"] ["plain", "helpers", "signs", "top"] (defScope s__law_parts) := ⟨rfl, rfl, rfl, by decide +kernel, rfl, by decide +kernel, by decide +kernel⟩
abbrev s__law_draw : Stmt := top 27
theorem sc__law_draw : FnScope ["flow", "k", "many", "cell", "mixed"] ["flow", "k", "many"] (defScope s__law_draw) := ⟨rfl, rfl, rfl, by decide +kernel, rfl, by decide +kernel, by decide +kernel⟩
abbrev s__law_house_by : Stmt := top 28
theorem sc__law_house_by : FnScope ["flow", "at", "letters", "rooms", "marks", "ways", "room", "first", "mark"] ["flow", "at", "letters"] (defScope s__law_house_by) := ⟨rfl, rfl, rfl, by decide +kernel, rfl, by decide +kernel, by decide +kernel⟩
abbrev s__law_works_by : Stmt := top 29
theorem sc__law_works_by : FnScope ["flow", "plain", "helpers"] ["flow", "plain", "helpers"] (defScope s__law_works_by) := ⟨rfl, rfl, rfl, by decide +kernel, rfl, by decide +kernel, by decide +kernel⟩
abbrev s__law_answer : Stmt := top 30
theorem sc__law_answer : FnScope ["house", "word", "room", "letter"] ["house", "word"] (defScope s__law_answer) := ⟨rfl, rfl, rfl, by decide +kernel, rfl, by decide +kernel, by decide +kernel⟩
abbrev s__law_accepted : Stmt := top 31
theorem sc__law_accepted : FnScope ["works", "signs", "top", "j", "word"] ["works", "signs", "top"] (defScope s__law_accepted) := ⟨rfl, rfl, rfl, by decide +kernel, rfl, by decide +kernel, by decide +kernel⟩
abbrev s__law_other_house : Stmt := top 32
theorem sc__law_other_house : FnScope ["letters", "rooms", "row"] ["letters", "rooms"] (defScope s__law_other_house) := ⟨rfl, rfl, rfl, by decide +kernel, rfl, by decide +kernel, by decide +kernel⟩
abbrev s__law_spoiled : Stmt := top 33
theorem sc__law_spoiled : FnScope ["plain", "helpers", "houses", "cell", "letters", "spot", "way", "some", "size"] ["plain", "helpers", "houses", "cell"] (defScope s__law_spoiled) := ⟨rfl, rfl, rfl, by decide +kernel, rfl, by decide +kernel, by decide +kernel⟩
abbrev s__law_refused_works : Stmt := top 34
theorem sc__law_refused_works : FnScope ["plain", "houses", "caught", "e"] ["plain", "houses"] (defScope s__law_refused_works) := ⟨rfl, rfl, rfl, by decide +kernel, rfl, by decide +kernel, by decide +kernel⟩
abbrev s__law_refused_row : Stmt := top 35
theorem sc__law_refused_row : FnScope ["works", "signs", "caught", "e"] ["works", "signs"] (defScope s__law_refused_row) := ⟨rfl, rfl, rfl, by decide +kernel, rfl, by decide +kernel, by decide +kernel⟩
abbrev s__law_made : Stmt := top 36
theorem sc__law_made : FnScope ["plain", "houses", "given", "found"] ["plain", "houses"] (defScope s__law_made) := ⟨rfl, rfl, rfl, by decide +kernel, rfl, by decide +kernel, by decide +kernel⟩
abbrev s_law : Stmt := top 37
theorem sc_law : FnScope ["script", "plain", "helpers", "cut", "works", "row", "cell", "spoiled", "found"] ["script"] (defScope s_law) := ⟨rfl, rfl, rfl, by decide +kernel, rfl, by decide +kernel, by decide +kernel⟩
def c_is_word_0 : Caps := [("letter", none), ("letters", some 0)]
theorem nd_c_is_word_0 : (Caps.names c_is_word_0).Nodup := by decide +kernel
def c_takes_0 : Caps := [("part", none), ("works", some 0)]
theorem nd_c_takes_0 : (Caps.names c_takes_0).Nodup := by decide +kernel
def c__law_house_by_0 : Caps := [("letter", none), ("flow", some 0), ("rooms", some 3), ("first", some 7)]
theorem nd_c__law_house_by_0 : (Caps.names c__law_house_by_0).Nodup := by decide +kernel
def c__law_works_by_0 : Caps := [("j", none), ("flow", some 0), ("plain", some 1), ("helpers", some 2)]
theorem nd_c__law_works_by_0 : (Caps.names c__law_works_by_0).Nodup := by decide +kernel
structure Txt (mg : Str -> Option Value) : Prop where
  all : mg "all" = none
  bool : mg "bool" = none
  isinstance : mg "isinstance" = none
  len : mg "len" = none
  list : mg "list" = none
  max : mg "max" = none
  min : mg "min" = none
  range : mg "range" = none
  tuple : mg "tuple" = none
structure Own (K : PySem.W.Frag) (mg : Str -> Option Value) : Prop where
  q_MOST_HELPERS : ∃ t, mg "MOST_HELPERS" = some (.int 3 t)
  q_MOST_PLAIN : ∃ t, mg "MOST_PLAIN" = some (.int 4 t)
  q_MOST_ROOMS_OF_HELPER : ∃ t, mg "MOST_ROOMS_OF_HELPER" = some (.int 4 t)
structure Exs (K : PySem.W.Frag) (mg : Str -> Option Value) (C_AskError C_BadHouse C_BadWord : Addr) : Prop where
  m_AskError : mg "AskError" = some (.ref C_AskError)
  m_BadHouse : mg "BadHouse" = some (.ref C_BadHouse)
  m_BadWord : mg "BadWord" = some (.ref C_BadWord)
  x_BadHouse : PySem.W.excIn K C_BadHouse bmV "ValueError.__new__" = true
  c_BadHouse : ExcCls K C_BadHouse
  e_BadHouse : PySem.W.exmOne K (.ref C_BadHouse) (.ref C_AskError) = some true
  v_BadHouse : PySem.W.kitOne K (.ref C_BadHouse) (.type "ValueError") = some true
  k_BadHouse_AskError : PySem.W.kitOne K (.ref C_BadHouse) (.ref C_AskError) = some true
  k_BadHouse_BadHouse : PySem.W.kitOne K (.ref C_BadHouse) (.ref C_BadHouse) = some true
  k_BadHouse_BadWord : PySem.W.kitOne K (.ref C_BadHouse) (.ref C_BadWord) = some false
  x_BadWord : PySem.W.excIn K C_BadWord bmV "ValueError.__new__" = true
  c_BadWord : ExcCls K C_BadWord
  e_BadWord : PySem.W.exmOne K (.ref C_BadWord) (.ref C_AskError) = some true
  v_BadWord : PySem.W.kitOne K (.ref C_BadWord) (.type "ValueError") = some true
  k_BadWord_AskError : PySem.W.kitOne K (.ref C_BadWord) (.ref C_AskError) = some true
  k_BadWord_BadHouse : PySem.W.kitOne K (.ref C_BadWord) (.ref C_BadHouse) = some false
  k_BadWord_BadWord : PySem.W.kitOne K (.ref C_BadWord) (.ref C_BadWord) = some true
section
variable {P : Program} {w : World} {K : PySem.W.Frag} {mg : Str -> Option Value} {base : Heap}
variable {C_AskError C_BadHouse C_BadWord : Addr}
def sp_is_word (K : PySem.W.Frag) : Sp := fun vs H Q _ => ∃ (L : Int) (a : Addr) (ws : List Int), vs = [.int L, .ref a] /\ SqT K H a (ws.map V.int) /\ ws.length <= 1000 /\ ∀ H', Same H H' -> Q (.bl (isW L ws)) H'
theorem ok_is_word {f : Addr} {fd : FuncData} (F : Fun K "is_word" "is_word" s_is_word f fd) (T : Txt mg)
    (W : Own K mg)
    (Z : Exs K mg C_AskError C_BadHouse C_BadWord)
    : FnOk P w K mg base CX0 1 f fd ["letters", "word"] (sp_is_word K) := by
  refine F.ok sc_is_word (fun vs H Q E h => ?_) (fun cdv A outer s H vs Q E hr h => ?_)
  . obtain ⟨L, a, ws, rfl, _⟩ := h; rfl
  . obtain ⟨L, a, ws, rfl, hw, hz, k⟩ := h
    have hl := line1000
    refine ⟨_, (pss_one (ps_ret (pe_callB (call_all rfl) rfl T.all PyProof.Rows.boot_all (pa_cons (pe_comp rfl (blk_mk rfl) (cp := c_is_word_0) ⟨⟨rfl, rfl⟩, True.intro⟩ (pi_tup (pv 1)) (fun _ _ _ _ => (pg_name (i := 0) nd_c_is_word_0 rfl (Or.inl rfl))) (fun _ _ _ _ => pf_nil) (fun _ _ _ _ => (pe_chain op_le op_lt pe_int (pv 0) (pv 1)))) pa_nil)))), ?_⟩
    walk_at "rd"
    refine ⟨⟨_, hw⟩, compMapT (σ' := [some (.int L)]) (fun x => match x with | .int n => .bl (inW L n) | _ => .non) rfl hw (by rw [List.length_map]; omega) (fun x hx R hR => ?_) (fun D hD => ?_)⟩
    . obtain ⟨n, _, rfl⟩ := mem_mapI hx
      walk_at "rd"
      by_cases h0 : 0 <= n
      . simp only [h0, if_true]
        simpa [inW, h0] using hR
      . simp only [h0, if_false]
        simpa [inW, h0] using hR
    . refine ⟨D, rfl, ws.map (inW L), .inl (.inl ?_), ?_⟩
      . rw [upd_same, List.map_map, List.map_map]; rfl
      . have := k _ (Same.new hD (o := .lst ((ws.map V.int).map fun x => match x with | .int n => .bl (inW L n) | _ => .non)))
        simpa [isW, List.all_map] using this
def sp_check79 (K : PySem.W.Frag) : Sp := fun vs H Q _ => ∃ (L : Int) (a : Addr) (ws : List Int), vs = [.int L, .ref a] /\ SqT K H a (ws.map V.int) /\ ws.length <= 1000 /\ isW L ws = true /\ ∀ H', Same H H' -> Q .non H'
theorem ok_check_word {f : Addr} {fd : FuncData} (F : Fun K "check_word" "check_word" s_check_word f fd) (T : Txt mg)
    (W : Own K mg)
    (Z : Exs K mg C_AskError C_BadHouse C_BadWord)
    {f_is_word : Addr} {fd_is_word : FuncData} (g_is_word : FnOk P w K mg base CX0 1 f_is_word fd_is_word ["letters", "word"] (sp_is_word K)) (F_is_word : Fun K "is_word" "is_word" s_is_word f_is_word fd_is_word) (b_is_word : Binds K fd_is_word ["letters", "word"] []) (m_is_word : mg "is_word" = some (.ref f_is_word))
    : FnOk P w K mg base CX0 2 f fd ["letters", "word"] (sp_check79 K) := by
  refine F.ok sc_check_word (fun vs H Q E h => ?_) (fun cdv A outer s H vs Q E hr h => ?_)
  . obtain ⟨L, a, ws, rfl, _⟩ := h; rfl
  . obtain ⟨L, a, ws, rfl, hw, hz, hv, k⟩ := h
    refine ⟨_, (pss_one (ps_if (pt_not (pt_val (pe_call g_is_word (hr.mono (by decide)) rfl m_is_word F_is_word.kp b_is_word .nil pass0 (pa_cons (pv 0) (pa_cons (pv 1) pa_nil)))))
      (pss_one ps_never)
      pss_nil)), ?_⟩
    walk_at "rd"
    refine ⟨L, a, ws, rfl, hw, by omega, fun H' s' => ⟨_, rfl, ?_⟩⟩
    rw [hv, if_neg (by decide)]
    exact k H' s'
def sp_trail79 (K : PySem.W.Frag) : Sp := fun vs H Q _ => ∃ (h a : Addr) (L : Int) (marks : List Int) (ways : List (List Int)) (ws : List Int), vs = [.ref h, .ref a] /\ House K H h L marks ways /\ Wf L marks ways /\ SqT K H a (ws.map V.int) /\ ws.length <= 600 /\ isW L ws = true /\ ∀ p H', Same H H' -> H p = none -> H' p = some (.lst ((trailW ways ws).map V.int)) -> Q (.ref p) H'
theorem ok_trail {f : Addr} {fd : FuncData} (F : Fun K "trail" "trail" s_trail f fd) (T : Txt mg)
    (W : Own K mg)
    (Z : Exs K mg C_AskError C_BadHouse C_BadWord)
    {f_check_word : Addr} {fd_check_word : FuncData} (g_check_word : FnOk P w K mg base CX0 2 f_check_word fd_check_word ["letters", "word"] (sp_check79 K)) (F_check_word : Fun K "check_word" "check_word" s_check_word f_check_word fd_check_word) (b_check_word : Binds K fd_check_word ["letters", "word"] []) (m_check_word : mg "check_word" = some (.ref f_check_word))
    : FnOk P w K mg base CX0 3 f fd ["house", "word"] (sp_trail79 K) := by
  refine F.ok sc_trail (fun vs H Q E h => ?_) (fun cdv A outer s H vs Q E hr h => ?_)
  . obtain ⟨h, a, L, marks, ways, ws, rfl, _⟩ := h; rfl
  . obtain ⟨h, a, L, marks, ways, ws, rfl, hh, wf, hw, hz, hv, k⟩ := h
    have hl := line1000
    refine ⟨_, (pss_cons (ps_expr (pe_call g_check_word (hr.mono (by decide)) rfl m_check_word F_check_word.kp b_check_word .nil pass0 (pa_cons (pe_ix ix_tup (pv 0) pe_int (fun _ _ => rfl)) (pa_cons (pv 1) pa_nil))))
      (pss_cons (ps_set (i := 2) sc_trail.nd rfl (Or.inl rfl) (pe_ix ix_tup (pv 0) pe_int (fun _ _ => rfl)))
      (pss_cons (ps_set (i := 3) sc_trail.nd rfl (Or.inl rfl) (pe_lst (pa_cons pe_int pa_nil)))
      (pss_cons (ps_for PassesOwn.never rfl (pi_tup (pv 1)) (pg_name (i := 4) sc_trail.nd rfl (Or.inl rfl))
      (pss_one (ps_expr (pe_bm PySem.F.plainAttrs_list PySem.F.slot_list_append PySem.F.type_list_append mt_append (pv 3) (pa_cons (pe_ix ix_tup (pe_ix ix_tup (pv 2) (pe_ix ix_list (pv 3) (pe_un un_neg pe_int) (fun _ _ => rfl)) (fun _ _ => rfl)) (pv 4) (fun _ _ => rfl)) pa_nil)))))
      (pss_one (ps_ret (pv 3))))))), ?_⟩
    walk_at "rd"
    obtain ⟨m, wv, h1, h2, h3⟩ := hh
    refine ⟨_, h1, _, rfl, L, a, ws, rfl, hw, by omega, hv, fun H1 s1 => ?_⟩
    walk_at "rd"
    have hw1 := s1.seqT hw
    have h3' := h3.mono s1
    refine ⟨_, s1.seqT h1, _, rfl, by omega, fun p hp => ?_⟩
    have s2 := Same.new hp (o := .lst [V.int 0])
    refine ⟨⟨_, s2.seqT hw1⟩, forT (xs := ws.map V.int) (fun i σ2 H2 => Same H1 H2 /\ H2 p = some (.lst (((List.range (i + 1)).map fun j => walkW ways (ws.take j)).map V.int)) /\ ∃ o, σ2 = [some (.ref h), some (.ref a), some (.ref wv), some (.ref p), o]) ⟨s2, by rw [upd_same]; simp [walkW], none, rfl⟩ (fun i σ2 H2 _ h => h.1.seqT hw1) (fun i x σ2 H2 hx h => ?_) (fun σ2 H2 h => ?_)⟩
    . obtain ⟨s3, hp3, o, rfl⟩ := h
      obtain ⟨n, hn, rfl⟩ := get_mapI hx
      have hi := (List.getElem?_eq_some_iff.mp hn).1
      have hx := isW_iff.mp hv n (List.mem_of_getElem? hn)
      have hwk := wf.walk hv i
      obtain ⟨row, g, r1, r2, r3, r4, r5⟩ := wf.step hwk.1 hwk.2 hx.1 hx.2
      obtain ⟨xs, t, q1, q2, q3⟩ := (h3'.mono s3).atZ hwk.1 r1
      walk_at "rd"
      refine ⟨.inl ⟨rfl, _, SqL.of hp3⟩, _, SqL.of hp3, _, atI_end (v := V.int (walkW ways (ws.take i))) (by simp), ?_⟩
      walk_at "rd"
      refine ⟨_, q1, _, q2, ?_⟩
      walk_at "rd"
      refine ⟨_, q3, _, atI_int hx.1 r2, _, hp3, by simp; omega, s3.over hp, ?_, _, rfl⟩
      rw [upd_same, show List.range (i + 1 + 1) = List.range (i + 1) ++ [i + 1] from List.range_succ, List.map_append, List.map_append, <- r3, <- walkW_take hn]
      rfl
    . obtain ⟨s3, hp3, o, rfl⟩ := h
      walk_at "rd"
      rw [List.length_map] at hp3
      exact k p H2 (s1.trans s3) (s1.free hp) hp3
def sp_room79 (K : PySem.W.Frag) : Sp := fun vs H Q _ => ∃ (h a : Addr) (L : Int) (marks : List Int) (ways : List (List Int)) (ws : List Int), vs = [.ref h, .ref a] /\ House K H h L marks ways /\ Wf L marks ways /\ SqT K H a (ws.map V.int) /\ ws.length <= 600 /\ isW L ws = true /\ ∀ H', Same H H' -> Q (.int (walkW ways ws)) H'
theorem ok_room_behind {f : Addr} {fd : FuncData} (F : Fun K "room_behind" "room_behind" s_room_behind f fd) (T : Txt mg)
    (W : Own K mg)
    (Z : Exs K mg C_AskError C_BadHouse C_BadWord)
    {f_trail : Addr} {fd_trail : FuncData} (g_trail : FnOk P w K mg base CX0 3 f_trail fd_trail ["house", "word"] (sp_trail79 K)) (F_trail : Fun K "trail" "trail" s_trail f_trail fd_trail) (b_trail : Binds K fd_trail ["house", "word"] []) (m_trail : mg "trail" = some (.ref f_trail))
    : FnOk P w K mg base CX0 4 f fd ["house", "word"] (sp_room79 K) := by
  refine F.ok sc_room_behind (fun vs H Q E h => ?_) (fun cdv A outer s H vs Q E hr h => ?_)
  . obtain ⟨h, a, L, marks, ways, ws, rfl, _⟩ := h; rfl
  . obtain ⟨h, a, L, marks, ways, ws, rfl, hh, wf, hw, hz, hv, k⟩ := h
    have hl := line1000
    refine ⟨_, (pss_one (ps_ret (pe_ix ix_list (pe_call g_trail (hr.mono (by decide)) rfl m_trail F_trail.kp b_trail .nil pass0 (pa_cons (pv 0) (pa_cons (pv 1) pa_nil))) (pe_un un_neg pe_int) (fun _ _ => rfl)))), ?_⟩
    walk_at "rd"
    refine ⟨h, a, L, marks, ways, ws, rfl, hh, wf, hw, hz, hv, fun p H1 s1 _ hp => ?_⟩
    walk_at "rd"
    refine ⟨_, SqL.of hp, _, atI_end (v := V.int (walkW ways ws)) ?_, k H1 s1⟩
    rw [List.getElem?_map, List.length_map, trailW_length, show ws.length + 1 - 1 = ws.length by omega, trailW_last]; rfl
def markW (marks : List Int) (r : Int) : Int := marks.getD r.toNat 0
theorem markW_at {marks : List Int} {r : Int} (h0 : 0 <= r) (h1 : r < marks.length) : atI (marks.map V.int) r = some (V.int (markW marks r)) := by
  have hlt : r.toNat < marks.length := by omega
  refine atI_int h0 ?_
  unfold markW
  rw [List.getD_eq_getElem?_getD]
  simp [hlt]
def sp_mark79 (K : PySem.W.Frag) : Sp := fun vs H Q _ => ∃ (h a : Addr) (L : Int) (marks : List Int) (ways : List (List Int)) (ws : List Int), vs = [.ref h, .ref a] /\ House K H h L marks ways /\ Wf L marks ways /\ SqT K H a (ws.map V.int) /\ ws.length <= 600 /\ isW L ws = true /\ ∀ H', Same H H' -> Q (.int (markW marks (walkW ways ws))) H'
theorem ok_mark_behind {f : Addr} {fd : FuncData} (F : Fun K "mark_behind" "mark_behind" s_mark_behind f fd) (T : Txt mg)
    (W : Own K mg)
    (Z : Exs K mg C_AskError C_BadHouse C_BadWord)
    {f_room_behind : Addr} {fd_room_behind : FuncData} (g_room_behind : FnOk P w K mg base CX0 4 f_room_behind fd_room_behind ["house", "word"] (sp_room79 K)) (F_room_behind : Fun K "room_behind" "room_behind" s_room_behind f_room_behind fd_room_behind) (b_room_behind : Binds K fd_room_behind ["house", "word"] []) (m_room_behind : mg "room_behind" = some (.ref f_room_behind))
    : FnOk P w K mg base CX0 5 f fd ["house", "word"] (sp_mark79 K) := by
  refine F.ok sc_mark_behind (fun vs H Q E h => ?_) (fun cdv A outer s H vs Q E hr h => ?_)
  . obtain ⟨h, a, L, marks, ways, ws, rfl, _⟩ := h; rfl
  . obtain ⟨h, a, L, marks, ways, ws, rfl, hh, wf, hw, hz, hv, k⟩ := h
    have hl := line1000
    refine ⟨_, (pss_one (ps_ret (pe_ix ix_tup (pe_ix ix_tup (pv 0) pe_int (fun _ _ => rfl)) (pe_call g_room_behind (hr.mono (by decide)) rfl m_room_behind F_room_behind.kp b_room_behind .nil pass0 (pa_cons (pv 0) (pa_cons (pv 1) pa_nil))) (fun _ _ => rfl)))), ?_⟩
    walk_at "rd"
    have hh' := hh
    obtain ⟨m, wv, h1, h2, h3⟩ := hh
    refine ⟨_, h1, _, rfl, ?_⟩
    walk_at "rd"
    refine ⟨h, a, L, marks, ways, ws, rfl, hh', wf, hw, hz, hv, fun H1 s1 => ?_⟩
    walk_at "rd"
    have hwk := wf.walk hv ws.length
    rw [List.take_length] at hwk
    exact ⟨_, s1.seqT h2, _, markW_at hwk.1 hwk.2, k H1 s1⟩
def sp_end_sign : Sp := fun vs H Q _ => ∃ p h : Int, vs = [.int p, .int h] /\ Q (.int (p + h)) H
theorem ok_end_sign {f : Addr} {fd : FuncData} (F : Fun K "end_sign" "end_sign" s_end_sign f fd) (T : Txt mg)
    (W : Own K mg)
    (Z : Exs K mg C_AskError C_BadHouse C_BadWord)
    : FnOk P w K mg base CX0 1 f fd ["plain", "helpers"] (sp_end_sign) := by
  refine F.ok sc_end_sign (fun vs H Q E h => ?_) (fun cdv A outer s H vs Q E hr h => ?_)
  . obtain ⟨p, h, rfl, _⟩ := h; rfl
  . obtain ⟨p, h, rfl, k⟩ := h
    refine ⟨_, (pss_one (ps_ret (pe_op op_add (pv 0) (pv 1)))), ?_⟩
    walk_at "rd"
    exact k
open Nest (nestR nestR_drop prtF prtS prtS_take partsW)
def sp_nested (K : PySem.W.Frag) : Sp := fun vs H Q _ => ∃ (p h : Int) (a : Addr) (ws : List Int), vs = [.int p, .int h, .ref a] /\ SqT K H a (ws.map V.int) /\ ws.length <= 5000 /\ Q (.bl (nestR p (p + h) ws 0)) H
theorem ok_nested {f : Addr} {fd : FuncData} (F : Fun K "nested" "nested" s_nested f fd) (T : Txt mg)
    (W : Own K mg)
    (Z : Exs K mg C_AskError C_BadHouse C_BadWord)
    {f_end_sign : Addr} {fd_end_sign : FuncData} (g_end_sign : FnOk P w K mg base CX0 1 f_end_sign fd_end_sign ["plain", "helpers"] (sp_end_sign)) (F_end_sign : Fun K "end_sign" "end_sign" s_end_sign f_end_sign fd_end_sign) (b_end_sign : Binds K fd_end_sign ["plain", "helpers"] []) (m_end_sign : mg "end_sign" = some (.ref f_end_sign))
    : FnOk P w K mg base CX0 2 f fd ["plain", "helpers", "signs"] (sp_nested K) := by
  refine F.ok sc_nested (fun vs H Q E h => ?_) (fun cdv A outer s H vs Q E hr h => ?_)
  . obtain ⟨p, h, a, ws, rfl, _⟩ := h; rfl
  . obtain ⟨p, h, a, ws, rfl, ha, hz, k⟩ := h
    refine ⟨_, (pss_cons (ps_set (i := 3) sc_nested.nd rfl (Or.inl rfl) (pe_call g_end_sign (hr.mono (by decide)) rfl m_end_sign F_end_sign.kp b_end_sign .nil pass0 (pa_cons (pv 0) (pa_cons (pv 1) pa_nil))))
      (pss_cons (ps_set (i := 4) sc_nested.nd rfl (Or.inl rfl) pe_int)
      (pss_cons (ps_for PassesOwn.never rfl (pi_tup (pv 2)) (pg_name (i := 5) sc_nested.nd rfl (Or.inl rfl))
      (pss_cons (ps_if (pt_not (pt_chain op_le op_le pe_int (pv 5) (pv 3)))
      (pss_one (ps_ret pe_bl))
      pss_nil)
      (pss_cut (ps_if (pt_cmpR op_eq (pv 5) (pv 3) (nomark _))
      (pss_one (ps_aug (i := 4) sc_nested.nd rfl (Or.inl rfl) pe_int ip_sub))
      (pss_one (ps_if (pt_cmpR op_ge (pv 5) (pv 0) (nomark _))
      (pss_one (ps_aug (i := 4) sc_nested.nd rfl (Or.inl rfl) pe_int ip_add))
      pss_nil)))
      (pss_one (ps_if (pt_cmpR op_lt (pv 4) pe_int (nomark _))
      (pss_one (ps_ret pe_bl))
      pss_nil)))))
      (pss_one (ps_ret (pe_cmpR op_eq (pv 4) pe_int (nomark _))))))), ?_⟩
    walk_at "rd"
    refine ⟨p, h, rfl, ?_⟩
    walk_at "rd"
    refine ⟨⟨_, ha⟩, ?_⟩
    obtain ⟨Pv, hPv⟩ : ∃ Pv : Nat -> St -> Hp -> Prop, ∀ i σ' H', Pv i σ' H' ↔ (H' = H /\ ∃ (d : Nat) (o : Option V), nestR p (p + h) (ws.drop i) d = nestR p (p + h) ws 0 /\ σ' = [some (.int p), some (.int h), some (.ref a), some (.int (p + h)), some (.int d), o]) := ⟨_, fun _ _ _ => Iff.rfl⟩
    refine forT (xs := ws.map V.int) Pv ((hPv _ _ _).mpr ⟨rfl, 0, none, rfl, rfl⟩) (fun i σ2 H2 _ h2 => by rw [((hPv _ _ _).mp h2).1]; exact ha) (fun i x σ2 H2 hx h2 => ?_) (fun σ2 H2 h2 => ?_)
    . obtain ⟨rfl, d, o, hd, rfl⟩ := (hPv _ _ _).mp h2
      obtain ⟨n, hn, rfl⟩ := get_mapI hx
      rw [nestR_drop hn] at hd
      walk_at "rd"
      by_cases h0 : 0 <= n /\ n <= p + h
      . rw [if_pos h0.1, if_neg (by simp [h0.2])]
        rw [if_neg (by omega)] at hd
        obtain ⟨R, hR⟩ : ∃ R : St -> Hp -> Prop, ∀ σ' H', R σ' H' ↔ (H' = H2 /\ ∃ d' : Int, ((n = p + h /\ d' = d - 1) \/ (n ≠ p + h /\ p <= n /\ d' = d + 1) \/ (n ≠ p + h /\ ¬ p <= n /\ d' = d)) /\ σ' = [some (.int p), some (.int h), some (.ref a), some (.int (p + h)), some (.int d'), some (.int n)]) := ⟨_, fun _ _ => Iff.rfl⟩
        refine ⟨R, ?_, fun σ3 H3 h3 => ?_⟩
        . walk_at "rd"
          exact ite2 (fun e => (hR _ _).mpr ⟨rfl, _, .inl ⟨e, rfl⟩, rfl⟩) (fun e => ite2 (fun e2 => (hR _ _).mpr ⟨rfl, _, .inr (.inl ⟨e, e2, rfl⟩), rfl⟩) (fun e2 => (hR _ _).mpr ⟨rfl, _, .inr (.inr ⟨e, e2, rfl⟩), rfl⟩))
        . obtain ⟨rfl, d', hc, rfl⟩ := (hR _ _).mp h3
          walk_at "rd"
          rcases hc with ⟨e, rfl⟩ | ⟨e, e2, rfl⟩ | ⟨e, e2, rfl⟩
          . rw [if_pos e] at hd
            cases d with
            | zero =>
              rw [if_pos (by omega)]
              rw [<- hd] at k
              exact k
            | succ d =>
              rw [if_neg (by omega)]
              exact (hPv _ _ _).mpr ⟨rfl, d, _, hd, by rw [show ((d + 1 : Nat) : Int) - 1 = (d : Int) from by omega]⟩
          . rw [if_neg e, if_pos e2] at hd
            rw [if_neg (by omega)]
            exact (hPv _ _ _).mpr ⟨rfl, d + 1, _, hd, by rw [show ((d + 1 : Nat) : Int) = (d : Int) + 1 from by omega]⟩
          . rw [if_neg e, if_neg e2] at hd
            rw [if_neg (by omega)]
            exact (hPv _ _ _).mpr ⟨rfl, d, _, hd, rfl⟩
      . rw [if_pos (by omega)] at hd
        rw [<- hd] at k
        by_cases h1 : 0 <= n
        . rw [if_pos h1, if_pos (by simp; omega)]
          exact k
        . rw [if_neg h1]
          exact k
    . obtain ⟨rfl, d, o, hd, rfl⟩ := (hPv _ _ _).mp h2
      rw [List.length_map, List.drop_length, show nestR p (p + h) [] d = decide (d = 0) from rfl] at hd
      walk_at "rd"
      rw [show decide ((d : Int) = 0) = decide (d = 0) from by simp, hd]
      exact k
def sp_check_nested (K : PySem.W.Frag) (BW : Addr) : Sp := fun vs H Q E => ∃ (p h : Int) (a : Addr) (ws : List Int), vs = [.int p, .int h, .ref a] /\ SqT K H a (ws.map V.int) /\ ws.length <= 5000 /\ (nestR p (p + h) ws 0 = true -> Q .non H) /\ (nestR p (p + h) ws 0 = false -> E (.ref BW) none H)
theorem ok_check_nested {f : Addr} {fd : FuncData} (F : Fun K "check_nested" "check_nested" s_check_nested f fd) (T : Txt mg)
    (W : Own K mg)
    (Z : Exs K mg C_AskError C_BadHouse C_BadWord)
    {f_nested : Addr} {fd_nested : FuncData} (g_nested : FnOk P w K mg base CX0 2 f_nested fd_nested ["plain", "helpers", "signs"] (sp_nested K)) (F_nested : Fun K "nested" "nested" s_nested f_nested fd_nested) (b_nested : Binds K fd_nested ["plain", "helpers", "signs"] []) (m_nested : mg "nested" = some (.ref f_nested))
    : FnOk P w K mg base (CXe P w) 3 f fd ["plain", "helpers", "signs"] (sp_check_nested K C_BadWord) := by
  refine F.okE sc_check_nested (fun vs H Q E h => ?_) (fun cdv A outer s H vs Q E hr h => ?_)
  . obtain ⟨p, h, a, ws, rfl, _⟩ := h; rfl
  . obtain ⟨p, h, a, ws, rfl, ha, hz, k, kE⟩ := h
    have hl := line1000
    refine ⟨_, (pss_one (ps_if (pt_not (pt_val (pe_call g_nested (hr.mono (by decide)) rfl m_nested F_nested.kp b_nested .nil pass0 (pa_cons (pv 0) (pa_cons (pv 1) (pa_cons (pv 2) pa_nil))))))
      (pss_one (ps_raise Z.m_BadWord Z.x_BadWord rfl rfl (pa_cons pe_str pa_nil)))
      pss_nil)), ?_⟩
    walk_at "rd"
    refine ⟨p, h, a, ws, rfl, ha, hz, ?_⟩
    walk_at "rd"
    cases hv : nestR p (p + h) ws 0 with
    | true =>
      simp only [Bool.not_true, Bool.false_eq_true, if_false]
      exact k hv
    | false =>
      simp only [Bool.not_false, if_true]
      exact ⟨by omega, kE hv⟩
theorem ne_of_none' {H : Hp} {p q : Addr} {o : HO} (h : H p = none) (g : H q = some o) : p ≠ q := fun z => by rw [z, g] at h; cases h
theorem LLs.last {H0 H : Hp} {xs : List V} {ws : List (List Int)} {w : List Int} (h : LLs H0 H xs (ws ++ [w])) : ∃ ys t, xs = ys ++ [.ref t] /\ H t = some (.lst (w.map V.int)) /\ H0 t = none /\ LLs H0 H ys ws /\ ∀ v : List Int, LLs H0 (upd H t (.lst (v.map V.int))) xs (ws ++ [v]) := by
  obtain ⟨ts, a, b, c, d, e⟩ := h
  rw [List.length_append, List.length_singleton] at b
  obtain ⟨us, t, rfl⟩ : ∃ us t, ts = us ++ [t] := ⟨ts.dropLast, ts.getLast (fun z => by rw [z] at b; simp at b), (List.dropLast_concat_getLast _).symm⟩
  have hul : us.length = ws.length := by rw [List.length_append, List.length_singleton] at b; omega
  have nd := List.nodup_append.mp c
  have hut : ∀ u ∈ us, u ≠ t := fun u hu => nd.2.2 u hu t (by simp)
  have hlow : ∀ (i : Nat) (u : Addr) (v : List Int), us[i]? = some u -> ws[i]? = some v -> H u = some (.lst (v.map V.int)) := fun i u v h1 h2 => by
    have hi := (List.getElem?_eq_some_iff.mp h1).1
    exact d i u v (by rw [List.getElem?_append_left hi]; exact h1) (by rw [List.getElem?_append_left (by omega)]; exact h2)
  refine ⟨us.map V.ref, t, by rw [a]; simp, ?_, e t (by simp), ⟨us, rfl, hul, nd.1, hlow, fun u hu => e u (by simp [hu])⟩, fun v => ⟨us ++ [t], a, by simp [hul], c, fun i u v' h1 h2 => ?_, e⟩⟩
  . exact d us.length t w (by simp) (by rw [hul]; simp)
  . by_cases hi : i < us.length
    . rw [List.getElem?_append_left hi] at h1
      rw [List.getElem?_append_left (by omega)] at h2
      rw [upd_ne (hut u (List.mem_of_getElem? h1))]
      exact hlow i u v' h1 h2
    . have := (List.getElem?_eq_some_iff.mp h1).1
      rw [List.length_append, List.length_singleton] at this
      have ei : i = us.length := by omega
      subst ei
      rw [List.getElem?_append_right (Nat.le_refl _), Nat.sub_self] at h1
      rw [hul, List.getElem?_append_right (Nat.le_refl _), Nat.sub_self] at h2
      simp at h1 h2
      subst h1 h2
      exact upd_same
theorem LLs.head {H0 H : Hp} {xs : List V} {ws : List (List Int)} {w : List Int} (h : LLs H0 H xs (w :: ws)) : ∃ t, xs[0]? = some (.ref t) /\ H t = some (.lst (w.map V.int)) := by
  obtain ⟨ts, a, b, c, d, e⟩ := h
  cases ts with
  | nil => simp at b
  | cons t ts => exact ⟨t, by rw [a]; rfl, d 0 t w rfl rfl⟩
def PartsL (K : PySem.W.Frag) (H : Hp) (xs : List V) (ps : List (Int × List Int)) : Prop := xs.length = ps.length /\ ∀ (i : Nat) (pr : Int × List Int), ps[i]? = some pr -> ∃ t tw, xs[i]? = some (.ref t) /\ H t = some (.tup [.int pr.1, .ref tw]) /\ H tw = some (.tup (pr.2.map V.int))
theorem PartsL.nil {K : PySem.W.Frag} {H : Hp} : PartsL K H [] [] := ⟨rfl, fun i pr h => by simp at h⟩
theorem PartsL.mono {K : PySem.W.Frag} {H H' : Hp} {xs : List V} {ps : List (Int × List Int)} (h : PartsL K H xs ps) (s : ∀ t ys, H t = some (.tup ys) -> H' t = some (.tup ys)) : PartsL K H' xs ps := by
  refine ⟨h.1, fun i pr hi => ?_⟩
  obtain ⟨t, tw, a, b, c⟩ := h.2 i pr hi
  exact ⟨t, tw, a, s _ _ b, s _ _ c⟩
theorem PartsL.snoc {K : PySem.W.Frag} {H : Hp} {xs : List V} {ps : List (Int × List Int)} {t tw : Addr} {j : Int} {w : List Int} (h : PartsL K H xs ps) (h1 : H t = some (.tup [.int j, .ref tw])) (h2 : H tw = some (.tup (w.map V.int))) : PartsL K H (xs ++ [.ref t]) (ps ++ [(j, w)]) := by
  refine ⟨by simp [h.1], fun i pr hi => ?_⟩
  by_cases hl : i < ps.length
  . rw [List.getElem?_append_left hl] at hi
    rw [List.getElem?_append_left (by rw [h.1]; exact hl)]
    exact h.2 i pr hi
  . have := (List.getElem?_eq_some_iff.mp hi).1
    rw [List.length_append, List.length_singleton] at this
    have e : i = ps.length := by omega
    subst e
    rw [List.getElem?_append_right (Nat.le_refl _), Nat.sub_self] at hi
    simp at hi
    subst hi
    exact ⟨t, tw, by rw [<- h.1]; simp, h1, h2⟩
def sp_parts (K : PySem.W.Frag) (BW : Addr) : Sp := fun vs H Q E => ∃ (p h : Int) (a : Addr) (ws : List Int), vs = [.int p, .int h, .ref a] /\ SqT K H a (ws.map V.int) /\ ws.length <= 4500 /\ (nestR p (p + h) ws 0 = true -> ∀ l xs H', Same H H' -> H' l = some (.lst xs) -> PartsL K H' xs (partsW p (p + h) ws) -> Q (.ref l) H') /\ (nestR p (p + h) ws 0 = false -> E (.ref BW) none H)
theorem ok_parts {f : Addr} {fd : FuncData} (F : Fun K "parts" "parts" s_parts f fd) (T : Txt mg)
    (W : Own K mg)
    (Z : Exs K mg C_AskError C_BadHouse C_BadWord)
    {f_end_sign : Addr} {fd_end_sign : FuncData} (g_end_sign : FnOk P w K mg base CX0 1 f_end_sign fd_end_sign ["plain", "helpers"] (sp_end_sign)) (F_end_sign : Fun K "end_sign" "end_sign" s_end_sign f_end_sign fd_end_sign) (b_end_sign : Binds K fd_end_sign ["plain", "helpers"] []) (m_end_sign : mg "end_sign" = some (.ref f_end_sign))
    {f_check_nested : Addr} {fd_check_nested : FuncData} (g_check_nested : FnOk P w K mg base (CXe P w) 3 f_check_nested fd_check_nested ["plain", "helpers", "signs"] (sp_check_nested K C_BadWord)) (F_check_nested : Fun K "check_nested" "check_nested" s_check_nested f_check_nested fd_check_nested) (b_check_nested : Binds K fd_check_nested ["plain", "helpers", "signs"] []) (m_check_nested : mg "check_nested" = some (.ref f_check_nested))
    : FnOk P w K mg base (CXe P w) 4 f fd ["plain", "helpers", "signs"] (sp_parts K C_BadWord) := by
  refine F.okE sc_parts (fun vs H Q E h => ?_) (fun cdv A outer s H vs Q E hr h => ?_)
  . obtain ⟨p, h, a, ws, rfl, _⟩ := h; rfl
  . obtain ⟨p, h, a, ws, rfl, ha, hz, k, kE⟩ := h
    have hln := line1000
    refine ⟨_, (pss_cons (ps_expr (pe_call g_check_nested (hr.mono (by decide)) rfl m_check_nested F_check_nested.kp b_check_nested .nil (passE fun _ _ _ h => h) (pa_cons (pv 0) (pa_cons (pv 1) (pa_cons (pv 2) pa_nil)))))
      (PSs.nox (pss_cons (ps_set (i := 3) sc_parts.nd rfl (Or.inl rfl) (pe_call g_end_sign (hr.mono (by decide)) rfl m_end_sign F_end_sign.kp b_end_sign .nil pass0 (pa_cons (pv 0) (pa_cons (pv 1) pa_nil))))
      (pss_cons (ps_set (i := 4) sc_parts.nd rfl (Or.inl rfl) (pe_lst pa_nil))
      (pss_cons (ps_set (i := 5) sc_parts.nd rfl (Or.inl rfl) (pe_lst pa_nil))
      (pss_cons (ps_set (i := 6) sc_parts.nd rfl (Or.inl rfl) (pe_lst (pa_cons (pe_lst pa_nil) pa_nil)))
      (pss_cons (ps_for PassesOwn.never rfl (pi_tup (pv 2)) (pg_name (i := 7) sc_parts.nd rfl (Or.inl rfl))
      (pss_cons (ps_if (pt_cmpR op_eq (pv 7) (pv 3) (nomark _))
      (pss_cons (ps_expr (pe_bm PySem.F.plainAttrs_list PySem.F.slot_list_append PySem.F.type_list_append mt_append (pv 4) (pa_cons (pe_tup (pa_cons (pe_bm0 PySem.F.plainAttrs_list PySem.F.slot_list_pop PySem.F.type_list_pop mt_pop (pv 5)) (pa_cons (pe_callTy call_tuple_of rfl T.tuple PyProof.Rows.boot_tuple (pa_cons (pe_bm0 PySem.F.plainAttrs_list PySem.F.slot_list_pop PySem.F.type_list_pop mt_pop (pv 6)) pa_nil)) pa_nil))) pa_nil)))
      (pss_one ps_continue))
      pss_nil)
      (pss_cons (ps_expr (pe_bm PySem.F.plainAttrs_list PySem.F.slot_list_append PySem.F.type_list_append mt_append (pe_ix ix_list (pv 6) (pe_un un_neg pe_int) (fun _ _ => rfl)) (pa_cons (pv 7) pa_nil)))
      (pss_one (ps_if (pt_cmpR op_ge (pv 7) (pv 0) (nomark _))
      (pss_cons (ps_expr (pe_bm PySem.F.plainAttrs_list PySem.F.slot_list_append PySem.F.type_list_append mt_append (pv 5) (pa_cons (pe_op op_sub (pv 7) (pv 0)) pa_nil)))
      (pss_one (ps_expr (pe_bm PySem.F.plainAttrs_list PySem.F.slot_list_append PySem.F.type_list_append mt_append (pv 6) (pa_cons (pe_lst pa_nil) pa_nil)))))
      pss_nil)))))
      (pss_cons (ps_expr (pe_bm PySem.F.plainAttrs_list PySem.F.slot_list_append PySem.F.type_list_append mt_append (pv 4) (pa_cons (pe_tup (pa_cons pe_int (pa_cons (pe_callTy call_tuple_of rfl T.tuple PyProof.Rows.boot_tuple (pa_cons (pe_ix ix_list (pv 6) pe_int (fun _ _ => rfl)) pa_nil)) pa_nil))) pa_nil)))
      (pss_one (ps_ret (pv 4))))))))))), ?_⟩
    walk_at "rd"
    refine ⟨p, h, a, ws, rfl, ha, by omega, fun hv => ?_, kE⟩
    walk_at "rd"
    refine ⟨p, h, rfl, ?_⟩
    walk_at "rd"
    refine ⟨by omega, fun q1 hq1 => ⟨by omega, fun q2 hq2 => ⟨by omega, fun t0 ht0 => ⟨by omega, fun q hq => ?_⟩⟩⟩⟩
    have sa := ((Same.new hq1 (o := .lst [])).newT hq2 (o := .lst [])).newT ht0 (o := .lst [])
    have sb := sa.newT hq (o := .lst [V.ref t0])
    have hq21 : q2 ≠ q1 := (none_of_upd hq2).2
    have ht02 : t0 ≠ q2 := (none_of_upd ht0).2
    have ht01 : t0 ≠ q1 := (none_of_upd (none_of_upd ht0).1).2
    have hqt : q ≠ t0 := (none_of_upd hq).2
    have hq2' : q ≠ q2 := (none_of_upd (none_of_upd hq).1).2
    have hq1' : q ≠ q1 := (none_of_upd (none_of_upd (none_of_upd hq).1).1).2
    have ht0H : H t0 = none := (none_of_upd (none_of_upd ht0).1).1
    obtain ⟨G0, hG0⟩ : ∃ G : Hp, G = upd (upd (upd H q1 (.lst [])) q2 (.lst [])) q (.lst []) := ⟨_, rfl⟩
    have g1 : G0 q1 = some (.lst []) := by rw [hG0, upd_ne (Ne.symm hq1'), upd_ne (Ne.symm hq21)]; exact upd_same
    have g2 : G0 q2 = some (.lst []) := by rw [hG0, upd_ne (Ne.symm hq2')]; exact upd_same
    have g3 : G0 q = some (.lst []) := by rw [hG0]; exact upd_same
    have g0 : G0 t0 = none := by rw [hG0, upd_ne (Ne.symm hqt), upd_ne ht02, upd_ne ht01]; exact ht0H
    have L0 : LLs G0 (upd (upd (upd (upd H q1 (.lst [])) q2 (.lst [])) t0 (.lst [])) q (.lst [V.ref t0])) [V.ref t0] [[]] := ((LLs.nil G0 (upd (upd H q1 (.lst [])) q2 (.lst []))).snoc (w := []) g0 ht0).mono (Same.new hq)
    have h1 : upd (upd (upd (upd H q1 (.lst [])) q2 (.lst [])) t0 (.lst [])) q (.lst [V.ref t0]) q1 = some (.lst []) := by rw [upd_ne (Ne.symm hq1'), upd_ne (Ne.symm ht01), upd_ne (Ne.symm hq21)]; exact upd_same
    have h2 : upd (upd (upd (upd H q1 (.lst [])) q2 (.lst [])) t0 (.lst [])) q (.lst [V.ref t0]) q2 = some (.lst []) := by rw [upd_ne (Ne.symm hq2'), upd_ne (Ne.symm ht02)]; exact upd_same
    have h3 : upd (upd (upd (upd H q1 (.lst [])) q2 (.lst [])) t0 (.lst [])) q (.lst [V.ref t0]) q = some (.lst [V.ref t0]) := upd_same
    have hq1H : H q1 = none := hq1
    have hq2H : H q2 = none := (none_of_upd hq2).1
    have hqH : H q = none := (none_of_upd (none_of_upd (none_of_upd hq).1).1).1
    generalize upd (upd (upd (upd H q1 (.lst [])) q2 (.lst [])) t0 (.lst [])) q (.lst [V.ref t0]) = H0 at sb L0 h1 h2 h3 ⊢
    refine ⟨⟨_, sb.seqT ha⟩, ?_⟩
    obtain ⟨Pv, hPv⟩ : ∃ Pv : Nat -> St -> Hp -> Prop, ∀ i σ' H', Pv i σ' H' ↔ (∃ (ts xs : List V) (tl : List (Int × List Int)) (cs : List Int) (wl : List (List Int)) (o : Option V), prtS p (p + h) (ws.take i) = (tl, cs, wl) /\ Same H H' /\ H' q1 = some (.lst ts) /\ PartsL K H' ts tl /\ H' q2 = some (.lst (cs.map V.int)) /\ H' q = some (.lst xs) /\ LLs G0 H' xs wl /\ nestR p (p + h) (ws.drop i) cs.length = true /\ wl.length = cs.length + 1 /\ tl.length <= i /\ cs.length <= i /\ (∀ w ∈ wl, w.length <= i) /\ σ' = [some (.int p), some (.int h), some (.ref a), some (.int (p + h)), some (.ref q1), some (.ref q2), some (.ref q), o]) := ⟨_, fun _ _ _ => Iff.rfl⟩
    refine forT (xs := ws.map V.int) Pv ((hPv _ _ _).mpr ⟨[], _, [], [], [[]], none, rfl, sb, h1, PartsL.nil, h2, h3, L0, hv, rfl, Nat.le_refl _, Nat.le_refl _, by simp, rfl⟩) (fun i σ' H' _ h' => by obtain ⟨_, _, _, _, _, _, _, s', _⟩ := (hPv _ _ _).mp h'; exact s'.seqT ha) (fun i x σ' H' hx h' => ?_) (fun σ' H' h' => ?_)
    . obtain ⟨ts, xs, tl, cs, wl, o, hst, s2, e1, hP, e2, e3, hL, hd, hwl, l1, l2, l3, rfl⟩ := (hPv _ _ _).mp h'
      obtain ⟨n, hn, rfl⟩ := get_mapI hx
      have hi := (List.getElem?_eq_some_iff.mp hn).1
      have hst' := prtS_take (p := p) (e := p + h) hn
      rw [hst] at hst'
      rw [nestR_drop hn] at hd
      have hok : ¬ (n < 0 \/ p + h < n) := fun z => by rw [if_pos z] at hd; cases hd
      rw [if_neg hok] at hd
      obtain ⟨wl, w', rfl⟩ : ∃ us u, wl = us ++ [u] := ⟨wl.dropLast, wl.getLast (fun z => by rw [z] at hwl; simp at hwl), (List.dropLast_concat_getLast _).symm⟩
      obtain ⟨ys, t, rfl, ht, hgt, hL', hLv⟩ := LLs.last hL
      have hlw := l3 w' (by simp)
      walk_at "rd"
      have htq : t ≠ q := fun z => by rw [z, g3] at hgt; cases hgt
      have htq1 : t ≠ q1 := fun z => by rw [z, g1] at hgt; cases hgt
      have htq2 : t ≠ q2 := fun z => by rw [z, g2] at hgt; cases hgt
      have hPl := hP.1
      refine ite2 (fun e => ?_) (fun e => ?_)
      . rw [if_pos e] at hd
        obtain ⟨cs, c, rfl⟩ : ∃ us u, cs = us ++ [u] := ⟨cs.dropLast, cs.getLast (fun z => by rw [z] at hd; cases hd), (List.dropLast_concat_getLast _).symm⟩
        rw [List.length_append, List.length_singleton] at hd l2 hwl
        rw [List.length_append, List.length_singleton] at hwl
        rw [List.map_append, List.map_singleton] at e2
        refine ⟨.inl ⟨rfl, _, SqL.of e1⟩, .inl ⟨rfl, _, SqL.of e2⟩, _, e2, V.int c, by simp, ?_⟩
        simp only [List.dropLast_concat]
        have e3A : upd H' q2 (.lst (cs.map V.int)) q = some (.lst (ys ++ [V.ref t])) := by rw [upd_ne hq2']; exact e3
        refine ⟨.inl ⟨rfl, _, SqL.of e3A⟩, _, e3A, V.ref t, by simp, t, rfl, ?_⟩
        simp only [List.dropLast_concat]
        have htB : upd (upd H' q2 (.lst (cs.map V.int))) q (.lst ys) t = some (.lst (w'.map V.int)) := by rw [upd_ne htq, upd_ne htq2]; exact ht
        have e1B : upd (upd H' q2 (.lst (cs.map V.int))) q (.lst ys) q1 = some (.lst ts) := by rw [upd_ne (Ne.symm hq1'), upd_ne (Ne.symm hq21)]; exact e1
        have e2B : upd (upd H' q2 (.lst (cs.map V.int))) q (.lst ys) q2 = some (.lst (cs.map V.int)) := by rw [upd_ne (Ne.symm hq2')]; exact upd_same
        have e3B : upd (upd H' q2 (.lst (cs.map V.int))) q (.lst ys) q = some (.lst ys) := upd_same
        have sB : Same H (upd (upd H' q2 (.lst (cs.map V.int))) q (.lst ys)) := (s2.over hq2H).over hqH
        have LB := LLs.off (LLs.off hL' (o := .lst (cs.map V.int)) g2) (o := .lst ys) g3
        have PB : PartsL K (upd (upd H' q2 (.lst (cs.map V.int))) q (.lst ys)) ts tl := hP.mono fun t' ys' e' => by
          rw [upd_ne (fun z => by rw [z, e3] at e'; cases e'), upd_ne (fun z => by rw [z, e2] at e'; cases e')]
          exact e'
        generalize upd (upd H' q2 (.lst (cs.map V.int))) q (.lst ys) = HB at htB e1B e2B e3B sB LB PB ⊢
        refine ⟨_, .inl ⟨SqL.of htB, fun l hl => ⟨by omega, fun p1 hp1 => ?_⟩⟩⟩
        have sl := Same.new hl (o := .tup (w'.map V.int))
        have sp := Same.new hp1 (o := .tup [V.int c, V.ref l])
        have e1' := (sl.trans sp) _ _ e1B
        have PC := (PB.mono fun t' ys' e' => (sl.trans sp) _ _ e').snoc (j := c) (w := w') (t := p1) (tw := l) upd_same (sp _ _ upd_same)
        refine ⟨_, e1', by omega, (hPv _ _ _).mpr ⟨ts ++ [.ref p1], ys, tl ++ [(c, w')], cs, wl, _, ?_, (sB.trans (sl.trans sp)).over hq1H, upd_same, ?_, ?_, ?_, LLs.off (LB.mono (sl.trans sp)) g1, hd, by omega, by simp; omega, by omega, fun w hw => ?_, rfl⟩⟩
        . rw [hst']
          unfold prtF
          rw [if_pos e]
          simp only [List.dropLast_concat, List.getLastD_concat]
        . refine PC.mono fun t' ys' e' => ?_
          rw [upd_ne (fun z => by rw [z, e1'] at e'; cases e')]
          exact e'
        . rw [upd_ne hq21]; exact (sl.trans sp) _ _ e2B
        . rw [upd_ne hq1']; exact (sl.trans sp) _ _ e3B
        . have := l3 w (by simp [hw]); omega
      . rw [if_neg e] at hd
        refine ⟨_, SqL.of e3, _, atI_end (v := V.ref t) (by simp), .inl ⟨rfl, _, SqL.of ht⟩, t, rfl, _, ht, by rw [List.length_map]; omega, ?_⟩
        rw [show w'.map V.int ++ [V.int n] = (w' ++ [n]).map V.int from by simp]
        have LA := hLv (w' ++ [n])
        have e1A : upd H' t (.lst ((w' ++ [n]).map V.int)) q1 = some (.lst ts) := by rw [upd_ne (Ne.symm htq1)]; exact e1
        have e2A : upd H' t (.lst ((w' ++ [n]).map V.int)) q2 = some (.lst (cs.map V.int)) := by rw [upd_ne (Ne.symm htq2)]; exact e2
        have e3A : upd H' t (.lst ((w' ++ [n]).map V.int)) q = some (.lst (ys ++ [V.ref t])) := by rw [upd_ne (Ne.symm htq)]; exact e3
        have htH : H t = none := by
          rw [hG0] at hgt
          exact (none_of_upd (none_of_upd (none_of_upd hgt).1).1).1
        have sA : Same H (upd H' t (.lst ((w' ++ [n]).map V.int))) := s2.over htH
        have PA' : PartsL K (upd H' t (.lst ((w' ++ [n]).map V.int))) ts tl := hP.mono fun t' ys' e' => by
          rw [upd_ne (fun z => by rw [z, ht] at e'; cases e')]
          exact e'
        generalize upd H' t (.lst ((w' ++ [n]).map V.int)) = HA at LA e1A e2A e3A sA PA' ⊢
        rw [List.length_append, List.length_singleton] at hwl
        have hyl : ys.length = wl.length := LLs.len hL'
        have l3' : ∀ w ∈ wl ++ [w' ++ [n]], w.length <= i + 1 := fun w hw => by
          rcases List.mem_append.mp hw with hw | hw
          . have := l3 w (by simp [hw]); omega
          . rw [List.mem_singleton.mp hw, List.length_append, List.length_singleton]; omega
        refine ite2 (fun hp => ?_) (fun hp => ?_)
        . rw [if_pos hp] at hd
          refine ⟨.inl ⟨rfl, _, SqL.of e2A⟩, _, e2A, by rw [List.length_map]; omega, ?_⟩
          rw [show cs.map V.int ++ [V.int (n - p)] = (cs ++ [n - p]).map V.int from by simp]
          have e1B : upd HA q2 (.lst ((cs ++ [n - p]).map V.int)) q1 = some (.lst ts) := by rw [upd_ne (Ne.symm hq21)]; exact e1A
          have e2B : upd HA q2 (.lst ((cs ++ [n - p]).map V.int)) q2 = some (.lst ((cs ++ [n - p]).map V.int)) := upd_same
          have e3B : upd HA q2 (.lst ((cs ++ [n - p]).map V.int)) q = some (.lst (ys ++ [V.ref t])) := by rw [upd_ne hq2']; exact e3A
          have sB : Same H (upd HA q2 (.lst ((cs ++ [n - p]).map V.int))) := sA.over hq2H
          have LB := LLs.off LA (o := .lst ((cs ++ [n - p]).map V.int)) g2
          have PB : PartsL K (upd HA q2 (.lst ((cs ++ [n - p]).map V.int))) ts tl := PA'.mono fun t' ys' e' => by
            rw [upd_ne (fun z => by rw [z, e2A] at e'; cases e')]
            exact e'
          generalize upd HA q2 (.lst ((cs ++ [n - p]).map V.int)) = HB at e1B e2B e3B sB LB PB ⊢
          refine ⟨.inl ⟨rfl, _, SqL.of e3B⟩, by omega, fun p1 hp1 => ?_⟩
          have sp := Same.new hp1 (o := .lst [])
          have gp1 : G0 p1 = none := by
            rw [hG0, upd_ne (ne_of_none' hp1 e3B), upd_ne (ne_of_none' hp1 e2B), upd_ne (ne_of_none' hp1 e1B)]
            exact sB.none hp1
          have LC := LLs.off (LB.snoc (w := []) gp1 hp1) (o := .lst (ys ++ [V.ref t] ++ [V.ref p1])) g3
          refine ⟨_, sp _ _ e3B, by simp; omega, (hPv _ _ _).mpr ⟨ts, ys ++ [V.ref t] ++ [V.ref p1], tl, cs ++ [n - p], wl ++ [w' ++ [n]] ++ [[]], _, ?_, (sB.trans sp).over hqH, ?_, ?_, ?_, upd_same, LC, by rw [List.length_append, List.length_singleton]; exact hd, by simp; omega, by omega, by simp; omega, fun w hw => ?_, rfl⟩⟩
          . rw [hst']
            unfold prtF
            rw [if_neg e, if_pos hp]
            simp only [List.dropLast_concat, List.getLastD_concat]
          . rw [upd_ne (Ne.symm hq1')]; exact sp _ _ e1B
          . refine PB.mono fun t' ys' e' => ?_
            have e'' := sp _ _ e'
            rw [upd_ne (fun z => by rw [z, sp _ _ e3B] at e''; cases e'')]
            exact e''
          . rw [upd_ne (Ne.symm hq2')]; exact sp _ _ e2B
          . rcases List.mem_append.mp hw with hw | hw
            . exact l3' w hw
            . rw [List.mem_singleton.mp hw]; simp
        . rw [if_neg hp] at hd
          refine (hPv _ _ _).mpr ⟨ts, ys ++ [V.ref t], tl, cs, wl ++ [w' ++ [n]], _, ?_, sA, e1A, PA', e2A, e3A, LA, hd, by simp; omega, by omega, by omega, l3', rfl⟩
          rw [hst']
          unfold prtF
          rw [if_neg e, if_neg hp]
          simp only [List.dropLast_concat, List.getLastD_concat]
    . obtain ⟨ts, xs, tl, cs, wl, o, hst, s2, e1, hP, e2, e3, hL, hd, hwl, l1, l2, l3, rfl⟩ := (hPv _ _ _).mp h'
      rw [List.length_map, List.take_length] at hst
      obtain ⟨w0, wr, rfl⟩ : ∃ w0 wr, wl = w0 :: wr := by
        cases wl with
        | nil => simp at hwl
        | cons w0 wr => exact ⟨w0, wr, rfl⟩
      obtain ⟨t, ht1, ht2⟩ := LLs.head hL
      walk_at "rd"
      refine ⟨.inl ⟨rfl, _, SqL.of e1⟩, _, SqL.of e3, _, (atI_nat ht1 : atI xs ((0 : Nat) : Int) = _), t, rfl, _, .inl ⟨SqL.of ht2, fun l hl => ⟨by omega, fun p1 hp1 => ?_⟩⟩⟩
      have sl := Same.new hl (o := .tup (w0.map V.int))
      have sp := Same.new hp1 (o := .tup [V.int 0, V.ref l])
      have e1' := (sl.trans sp) _ _ e1
      rw [List.length_map] at l1
      refine ⟨_, e1', by have := hP.1; omega, ?_⟩
      have hP2 := (hP.mono fun t ys e => (sl.trans sp) _ _ e).snoc (j := 0) (w := w0) (t := p1) (tw := l) upd_same (sp _ _ upd_same)
      refine k hv q1 _ _ (((s2.trans sl).trans sp).over hq1H) upd_same ?_
      unfold partsW
      rw [hst]
      refine hP2.mono fun t' ys e => ?_
      rw [upd_ne (fun z => by rw [z, e1'] at e; cases e)]
      exact e
abbrev Hus := Int × List Int × List (List Int)
theorem forB {K : PySem.W.Frag} {t : Bool} {a : Addr} {xs : List V} {g : TG} {tb : TS} {D : Ends} {σ : St} {H : Hp} (Pv : Nat -> St -> Hp -> Prop) (h0 : Pv 0 σ H) (hl : ∀ i σ H, i <= xs.length -> Pv i σ H -> SqB K H t a xs)
    (hs : ∀ i x σ H, xs[i]? = some x -> Pv i σ H -> g x σ H fun σ2 H2 => tb { D with nx := Pv (i + 1), ct := Pv (i + 1), bk := D.nx } σ2 H2) (hd : ∀ σ H, Pv xs.length σ H -> D.nx σ H) : ((∃ xs, SqL K H a xs) /\ ForW (Itl K a) g tb D σ H) \/ ((∃ xs, SqT K H a xs) /\ ForW (Itt K a) g tb D σ H) := by
  cases t
  . exact .inl ⟨⟨_, hl 0 σ H (Nat.zero_le _) h0⟩, forL Pv h0 hl hs hd⟩
  . exact .inr ⟨⟨_, hl 0 σ H (Nat.zero_le _) h0⟩, forT Pv h0 hl hs hd⟩
def HsL (K : PySem.W.Frag) (H : Hp) (xs : List V) (hs : List Hus) : Prop := xs.length = hs.length /\ ∀ (i : Nat) (r : Hus), hs[i]? = some r -> ∃ a, xs[i]? = some (.ref a) /\ House K H a r.1 r.2.1 r.2.2
theorem HsL.nil {K : PySem.W.Frag} {H : Hp} : HsL K H [] [] := ⟨rfl, fun i r h => by simp at h⟩
theorem HsL.mono {K : PySem.W.Frag} {H H' : Hp} {xs : List V} {hs : List Hus} (h : HsL K H xs hs) (s : Same H H') : HsL K H' xs hs := ⟨h.1, fun i r hi => by
  obtain ⟨a, b, c⟩ := h.2 i r hi
  exact ⟨a, b, c.mono s⟩⟩
theorem HsL.at {K : PySem.W.Frag} {H : Hp} {xs : List V} {hs : List Hus} (h : HsL K H xs hs) {i : Nat} {x : V} (hx : xs[i]? = some x) : ∃ (r : Hus) (a : Addr), hs[i]? = some r /\ x = .ref a /\ House K H a r.1 r.2.1 r.2.2 := by
  have hi : i < hs.length := by rw [<- h.1]; exact (List.getElem?_eq_some_iff.mp hx).1
  obtain ⟨a, e, b⟩ := h.2 i hs[i] (by simp [hi])
  rw [hx] at e
  exact ⟨hs[i], a, by simp [hi], Option.some.inj e, b⟩
theorem HsL.snoc {K : PySem.W.Frag} {H : Hp} {xs : List V} {hs : List Hus} {a : Addr} {L : Int} {ms : List Int} {ws : List (List Int)} (h : HsL K H xs hs) (ha : House K H a L ms ws) : HsL K H (xs ++ [.ref a]) (hs ++ [(L, ms, ws)]) := by
  refine ⟨by simp [h.1], fun i r hi => ?_⟩
  by_cases hl : i < hs.length
  . rw [List.getElem?_append_left hl] at hi
    rw [List.getElem?_append_left (by rw [h.1]; exact hl)]
    exact h.2 i r hi
  . have := (List.getElem?_eq_some_iff.mp hi).1
    rw [List.length_append, List.length_singleton] at this
    have e : i = hs.length := by omega
    subst e
    rw [List.getElem?_append_right (Nat.le_refl _), Nat.sub_self] at hi
    simp at hi
    subst hi
    exact ⟨a, by rw [<- h.1]; simp, ha⟩
theorem HsL.rep {K : PySem.W.Frag} {H : Hp} {a : Addr} {L : Int} {ms : List Int} {ws : List (List Int)} (ha : House K H a L ms ws) (n : Nat) : HsL K H (List.replicate n (.ref a)) (List.replicate n (L, ms, ws)) := ⟨by simp, fun i r hi => by
  rw [List.getElem?_replicate] at hi ⊢
  split at hi
  . rename_i hk
    cases hi
    exact ⟨a, by rw [if_pos hk], ha⟩
  . cases hi⟩
theorem HsL.set {K : PySem.W.Frag} {H : Hp} {xs : List V} {hs : List Hus} {a : Addr} {L : Int} {ms : List Int} {ws : List (List Int)} (h : HsL K H xs hs) (ha : House K H a L ms ws) (i : Nat) : HsL K H (xs.set i (.ref a)) (hs.set i (L, ms, ws)) := ⟨by simp [h.1], fun j r hj => by
  by_cases e : i = j
  . subst e
    have hl := (List.getElem?_eq_some_iff.mp hj).1
    rw [List.length_set] at hl
    rw [List.getElem?_set_self hl] at hj
    cases hj
    exact ⟨a, by rw [List.getElem?_set_self (by rw [h.1]; exact hl)], ha⟩
  . rw [List.getElem?_set_ne e] at hj ⊢
    exact h.2 j r hj⟩
theorem House.off {K : PySem.W.Frag} {H : Hp} {a p : Addr} {L : Int} {ms : List Int} {ws : List (List Int)} {ys zs : List V} (h : House K H a L ms ws) (hp : H p = some (.lst zs)) : House K (upd H p (.lst ys)) a L ms ws := by
  obtain ⟨m, w', h1, h2, ts, t1, t2, t3⟩ := h
  exact ⟨m, w', seqT_off hp h1, seqT_off hp h2, ts, seqT_off hp t1, t2, fun i t r e1 e2 => seqT_off hp (t3 i t r e1 e2)⟩
theorem HsL.off {K : PySem.W.Frag} {H : Hp} {p : Addr} {xs ys zs : List V} {hs : List Hus} (h : HsL K H xs hs) (hp : H p = some (.lst zs)) : HsL K (upd H p (.lst ys)) xs hs := ⟨h.1, fun i r hi => by
  obtain ⟨a, b, c⟩ := h.2 i r hi
  exact ⟨a, b, House.off c hp⟩⟩
theorem House.eqn {K : PySem.W.Frag} {H : Hp} {a : Addr} {L : Int} {ms : List Int} {ws : List (List Int)} (h : House K H a L ms ws) (n : Nat) : EqD K H (n + 3) (.ref a) (.ref a) true := by
  obtain ⟨m, w', h1, h2, ts, t1, t2, t3⟩ := h
  refine .inr ⟨a, a, _, _, rfl, rfl, .inr ⟨h1, h1⟩, fun _ => true, fun i x y hx hy => ?_, by simp⟩
  rw [hx] at hy
  cases hy
  match i, hx with
  | 0, hx => cases hx; exact .inl ⟨rfl, rfl, (eqV_self rfl).symm⟩
  | 1, hx =>
    cases hx
    have := EqD.ints (K := K) (H := H) (a := m) (c := m) (xs := ms) (ys := ms) (.inr ⟨h2, h2⟩) (n + 1)
    rw [decide_eq_true rfl] at this
    exact this
  | 2, hx =>
    cases hx
    refine .inr ⟨w', w', _, _, rfl, rfl, .inr ⟨t1, t1⟩, fun _ => true, fun j x y hx hy => ?_, by simp⟩
    rw [hx] at hy
    cases hy
    rw [List.getElem?_map] at hx
    cases ht : ts[j]? with
    | none => rw [ht] at hx; cases hx
    | some t =>
      rw [ht] at hx
      cases hx
      have hj : j < ws.length := by rw [<- t2]; exact (List.getElem?_eq_some_iff.mp ht).1
      have h3 := t3 j t ws[j] ht (by simp [hj])
      have := EqD.ints (K := K) (H := H) (a := t) (c := t) (xs := ws[j]) (ys := ws[j]) (.inr ⟨h3, h3⟩) n
      rw [decide_eq_true rfl] at this
      exact this
  | i + 3, hx => cases hx
theorem HsL.eqn {K : PySem.W.Frag} {H : Hp} {xs : List V} {hs : List Hus} {a b : Addr} (h : HsL K H xs hs) (hq : (SqL K H a xs /\ SqL K H b xs) \/ (SqT K H a xs /\ SqT K H b xs)) (n : Nat) : EqD K H (n + 4) (.ref a) (.ref b) true := by
  refine .inr ⟨a, b, xs, xs, rfl, rfl, hq, fun _ => true, fun i x y hx hy => ?_, by simp⟩
  rw [hx] at hy
  cases hy
  obtain ⟨r, a', _, rfl, h1⟩ := h.at hx
  exact House.eqn h1 n
def okP (n : Int) (r : Hus) : Bool := decide (r.1 = n) && decide (r.2.1.length <= 4)
def okW (p : Int) (hs : List Hus) : Bool := (decide (1 <= p) && decide (p <= 4)) && ((decide (1 <= hs.length) && decide (hs.length <= 3)) && hs.all (okP (p + hs.length)))
def sp_madew (K : PySem.W.Frag) (BH : Addr) : Sp := fun vs H Q E => ∃ (t : Bool) (a : Addr) (p : Int) (xs : List V) (hs : List Hus), vs = [.int p, .ref a] /\ SqB K H t a xs /\ HsL K H xs hs /\ hs.length <= 900 /\ (okW p hs = true -> ∀ h y H', Same H H' -> H' h = some (.tup [.int p, .ref y]) -> SqT K H' y xs -> Q (.ref h) H') /\ (okW p hs = false -> ∀ H', Same H H' -> E (.ref BH) none H')
theorem ok_made_works {f : Addr} {fd : FuncData} (F : Fun K "made_works" "made_works" s_made_works f fd) (T : Txt mg)
    (W : Own K mg)
    (Z : Exs K mg C_AskError C_BadHouse C_BadWord)
    : FnOk P w K mg base (CXe P w) 1 f fd ["plain", "houses"] (sp_madew K C_BadHouse) := by
  refine F.okE sc_made_works (fun vs H Q E h => ?_) (fun cdv A outer s H vs Q E hr h => ?_)
  . obtain ⟨t, a, p, xs, hs, rfl, _⟩ := h; rfl
  . obtain ⟨t, a, p, xs, hs, rfl, ha, hH, hz, k, kE⟩ := h
    have hl := line1000
    refine ⟨_, (pss_cons (ps_if (pt_not (pt_chain op_le op_le pe_int (pv 0) (pe_gc rfl W.q_MOST_PLAIN)))
      (pss_one (ps_raise Z.m_BadHouse Z.x_BadHouse rfl rfl (pa_cons pe_str pa_nil)))
      pss_nil)
      (pss_cons (ps_if (pt_not (pt_chain op_le op_le pe_int (pe_callB call_len_seq (by rfl) T.len PySem.boot_len (pa_cons (pv 1) pa_nil)) (pe_gc rfl W.q_MOST_HELPERS)))
      (pss_one (ps_raise Z.m_BadHouse Z.x_BadHouse rfl rfl (pa_cons pe_str pa_nil)))
      pss_nil)
      (pss_cons (ps_for PassesOwn.leaving rfl (pi_seq (pv 1)) (pg_name (i := 2) sc_made_works.nd rfl (Or.inl rfl))
      (pss_cons (ps_if (pt_cmpR op_ne (pe_ix ix_tup (pv 2) pe_int (fun _ _ => rfl)) (pe_op op_add (pv 0) (pe_callB call_len_seq (by rfl) T.len PySem.boot_len (pa_cons (pv 1) pa_nil))) (nomark _))
      (pss_one (ps_raise Z.m_BadHouse Z.x_BadHouse rfl rfl (pa_cons pe_str pa_nil)))
      pss_nil)
      (pss_one (ps_if (pt_cmpR op_gt (pe_callB call_len_seq (by rfl) T.len PySem.boot_len (pa_cons (pe_ix ix_tup (pv 2) pe_int (fun _ _ => rfl)) pa_nil)) (pe_gc rfl W.q_MOST_ROOMS_OF_HELPER) (nomark _))
      (pss_one (ps_raise Z.m_BadHouse Z.x_BadHouse rfl rfl (pa_cons pe_str pa_nil)))
      pss_nil))))
      (pss_one (ps_ret (pe_tup (pa_cons (pv 0) (pa_cons (pe_callTy call_tuple_of rfl T.tuple PyProof.Rows.boot_tuple (pa_cons (pv 1) pa_nil)) pa_nil)))))))), ?_⟩
    walk_at "rd"
    by_cases h1 : 1 <= p
    case neg => rw [if_neg h1]; exact ⟨by omega, kE (by unfold okW; simp [h1]) _ (Same.refl _)⟩
    rw [if_pos h1]
    by_cases h4 : p <= 4
    case neg => rw [if_pos (by simp [h4])]; exact ⟨by omega, kE (by unfold okW; simp [h4]) _ (Same.refl _)⟩
    rw [if_neg (by simp [h4])]
    refine ⟨_, ha.or, ?_⟩
    rw [hH.1]
    by_cases n1 : 1 <= hs.length
    case neg => rw [if_neg (by omega)]; exact ⟨by omega, kE (by unfold okW; simp [n1]) _ (Same.refl _)⟩
    rw [if_pos (by omega)]
    by_cases n3 : hs.length <= 3
    case neg => rw [if_pos (by simp; omega)]; exact ⟨by omega, kE (by unfold okW; simp [n3]) _ (Same.refl _)⟩
    rw [if_neg (by simp; omega)]
    have hkW : hs.all (okP (p + hs.length)) = okW p hs := by unfold okW; simp [h1, h4, n1, n3]
    obtain ⟨Pv, hPv⟩ : ∃ Pv : Nat -> St -> Hp -> Prop, ∀ i σ' H', Pv i σ' H' ↔ (H' = H /\ (hs.take i).all (okP (p + hs.length)) = true /\ ∃ o, σ' = [some (.int p), some (.ref a), o]) := ⟨_, fun _ _ _ => Iff.rfl⟩
    refine forB (t := t) (xs := xs) Pv ((hPv _ _ _).mpr ⟨rfl, by simp, none, rfl⟩) (fun i σ' H' _ h' => by rw [((hPv _ _ _).mp h').1]; exact ha) (fun i x σ' H' hx h' => ?_) (fun σ' H' h' => ?_)
    . obtain ⟨rfl, hall, o, rfl⟩ := (hPv _ _ _).mp h'
      obtain ⟨r, a', hri, rfl, hh⟩ := hH.at hx
      obtain ⟨m, w', g1, g2, g3⟩ := id hh
      have hbad : okP (p + hs.length) r = false -> okW p hs = false := fun hb => by
        rw [<- hkW, List.all_eq_false]
        exact ⟨r, List.mem_of_getElem? hri, by rw [hb]; decide⟩
      walk_at "rd"
      refine ⟨_, g1, _, rfl, _, ha.or, rfl, ?_⟩
      rw [hH.1]
      by_cases e : r.1 = p + hs.length
      . rw [if_neg (by simp [e])]
        refine ⟨_, g1, _, rfl, m, rfl, _, .inr g2, ?_⟩
        rw [List.length_map]
        by_cases e4 : r.2.1.length <= 4
        . rw [if_neg (by omega)]
          refine (hPv _ _ _).mpr ⟨rfl, ?_, _, rfl⟩
          rw [List.take_add_one, hri, List.all_append, hall]
          simp [okP, e, e4]
        . rw [if_pos (by omega)]; exact ⟨by omega, kE (hbad (by simp [okP, e4])) _ (Same.refl _)⟩
      . rw [if_pos (by simp [e])]; exact ⟨by omega, kE (hbad (by simp [okP, e])) _ (Same.refl _)⟩
    . obtain ⟨rfl, hall, o, rfl⟩ := (hPv _ _ _).mp h'
      rw [hH.1, List.take_length, hkW] at hall
      walk_at "rd"
      cases t with
      | false => exact ⟨_, .inl ⟨ha, fun y hy => ⟨by omega, fun h hh => k hall h y _ ((Same.new hy).newT hh) upd_same ((Same.new hh).seqT (SqT.of upd_same))⟩⟩⟩
      | true => exact ⟨_, .inr ⟨ha, by omega, fun h hh => k hall h a _ (Same.new hh) upd_same ((Same.new hh).seqT ha)⟩⟩
def WorksH (K : PySem.W.Frag) (H : Hp) (h : Addr) (p : Int) (xs : List V) (hs : List Hus) : Prop := ∃ y, SqT K H h [.int p, .ref y] /\ SqT K H y xs /\ HsL K H xs hs
theorem WorksH.mono {K : PySem.W.Frag} {H H' : Hp} {h : Addr} {p : Int} {xs : List V} {hs : List Hus} (x : WorksH K H h p xs hs) (s : Same H H') : WorksH K H' h p xs hs := by
  obtain ⟨y, a, b, c⟩ := x
  exact ⟨y, s.seqT a, s.seqT b, c.mono s⟩
def ansH (hs : List Hus) (pr : Int × List Int) : Int := markW (hs.getD pr.1.toNat (0, [], [])).2.1 (walkW (hs.getD pr.1.toNat (0, [], [])).2.2 pr.2)
def okT (hs : List Hus) (pr : Int × List Int) : Bool := decide (ansH hs pr ≠ 0)
def WfW (n : Int) (hs : List Hus) : Prop := ∀ r ∈ hs, r.1 = n /\ Wf n r.2.1 r.2.2
theorem HsL.get {K : PySem.W.Frag} {H : Hp} {xs : List V} {hs : List Hus} {n j : Int} (h : HsL K H xs hs) (w : WfW n hs) (j0 : 0 <= j) (j1 : j < hs.length) : ∃ a, atI xs j = some (.ref a) /\ House K H a n (hs.getD j.toNat (0, [], [])).2.1 (hs.getD j.toNat (0, [], [])).2.2 /\ Wf n (hs.getD j.toNat (0, [], [])).2.1 (hs.getD j.toNat (0, [], [])).2.2 := by
  have hj : j.toNat < hs.length := by omega
  have e : hs[j.toNat]? = some hs[j.toNat] := by simp [hj]
  have e2 : hs.getD j.toNat (0, [], []) = hs[j.toNat] := by rw [List.getD_eq_getElem?_getD, e]; rfl
  rw [e2]
  obtain ⟨a, b, c⟩ := h.2 _ _ e
  obtain ⟨f, g⟩ := w _ (List.mem_of_getElem? e)
  rw [f] at c
  exact ⟨a, by rw [show j = (j.toNat : Int) by omega]; exact atI_nat b, c, g⟩
def sp_takesp (K : PySem.W.Frag) : Sp := fun vs H Q _ => ∃ (h t tw : Addr) (p n j : Int) (xs : List V) (hs : List Hus) (ws : List Int), vs = [.ref h, .ref t] /\ WorksH K H h p xs hs /\ WfW n hs /\ H t = some (.tup [.int j, .ref tw]) /\ H tw = some (.tup (ws.map V.int)) /\ 0 <= j /\ j < hs.length /\ isW n ws = true /\ ws.length <= 600 /\ ∀ H', Same H H' -> Q (.bl (okT hs (j, ws))) H'
theorem ok_takes_part {f : Addr} {fd : FuncData} (F : Fun K "takes_part" "takes_part" s_takes_part f fd) (T : Txt mg)
    (W : Own K mg)
    (Z : Exs K mg C_AskError C_BadHouse C_BadWord)
    {f_mark_behind : Addr} {fd_mark_behind : FuncData} (g_mark_behind : FnOk P w K mg base CX0 5 f_mark_behind fd_mark_behind ["house", "word"] (sp_mark79 K)) (F_mark_behind : Fun K "mark_behind" "mark_behind" s_mark_behind f_mark_behind fd_mark_behind) (b_mark_behind : Binds K fd_mark_behind ["house", "word"] []) (m_mark_behind : mg "mark_behind" = some (.ref f_mark_behind))
    : FnOk P w K mg base CX0 6 f fd ["works", "part"] (sp_takesp K) := by
  refine F.ok sc_takes_part (fun vs H Q E h => ?_) (fun cdv A outer s H vs Q E hr h => ?_)
  . obtain ⟨h, t, tw, p, n, j, xs, hs, ws, rfl, _⟩ := h; rfl
  . obtain ⟨h, t, tw, p, n, j, xs, hs, ws, rfl, ⟨y, h1, h2, h3⟩, wf, ht, htw, j0, j1, hv, hz, k⟩ := h
    refine ⟨_, (pss_one (ps_ret (pe_cmpR op_ne (pe_call g_mark_behind (hr.mono (by decide)) rfl m_mark_behind F_mark_behind.kp b_mark_behind .nil pass0 (pa_cons (pe_ix ix_tup (pe_ix ix_tup (pv 0) pe_int (fun _ _ => rfl)) (pe_ix ix_tup (pv 1) pe_int (fun _ _ => rfl)) (fun _ _ => rfl)) (pa_cons (pe_ix ix_tup (pv 1) pe_int (fun _ _ => rfl)) pa_nil))) pe_int (nomark _)))), ?_⟩
    walk_at "rd"
    obtain ⟨a, e1, e2, e3⟩ := h3.get wf j0 j1
    refine ⟨_, h1, _, rfl, _, SqT.of ht, _, rfl, y, rfl, _, j, rfl, h2, _, e1, _, SqT.of ht, _, rfl, a, tw, n, _, _, ws, rfl, e2, e3, SqT.of htw, hz, hv, fun H1 s1 => ⟨rfl, ?_⟩⟩
    have hk := k H1 s1
    have e : ∀ m : Int, (!decide (V.int m = V.int 0)) = decide (m ≠ 0) := fun m => by simp
    rw [e]
    exact hk
def sp_takes (K : PySem.W.Frag) (BW : Addr) : Sp := fun vs H Q E => ∃ (h a : Addr) (p : Int) (xs : List V) (hs : List Hus) (ws : List Int), vs = [.ref h, .ref a] /\ WorksH K H h p xs hs /\ WfW (p + hs.length) hs /\ 1 <= hs.length /\ SqT K H a (ws.map V.int) /\ ws.length <= 200 /\ (nestR p (p + hs.length) ws 0 = true -> ∀ H', Same H H' -> Q (.bl ((partsW p (p + hs.length) ws).all (okT hs))) H') /\ (nestR p (p + hs.length) ws 0 = false -> ∀ H', Same H H' -> E (.ref BW) none H')
theorem ok_takes {f : Addr} {fd : FuncData} (F : Fun K "takes" "takes" s_takes f fd) (T : Txt mg)
    (W : Own K mg)
    (Z : Exs K mg C_AskError C_BadHouse C_BadWord)
    {f_parts : Addr} {fd_parts : FuncData} (g_parts : FnOk P w K mg base (CXe P w) 4 f_parts fd_parts ["plain", "helpers", "signs"] (sp_parts K C_BadWord)) (F_parts : Fun K "parts" "parts" s_parts f_parts fd_parts) (b_parts : Binds K fd_parts ["plain", "helpers", "signs"] []) (m_parts : mg "parts" = some (.ref f_parts))
    {f_takes_part : Addr} {fd_takes_part : FuncData} (g_takes_part : FnOk P w K mg base CX0 6 f_takes_part fd_takes_part ["works", "part"] (sp_takesp K)) (F_takes_part : Fun K "takes_part" "takes_part" s_takes_part f_takes_part fd_takes_part) (b_takes_part : Binds K fd_takes_part ["works", "part"] []) (m_takes_part : mg "takes_part" = some (.ref f_takes_part))
    : FnOk P w K mg base (CXe P w) 7 f fd ["works", "signs"] (sp_takes K C_BadWord) := by
  refine F.okE sc_takes (fun vs H Q E h => ?_) (fun cdv A outer s H vs Q E hr h => ?_)
  . obtain ⟨h, a, p, xs, hs, ws, rfl, _⟩ := h; rfl
  . obtain ⟨h, a, p, xs, hs, ws, rfl, hW, wf, hs1, ha, hz, k, kE⟩ := h
    have hln := line1000
    refine ⟨_, (pss_one (ps_ret (pe_callB (call_all rfl) rfl T.all PyProof.Rows.boot_all (pa_cons (pe_comp rfl (blk_mk rfl) (cp := c_takes_0) ⟨⟨rfl, rfl⟩, True.intro⟩ (pi_list (pe_call g_parts (hr.mono (by decide)) rfl m_parts F_parts.kp b_parts .nil (passE fun _ _ _ h => h) (pa_cons (pe_ix ix_tup (pv 0) pe_int (fun _ _ => rfl)) (pa_cons (pe_callB call_len_seq (by rfl) T.len PySem.boot_len (pa_cons (pe_ix ix_tup (pv 0) pe_int (fun _ _ => rfl)) pa_nil)) (pa_cons (pv 1) pa_nil))))) (fun _ _ _ _ => (pg_name (i := 0) nd_c_takes_0 rfl (Or.inl rfl))) (fun _ _ _ _ => pf_nil) (fun _ _ _ _ => (pe_call g_takes_part (hr.mono (by decide)) rfl m_takes_part F_takes_part.kp b_takes_part .nil pass0 (pa_cons (pv 1) (pa_cons (pv 0) pa_nil))))) pa_nil)))), ?_⟩
    obtain ⟨y, h1, h2, h3⟩ := id hW
    walk_at "rd"
    refine ⟨_, h1, _, rfl, _, h1, _, rfl, y, rfl, _, .inr h2, p, hs.length, a, ws, by rw [h3.1], ha, by omega, fun hv l ts H1 s1 hl hP => ?_, fun hv => kE hv _ (Same.refl _)⟩
    have hok := Nest.partsW_ok (p := p) (h := hs.length) (by omega) hv
    have hlen := Nest.partsW_len p (p + hs.length) ws
    have hk := k hv
    generalize partsW p (p + hs.length) ws = ps at hP hok hlen hk
    refine ⟨l, rfl, ⟨_, SqL.of hl⟩, ?_⟩
    refine compL (xs := ts) (fun i ys σ' H' => Same H1 H' /\ ys = ((ps.take i).map (okT hs)).map V.bl /\ ∃ o, σ' = [o, some (.ref h)]) ⟨Same.refl _, rfl, none, rfl⟩ (by rw [hP.1]; omega) (fun i ys σ' H' hi h' => ⟨SqL.of (h'.1 _ _ hl), by rw [h'.2.1, List.length_map, List.length_map, List.length_take]; omega⟩) (fun i x ys σ' H' hx h' => ?_) (fun ys σ' H' h' D hD => ?_)
    . obtain ⟨s2, rfl, o, rfl⟩ := h'
      have hi : i < ps.length := by rw [<- hP.1]; exact (List.getElem?_eq_some_iff.mp hx).1
      have hri : ps[i]? = some ps[i] := by simp [hi]
      obtain ⟨t, tw, e1, e2, e3⟩ := hP.2 i _ hri
      rw [hx] at e1
      cases e1
      obtain ⟨j0, j1, hwl, hwx⟩ := hok _ (List.mem_of_getElem? hri)
      have et : ps.take (i + 1) = ps.take i ++ [ps[i]] := by rw [List.take_add_one, hri]; rfl
      walk_at "rd"
      refine ⟨h, t, tw, p, p + hs.length, ps[i].1, xs, hs, ps[i].2, rfl, hW.mono (s1.trans s2), wf, s2 _ _ e2, s2 _ _ e3, j0, j1, isW_iff.mpr hwx, by omega, fun H3 s3 => ⟨s2.trans s3, ?_, _, rfl⟩⟩
      rw [et, List.map_append, List.map_append]
      rfl
    . obtain ⟨s2, rfl, o, rfl⟩ := h'
      rw [hP.1, List.take_length]
      refine ⟨D, rfl, ps.map (okT hs), .inl (.inl upd_same), ?_⟩
      have := hk _ ((s1.trans s2).newT hD (o := .lst ((ps.map (okT hs)).map V.bl)))
      rw [List.all_map]
      exact this
def cell (ns : List Int) (k : Nat) : Int := ns.getD k 0
def sp_cell (K : PySem.W.Frag) : Sp := fun vs H Q _ => ∃ (a : Addr) (ns : List Int) (k : Nat), vs = [.ref a, .int k] /\ SqL K H a (ns.map V.int) /\ Q (.int (cell ns k)) H
theorem ok__law_cell_at {f : Addr} {fd : FuncData} (F : Fun K "_law_cell_at" "_law_cell_at" s__law_cell_at f fd) (T : Txt mg)
    (W : Own K mg)
    (Z : Exs K mg C_AskError C_BadHouse C_BadWord)
    : FnOk P w K mg base CX0 1 f fd ["script", "k"] (sp_cell K) := by
  refine F.ok sc__law_cell_at (fun vs H Q E h => ?_) (fun cdv A outer s H vs Q E hr h => ?_)
  . obtain ⟨a, ns, k, rfl, _⟩ := h; rfl
  . obtain ⟨a, ns, k, rfl, hs, q⟩ := h
    refine ⟨_, (pss_cons (ps_if (pt_cmpR op_lt (pv 1) (pe_callB call_len_seq (by rfl) T.len PySem.boot_len (pa_cons (pv 0) pa_nil)) (nomark _))
      (pss_one (ps_ret (pe_ix ix_list (pv 0) (pv 1) (fun _ _ => rfl))))
      pss_nil)
      (pss_one (ps_ret pe_int))), ?_⟩
    walk_at "rd"
    refine ⟨_, .inl hs, ?_⟩
    rw [List.length_map]
    refine ite2 (fun hk => ?_) (fun hk => ?_)
    . have hk' : k < ns.length := by simpa using hk
      refine ⟨_, hs, V.int (cell ns k), ?_, q⟩
      refine atI_nat ?_
      rw [List.getElem?_map]
      unfold cell
      rw [List.getD_eq_getElem?_getD]
      simp [hk']
    . have hk' : ¬ k < ns.length := by simpa using hk
      have : cell ns k = 0 := by
        unfold cell
        rw [List.getD_eq_getElem?_getD, List.getElem?_eq_none (by omega)]; rfl
      rw [<- this]
      exact q
theorem flat_rep (d : Nat) (e : Int) : (List.replicate d [V.int e]).flatten = (List.replicate d e).map V.int := by
  induction d with
  | zero => rfl
  | succ d ih => rw [List.replicate_succ, List.flatten_cons, ih, List.replicate_succ]; rfl
def sp_lnest (K : PySem.W.Frag) : Sp := fun vs H Q _ => ∃ (a : Addr) (ns : List Int) (p h : Int), vs = [.ref a, .int p, .int h] /\ SqL K H a (ns.map V.int) /\ ns.length <= 200 /\ 1 <= p /\ 1 <= h /\ ∀ (l : Addr) (row : List Int) (H' : Hp), Same H H' -> H' l = some (.lst (row.map V.int)) -> row.length <= 2 * ns.length -> nestR p (p + h) row 0 = true -> Q (.ref l) H'
theorem ok__law_nest {f : Addr} {fd : FuncData} (F : Fun K "_law_nest" "_law_nest" s__law_nest f fd) (T : Txt mg)
    (W : Own K mg)
    (Z : Exs K mg C_AskError C_BadHouse C_BadWord)
    : FnOk P w K mg base CX0 1 f fd ["flow", "plain", "helpers"] (sp_lnest K) := by
  refine F.ok sc__law_nest (fun vs H Q E h => ?_) (fun cdv A outer s H vs Q E hr h => ?_)
  . obtain ⟨a, ns, p, h, rfl, _⟩ := h; rfl
  . obtain ⟨a, ns, p, h, rfl, ha, hz, hp, hh, k⟩ := h
    have hln := line1000
    refine ⟨_, (pss_cons (ps_set (i := 3) sc__law_nest.nd rfl (Or.inl rfl) (pe_lst pa_nil))
      (pss_cons (ps_set (i := 4) sc__law_nest.nd rfl (Or.inl rfl) pe_int)
      (pss_cons (ps_for PassesOwn.never rfl (pi_list (pv 0)) (pg_name (i := 5) sc__law_nest.nd rfl (Or.inl rfl))
      (pss_cons (ps_set (i := 6) sc__law_nest.nd rfl (Or.inl rfl) (pe_op op_mod (pv 5) (pe_op op_add (pe_op op_add (pv 1) (pv 2)) pe_int)))
      (pss_cut (ps_if (PW.pt (pw_and (pt_cmpR op_eq (pv 6) (pe_op op_add (pv 1) (pv 2)) (nomark _)) (pw_and1 (pt_cmpR op_eq (pv 4) pe_int (nomark _)))))
      (pss_one (ps_set (i := 6) sc__law_nest.nd rfl (Or.inl rfl) (pe_op op_mod (pe_op op_fdiv (pv 5) pe_int) (pv 1))))
      pss_nil)
      (pss_cut (ps_if (pt_cmpR op_eq (pv 6) (pe_op op_add (pv 1) (pv 2)) (nomark _))
      (pss_one (ps_set (i := 4) sc__law_nest.nd rfl (Or.inl rfl) (pe_op op_sub (pv 4) pe_int)))
      (pss_one (ps_if (pt_cmpR op_ge (pv 6) (pv 1) (nomark _))
      (pss_one (ps_set (i := 4) sc__law_nest.nd rfl (Or.inl rfl) (pe_op op_add (pv 4) pe_int)))
      pss_nil)))
      (pss_one (ps_expr (pe_bm PySem.F.plainAttrs_list PySem.F.slot_list_append PySem.F.type_list_append mt_append (pv 3) (pa_cons (pv 6) pa_nil))))))))
      (pss_one (ps_ret (pe_op op_cat (pv 3) (pe_op op_rep (pe_lst (pa_cons (pe_op op_add (pv 1) (pv 2)) pa_nil)) (pv 4)))))))), ?_⟩
    walk_at "rd"
    refine ⟨by omega, fun q hq => ?_⟩
    have s0 := Same.new hq (o := .lst [])
    refine ⟨⟨_, s0.seq ha⟩, ?_⟩
    obtain ⟨Pv, hPv⟩ : ∃ Pv : Nat -> St -> Hp -> Prop, ∀ i σ' H', Pv i σ' H' ↔ (∃ (row : List Int) (d : Nat) (o1 o2 : Option V), Same H H' /\ H' q = some (.lst (row.map V.int)) /\ row.length = i /\ d <= i /\ (∀ rest, nestR p (p + h) (row ++ rest) 0 = nestR p (p + h) rest d) /\ σ' = [some (.ref a), some (.int p), some (.int h), some (.ref q), some (.int d), o1, o2]) := ⟨_, fun _ _ _ => Iff.rfl⟩
    refine forL (xs := ns.map V.int) Pv ((hPv _ _ _).mpr ⟨[], 0, none, none, s0, upd_same, rfl, by omega, fun _ => rfl, rfl⟩) (fun i σ2 H2 _ h2 => by obtain ⟨_, _, _, _, s2, _⟩ := (hPv _ _ _).mp h2; exact s2.seq ha) (fun i x σ2 H2 hx h2 => ?_) (fun σ2 H2 h2 => ?_)
    . obtain ⟨row, d, o1, o2, s2, hq2, hrl, hd, hnr, rfl⟩ := (hPv _ _ _).mp h2
      obtain ⟨c, hc, rfl⟩ := get_mapI hx
      have hi := (List.getElem?_eq_some_iff.mp hc).1
      walk_at "rd"
      refine ⟨by omega, ?_⟩
      have g0 := Int.emod_nonneg c (show p + h + 1 ≠ 0 by omega)
      have g1 := Int.emod_lt_of_pos c (show 0 < p + h + 1 by omega)
      have f0 := Int.emod_nonneg (c / 13) (show p ≠ 0 by omega)
      have f1 := Int.emod_lt_of_pos (c / 13) (show 0 < p by omega)
      generalize c % (p + h + 1) = sg at g0 g1 ⊢
      obtain ⟨R, hR⟩ : ∃ R : St -> Hp -> Prop, ∀ σ3 H3, R σ3 H3 ↔ (H3 = H2 /\ ∃ sg : Int, 0 <= sg /\ sg <= p + h /\ (sg = p + h -> d ≠ 0) /\ σ3 = [some (.ref a), some (.int p), some (.int h), some (.ref q), some (.int d), some (.int c), some (.int sg)]) := ⟨_, fun _ _ => Iff.rfl⟩
      obtain ⟨R2, hR2⟩ : ∃ R : St -> Hp -> Prop, ∀ σ3 H3, R σ3 H3 ↔ (H3 = H2 /\ ∃ (sg : Int) (d' : Nat), d' <= i + 1 /\ (∀ rest, nestR p (p + h) ((row ++ [sg]) ++ rest) 0 = nestR p (p + h) rest d') /\ σ3 = [some (.ref a), some (.int p), some (.int h), some (.ref q), some (.int d'), some (.int c), some (.int sg)]) := ⟨_, fun _ _ => Iff.rfl⟩
      refine ⟨R, ?_, fun σ3 H3 h3 => ⟨R2, ?_, fun σ4 H4 h4 => ?_⟩⟩
      . walk_at "rd"
        refine ite2 (fun e => ite2 (fun e2 => ⟨⟨by decide, by decide⟩, by omega, ?_⟩) (fun e2 => ?_)) (fun e => ?_)
        . exact (hR _ _).mpr ⟨rfl, _, f0, by omega, fun z => by omega, rfl⟩
        . exact (hR _ _).mpr ⟨rfl, _, g0, by omega, fun _ => by omega, rfl⟩
        . exact (hR _ _).mpr ⟨rfl, _, g0, by omega, fun z => absurd z e, rfl⟩
      . obtain ⟨rfl, sg, k0, k1, k2, rfl⟩ := (hR _ _).mp h3
        have sn := Nest.nestR_snoc hnr k0 k1 k2
        walk_at "rd"
        refine ite2 (fun e => (hR2 _ _).mpr ⟨rfl, sg, d - 1, by omega, ?_, ?_⟩) (fun e => ite2 (fun e2 => (hR2 _ _).mpr ⟨rfl, sg, d + 1, by omega, ?_, ?_⟩) (fun e2 => (hR2 _ _).mpr ⟨rfl, sg, d, by omega, ?_, rfl⟩))
        . simpa only [if_pos e] using sn
        . have := k2 e
          rw [show ((d - 1 : Nat) : Int) = (d : Int) - 1 from by omega]
        . simpa only [if_neg e, if_pos e2] using sn
        . rw [show ((d + 1 : Nat) : Int) = (d : Int) + 1 from by omega]
        . simpa only [if_neg e, if_neg e2] using sn
      . obtain ⟨rfl, sg, d', hd', hsn, rfl⟩ := (hR2 _ _).mp h4
        walk_at "rd"
        refine ⟨.inl ⟨rfl, _, SqL.of hq2⟩, _, hq2, by rw [List.length_map]; omega, (hPv _ _ _).mpr ⟨row ++ [sg], d', _, _, s2.over hq, by rw [upd_same]; simp, by simp [hrl], by omega, hsn, rfl⟩⟩
    . obtain ⟨row, d, o1, o2, s2, hq2, hrl, hd, hnr, rfl⟩ := (hPv _ _ _).mp h2
      rw [List.length_map] at hrl hd
      walk_at "rd"
      refine ⟨by omega, fun p1 hp1 => ⟨_, upd_same, by omega, by omega, by simp; omega, fun p2 hp2 => ?_⟩⟩
      have sp := (Same.new hp1 (o := .lst [V.int (p + h)])).newT hp2 (o := .lst (List.replicate (d : Int).toNat [V.int (p + h)]).flatten)
      refine ⟨_, sp _ _ hq2, _, upd_same, ?_, fun p3 hp3 => ?_⟩
      . rw [Int.toNat_natCast, flat_rep, List.length_map, List.length_map, List.length_replicate]; omega
      . refine k p3 (row ++ List.replicate d (p + h)) _ ((s2.trans sp).newT hp3) ?_ (by rw [List.length_append, List.length_replicate]; omega) ?_
        . rw [upd_same, Int.toNat_natCast, flat_rep, List.map_append]
        . rw [hnr]
          have := Nest.nestR_ends (p := p) (e := p + h) (by omega) d [] 0
          rw [List.append_nil, Nat.zero_add] at this
          rw [this]; rfl
open Nest (spreadN dueN outW nestR nestR_drop prtF prtS prtS_take partsW)
theorem LLs.lastG {H0 H : Hp} {xs : List V} {ws : List (List Int)} {w : List Int} (h : LLs H0 H xs (ws ++ [w])) : ∃ ys t, xs = ys ++ [.ref t] /\ H t = some (.lst (w.map V.int)) /\ H0 t = none /\ (∀ o, LLs (upd H0 t o) H ys ws) /\ ∀ v : List Int, LLs H0 (upd H t (.lst (v.map V.int))) xs (ws ++ [v]) := by
  have hh := h
  obtain ⟨ts, a, b, c, d, e⟩ := hh
  obtain ⟨ys, t, e1, e2, e3, e4, e5⟩ := LLs.last h
  refine ⟨ys, t, e1, e2, e3, fun o => ?_, e5⟩
  rw [List.length_append, List.length_singleton] at b
  obtain ⟨us, t', rfl⟩ : ∃ us t, ts = us ++ [t] := ⟨ts.dropLast, ts.getLast (fun z => by rw [z] at b; simp at b), (List.dropLast_concat_getLast _).symm⟩
  have hul : us.length = ws.length := by rw [List.length_append, List.length_singleton] at b; omega
  have nd := List.nodup_append.mp c
  rw [a, List.map_append, List.map_singleton] at e1
  have e6 := List.append_inj' e1 rfl
  obtain ⟨e7, e8⟩ := e6
  have : t' = t := by simpa using e8
  subst this
  have hut : ∀ u ∈ us, u ≠ t' := fun u hu => nd.2.2 u hu t' (by simp)
  refine ⟨us, e7.symm, hul, nd.1, fun i u v h1 h2 => ?_, fun u hu => ?_⟩
  . have hi := (List.getElem?_eq_some_iff.mp h1).1
    exact d i u v (by rw [List.getElem?_append_left hi]; exact h1) (by rw [List.getElem?_append_left (by omega)]; exact h2)
  . rw [upd_ne (hut u hu)]; exact e u (by simp [hu])
def PartsG (G H : Hp) (xs : List V) (ps : List (Int × List Int)) : Prop := xs.length = ps.length /\ ∀ (i : Nat) (pr : Int × List Int), ps[i]? = some pr -> ∃ t tw, xs[i]? = some (.ref t) /\ H t = some (.tup [.int pr.1, .ref tw]) /\ G tw = some (.tup []) /\ H tw = some (.lst (pr.2.map V.int))
theorem PartsG.nil {G H : Hp} : PartsG G H [] [] := ⟨rfl, fun i pr h => by simp at h⟩
theorem PartsG.same {G H H' : Hp} {xs : List V} {ps : List (Int × List Int)} (h : PartsG G H xs ps) (s : Same H H') : PartsG G H' xs ps := by
  refine ⟨h.1, fun i pr hi => ?_⟩
  obtain ⟨t, tw, a, b, c, d⟩ := h.2 i pr hi
  exact ⟨t, tw, a, s _ _ b, c, s _ _ d⟩
theorem PartsG.off {G H : Hp} {xs zs : List V} {ps : List (Int × List Int)} {u : Addr} {o : HO} (h : PartsG G H xs ps) (hu : H u = some (.lst zs)) (hg : G u ≠ some (.tup [])) : PartsG G (upd H u o) xs ps := by
  refine ⟨h.1, fun i pr hi => ?_⟩
  obtain ⟨t, tw, a, b, c, d⟩ := h.2 i pr hi
  exact ⟨t, tw, a, by rw [upd_ne (fun z => by rw [z, hu] at b; cases b)]; exact b, c, by rw [upd_ne (fun z => hg (by rw [<- z]; exact c))]; exact d⟩
theorem PartsG.mark {G H : Hp} {xs : List V} {ps : List (Int × List Int)} {u : Addr} (h : PartsG G H xs ps) : PartsG (upd G u (.tup [])) H xs ps := by
  refine ⟨h.1, fun i pr hi => ?_⟩
  obtain ⟨t, tw, a, b, c, d⟩ := h.2 i pr hi
  refine ⟨t, tw, a, b, ?_, d⟩
  by_cases e : tw = u
  . rw [e]; exact upd_same
  . rw [upd_ne e]; exact c
theorem PartsG.snoc {G H : Hp} {xs : List V} {ps : List (Int × List Int)} {t tw : Addr} {j : Int} {w : List Int} (h : PartsG G H xs ps) (h1 : H t = some (.tup [.int j, .ref tw])) (h2 : G tw = some (.tup [])) (h3 : H tw = some (.lst (w.map V.int))) : PartsG G H (xs ++ [.ref t]) (ps ++ [(j, w)]) := by
  refine ⟨by simp [h.1], fun i pr hi => ?_⟩
  by_cases hl : i < ps.length
  . rw [List.getElem?_append_left hl] at hi
    rw [List.getElem?_append_left (by rw [h.1]; exact hl)]
    exact h.2 i pr hi
  . have := (List.getElem?_eq_some_iff.mp hi).1
    rw [List.length_append, List.length_singleton] at this
    have e : i = ps.length := by omega
    subst e
    rw [List.getElem?_append_right (Nat.le_refl _), Nat.sub_self] at hi
    simp at hi
    subst hi
    exact ⟨t, tw, by rw [<- h.1]; simp, h1, h2, h3⟩
def PartsD (H : Hp) (xs : List V) (ps : List (Int × List Int)) : Prop := xs.length = ps.length /\ ∀ (i : Nat) (pr : Int × List Int), ps[i]? = some pr -> ∃ t tw, xs[i]? = some (.ref t) /\ H t = some (.tup [.int pr.1, .ref tw]) /\ H tw = some (.lst (pr.2.map V.int))
def sp_lparts (K : PySem.W.Frag) : Sp := fun vs H Q _ => ∃ (p h top : Int) (a : Addr) (ws : List Int), vs = [.int p, .int h, .ref a, .int top] /\ SqL K H a (ws.map V.int) /\ ws.length <= 200 /\ nestR p (p + h) ws 0 = true /\ ∀ l xs H', Same H H' -> H' l = some (.lst xs) -> PartsD H' xs ((prtS p (p + h) ws).1 ++ [(top, outW p (p + h) ws)]) -> xs.length <= 201 -> Q (.ref l) H'
theorem ok__law_parts {f : Addr} {fd : FuncData} (F : Fun K "_law_parts" "_law_parts" s__law_parts f fd) (T : Txt mg)
    (W : Own K mg)
    (Z : Exs K mg C_AskError C_BadHouse C_BadWord)
    : FnOk P w K mg base CX0 1 f fd ["plain", "helpers", "signs", "top"] (sp_lparts K) := by
  refine F.ok sc__law_parts (fun vs H Q E h => ?_) (fun cdv A outer s H vs Q E hr h => ?_)
  . obtain ⟨p, h, top, a, ws, rfl, _⟩ := h; rfl
  . obtain ⟨p, h, top, a, ws, rfl, ha, hz, hv, k⟩ := h
    have hln := line1000
    refine ⟨_, (pss_cons (ps_set (i := 4) sc__law_parts.nd rfl (Or.inl rfl) (pe_lst pa_nil))
      (pss_cons (ps_set (i := 5) sc__law_parts.nd rfl (Or.inl rfl) (pe_lst (pa_cons (pv 3) pa_nil)))
      (pss_cons (ps_set (i := 6) sc__law_parts.nd rfl (Or.inl rfl) (pe_lst (pa_cons (pe_lst pa_nil) pa_nil)))
      (pss_cons (ps_for PassesOwn.never rfl (pi_list (pv 2)) (pg_name (i := 7) sc__law_parts.nd rfl (Or.inl rfl))
      (pss_one (ps_if (pt_cmpR op_eq (pv 7) (pe_op op_add (pv 0) (pv 1)) (nomark _))
      (pss_one (ps_expr (pe_bm PySem.F.plainAttrs_list PySem.F.slot_list_append PySem.F.type_list_append mt_append (pv 4) (pa_cons (pe_tup (pa_cons (pe_bm0 PySem.F.plainAttrs_list PySem.F.slot_list_pop PySem.F.type_list_pop mt_pop (pv 5)) (pa_cons (pe_bm0 PySem.F.plainAttrs_list PySem.F.slot_list_pop PySem.F.type_list_pop mt_pop (pv 6)) pa_nil))) pa_nil))))
      (pss_cons (ps_expr (pe_bm PySem.F.plainAttrs_list PySem.F.slot_list_append PySem.F.type_list_append mt_append (pe_ix ix_list (pv 6) (pe_un un_neg pe_int) (fun _ _ => rfl)) (pa_cons (pv 7) pa_nil)))
      (pss_one (ps_if (pt_cmpR op_ge (pv 7) (pv 0) (nomark _))
      (pss_cons (ps_expr (pe_bm PySem.F.plainAttrs_list PySem.F.slot_list_append PySem.F.type_list_append mt_append (pv 5) (pa_cons (pe_op op_sub (pv 7) (pv 0)) pa_nil)))
      (pss_one (ps_expr (pe_bm PySem.F.plainAttrs_list PySem.F.slot_list_append PySem.F.type_list_append mt_append (pv 6) (pa_cons (pe_lst pa_nil) pa_nil)))))
      pss_nil))))))
      (pss_cons (ps_expr (pe_bm PySem.F.plainAttrs_list PySem.F.slot_list_append PySem.F.type_list_append mt_append (pv 4) (pa_cons (pe_tup (pa_cons (pv 3) (pa_cons (pe_ix ix_list (pv 6) pe_int (fun _ _ => rfl)) pa_nil))) pa_nil)))
      (pss_one (ps_ret (pv 4)))))))), ?_⟩
    walk_at "rd"
    refine ⟨by omega, fun q1 hq1 => ⟨by omega, fun q2 hq2 => ⟨by omega, fun t0 ht0 => ⟨by omega, fun q hq => ?_⟩⟩⟩⟩
    have sa := ((Same.new hq1 (o := .lst [])).newT hq2 (o := .lst [V.int top])).newT ht0 (o := .lst [])
    have sb := sa.newT hq (o := .lst [V.ref t0])
    have hq21 : q2 ≠ q1 := (none_of_upd hq2).2
    have ht02 : t0 ≠ q2 := (none_of_upd ht0).2
    have ht01 : t0 ≠ q1 := (none_of_upd (none_of_upd ht0).1).2
    have hqt : q ≠ t0 := (none_of_upd hq).2
    have hq2' : q ≠ q2 := (none_of_upd (none_of_upd hq).1).2
    have hq1' : q ≠ q1 := (none_of_upd (none_of_upd (none_of_upd hq).1).1).2
    have ht0H : H t0 = none := (none_of_upd (none_of_upd ht0).1).1
    have hq1H : H q1 = none := hq1
    have hq2H : H q2 = none := (none_of_upd hq2).1
    have hqH : H q = none := (none_of_upd (none_of_upd (none_of_upd hq).1).1).1
    obtain ⟨G0, hG0⟩ : ∃ G : Hp, G = upd (upd (upd H q1 (.lst [])) q2 (.lst [])) q (.lst []) := ⟨_, rfl⟩
    have g1 : G0 q1 = some (.lst []) := by rw [hG0, upd_ne (Ne.symm hq1'), upd_ne (Ne.symm hq21)]; exact upd_same
    have g2 : G0 q2 = some (.lst []) := by rw [hG0, upd_ne (Ne.symm hq2')]; exact upd_same
    have g3 : G0 q = some (.lst []) := by rw [hG0]; exact upd_same
    have g0 : G0 t0 = none := by rw [hG0, upd_ne (Ne.symm hqt), upd_ne ht02, upd_ne ht01]; exact ht0H
    have gS : Same H G0 := by rw [hG0]; exact (((Same.refl H).over hq1H).over hq2H).over hqH
    have gN : ∀ u, upd (upd (upd (upd H q1 (.lst [])) q2 (.lst [V.int top])) t0 (.lst [])) q (.lst [V.ref t0]) u = none -> G0 u = none := fun u hu => by
      obtain ⟨hu1, n1⟩ := none_of_upd hu
      obtain ⟨hu2, n2⟩ := none_of_upd hu1
      obtain ⟨hu3, n3⟩ := none_of_upd hu2
      obtain ⟨hu4, n4⟩ := none_of_upd hu3
      rw [hG0, upd_ne n1, upd_ne n3, upd_ne n4]; exact hu4
    have L0 : LLs G0 (upd (upd (upd (upd H q1 (.lst [])) q2 (.lst [V.int top])) t0 (.lst [])) q (.lst [V.ref t0])) [V.ref t0] [[]] := ((LLs.nil G0 (upd (upd H q1 (.lst [])) q2 (.lst [V.int top]))).snoc (w := []) g0 ht0).mono (Same.new hq)
    have h1 : upd (upd (upd (upd H q1 (.lst [])) q2 (.lst [V.int top])) t0 (.lst [])) q (.lst [V.ref t0]) q1 = some (.lst []) := by rw [upd_ne (Ne.symm hq1'), upd_ne (Ne.symm ht01), upd_ne (Ne.symm hq21)]; exact upd_same
    have h2 : upd (upd (upd (upd H q1 (.lst [])) q2 (.lst [V.int top])) t0 (.lst [])) q (.lst [V.ref t0]) q2 = some (.lst [V.int top]) := by rw [upd_ne (Ne.symm hq2'), upd_ne (Ne.symm ht02)]; exact upd_same
    have h3 : upd (upd (upd (upd H q1 (.lst [])) q2 (.lst [V.int top])) t0 (.lst [])) q (.lst [V.ref t0]) q = some (.lst [V.ref t0]) := upd_same
    generalize upd (upd (upd (upd H q1 (.lst [])) q2 (.lst [V.int top])) t0 (.lst [])) q (.lst [V.ref t0]) = H0 at sb L0 h1 h2 h3 gN ⊢
    refine ⟨⟨_, sb.seq ha⟩, ?_⟩
    obtain ⟨Pv, hPv⟩ : ∃ Pv : Nat -> St -> Hp -> Prop, ∀ i σ' H', Pv i σ' H' ↔ (∃ (G : Hp) (ts xs : List V) (tl : List (Int × List Int)) (cs : List Int) (wl : List (List Int)) (o : Option V), prtS p (p + h) (ws.take i) = (tl, cs, wl) /\ Same H H' /\ Same H G /\ (∀ u, H' u = none -> G u = none) /\ G q1 = some (.lst []) /\ G q2 = some (.lst []) /\ G q = some (.lst []) /\ H' q1 = some (.lst ts) /\ PartsG G H' ts tl /\ H' q2 = some (.lst (V.int top :: cs.map V.int)) /\ H' q = some (.lst xs) /\ LLs G H' xs wl /\ nestR p (p + h) (ws.drop i) cs.length = true /\ wl.length = cs.length + 1 /\ tl.length <= i /\ cs.length <= i /\ (∀ w ∈ wl, w.length <= i) /\ σ' = [some (.int p), some (.int h), some (.ref a), some (.int top), some (.ref q1), some (.ref q2), some (.ref q), o]) := ⟨_, fun _ _ _ => Iff.rfl⟩
    refine forL (xs := ws.map V.int) Pv ((hPv _ _ _).mpr ⟨G0, [], _, [], [], [[]], none, rfl, sb, gS, gN, g1, g2, g3, h1, PartsG.nil, h2, h3, L0, hv, rfl, Nat.le_refl _, Nat.le_refl _, by simp, rfl⟩) (fun i σ' H' _ h' => by obtain ⟨_, _, _, _, _, _, _, _, s', _⟩ := (hPv _ _ _).mp h'; exact s'.seq ha) (fun i x σ' H' hx h' => ?_) (fun σ' H' h' => ?_)
    . clear h1 h2 h3 L0 sb gN gS g0 g1 g2 g3 hG0 G0
      obtain ⟨G, ts, xs, tl, cs, wl, o, hst, s2, gS, gN, g1, g2, g3, e1, hP, e2, e3, hL, hd, hwl, l1, l2, l3, rfl⟩ := (hPv _ _ _).mp h'
      obtain ⟨n, hn, rfl⟩ := get_mapI hx
      have hi := (List.getElem?_eq_some_iff.mp hn).1
      have hst' := prtS_take (p := p) (e := p + h) hn
      rw [hst] at hst'
      rw [nestR_drop hn] at hd
      have hok : ¬ (n < 0 \/ p + h < n) := fun z => by rw [if_pos z] at hd; cases hd
      rw [if_neg hok] at hd
      obtain ⟨wl, w', rfl⟩ : ∃ us u, wl = us ++ [u] := ⟨wl.dropLast, wl.getLast (fun z => by rw [z] at hwl; simp at hwl), (List.dropLast_concat_getLast _).symm⟩
      obtain ⟨ys, t, rfl, ht, hgt, hL', hLv⟩ := LLs.lastG hL
      have hlw := l3 w' (by simp)
      walk_at "rd"
      have htq : t ≠ q := fun z => by rw [z, g3] at hgt; cases hgt
      have htq1 : t ≠ q1 := fun z => by rw [z, g1] at hgt; cases hgt
      have htq2 : t ≠ q2 := fun z => by rw [z, g2] at hgt; cases hgt
      have hPl := hP.1
      refine ite2 (fun e => ?_) (fun e => ?_)
      . rw [if_pos e] at hd
        obtain ⟨cs, c, rfl⟩ : ∃ us u, cs = us ++ [u] := ⟨cs.dropLast, cs.getLast (fun z => by rw [z] at hd; cases hd), (List.dropLast_concat_getLast _).symm⟩
        rw [List.length_append, List.length_singleton] at hd l2 hwl
        rw [List.length_append, List.length_singleton] at hwl
        rw [List.map_append, List.map_singleton, <- List.cons_append] at e2
        refine ⟨.inl ⟨rfl, _, SqL.of e1⟩, .inl ⟨rfl, _, SqL.of e2⟩, _, e2, V.int c, by simp, ?_⟩
        rw [List.dropLast_concat]
        have e3A : upd H' q2 (.lst (V.int top :: cs.map V.int)) q = some (.lst (ys ++ [V.ref t])) := by rw [upd_ne hq2']; exact e3
        refine ⟨.inl ⟨rfl, _, SqL.of e3A⟩, _, e3A, V.ref t, by simp, ?_⟩
        rw [List.dropLast_concat]
        have htB : upd (upd H' q2 (.lst (V.int top :: cs.map V.int))) q (.lst ys) t = some (.lst (w'.map V.int)) := by rw [upd_ne htq, upd_ne htq2]; exact ht
        have e1B : upd (upd H' q2 (.lst (V.int top :: cs.map V.int))) q (.lst ys) q1 = some (.lst ts) := by rw [upd_ne (Ne.symm hq1'), upd_ne (Ne.symm hq21)]; exact e1
        have e2B : upd (upd H' q2 (.lst (V.int top :: cs.map V.int))) q (.lst ys) q2 = some (.lst (V.int top :: cs.map V.int)) := by rw [upd_ne (Ne.symm hq2')]; exact upd_same
        have e3B : upd (upd H' q2 (.lst (V.int top :: cs.map V.int))) q (.lst ys) q = some (.lst ys) := upd_same
        have sB : Same H (upd (upd H' q2 (.lst (V.int top :: cs.map V.int))) q (.lst ys)) := (s2.over hq2H).over hqH
        have LB := LLs.off (LLs.off (hL' (.tup [])) (o := .lst (V.int top :: cs.map V.int)) (u := .lst []) (by rw [upd_ne (Ne.symm htq2)]; exact g2)) (o := .lst ys) (u := .lst []) (by rw [upd_ne (Ne.symm htq)]; exact g3)
        have PB : PartsG (upd G t (.tup [])) (upd (upd H' q2 (.lst (V.int top :: cs.map V.int))) q (.lst ys)) ts tl := ((hP.off e2 (by rw [g2]; simp)).off e3A (by rw [g3]; simp)).mark
        have NB : ∀ u, upd (upd H' q2 (.lst (V.int top :: cs.map V.int))) q (.lst ys) u = none -> upd G t (.tup []) u = none := fun u hu => by
          have hu2 := (none_of_upd (none_of_upd hu).1).1
          rw [upd_ne (ne_of_none' hu2 ht)]; exact gN u hu2
        generalize upd (upd H' q2 (.lst (V.int top :: cs.map V.int))) q (.lst ys) = HB at htB e1B e2B e3B sB LB PB NB ⊢
        refine ⟨by omega, fun p1 hp1 => ?_⟩
        have sp := Same.new hp1 (o := .tup [V.int c, V.ref t])
        have e1' := sp _ _ e1B
        have PC := (PB.same sp).snoc (j := c) (w := w') (t := p1) (tw := t) upd_same upd_same (sp _ _ htB)
        refine ⟨_, e1', by omega, (hPv _ _ _).mpr ⟨upd G t (.tup []), ts ++ [.ref p1], ys, tl ++ [(c, w')], cs, wl, _, ?_, (sB.trans sp).over hq1H, gS.over (gS.none hgt), fun u hu => NB u (none_of_upd (none_of_upd hu).1).1, by rw [upd_ne (Ne.symm htq1)]; exact g1, by rw [upd_ne (Ne.symm htq2)]; exact g2, by rw [upd_ne (Ne.symm htq)]; exact g3, upd_same, PC.off e1' (by rw [upd_ne (Ne.symm htq1), g1]; simp), ?_, ?_, LLs.off (LB.mono sp) (u := .lst []) (by rw [upd_ne (Ne.symm htq1)]; exact g1), hd, by omega, by simp; omega, by omega, fun w hw => ?_, rfl⟩⟩
        . rw [hst']
          unfold prtF
          rw [if_pos e]
          simp only [List.dropLast_concat, List.getLastD_concat]
        . rw [upd_ne hq21]; exact sp _ _ e2B
        . rw [upd_ne hq1']; exact sp _ _ e3B
        . have := l3 w (by simp [hw]); omega
      . rw [if_neg e] at hd
        refine ⟨_, SqL.of e3, _, atI_end (v := V.ref t) (by simp), .inl ⟨rfl, _, SqL.of ht⟩, t, rfl, _, ht, by rw [List.length_map]; omega, ?_⟩
        rw [show w'.map V.int ++ [V.int n] = (w' ++ [n]).map V.int from by simp]
        have LA := hLv (w' ++ [n])
        have e1A : upd H' t (.lst ((w' ++ [n]).map V.int)) q1 = some (.lst ts) := by rw [upd_ne (Ne.symm htq1)]; exact e1
        have e2A : upd H' t (.lst ((w' ++ [n]).map V.int)) q2 = some (.lst (V.int top :: cs.map V.int)) := by rw [upd_ne (Ne.symm htq2)]; exact e2
        have e3A : upd H' t (.lst ((w' ++ [n]).map V.int)) q = some (.lst (ys ++ [V.ref t])) := by rw [upd_ne (Ne.symm htq)]; exact e3
        have htH : H t = none := gS.none hgt
        have sA : Same H (upd H' t (.lst ((w' ++ [n]).map V.int))) := s2.over htH
        have PA' : PartsG G (upd H' t (.lst ((w' ++ [n]).map V.int))) ts tl := hP.off ht (by rw [hgt]; simp)
        have NA : ∀ u, upd H' t (.lst ((w' ++ [n]).map V.int)) u = none -> G u = none := fun u hu => gN u (none_of_upd hu).1
        generalize upd H' t (.lst ((w' ++ [n]).map V.int)) = HA at LA e1A e2A e3A sA PA' NA ⊢
        rw [List.length_append, List.length_singleton] at hwl
        have hyl : ys.length = wl.length := by have := LLs.len hL; simpa using this
        have l3' : ∀ w ∈ wl ++ [w' ++ [n]], w.length <= i + 1 := fun w hw => by
          rcases List.mem_append.mp hw with hw | hw
          . have := l3 w (by simp [hw]); omega
          . rw [List.mem_singleton.mp hw, List.length_append, List.length_singleton]; omega
        refine ite2 (fun hp => ?_) (fun hp => ?_)
        . rw [if_pos hp] at hd
          refine ⟨.inl ⟨rfl, _, SqL.of e2A⟩, _, e2A, by rw [List.length_cons, List.length_map]; omega, ?_⟩
          rw [show V.int top :: cs.map V.int ++ [V.int (n - p)] = V.int top :: (cs ++ [n - p]).map V.int from by simp]
          have e1B : upd HA q2 (.lst (V.int top :: (cs ++ [n - p]).map V.int)) q1 = some (.lst ts) := by rw [upd_ne (Ne.symm hq21)]; exact e1A
          have e2B : upd HA q2 (.lst (V.int top :: (cs ++ [n - p]).map V.int)) q2 = some (.lst (V.int top :: (cs ++ [n - p]).map V.int)) := upd_same
          have e3B : upd HA q2 (.lst (V.int top :: (cs ++ [n - p]).map V.int)) q = some (.lst (ys ++ [V.ref t])) := by rw [upd_ne hq2']; exact e3A
          have sB : Same H (upd HA q2 (.lst (V.int top :: (cs ++ [n - p]).map V.int))) := sA.over hq2H
          have LB := LLs.off LA (o := .lst (V.int top :: (cs ++ [n - p]).map V.int)) g2
          have PB : PartsG G (upd HA q2 (.lst (V.int top :: (cs ++ [n - p]).map V.int))) ts tl := PA'.off e2A (by rw [g2]; simp)
          have NB : ∀ u, upd HA q2 (.lst (V.int top :: (cs ++ [n - p]).map V.int)) u = none -> G u = none := fun u hu => NA u (none_of_upd hu).1
          generalize upd HA q2 (.lst (V.int top :: (cs ++ [n - p]).map V.int)) = HB at e1B e2B e3B sB LB PB NB ⊢
          refine ⟨.inl ⟨rfl, _, SqL.of e3B⟩, by omega, fun p1 hp1 => ?_⟩
          have sp := Same.new hp1 (o := .lst [])
          have gp1 : G p1 = none := NB p1 hp1
          have LC := LLs.off (LB.snoc (w := []) gp1 hp1) (o := .lst (ys ++ [V.ref t] ++ [V.ref p1])) g3
          refine ⟨_, sp _ _ e3B, by simp; omega, (hPv _ _ _).mpr ⟨G, ts, ys ++ [V.ref t] ++ [V.ref p1], tl, cs ++ [n - p], wl ++ [w' ++ [n]] ++ [[]], _, ?_, (sB.trans sp).over hqH, gS, fun u hu => NB u (none_of_upd (none_of_upd hu).1).1, g1, g2, g3, ?_, (PB.same sp).off (sp _ _ e3B) (by rw [g3]; simp), ?_, upd_same, LC, by rw [List.length_append, List.length_singleton]; exact hd, by simp; omega, by omega, by simp; omega, fun w hw => ?_, rfl⟩⟩
          . rw [hst']
            unfold prtF
            rw [if_neg e, if_pos hp]
            simp only [List.dropLast_concat, List.getLastD_concat]
          . rw [upd_ne (Ne.symm hq1')]; exact sp _ _ e1B
          . rw [upd_ne (Ne.symm hq2')]; exact sp _ _ e2B
          . rcases List.mem_append.mp hw with hw | hw
            . exact l3' w hw
            . rw [List.mem_singleton.mp hw]; simp
        . rw [if_neg hp] at hd
          refine (hPv _ _ _).mpr ⟨G, ts, ys ++ [V.ref t], tl, cs, wl ++ [w' ++ [n]], _, ?_, sA, gS, NA, g1, g2, g3, e1A, PA', e2A, e3A, LA, hd, by simp; omega, by omega, by omega, l3', rfl⟩
          rw [hst']
          unfold prtF
          rw [if_neg e, if_neg hp]
          simp only [List.dropLast_concat, List.getLastD_concat]
    . clear h1 h2 h3 L0 sb gN gS g0 g1 g2 g3 hG0 G0
      obtain ⟨G, ts, xs, tl, cs, wl, o, hst, s2, gS, gN, g1, g2, g3, e1, hP, e2, e3, hL, hd, hwl, l1, l2, l3, rfl⟩ := (hPv _ _ _).mp h'
      rw [List.length_map, List.take_length] at hst
      have hpd := (Nest.parts_due hv).2
      rw [hst] at hpd
      obtain ⟨w0, wr, rfl⟩ : ∃ w0 wr, wl = w0 :: wr := by
        cases wl with
        | nil => simp at hwl
        | cons w0 wr => exact ⟨w0, wr, rfl⟩
      have hpd : w0 = outW p (p + h) ws := hpd
      obtain ⟨t, ht1, ht2⟩ := LLs.head hL
      obtain ⟨t', ht1', ht2', hgt, _⟩ := LLs.at hL (i := 0) (w := w0) rfl
      have : t' = t := by rw [ht1] at ht1'; simpa using ht1'.symm
      subst this
      walk_at "rd"
      refine ⟨.inl ⟨rfl, _, SqL.of e1⟩, _, SqL.of e3, _, (atI_nat ht1 : atI xs ((0 : Nat) : Int) = _), by omega, fun p1 hp1 => ?_⟩
      have sp := Same.new hp1 (o := .tup [V.int top, V.ref t'])
      have e1' := sp _ _ e1
      rw [List.length_map] at l1
      have hPl := hP.1
      refine ⟨_, e1', by omega, ?_⟩
      have hP2 := ((hP.mark (u := t')).same sp).snoc (j := top) (w := w0) (t := p1) (tw := t') upd_same upd_same (sp _ _ ht2)
      have htq1 : t' ≠ q1 := fun z => by rw [z, g1] at hgt; cases hgt
      have hP3 := hP2.off (o := .lst (ts ++ [.ref p1])) e1' (by rw [upd_ne (Ne.symm htq1), g1]; simp)
      refine k q1 _ _ ((s2.trans sp).over hq1H) upd_same ?_ (by rw [List.length_append, List.length_singleton]; omega)
      rw [hst, <- hpd]
      refine ⟨hP3.1, fun i pr hi => ?_⟩
      obtain ⟨t, tw, a1, a2, a3, a4⟩ := hP3.2 i pr hi
      exact ⟨t, tw, a1, a2, a4⟩
def sp_draw (K : PySem.W.Frag) : Sp := fun vs H Q _ => ∃ (a : Addr) (ns : List Int) (k m : Int), vs = [.ref a, .int k, .int m] /\ SqL K H a (ns.map V.int) /\ 0 <= k /\ k <= 1000000 /\ 0 < m /\ ∀ x, 0 <= x -> x < m -> Q (.int x) H
theorem ok__law_draw {f : Addr} {fd : FuncData} (F : Fun K "_law_draw" "_law_draw" s__law_draw f fd) (T : Txt mg)
    (W : Own K mg)
    (Z : Exs K mg C_AskError C_BadHouse C_BadWord)
    : FnOk P w K mg base CX0 1 f fd ["flow", "k", "many"] (sp_draw K) := by
  refine F.ok sc__law_draw (fun vs H Q E h => ?_) (fun cdv A outer s H vs Q E hr h => ?_)
  . obtain ⟨a, ns, k, m, rfl, _⟩ := h; rfl
  . obtain ⟨a, ns, k, m, rfl, hs, hk0, hk1, hm, q⟩ := h
    have hl := line1000
    refine ⟨_, (pss_cons (ps_if (pt_cmpR op_lt (pv 1) (pe_callB call_len_seq (by rfl) T.len PySem.boot_len (pa_cons (pv 0) pa_nil)) (nomark _))
      (pss_one (ps_ret (pe_op op_mod (pe_ix ix_list (pv 0) (pv 1) (fun _ _ => rfl)) (pv 2))))
      pss_nil)
      (pss_cons (ps_if (pt_cmpR op_eq (pe_callB call_len_seq (by rfl) T.len PySem.boot_len (pa_cons (pv 0) pa_nil)) pe_int (nomark _))
      (pss_one (ps_ret pe_int))
      pss_nil)
      (pss_cons (ps_set (i := 3) sc__law_draw.nd rfl (Or.inl rfl) (pe_op op_mod (pe_ix ix_list (pv 0) (pe_op op_mod (pv 1) (pe_callB call_len_seq (by rfl) T.len PySem.boot_len (pa_cons (pv 0) pa_nil))) (fun _ _ => rfl)) pe_int))
      (pss_cons (ps_set (i := 4) sc__law_draw.nd rfl (Or.inl rfl) (pe_op op_mod (pe_op op_mul (pe_op op_add (pe_op op_add (pv 3) (pe_op op_mul (pv 1) (pv 1))) pe_int) pe_int) pe_int))
      (pss_one (ps_ret (pe_op op_mod (pe_op op_mod (pe_op op_mul (pv 4) (pv 4)) pe_int) (pv 2)))))))), ?_⟩
    walk_at "rd"
    refine ⟨_, .inl hs, ?_⟩
    rw [List.length_map]
    refine ite2 (fun hlt => ?_) (fun hge => ?_)
    . have hk' : k.toNat < ns.length := by omega
      refine ⟨_, hs, _, atI_int hk0 (v := ns[k.toNat]) (by simp [hk']), ?_⟩
      walk_at "rd"
      exact ⟨hm, q _ (Int.emod_nonneg _ (by omega)) (Int.emod_lt_of_pos _ hm)⟩
    . refine ⟨_, .inl hs, ?_⟩
      rw [List.length_map]
      refine ite2 (fun h0 => q 0 (by omega) hm) (fun h0 => ?_)
      have hpos : 0 < (ns.length : Int) := by omega
      have e0 := Int.emod_nonneg k (show (ns.length : Int) ≠ 0 by omega)
      have e1 := Int.emod_lt_of_pos k hpos
      have hk' : (k % (ns.length : Int)).toNat < ns.length := by omega
      refine ⟨_, .inl hs, by rw [List.length_map]; exact hpos, _, hs, _, by rw [List.length_map]; exact atI_int e0 (v := ns[(k % (ns.length : Int)).toNat]) (by simp [hk']), ?_⟩
      walk_at "rd"
      refine ⟨by decide, .inl ⟨by omega, by omega⟩, ?_⟩
      generalize ns[(k % (ns.length : Int)).toNat] % 2147483647 + k * k + 1 = z
      have m0 := Int.emod_nonneg (z * 48271) (show (2147483647 : Int) ≠ 0 by decide)
      have m1 := Int.emod_lt_of_pos (z * 48271) (show (0 : Int) < 2147483647 by decide)
      refine ⟨.inr ⟨by decide, by decide⟩, by decide, .inl ⟨by omega, by omega⟩, by decide, hm, ?_⟩
      exact q _ (Int.emod_nonneg _ (by omega)) (Int.emod_lt_of_pos _ hm)
def sp_hby79 (K : PySem.W.Frag) : Sp := fun vs H Q _ => ∃ (a : Addr) (ns : List Int) (c : Int) (L : Nat), vs = [.ref a, .int c, .int L] /\ SqL K H a (ns.map V.int) /\ 0 <= c /\ c <= 1000 /\ 1 <= L /\ L <= 6 /\ ∀ h marks ways H', Same H H' -> House K H' h L marks ways -> Wf L marks ways -> marks.length <= 4 -> Q (.ref h) H'
theorem ok__law_house_by {f : Addr} {fd : FuncData} (F : Fun K "_law_house_by" "_law_house_by" s__law_house_by f fd) (T : Txt mg)
    (W : Own K mg)
    (Z : Exs K mg C_AskError C_BadHouse C_BadWord)
    {f__law_draw : Addr} {fd__law_draw : FuncData} (g__law_draw : FnOk P w K mg base CX0 1 f__law_draw fd__law_draw ["flow", "k", "many"] (sp_draw K)) (F__law_draw : Fun K "_law_draw" "_law_draw" s__law_draw f__law_draw fd__law_draw) (b__law_draw : Binds K fd__law_draw ["flow", "k", "many"] []) (m__law_draw : mg "_law_draw" = some (.ref f__law_draw))
    : FnOk P w K mg base CX0 2 f fd ["flow", "at", "letters"] (sp_hby79 K) := by
  refine F.ok sc__law_house_by (fun vs H Q E h => ?_) (fun cdv A outer s H vs Q E hr h => ?_)
  . obtain ⟨a, ns, c, L, rfl, _⟩ := h; rfl
  . obtain ⟨a, ns, c, L, rfl, hs, c0, c1, hL1, hL6, k⟩ := h
    have hl := line1000
    refine ⟨_, (pss_cons (ps_set (i := 3) sc__law_house_by.nd rfl (Or.inr rfl) (pe_op op_add pe_int (pe_call g__law_draw (hr.mono (by decide)) rfl m__law_draw F__law_draw.kp b__law_draw .nil pass0 (pa_cons (pv 0) (pa_cons (pv 1) (pa_cons pe_int pa_nil))))))
      (pss_cons (ps_set (i := 4) sc__law_house_by.nd rfl (Or.inl rfl) (pe_lst pa_nil))
      (pss_cons (ps_set (i := 5) sc__law_house_by.nd rfl (Or.inl rfl) (pe_lst pa_nil))
      (pss_cons (ps_for PassesOwn.never rfl (pi_range1 rfl T.range (pa_cons (pv 3) pa_nil)) (pg_name (i := 6) sc__law_house_by.nd rfl (Or.inl rfl))
      (pss_cons (ps_set (i := 7) sc__law_house_by.nd rfl (Or.inr rfl) (pe_op op_add (pe_op op_add (pv 1) pe_int) (pe_op op_mul (pv 6) pe_int)))
      (pss_cons (ps_set (i := 8) sc__law_house_by.nd rfl (Or.inl rfl) (pe_call g__law_draw (hr.mono (by decide)) rfl m__law_draw F__law_draw.kp b__law_draw .nil pass0 (pa_cons (pv 0) (pa_cons (pv 7) (pa_cons pe_int pa_nil)))))
      (pss_cut (ps_if (pt_cmpR op_eq (pe_op op_mod (pv 8) pe_int) pe_int (nomark _))
      (pss_one (ps_expr (pe_bm PySem.F.plainAttrs_list PySem.F.slot_list_append PySem.F.type_list_append mt_append (pv 4) (pa_cons pe_int pa_nil))))
      (pss_one (ps_expr (pe_bm PySem.F.plainAttrs_list PySem.F.slot_list_append PySem.F.type_list_append mt_append (pv 4) (pa_cons (pe_op op_add pe_int (pe_op op_fdiv (pv 8) pe_int)) pa_nil)))))
      (pss_one (ps_expr (pe_bm PySem.F.plainAttrs_list PySem.F.slot_list_append PySem.F.type_list_append mt_append (pv 5) (pa_cons (pe_callTy call_tuple_of rfl T.tuple PyProof.Rows.boot_tuple (pa_cons (pe_comp rfl (blk_mk rfl) (cp := c__law_house_by_0) ⟨⟨rfl, rfl⟩, ⟨⟨rfl, rfl⟩, ⟨⟨rfl, rfl⟩, True.intro⟩⟩⟩ (pi_range1 rfl T.range (pa_cons (pv 2) pa_nil)) (fun _ _ _ _ => (pg_name (i := 0) nd_c__law_house_by_0 rfl (Or.inl rfl))) (fun _ _ _ _ => pf_nil) (fun _ _ _ _ => (pe_call g__law_draw (hr.mono (by decide)) rfl m__law_draw F__law_draw.kp b__law_draw .nil pass0 (pa_cons (pv 1) (pa_cons (pe_op op_add (pe_op op_add (pv 3) pe_int) (pv 0)) (pa_cons (pv 2) pa_nil)))))) pa_nil)) pa_nil))))))))
      (pss_one (ps_ret (pe_tup (pa_cons (pv 2) (pa_cons (pe_callTy call_tuple_of rfl T.tuple PyProof.Rows.boot_tuple (pa_cons (pv 4) pa_nil)) (pa_cons (pe_callTy call_tuple_of rfl T.tuple PyProof.Rows.boot_tuple (pa_cons (pv 5) pa_nil)) pa_nil)))))))))), ?_⟩
    walk_at "rd"
    refine ⟨a, ns, c, 4, rfl, hs, c0, by omega, by omega, fun r0 r1 r2 => ?_⟩
    obtain ⟨n, hn, hn1, hn4⟩ : ∃ n : Nat, 1 + r0 = (n : Int) /\ 1 <= n /\ n <= 4 := ⟨(1 + r0).toNat, by omega, by omega, by omega⟩
    refine ⟨r0, rfl, ?_⟩
    rw [hn]
    refine ⟨by omega, fun pm hpm => ⟨by omega, fun pw hpw => ⟨by omega, by omega, ?_⟩⟩⟩
    rw [Int.toNat_natCast]
    have hpp : pw ≠ pm := (none_of_upd hpw).2
    have hpw0 : H pw = none := (none_of_upd hpw).1
    obtain ⟨Pv, hPv⟩ : ∃ Pv : Nat -> St -> Hp -> Prop, ∀ i σ' H', Pv i σ' H' ↔ (∃ (ms : List Int) (ways : List (List Int)) (o1 o2 o3 : Option V), Same H H' /\ H' pm = some (.lst (ms.map V.int)) /\ TupsL K H' pw ways /\ ms.length = i /\ ways.length = i /\ (∀ m ∈ ms, 0 <= m /\ m <= 1000000000) /\ (∀ row ∈ ways, row.length = L /\ ∀ x ∈ row, 0 <= x /\ x < (n : Int)) /\ σ' = [some (.ref a), some (.int c), some (.int L), some (.int n), some (.ref pm), some (.ref pw), o1, o2, o3]) := ⟨_, fun _ _ _ => Iff.rfl⟩
    refine forR Pv ((hPv _ _ _).mpr ⟨[], [], none, none, none, (Same.new hpm).newT hpw, Same.new hpw _ _ upd_same, TupsL.nil upd_same, rfl, rfl, by simp, by simp, rfl⟩) (fun i σ2 H2 hi h2 => ?_) (fun σ2 H2 h2 => ?_)
    . obtain ⟨ms, ways, o1, o2, o3, s2, hM, hW, hml, hwl, hmr, hwr, rfl⟩ := (hPv _ _ _).mp h2
      rw [Int.zero_add]
      walk_at "rd"
      refine ⟨.inr ⟨by omega, by omega⟩, ?_⟩
      have hf : 0 <= c + 1 + (i : Int) * 7 /\ c + 1 + (i : Int) * 7 <= 2000 := by omega
      generalize c + 1 + (i : Int) * 7 = fi at hf ⊢
      refine ⟨a, ns, fi, 4000000000, rfl, s2.seq hs, by omega, by omega, by omega, fun mk m0 m1 => ?_⟩
      obtain ⟨R, hR⟩ : ∃ R : St -> Hp -> Prop, ∀ σ' H', R σ' H' ↔ (∃ m : Int, 0 <= m /\ m <= 1000000000 /\ H' = upd H2 pm (.lst ((ms ++ [m]).map V.int)) /\ σ' = [some (.ref a), some (.int c), some (.int L), some (.int n), some (.ref pm), some (.ref pw), some (.int i), some (.int fi), some (.int mk)]) := ⟨_, fun _ _ => Iff.rfl⟩
      refine ⟨R, ?_, fun σ3 H3 h3 => ?_⟩
      . walk_at "rd"
        refine ⟨by decide, ite2 (fun _ => ?_) (fun _ => ?_)⟩
        . refine ⟨.inl ⟨rfl, _, SqL.of hM⟩, _, hM, by rw [List.length_map]; omega, (hR _ _).mpr ⟨0, by omega, by omega, by simp, rfl⟩⟩
        . refine ⟨.inl ⟨rfl, _, SqL.of hM⟩, ⟨by decide, by decide⟩, _, hM, by rw [List.length_map]; omega, (hR _ _).mpr ⟨1 + mk / 4, by omega, by omega, by simp, rfl⟩⟩
      obtain ⟨m, mm0, mm1, rfl, rfl⟩ := (hR _ _).mp h3
      have s3 : Same H (upd H2 pm (.lst ((ms ++ [m]).map V.int))) := s2.over hpm
      have hW3 := hW.off hM (ys := (ms ++ [m]).map V.int) hpp
      have hM3 : upd H2 pm (.lst ((ms ++ [m]).map V.int)) pm = some (.lst ((ms ++ [m]).map V.int)) := upd_same
      generalize upd H2 pm (.lst ((ms ++ [m]).map V.int)) = H3 at s3 hW3 hM3
      obtain ⟨us, hu1, _⟩ := id hW3
      walk_at "rd"
      refine ⟨.inl ⟨rfl, _, SqL.of hu1⟩, by omega, by omega, ?_⟩
      rw [Int.toNat_natCast]
      obtain ⟨Pc, hPc⟩ : ∃ Pc : Nat -> List V -> St -> Hp -> Prop, ∀ j ys σ4 H4, Pc j ys σ4 H4 ↔ (H4 = H3 /\ ∃ (row : List Int) (o : Option V), ys = row.map V.int /\ row.length = j /\ (∀ x ∈ row, 0 <= x /\ x < (n : Int)) /\ σ4 = [o, some (.ref a), some (.int n), some (.int fi)]) := ⟨_, fun _ _ _ _ => Iff.rfl⟩
      refine compR Pc ((hPc _ _ _ _).mpr ⟨rfl, [], none, rfl, rfl, (fun x hx => by cases hx), rfl⟩) (by omega) (fun j ys σ4 H4 _ h4 => ?_) (fun j ys σ4 H4 hj h4 => ?_) (fun ys σ4 H4 h4 D hD => ?_)
      . obtain ⟨_, row, o, rfl, hrl, _⟩ := (hPc _ _ _ _).mp h4
        rw [List.length_map]; omega
      . obtain ⟨rfl, row, o, rfl, hrl, hrr, rfl⟩ := (hPc _ _ _ _).mp h4
        rw [Int.zero_add]
        walk_at "rd"
        refine ⟨a, ns, fi + 1 + j, n, rfl, s3.seq hs, by omega, by omega, by omega, fun x x0 x1 => (hPc _ _ _ _).mpr ⟨rfl, row ++ [x], _, by simp, by simp [hrl], fun z hz' => ?_, rfl⟩⟩
        rcases List.mem_append.mp hz' with h | h
        . exact hrr z h
        . rw [List.mem_singleton.mp h]; exact ⟨x0, x1⟩
      obtain ⟨rfl, row, o4, rfl, hrl, hrr, rfl⟩ := (hPc _ _ _ _).mp h4
      refine ⟨D, rfl, _, .inl ⟨SqL.of upd_same, fun t ht => ?_⟩⟩
      have sDt := (Same.new hD (o := .lst (row.map V.int))).newT ht (o := .tup (row.map V.int))
      obtain ⟨xs, e1, e2, e3⟩ := (hW3.mono sDt).push (w := row) (t := t) (SqT.of upd_same)
      refine ⟨xs, e1, by omega, (hPv _ _ _).mpr ⟨ms ++ [m], ways ++ [row], _, _, _, (s3.trans sDt).over hpw0, by rw [upd_ne (Ne.symm hpp)]; exact sDt _ _ hM3, e3, by simp [hml], by simp [hwl], fun z hz' => ?_, fun r hr' => ?_, rfl⟩⟩
      . rcases List.mem_append.mp hz' with h | h
        . exact hmr z h
        . rw [List.mem_singleton.mp h]; exact ⟨mm0, mm1⟩
      . rcases List.mem_append.mp hr' with h | h
        . exact hwr r h
        . rw [List.mem_singleton.mp h]; exact ⟨hrl, hrr⟩
    . obtain ⟨ms, ways, o1, o2, o3, s2, hM, hW, hml, hwl, hmr, hwr, rfl⟩ := (hPv _ _ _).mp h2
      walk_at "rd"
      refine ⟨_, .inl ⟨SqL.of hM, fun t1 ht1 => ?_⟩⟩
      obtain ⟨ys, hy1, hrw⟩ := (hW.mono (Same.new ht1 (o := .tup (ms.map V.int)))).rows
      refine ⟨ys, .inl ⟨SqL.of hy1, fun t2 ht2 => ⟨by omega, fun hh hhh => ?_⟩⟩⟩
      exact k hh ms ways _ (((s2.newT ht1).newT ht2).newT hhh) ⟨t1, t2, SqT.of upd_same, ((Same.new ht2).newT hhh).seqT (SqT.of upd_same), (hrw t2 ht2).mono (Same.new hhh)⟩
        ⟨by omega, by omega, by omega, by omega, by omega, fun row hr' => ⟨by have := (hwr row hr').1; omega, fun x hx => by have := (hwr row hr').2 x hx; omega⟩, hmr⟩ (by omega)
def sp_wby79 (K : PySem.W.Frag) : Sp := fun vs H Q _ => ∃ (a : Addr) (ns : List Int) (p h : Nat), vs = [.ref a, .int p, .int h] /\ SqL K H a (ns.map V.int) /\ 1 <= p /\ 1 <= h /\ h <= 3 /\ p + h <= 6 /\ ∀ w xs hs H', Same H H' -> WorksH K H' w p xs hs -> hs.length = h -> WfW (p + h) hs -> (∀ r ∈ hs, r.2.1.length <= 4) -> Q (.ref w) H'
theorem ok__law_works_by {f : Addr} {fd : FuncData} (F : Fun K "_law_works_by" "_law_works_by" s__law_works_by f fd) (T : Txt mg)
    (W : Own K mg)
    (Z : Exs K mg C_AskError C_BadHouse C_BadWord)
    {f__law_house_by : Addr} {fd__law_house_by : FuncData} (g__law_house_by : FnOk P w K mg base CX0 2 f__law_house_by fd__law_house_by ["flow", "at", "letters"] (sp_hby79 K)) (F__law_house_by : Fun K "_law_house_by" "_law_house_by" s__law_house_by f__law_house_by fd__law_house_by) (b__law_house_by : Binds K fd__law_house_by ["flow", "at", "letters"] []) (m__law_house_by : mg "_law_house_by" = some (.ref f__law_house_by))
    : FnOk P w K mg base CX0 3 f fd ["flow", "plain", "helpers"] (sp_wby79 K) := by
  refine F.ok sc__law_works_by (fun vs H Q E h => ?_) (fun cdv A outer s H vs Q E hr h => ?_)
  . obtain ⟨a, ns, p, h, rfl, _⟩ := h; rfl
  . obtain ⟨a, ns, p, h, rfl, hs, hp1, hh1, hh3, hph, k⟩ := h
    have hl := line1000
    refine ⟨_, (pss_one (ps_ret (pe_tup (pa_cons (pv 1) (pa_cons (pe_callTy call_tuple_of rfl T.tuple PyProof.Rows.boot_tuple (pa_cons (pe_comp rfl (blk_mk rfl) (cp := c__law_works_by_0) ⟨⟨rfl, rfl⟩, ⟨⟨rfl, rfl⟩, ⟨⟨rfl, rfl⟩, True.intro⟩⟩⟩ (pi_range1 rfl T.range (pa_cons (pv 2) pa_nil)) (fun _ _ _ _ => (pg_name (i := 0) nd_c__law_works_by_0 rfl (Or.inl rfl))) (fun _ _ _ _ => pf_nil) (fun _ _ _ _ => (pe_call g__law_house_by (hr.mono (by decide)) rfl m__law_house_by F__law_house_by.kp b__law_house_by .nil pass0 (pa_cons (pv 1) (pa_cons (pe_op op_mul pe_int (pv 0)) (pa_cons (pe_op op_add (pv 2) (pv 3)) pa_nil)))))) pa_nil)) pa_nil))))), ?_⟩
    walk_at "rd"
    refine ⟨by omega, by omega, ?_⟩
    rw [Int.toNat_natCast]
    obtain ⟨Pc, hPc⟩ : ∃ Pc : Nat -> List V -> St -> Hp -> Prop, ∀ j ys σ4 H4, Pc j ys σ4 H4 ↔ (∃ (hs : List Hus) (o : Option V), Same H H4 /\ HsL K H4 ys hs /\ hs.length = j /\ WfW (p + h) hs /\ (∀ r ∈ hs, r.2.1.length <= 4) /\ σ4 = [o, some (.ref a), some (.int p), some (.int h)]) := ⟨_, fun _ _ _ _ => Iff.rfl⟩
    refine compR Pc ((hPc _ _ _ _).mpr ⟨[], none, Same.refl _, HsL.nil, rfl, fun r hr' => (by cases hr'), fun r hr' => (by cases hr'), rfl⟩) (by omega) (fun j ys σ4 H4 _ h4 => ?_) (fun j ys σ4 H4 hj h4 => ?_) (fun ys σ4 H4 h4 D hD => ?_)
    . obtain ⟨hs', o, _, hH, hlen, _⟩ := (hPc _ _ _ _).mp h4
      rw [hH.1]; omega
    . obtain ⟨hs', o, s4, hH, hlen, hwf, h4', rfl⟩ := (hPc _ _ _ _).mp h4
      rw [Int.zero_add]
      walk_at "rd"
      refine ⟨.inl ⟨by omega, by omega⟩, a, ns, 29 * j, p + h, by simp, s4.seq hs, by omega, by omega, by omega, by omega, fun hh marks ways H5 s5 hhh wf hm4 => (hPc _ _ _ _).mpr ⟨hs' ++ [(((p + h : Nat) : Int), marks, ways)], _, s4.trans s5, (hH.mono s5).snoc hhh, by simp [hlen], fun r hr' => ?_, fun r hr' => ?_, rfl⟩⟩
      . rcases List.mem_append.mp hr' with h | h
        . exact hwf r h
        . rw [List.mem_singleton.mp h]; exact ⟨by simp, by simpa using wf⟩
      . rcases List.mem_append.mp hr' with h | h
        . exact h4' r h
        . rw [List.mem_singleton.mp h]; exact hm4
    . obtain ⟨hs', o, s4, hH, hlen, hwf, h4', rfl⟩ := (hPc _ _ _ _).mp h4
      refine ⟨D, rfl, _, .inl ⟨SqL.of upd_same, fun t ht => ⟨by omega, fun w' hw' => ?_⟩⟩⟩
      have s5 := ((Same.new hD (o := .lst ys)).newT ht (o := .tup ys)).newT hw' (o := .tup [.int p, .ref t])
      exact k w' ys hs' _ (s4.trans s5) ⟨t, SqT.of upd_same, (Same.new hw').seqT (SqT.of upd_same), hH.mono s5⟩ hlen hwf h4'
def sp_ans79 (K : PySem.W.Frag) : Sp := fun vs H Q _ => ∃ (h a : Addr) (L : Int) (marks : List Int) (ways : List (List Int)) (ws : List Int), vs = [.ref h, .ref a] /\ House K H h L marks ways /\ Wf L marks ways /\ H a = some (.lst (ws.map V.int)) /\ isW L ws = true /\ Q (.int (markW marks (walkW ways ws))) H
theorem ok__law_answer {f : Addr} {fd : FuncData} (F : Fun K "_law_answer" "_law_answer" s__law_answer f fd) (T : Txt mg)
    (W : Own K mg)
    (Z : Exs K mg C_AskError C_BadHouse C_BadWord)
    : FnOk P w K mg base CX0 1 f fd ["house", "word"] (sp_ans79 K) := by
  refine F.ok sc__law_answer (fun vs H Q E h => ?_) (fun cdv A outer s H vs Q E hr h => ?_)
  . obtain ⟨h, a, L, marks, ways, ws, rfl, _⟩ := h; rfl
  . obtain ⟨h, a, L, marks, ways, ws, rfl, hh, wf, ha, hv, k⟩ := h
    have hn1 := wf.n1
    refine ⟨_, (pss_cons (ps_set (i := 2) sc__law_answer.nd rfl (Or.inl rfl) pe_int)
      (pss_cons (ps_for PassesOwn.never rfl (pi_list (pv 1)) (pg_name (i := 3) sc__law_answer.nd rfl (Or.inl rfl))
      (pss_one (ps_set (i := 2) sc__law_answer.nd rfl (Or.inl rfl) (pe_ix ix_tup (pe_ix ix_tup (pe_ix ix_tup (pv 0) pe_int (fun _ _ => rfl)) (pv 2) (fun _ _ => rfl)) (pv 3) (fun _ _ => rfl)))))
      (pss_one (ps_ret (pe_ix ix_tup (pe_ix ix_tup (pv 0) pe_int (fun _ _ => rfl)) (pv 2) (fun _ _ => rfl)))))), ?_⟩
    walk_at "rd"
    refine ⟨⟨_, SqL.of ha⟩, forL (xs := ws.map V.int) (fun i σ2 H2 => H2 = H /\ ∃ o, σ2 = [some (.ref h), some (.ref a), some (.int (walkR ways 0 (ws.take i))), o]) ⟨rfl, none, by simp [walkR]⟩ (fun i σ2 H2 _ h => by rw [h.1]; exact SqL.of ha) (fun i x σ2 H2 hx h => ?_) (fun σ2 H2 h => ?_)⟩
    . obtain ⟨rfl, o, rfl⟩ := h
      obtain ⟨n, hn, rfl⟩ := get_mapI hx
      have hin := isW_iff.mp hv n (List.mem_of_getElem? hn)
      have hwk := walkR_in wf (ws.take i) (isW_take hv i) (show (0 : Int) <= 0 by omega) (by omega)
      obtain ⟨row, g, r1, r2, r3, r4, r5⟩ := wf.step hwk.1 hwk.2 hin.1 hin.2
      obtain ⟨m, wv, q1, q2, q3⟩ := id hh
      obtain ⟨xs, t, z1, z2, z3⟩ := q3.atZ hwk.1 r1
      walk_at "rd"
      refine ⟨_, q1, _, rfl, ?_⟩
      walk_at "rd"
      refine ⟨_, z1, _, z2, ?_⟩
      walk_at "rd"
      refine ⟨_, z3, _, atI_int hin.1 r2, ?_⟩
      rw [walkR_take hn, r3]
      exact ⟨rfl, _, rfl⟩
    . obtain ⟨rfl, o, rfl⟩ := h
      rw [List.length_map, List.take_length]
      obtain ⟨m, wv, q1, q2, q3⟩ := id hh
      have wk := walkR_in wf ws hv (show (0 : Int) <= 0 by omega) (by omega)
      walk_at "rd"
      exact ⟨_, q1, _, rfl, m, rfl, _, q2, _, markW_at wk.1 wk.2, k⟩
def sp_acc79 (K : PySem.W.Frag) : Sp := fun vs H Q _ => ∃ (h a : Addr) (p : Int) (xs : List V) (hs : List Hus) (ws : List Int), vs = [.ref h, .ref a, .int 0] /\ WorksH K H h p xs hs /\ WfW (p + hs.length) hs /\ 1 <= hs.length /\ SqL K H a (ws.map V.int) /\ ws.length <= 200 /\ nestR p (p + hs.length) ws 0 = true /\ ∀ H', Q (.bl ((partsW p (p + hs.length) ws).all (okT hs))) H'
theorem ok__law_accepted {f : Addr} {fd : FuncData} (F : Fun K "_law_accepted" "_law_accepted" s__law_accepted f fd) (T : Txt mg)
    (W : Own K mg)
    (Z : Exs K mg C_AskError C_BadHouse C_BadWord)
    {f__law_parts : Addr} {fd__law_parts : FuncData} (g__law_parts : FnOk P w K mg base CX0 1 f__law_parts fd__law_parts ["plain", "helpers", "signs", "top"] (sp_lparts K)) (F__law_parts : Fun K "_law_parts" "_law_parts" s__law_parts f__law_parts fd__law_parts) (b__law_parts : Binds K fd__law_parts ["plain", "helpers", "signs", "top"] []) (m__law_parts : mg "_law_parts" = some (.ref f__law_parts))
    {f__law_answer : Addr} {fd__law_answer : FuncData} (g__law_answer : FnOk P w K mg base CX0 1 f__law_answer fd__law_answer ["house", "word"] (sp_ans79 K)) (F__law_answer : Fun K "_law_answer" "_law_answer" s__law_answer f__law_answer fd__law_answer) (b__law_answer : Binds K fd__law_answer ["house", "word"] []) (m__law_answer : mg "_law_answer" = some (.ref f__law_answer))
    : FnOk P w K mg base CX0 2 f fd ["works", "signs", "top"] (sp_acc79 K) := by
  refine F.ok sc__law_accepted (fun vs H Q E h => ?_) (fun cdv A outer s H vs Q E hr h => ?_)
  . obtain ⟨h, a, p, xs, hs, ws, rfl, _⟩ := h; rfl
  . obtain ⟨h, a, p, xs, hs, ws, rfl, hW, wf, hs1, ha, hz, hv, k⟩ := h
    have hln := line1000
    refine ⟨_, (pss_cons (ps_for PassesOwn.never rfl (pi_list (pe_call g__law_parts (hr.mono (by decide)) rfl m__law_parts F__law_parts.kp b__law_parts .nil pass0 (pa_cons (pe_ix ix_tup (pv 0) pe_int (fun _ _ => rfl)) (pa_cons (pe_callB call_len_seq (by rfl) T.len PySem.boot_len (pa_cons (pe_ix ix_tup (pv 0) pe_int (fun _ _ => rfl)) pa_nil)) (pa_cons (pv 1) (pa_cons (pv 2) pa_nil)))))) (pg_tup rfl (pgs_cons (pg_name (i := 3) sc__law_accepted.nd rfl (Or.inl rfl)) (pgs_cons (pg_name (i := 4) sc__law_accepted.nd rfl (Or.inl rfl)) pgs_nil)))
      (pss_one (ps_if (pt_cmpR op_eq (pe_call g__law_answer (hr.mono (by decide)) rfl m__law_answer F__law_answer.kp b__law_answer .nil pass0 (pa_cons (pe_ix ix_tup (pe_ix ix_tup (pv 0) pe_int (fun _ _ => rfl)) (pv 3) (fun _ _ => rfl)) (pa_cons (pv 4) pa_nil))) pe_int (nomark _))
      (pss_one (ps_ret pe_bl))
      pss_nil)))
      (pss_one (ps_ret pe_bl))), ?_⟩
    obtain ⟨y, h1, h2, h3⟩ := id hW
    walk_at "rd"
    refine ⟨_, h1, _, rfl, _, h1, _, rfl, y, rfl, _, .inr h2, p, hs.length, 0, a, ws, by rw [h3.1], ha, by omega, hv, fun l ts H1 s1 hl hP hlen => ?_⟩
    have hpd := (Nest.parts_due hv)
    have hps : (prtS p (p + hs.length) ws).1 ++ [(0, outW p (p + hs.length) ws)] = partsW p (p + hs.length) ws := by rw [<- hpd.2]; rfl
    rw [hps] at hP
    have hok := Nest.partsW_ok (p := p) (h := hs.length) (by omega) hv
    generalize partsW p (p + hs.length) ws = ps at hP hok k
    refine ⟨l, rfl, ⟨_, SqL.of hl⟩, ?_⟩
    obtain ⟨Pv, hPv⟩ : ∃ Pv : Nat -> St -> Hp -> Prop, ∀ i σ' H', Pv i σ' H' ↔ (H' = H1 /\ (ps.take i).all (okT hs) = true /\ ∃ o1 o2, σ' = [some (.ref h), some (.ref a), some (.int 0), o1, o2]) := ⟨_, fun _ _ _ => Iff.rfl⟩
    refine forL (xs := ts) Pv ((hPv _ _ _).mpr ⟨rfl, by simp, none, none, rfl⟩) (fun i σ' H' _ h' => by rw [((hPv _ _ _).mp h').1]; exact SqL.of hl) (fun i x σ' H' hx h' => ?_) (fun σ' H' h' => ?_)
    . obtain ⟨rfl, hall, o1, o2, rfl⟩ := (hPv _ _ _).mp h'
      have hi : i < ps.length := by rw [<- hP.1]; exact (List.getElem?_eq_some_iff.mp hx).1
      have hri : ps[i]? = some ps[i] := by simp [hi]
      obtain ⟨t, tw, e1, e2, e3⟩ := hP.2 i _ hri
      rw [hx] at e1
      cases e1
      obtain ⟨j0, j1, hwl, hwx⟩ := hok _ (List.mem_of_getElem? hri)
      obtain ⟨y', h1', h2', h3'⟩ := hW.mono s1
      obtain ⟨g, f1, f2, f3⟩ := h3'.get wf j0 j1
      walk_at "rd"
      refine ⟨_, SqT.of e2, rfl, _, _, rfl, _, _, rfl, rfl, _, h1', _, rfl, y', rfl, _, _, rfl, h2', _, f1, g, tw, _, _, _, ps[i].2, rfl, f2, f3, e3, isW_iff.mpr hwx, rfl, ?_⟩
      refine ite2 (fun hm => ?_) (fun hm => ?_)
      . replace hm : ansH hs ps[i] = 0 := V.int.inj hm
        have hf : ps.all (okT hs) = false := List.all_eq_false.mpr ⟨ps[i], List.mem_of_getElem? hri, by simp [okT, hm]⟩
        rw [hf] at k
        exact k _
      . replace hm : ansH hs ps[i] ≠ 0 := fun z => hm (congrArg V.int z)
        refine (hPv _ _ _).mpr ⟨rfl, ?_, _, _, rfl⟩
        rw [List.take_add_one, hri, List.all_append, hall]
        simp [okT, hm]
    . obtain ⟨rfl, hall, o1, o2, rfl⟩ := (hPv _ _ _).mp h'
      rw [hP.1, List.take_length] at hall
      walk_at "rd"
      rw [hall] at k
      exact k _
theorem flat_repV (d : Nat) (v : V) : (List.replicate d [v]).flatten = List.replicate d v := by
  induction d with
  | zero => rfl
  | succ d ih => rw [List.replicate_succ, List.flatten_cons, ih, List.replicate_succ]; rfl
theorem Rows.rep {K : PySem.W.Frag} {H : Hp} {w' t : Addr} {r : List Int} {n : Nat} (hw : SqT K H w' (List.replicate n (.ref t))) (h : SqT K H t (r.map V.int)) : Rows K H w' (List.replicate n r) := by
  refine ⟨List.replicate n t, by rw [List.map_replicate]; exact hw, by simp, fun i u row h1 h2 => ?_⟩
  rw [List.getElem?_replicate] at h1 h2
  split at h1
  . rename_i hi
    rw [if_pos hi] at h2
    cases h1; cases h2
    exact h
  . cases h1
def sp_other79 (K : PySem.W.Frag) : Sp := fun vs H Q _ => ∃ (L n : Nat), vs = [.int L, .int n] /\ L <= 10 /\ 1 <= n /\ n <= 40 /\ ∀ h ws H', Same H H' -> House K H' h L (List.replicate n 1) ws -> Q (.ref h) H'
theorem ok__law_other_house {f : Addr} {fd : FuncData} (F : Fun K "_law_other_house" "_law_other_house" s__law_other_house f fd) (T : Txt mg)
    (W : Own K mg)
    (Z : Exs K mg C_AskError C_BadHouse C_BadWord)
    : FnOk P w K mg base CX0 1 f fd ["letters", "rooms"] (sp_other79 K) := by
  refine F.ok sc__law_other_house (fun vs H Q E h => ?_) (fun cdv A outer s H vs Q E hr h => ?_)
  . obtain ⟨L, n, rfl, _⟩ := h; rfl
  . obtain ⟨L, n, rfl, hL, hn1, hn, k⟩ := h
    have hl := line1000
    refine ⟨_, (pss_cons (ps_set (i := 2) sc__law_other_house.nd rfl (Or.inl rfl) (pe_callTy call_tuple_of rfl T.tuple PyProof.Rows.boot_tuple (pa_cons (pe_op op_rep (pe_lst (pa_cons (pe_op op_sub (pv 1) pe_int) pa_nil)) (pv 0)) pa_nil)))
      (pss_one (ps_ret (pe_tup (pa_cons (pv 0) (pa_cons (pe_callTy call_tuple_of rfl T.tuple PyProof.Rows.boot_tuple (pa_cons (pe_op op_rep (pe_lst (pa_cons pe_int pa_nil)) (pv 1)) pa_nil)) (pa_cons (pe_callTy call_tuple_of rfl T.tuple PyProof.Rows.boot_tuple (pa_cons (pe_op op_rep (pe_lst (pa_cons (pv 2) pa_nil)) (pv 1)) pa_nil)) pa_nil))))))), ?_⟩
    walk_at "rd"
    refine ⟨by omega, fun p1 hp1 => ⟨_, upd_same, by omega, by omega, by simp; omega, fun p2 hp2 => ⟨_, .inl ⟨SqL.of upd_same, fun t ht => ?_⟩⟩⟩⟩
    rw [Int.toNat_natCast, flat_rep] at ht ⊢
    have s1 := ((Same.new hp1 (o := .lst [V.int ((n : Int) - 1)])).newT hp2 (o := .lst ((List.replicate L ((n : Int) - 1)).map V.int))).newT ht (o := .tup ((List.replicate L ((n : Int) - 1)).map V.int))
    have ht1 : SqT K (upd (upd (upd H p1 (.lst [V.int ((n : Int) - 1)])) p2 (.lst ((List.replicate L ((n : Int) - 1)).map V.int))) t (.tup ((List.replicate L ((n : Int) - 1)).map V.int))) t ((List.replicate L ((n : Int) - 1)).map V.int) := SqT.of upd_same
    generalize upd (upd (upd H p1 (.lst [V.int ((n : Int) - 1)])) p2 (.lst ((List.replicate L ((n : Int) - 1)).map V.int))) t (.tup ((List.replicate L ((n : Int) - 1)).map V.int)) = H1 at s1 ht1 ⊢
    refine ⟨by omega, fun p3 hp3 => ⟨_, upd_same, by omega, by omega, by simp; omega, fun p4 hp4 => ⟨_, .inl ⟨SqL.of upd_same, fun t2 ht2 => ?_⟩⟩⟩⟩
    rw [Int.toNat_natCast, flat_rep] at ht2 ⊢
    have s2 := ((Same.new hp3 (o := .lst [V.int 1])).newT hp4 (o := .lst ((List.replicate n 1).map V.int))).newT ht2 (o := .tup ((List.replicate n 1).map V.int))
    have ht2' : SqT K (upd (upd (upd H1 p3 (.lst [V.int 1])) p4 (.lst ((List.replicate n 1).map V.int))) t2 (.tup ((List.replicate n 1).map V.int))) t2 ((List.replicate n 1).map V.int) := SqT.of upd_same
    generalize upd (upd (upd H1 p3 (.lst [V.int 1])) p4 (.lst ((List.replicate n 1).map V.int))) t2 (.tup ((List.replicate n 1).map V.int)) = H2 at s2 ht2' ⊢
    refine ⟨by omega, fun p5 hp5 => ⟨_, upd_same, by omega, by omega, by simp; omega, fun p6 hp6 => ⟨_, .inl ⟨SqL.of upd_same, fun t3 ht3 => ⟨by omega, fun hh hhh => ?_⟩⟩⟩⟩⟩
    simp only [Int.toNat_natCast, flat_repV] at ht3 hhh ⊢
    have s3 := ((Same.new hp5 (o := .lst [V.ref t])).newT hp6 (o := .lst (List.replicate n (V.ref t)))).newT ht3 (o := .tup (List.replicate n (V.ref t)))
    have sh := Same.new hhh (o := .tup [V.int L, V.ref t2, V.ref t3])
    exact k hh _ _ (((s1.trans s2).trans s3).trans sh) ⟨t2, t3, SqT.of upd_same, (s3.trans sh).seqT ht2', Rows.rep (sh.seqT (SqT.of upd_same)) (((s2.trans s3).trans sh).seqT ht1)⟩
theorem okW_no {p : Int} {hs : List Hus} (h : ¬ (1 <= p /\ p <= 4 /\ 1 <= hs.length /\ hs.length <= 3 /\ ∀ r ∈ hs, r.1 = p + hs.length /\ r.2.1.length <= 4)) : okW p hs = false := by
  cases e : okW p hs with
  | false => rfl
  | true =>
    unfold okW okP at e
    simp only [Bool.and_eq_true, decide_eq_true_eq, List.all_eq_true] at e
    exact absurd ⟨e.1.1, e.1.2, e.2.1.1, e.2.1.2, e.2.2⟩ h
def BadW (K : PySem.W.Frag) (H : Hp) (q : Addr) : Prop := ∃ (n : Int) (l : Addr) (xs : List V) (hs : List Hus), H q = some (.tup [.int n, .ref l]) /\ H l = some (.lst xs) /\ HsL K H xs hs /\ hs.length <= 20 /\ okW n hs = false
def sp_spoil79 (K : PySem.W.Frag) : Sp := fun vs H Q _ => ∃ (p h : Nat) (y : Addr) (c : Int) (xs : List V) (hs : List Hus), vs = [.int p, .int h, .ref y, .int c] /\ SqT K H y xs /\ HsL K H xs hs /\ hs.length = h /\ 1 <= p /\ 1 <= h /\ h <= 3 /\ p + h <= 6 /\ (∀ r ∈ hs, 1 <= r.2.1.length /\ r.2.1.length <= 4) /\ ∀ q H', Same H H' -> BadW K H' q -> Q (.ref q) H'
theorem ok__law_spoiled {f : Addr} {fd : FuncData} (F : Fun K "_law_spoiled" "_law_spoiled" s__law_spoiled f fd) (T : Txt mg)
    (W : Own K mg)
    (Z : Exs K mg C_AskError C_BadHouse C_BadWord)
    {f__law_other_house : Addr} {fd__law_other_house : FuncData} (g__law_other_house : FnOk P w K mg base CX0 1 f__law_other_house fd__law_other_house ["letters", "rooms"] (sp_other79 K)) (F__law_other_house : Fun K "_law_other_house" "_law_other_house" s__law_other_house f__law_other_house fd__law_other_house) (b__law_other_house : Binds K fd__law_other_house ["letters", "rooms"] []) (m__law_other_house : mg "_law_other_house" = some (.ref f__law_other_house))
    : FnOk P w K mg base CX0 2 f fd ["plain", "helpers", "houses", "cell"] (sp_spoil79 K) := by
  refine F.ok sc__law_spoiled (fun vs H Q E h => ?_) (fun cdv A outer s H vs Q E hr h => ?_)
  . obtain ⟨p, h, y, c, xs, hs, rfl, _⟩ := h; rfl
  . obtain ⟨p, h, y, c, xs, hs, rfl, hy, hH, hlen, hp1, hh1, hh3, hph, hms, k⟩ := h
    have hl := line1000
    refine ⟨_, (pss_cons (ps_set (i := 4) sc__law_spoiled.nd rfl (Or.inl rfl) (pe_op op_add (pv 0) (pv 1)))
      (pss_cons (ps_set (i := 5) sc__law_spoiled.nd rfl (Or.inl rfl) (pe_op op_mod (pe_op op_fdiv (pv 3) pe_int) (pv 1)))
      (pss_cons (ps_set (i := 6) sc__law_spoiled.nd rfl (Or.inl rfl) (pe_op op_mod (pv 3) pe_int))
      (pss_cons (ps_if (pt_cmpR op_eq (pv 6) pe_int (nomark _))
      (pss_one (ps_ret (pe_tup (pa_cons (pe_op op_sub pe_int (pe_op op_mod (pe_op op_fdiv (pv 3) pe_int) (pe_op op_pow pe_int pe_int))) (pa_cons (pe_op op_rep (pe_lst (pa_cons (pe_call g__law_other_house (hr.mono (by decide)) rfl m__law_other_house F__law_other_house.kp b__law_other_house .nil pass0 (pa_cons (pv 1) (pa_cons pe_int pa_nil))) pa_nil)) (pv 1)) pa_nil)))))
      pss_nil)
      (pss_cons (ps_if (pt_cmpR op_eq (pv 6) pe_int (nomark _))
      (pss_one (ps_ret (pe_tup (pa_cons (pe_op op_add pe_int (pe_op op_mod (pe_op op_fdiv (pv 3) pe_int) (pe_op op_pow pe_int pe_int))) (pa_cons (pe_lst (pa_cons (pe_call g__law_other_house (hr.mono (by decide)) rfl m__law_other_house F__law_other_house.kp b__law_other_house .nil pass0 (pa_cons pe_int (pa_cons pe_int pa_nil))) pa_nil)) pa_nil)))))
      pss_nil)
      (pss_cons (ps_if (pt_cmpR op_eq (pv 6) pe_int (nomark _))
      (pss_one (ps_ret (pe_tup (pa_cons (pv 0) (pa_cons (pe_lst pa_nil) pa_nil)))))
      pss_nil)
      (pss_cons (ps_if (pt_cmpR op_eq (pv 6) pe_int (nomark _))
      (pss_one (ps_ret (pe_tup (pa_cons (pe_op op_add pe_int (pe_op op_mod (pe_op op_fdiv (pv 3) pe_int) pe_int)) (pa_cons (pe_op op_rep (pe_lst (pa_cons (pe_call g__law_other_house (hr.mono (by decide)) rfl m__law_other_house F__law_other_house.kp b__law_other_house .nil pass0 (pa_cons (pe_op op_add pe_int (pe_op op_mod (pe_op op_fdiv (pv 3) pe_int) pe_int)) (pa_cons pe_int pa_nil))) pa_nil)) (pe_op op_add pe_int (pe_op op_mod (pe_op op_fdiv (pv 3) pe_int) pe_int))) pa_nil)))))
      pss_nil)
      (pss_cons (ps_set (i := 7) sc__law_spoiled.nd rfl (Or.inl rfl) (pe_callTy call_list_of rfl T.list PyProof.Rows.boot_list (pa_cons (pv 2) pa_nil)))
      (pss_cut (ps_if (pt_cmpR op_eq (pv 6) pe_int (nomark _))
      (pss_cons (ps_set (i := 8) sc__law_spoiled.nd rfl (Or.inl rfl) (pe_op op_sub (pv 4) pe_int))
      (pss_cut (ps_if (PW.pt (pw_and (pt_cmpR op_eq (pe_op op_mod (pe_op op_fdiv (pv 3) pe_int) pe_int) pe_int (nomark _)) (pw_and1 (pt_cmpR op_lt (pv 4) pe_int (nomark _)))))
      (pss_one (ps_set (i := 8) sc__law_spoiled.nd rfl (Or.inl rfl) (pe_op op_add (pv 4) pe_int)))
      pss_nil)
      (pss_one (ps_asg (pe_call g__law_other_house (hr.mono (by decide)) rfl m__law_other_house F__law_other_house.kp b__law_other_house .nil pass0 (pa_cons (pv 8) (pa_cons (pe_callB call_len_seq (by rfl) T.len PySem.boot_len (pa_cons (pe_ix ix_tup (pe_ix ix_list (pv 7) (pv 5) (fun _ _ => rfl)) pe_int (fun _ _ => rfl)) pa_nil)) pa_nil))) (pg_sub (pv 7) (pv 5) set_list)))))
      (pss_one (ps_asg (pe_call g__law_other_house (hr.mono (by decide)) rfl m__law_other_house F__law_other_house.kp b__law_other_house .nil pass0 (pa_cons (pv 4) (pa_cons pe_int pa_nil))) (pg_sub (pv 7) (pv 5) set_list))))
      (pss_one (ps_ret (pe_tup (pa_cons (pv 0) (pa_cons (pv 7) pa_nil)))))))))))))), ?_⟩
    walk_at "rd"
    have e30 := Int.emod_nonneg (c / 7) (show (10 : Int) ^ Int.toNat 30 ≠ 0 by decide)
    have c30 : CPow 10 30 := ⟨by omega, by omega, by decide⟩
    refine ⟨⟨by decide, by decide⟩, by omega, by decide, ?_⟩
    refine ite2 (fun k0 => ?_) (fun k0 => ite2 (fun k1 => ?_) (fun k1 => ite2 (fun k2 => ?_) (fun k2 => ite2 (fun k3 => ?_) (fun k3 => ?_))))
    . generalize c / 7 % 10 ^ Int.toNat 30 = far at e30 ⊢
      refine ⟨⟨by decide, by decide⟩, c30, by decide, h, 2, rfl, by omega, by omega, by omega, fun oh ws' H1 s1 hh' => ⟨by omega, fun p1 hp1 => ⟨_, upd_same, by omega, by omega, by simp; omega, fun p2 hp2 => ⟨by omega, fun q hq => ?_⟩⟩⟩⟩
      simp only [Int.toNat_natCast, flat_repV] at hq ⊢
      have s2 := ((Same.new hp1 (o := .lst [V.ref oh])).newT hp2 (o := .lst (List.replicate h (V.ref oh)))).newT hq (o := .tup [V.int (0 - far), V.ref p2])
      exact k q _ (s1.trans s2) ⟨_, p2, _, _, upd_same, Same.new hq _ _ upd_same, HsL.rep (House.mono hh' s2) h, by simp; omega, okW_no fun z => by have := z.1; omega⟩
    . generalize c / 7 % 10 ^ Int.toNat 30 = far at e30 ⊢
      refine ⟨⟨by decide, by decide⟩, c30, by decide, 6, 2, rfl, by omega, by omega, by omega, fun oh ws' H1 s1 hh' => ⟨by omega, fun p1 hp1 => ⟨by omega, fun q hq => ?_⟩⟩⟩
      have s2 := (Same.new hp1 (o := .lst [V.ref oh])).newT hq (o := .tup [V.int (5 + far), V.ref p1])
      exact k q _ (s1.trans s2) ⟨_, p1, _, _, upd_same, Same.new hq _ _ upd_same, HsL.rep (House.mono hh' s2) 1, by simp, okW_no fun z => by have := z.2.1; omega⟩
    . exact ⟨by omega, fun p1 hp1 => ⟨by omega, fun q hq => k q _ ((Same.new hp1).newT hq) ⟨p, p1, [], [], upd_same, Same.new hq _ _ upd_same, HsL.nil, by simp, okW_no fun z => by have := z.2.2.1; simp at this⟩⟩⟩
    . have f0 := Int.emod_nonneg (c / 7) (show (2 : Int) ≠ 0 by decide)
      have f1 := Int.emod_lt_of_pos (c / 7) (show (0 : Int) < 2 by decide)
      have g0 := Int.emod_nonneg (c / 31) (show (6 : Int) ≠ 0 by decide)
      have g1 := Int.emod_lt_of_pos (c / 31) (show (0 : Int) < 6 by decide)
      obtain ⟨m, hm⟩ : ∃ m : Nat, 5 + c / 7 % 2 = m := ⟨(5 + c / 7 % 2).toNat, by omega⟩
      obtain ⟨r, hr1⟩ : ∃ m : Nat, 4 + c / 31 % 6 = m := ⟨(4 + c / 31 % 6).toNat, by omega⟩
      rw [hm, hr1]
      refine ⟨⟨by decide, by decide⟩, by decide, ⟨by decide, by decide⟩, by decide, m, 2, rfl, by omega, by omega, by omega, fun oh ws' H1 s1 hh' => ⟨by omega, fun p1 hp1 => ⟨⟨by decide, by decide⟩, by decide, _, upd_same, by omega, by omega, by simp; omega, fun p2 hp2 => ⟨by omega, fun q hq => ?_⟩⟩⟩⟩
      simp only [Int.toNat_natCast, flat_repV] at hq ⊢
      have s2 := ((Same.new hp1 (o := .lst [V.ref oh])).newT hp2 (o := .lst (List.replicate r (V.ref oh)))).newT hq (o := .tup [V.int (1 + c / 7 % 2), V.ref p2])
      exact k q _ (s1.trans s2) ⟨_, p2, _, _, upd_same, Same.new hq _ _ upd_same, HsL.rep (House.mono hh' s2) r, by simp; omega, okW_no fun z => by have := z.2.2.2.1; rw [List.length_replicate] at this; omega⟩
    . refine ⟨_, .inr hy, fun l hl' => ?_⟩
      have s1 := Same.new hl' (o := .lst xs)
      have hl1 : upd H l (.lst xs) l = some (.lst xs) := upd_same
      have hH1 := hH.mono s1
      generalize upd H l (.lst xs) = H1 at s1 hl1 hH1 ⊢
      have f0 := Int.emod_nonneg (c / 7) (show (h : Int) ≠ 0 by omega)
      have f1 := Int.emod_lt_of_pos (c / 7) (show (0 : Int) < h by omega)
      obtain ⟨sp, hsp⟩ : ∃ m : Nat, c / 7 % (h : Int) = m := ⟨(c / 7 % (h : Int)).toNat, by omega⟩
      rw [hsp]
      have hspl : sp < hs.length := by omega
      have hsr : hs[sp]? = some hs[sp] := by simp [hspl]
      obtain ⟨g, hg1, hg2⟩ := hH1.2 sp _ hsr
      have hms' := hms _ (List.mem_of_getElem? hsr)
      generalize hs[sp] = rr at hg2 hms'
      have hxl : xs.length = hs.length := hH.1
      obtain ⟨gm, gw, q1, q2, q3⟩ := id hg2
      have fin : ∀ (L n : Nat) (oh : Addr) (ws' : List (List Int)) (H3 : Hp), Same H1 H3 -> House K H3 oh L (List.replicate n 1) ws' -> ((L : Int) ≠ p + h \/ 4 < n) -> H3 l = some (.lst xs) /\ ixN xs.length (sp : Int) = some sp /\ Same H (upd H3 l (.lst (xs.set sp (V.ref oh)))) /\ ∃ hs', HsL K (upd H3 l (.lst (xs.set sp (V.ref oh)))) (xs.set sp (V.ref oh)) hs' /\ hs'.length <= 20 /\ okW p hs' = false := fun L n oh ws' H3 s3 ho hb => by
        refine ⟨s3 _ _ hl1, by rw [ixN_of (by omega) (by omega)]; simp, (s1.trans s3).over hl', hs.set sp (L, List.replicate n 1, ws'), ((hH1.mono s3).off (s3 _ _ hl1)).set (House.off ho (s3 _ _ hl1)) sp, by rw [List.length_set]; omega, okW_no fun z => ?_⟩
        have hz := z.2.2.2.2 (L, List.replicate n 1, ws') (List.mem_iff_getElem?.mpr ⟨sp, by rw [List.getElem?_set_self hspl]⟩)
        rw [List.length_set, List.length_replicate] at hz
        rcases hb with hb | hb
        . exact hb (by have := hz.1; rw [hlen] at this; exact this)
        . have := hz.2; omega
      obtain ⟨R, hR⟩ : ∃ R : St -> Hp -> Prop, ∀ σ' H', R σ' H' ↔ (∃ (xs' : List V) (hs' : List Hus) (o : Option V), Same H H' /\ H' l = some (.lst xs') /\ HsL K H' xs' hs' /\ hs'.length <= 20 /\ okW p hs' = false /\ σ' = [some (.int p), some (.int h), some (.ref y), some (.int c), some (.int ((p : Int) + h)), some (.int sp), some (.int (c % 6)), some (.ref l), o]) := ⟨_, fun _ _ => Iff.rfl⟩
      refine ⟨R, ?_, fun σ4 H4 h4 => ?_⟩
      . walk_at "rd"
        refine ite2 (fun k4 => ?_) (fun k4 => ?_)
        . obtain ⟨R2, hR2⟩ : ∃ R : St -> Hp -> Prop, ∀ σ' H', R σ' H' ↔ (∃ sz : Nat, (sz : Int) ≠ p + h /\ sz <= 10 /\ H' = H1 /\ σ' = [some (.int p), some (.int h), some (.ref y), some (.int c), some (.int ((p : Int) + h)), some (.int sp), some (.int (c % 6)), some (.ref l), some (.int sz)]) := ⟨_, fun _ _ => Iff.rfl⟩
          refine ⟨R2, ?_, fun σ2 H2 h2 => ?_⟩
          . have a1 : R2 [some (.int p), some (.int h), some (.ref y), some (.int c), some (.int ((p : Int) + h)), some (.int sp), some (.int (c % 6)), some (.ref l), some (.int ((p : Int) + h - 1))] H1 := (hR2 _ _).mpr ⟨p + h - 1, by omega, by omega, rfl, by rw [show ((p + h - 1 : Nat) : Int) = (p : Int) + h - 1 by omega]⟩
            have a2 : R2 [some (.int p), some (.int h), some (.ref y), some (.int c), some (.int ((p : Int) + h)), some (.int sp), some (.int (c % 6)), some (.ref l), some (.int ((p : Int) + h + 1))] H1 := (hR2 _ _).mpr ⟨p + h + 1, by omega, by omega, rfl, by rw [show ((p + h + 1 : Nat) : Int) = (p : Int) + h + 1 by omega]⟩
            walk_at "rd"
            exact ⟨⟨by decide, by decide⟩, by decide, ite2 (fun _ => ite2 (fun _ => a2) (fun _ => a1)) (fun _ => a1)⟩
          . obtain ⟨sz, z1, z2, rfl, rfl⟩ := (hR2 _ _).mp h2
            walk_at "rd"
            refine ⟨_, SqL.of hl1, _, atI_nat hg1, g, rfl, _, q1, _, rfl, gm, rfl, _, .inr q2, sz, rr.2.1.length, by rw [List.length_map], by omega, hms'.1, by have := hms'.2; omega, fun oh ws' H3 s3 ho => ?_⟩
            obtain ⟨w1, w2, w3, hs', w4, w5, w6⟩ := fin _ _ oh ws' H3 s3 ho (.inl z1)
            exact ⟨_, w1, _, w2, (hR _ _).mpr ⟨_, hs', _, w3, upd_same, w4, w5, w6, rfl⟩⟩
        . refine ⟨p + h, 5, by simp, by omega, by omega, by omega, fun oh ws' H3 s3 ho => ?_⟩
          obtain ⟨w1, w2, w3, hs', w4, w5, w6⟩ := fin _ _ oh ws' H3 s3 ho (.inr (by omega))
          exact ⟨_, w1, _, w2, (hR _ _).mpr ⟨_, hs', _, w3, upd_same, w4, w5, w6, rfl⟩⟩
      . obtain ⟨xs', hs', o, s4, a1, a2, a3, a4, rfl⟩ := (hR _ _).mp h4
        walk_at "rd"
        refine ⟨by omega, fun q hq => k q _ (s4.newT hq) ⟨p, l, xs', hs', upd_same, Same.new hq _ _ a1, a2.mono (Same.new hq), a3, a4⟩⟩
def sp_refw79 (K : PySem.W.Frag) : Sp := fun vs H Q _ => ∃ (n : Int) (a : Addr) (xs : List V) (hs : List Hus), vs = [.int n, .ref a] /\ H a = some (.lst xs) /\ HsL K H xs hs /\ hs.length <= 20 /\ okW n hs = false /\ ∀ H', Same H H' -> Q (.bl true) H'
theorem ok__law_refused_works {f : Addr} {fd : FuncData} (F : Fun K "_law_refused_works" "_law_refused_works" s__law_refused_works f fd) (T : Txt mg)
    (W : Own K mg)
    (Z : Exs K mg C_AskError C_BadHouse C_BadWord)
    {f_made_works : Addr} {fd_made_works : FuncData} (g_made_works : FnOk P w K mg base (CXe P w) 1 f_made_works fd_made_works ["plain", "houses"] (sp_madew K C_BadHouse)) (F_made_works : Fun K "made_works" "made_works" s_made_works f_made_works fd_made_works) (b_made_works : Binds K fd_made_works ["plain", "houses"] []) (m_made_works : mg "made_works" = some (.ref f_made_works))
    : FnOk P w K mg base CX0 2 f fd ["plain", "houses"] (sp_refw79 K) := by
  refine F.ok sc__law_refused_works (fun vs H Q E h => ?_) (fun cdv A outer s H vs Q E hr h => ?_)
  . obtain ⟨n, a, xs, hs, rfl, _⟩ := h; rfl
  . obtain ⟨n, a, xs, hs, rfl, ha, hH, hz, hbad, k⟩ := h
    refine ⟨_, (pss_cons (ps_set (i := 2) sc__law_refused_works.nd rfl (Or.inl rfl) pe_bl)
      (pss_cut (ps_try (i := 3) (E := (fun σ cls _ H1 => cls = .ref C_BadHouse /\ Same H H1 /\ σ = [some (.int n), some (.ref a), some (.bl false), none])) sc__law_refused_works.nd rfl rfl rfl Z.m_AskError rfl rfl rfl (fun xe pn hx => (pss_one (ps_expr (pe_callE g_made_works (hr.mono (by decide)) rfl m_made_works F_made_works.kp b_made_works .nil hx (pa_cons (pv 0) (pa_cons (pv 1) pa_nil))))))
      (fun ea pn => (pss_one (ps_set (i := 2) sc__law_refused_works.nd rfl (Or.inl rfl) (pe_and (pe_callB (call_isinstK (K := K) rfl) rfl T.isinstance PyProof.Rows.boot_isinstance (pa_cons (pv 3) (pa_cons (pe_glob (v := .ref C_BadHouse) rfl Z.m_BadHouse rfl) pa_nil))) (pe_one (pe_not (pe_callB (call_isinstK (K := K) rfl) rfl T.isinstance PyProof.Rows.boot_isinstance (pa_cons (pv 3) (pa_cons (pe_glob (v := .ref C_BadWord) rfl Z.m_BadWord rfl) pa_nil))))))))))
      (pss_one (ps_ret (pv 2))))), ?_⟩
    walk_at "rd"
    refine ⟨fun σ' H' => σ' = [some (.int n), some (.ref a), some (.bl true), none] /\ Same H H', ?_, ?_⟩
    . walk_at "rd"
      refine ⟨⟨false, a, n, xs, hs, rfl, SqL.of ha, hH, by omega, fun z => by (rw [hbad] at z; cases z), fun _ H1 s1 => ⟨rfl, s1⟩⟩, fun σ1 cls H1 h1 => ?_⟩
      obtain ⟨rfl, s1, rfl⟩ := h1
      refine ⟨C_BadHouse, rfl, Z.e_BadHouse, fun ea hea => ?_⟩
      walk_at "rd"
      refine ⟨_, _, .exc upd_same Z.c_BadHouse, rel_ref, _, Z.k_BadHouse_BadHouse, ?_⟩
      rw [if_pos rfl]
      exact ⟨_, _, .exc upd_same Z.c_BadHouse, rel_ref, _, Z.k_BadHouse_BadWord, rfl, s1.newT hea⟩
    . rintro σ' H' ⟨rfl, s'⟩
      walk_at "rd"
      exact k _ s'
def sp_refr79 (K : PySem.W.Frag) : Sp := fun vs H Q _ => ∃ (h a : Addr) (p : Int) (xs : List V) (hs : List Hus) (ws : List Int), vs = [.ref h, .ref a] /\ WorksH K H h p xs hs /\ WfW (p + hs.length) hs /\ 1 <= hs.length /\ SqT K H a (ws.map V.int) /\ ws.length <= 200 /\ nestR p (p + hs.length) ws 0 = false /\ ∀ H', Same H H' -> Q (.bl true) H'
theorem ok__law_refused_row {f : Addr} {fd : FuncData} (F : Fun K "_law_refused_row" "_law_refused_row" s__law_refused_row f fd) (T : Txt mg)
    (W : Own K mg)
    (Z : Exs K mg C_AskError C_BadHouse C_BadWord)
    {f_takes : Addr} {fd_takes : FuncData} (g_takes : FnOk P w K mg base (CXe P w) 7 f_takes fd_takes ["works", "signs"] (sp_takes K C_BadWord)) (F_takes : Fun K "takes" "takes" s_takes f_takes fd_takes) (b_takes : Binds K fd_takes ["works", "signs"] []) (m_takes : mg "takes" = some (.ref f_takes))
    : FnOk P w K mg base CX0 8 f fd ["works", "signs"] (sp_refr79 K) := by
  refine F.ok sc__law_refused_row (fun vs H Q E h => ?_) (fun cdv A outer s H vs Q E hr h => ?_)
  . obtain ⟨h, a, p, xs, hs, ws, rfl, _⟩ := h; rfl
  . obtain ⟨h, a, p, xs, hs, ws, rfl, hW, wf, hs1, ha, hz, hbad, k⟩ := h
    refine ⟨_, (pss_cons (ps_set (i := 2) sc__law_refused_row.nd rfl (Or.inl rfl) pe_bl)
      (pss_cut (ps_try (i := 3) (E := (fun σ cls _ H1 => cls = .ref C_BadWord /\ Same H H1 /\ σ = [some (.ref h), some (.ref a), some (.bl false), none])) sc__law_refused_row.nd rfl rfl rfl Z.m_AskError rfl rfl rfl (fun xe pn hx => (pss_one (ps_expr (pe_callE g_takes (hr.mono (by decide)) rfl m_takes F_takes.kp b_takes .nil hx (pa_cons (pv 0) (pa_cons (pv 1) pa_nil))))))
      (fun ea pn => (pss_one (ps_set (i := 2) sc__law_refused_row.nd rfl (Or.inl rfl) (pe_and (pe_callB (call_isinstK (K := K) rfl) rfl T.isinstance PyProof.Rows.boot_isinstance (pa_cons (pv 3) (pa_cons (pe_glob (v := .ref C_BadWord) rfl Z.m_BadWord rfl) pa_nil))) (pe_one (pe_not (pe_callB (call_isinstK (K := K) rfl) rfl T.isinstance PyProof.Rows.boot_isinstance (pa_cons (pv 3) (pa_cons (pe_glob (v := .ref C_BadHouse) rfl Z.m_BadHouse rfl) pa_nil))))))))))
      (pss_one (ps_ret (pv 2))))), ?_⟩
    walk_at "rd"
    refine ⟨fun σ' H' => σ' = [some (.ref h), some (.ref a), some (.bl true), none] /\ Same H H', ?_, ?_⟩
    . walk_at "rd"
      refine ⟨⟨h, a, p, xs, hs, ws, rfl, hW, wf, hs1, ha, hz, fun z => by (rw [hbad] at z; cases z), fun _ H1 s1 => ⟨rfl, s1⟩⟩, fun σ1 cls H1 h1 => ?_⟩
      obtain ⟨rfl, s1, rfl⟩ := h1
      refine ⟨C_BadWord, rfl, Z.e_BadWord, fun ea hea => ?_⟩
      walk_at "rd"
      refine ⟨_, _, .exc upd_same Z.c_BadWord, rel_ref, _, Z.k_BadWord_BadWord, ?_⟩
      rw [if_pos rfl]
      exact ⟨_, _, .exc upd_same Z.c_BadWord, rel_ref, _, Z.k_BadWord_BadHouse, rfl, s1.newT hea⟩
    . rintro σ' H' ⟨rfl, s'⟩
      walk_at "rd"
      exact k _ s'
def sp_made79 (K : PySem.W.Frag) : Sp := fun vs H Q _ => ∃ (p : Int) (y : Addr) (xs : List V) (hs : List Hus), vs = [.int p, .ref y] /\ SqT K H y xs /\ HsL K H xs hs /\ hs.length <= 20 /\ okW p hs = true /\ ∀ H', Same H H' -> Q (.bl true) H'
theorem ok__law_made {f : Addr} {fd : FuncData} (F : Fun K "_law_made" "_law_made" s__law_made f fd) (T : Txt mg)
    (W : Own K mg)
    (Z : Exs K mg C_AskError C_BadHouse C_BadWord)
    {f_made_works : Addr} {fd_made_works : FuncData} (g_made_works : FnOk P w K mg base (CXe P w) 1 f_made_works fd_made_works ["plain", "houses"] (sp_madew K C_BadHouse)) (F_made_works : Fun K "made_works" "made_works" s_made_works f_made_works fd_made_works) (b_made_works : Binds K fd_made_works ["plain", "houses"] []) (m_made_works : mg "made_works" = some (.ref f_made_works))
    : FnOk P w K mg base CX0 2 f fd ["plain", "houses"] (sp_made79 K) := by
  refine F.ok sc__law_made (fun vs H Q E h => ?_) (fun cdv A outer s H vs Q E hr h => ?_)
  . obtain ⟨p, y, xs, hs, rfl, _⟩ := h; rfl
  . obtain ⟨p, y, xs, hs, rfl, hy, hH, hz, hok, k⟩ := h
    have hl := line1000
    refine ⟨_, (pss_cons (ps_set (i := 2) sc__law_made.nd rfl (Or.inl rfl) (pe_callTy call_list_of rfl T.list PyProof.Rows.boot_list (pa_cons (pv 1) pa_nil)))
      (pss_cons (ps_set (i := 3) sc__law_made.nd rfl (Or.inl rfl) (pe_call g_made_works (hr.mono (by decide)) rfl m_made_works F_made_works.kp b_made_works .nil (passNev (P := P) (w := w)) (pa_cons (pv 0) (pa_cons (pv 2) pa_nil))))
      (pss_cons (ps_if (pt_cmpR (op_neD 8 (hu9 hr)) (pv 2) (pe_callTy call_list_of rfl T.list PyProof.Rows.boot_list (pa_cons (pv 1) pa_nil)) (nomark _))
      (pss_one (ps_ret pe_bl))
      pss_nil)
      (pss_cons (ps_expr (pe_bm PySem.F.plainAttrs_list PySem.F.slot_list_append PySem.F.type_list_append mt_append (pv 2) (pa_cons (pe_ix ix_tup (pv 1) pe_int (fun _ _ => rfl)) pa_nil)))
      (pss_cons (ps_if (PW.pt (pw_or (pt_not (pt_val (pe_callB call_isinstW rfl T.isinstance PyProof.Rows.boot_isinstance (pa_cons (pv 3) (pa_cons (pe_bltn (v := .ty "tuple") rfl T.tuple PyProof.Rows.boot_tuple rfl) pa_nil))))) (pw_or (pt_cmpR op_ne (pe_callB call_len_seq (by rfl) T.len PySem.boot_len (pa_cons (pv 3) pa_nil)) pe_int (nomark _)) (pw_or (pt_val (pe_callB call_isinstW rfl T.isinstance PyProof.Rows.boot_isinstance (pa_cons (pe_ix ix_tup (pv 3) pe_int (fun _ _ => rfl)) (pa_cons (pe_bltn (v := .ty "bool") rfl T.bool PyProof.Rows.boot_bool rfl) pa_nil)))) (pw_or1 (pt_cmpR op_ne (pe_ix ix_tup (pv 3) pe_int (fun _ _ => rfl)) (pv 0) (nomark _)))))))
      (pss_one (ps_ret pe_bl))
      pss_nil)
      (pss_one (ps_ret (pe_and (pe_callB call_isinstW rfl T.isinstance PyProof.Rows.boot_isinstance (pa_cons (pe_ix ix_tup (pv 3) pe_int (fun _ _ => rfl)) (pa_cons (pe_bltn (v := .ty "tuple") rfl T.tuple PyProof.Rows.boot_tuple rfl) pa_nil))) (pe_and (pe_cmpR (op_eqD 8 (hu9 hr)) (pe_ix ix_tup (pv 3) pe_int (fun _ _ => rfl)) (pv 1) (nomark _)) (pe_one (pe_cmpR (op_eqD 8 (hu9 hr)) (pe_call g_made_works (hr.mono (by decide)) rfl m_made_works F_made_works.kp b_made_works .nil (passNev (P := P) (w := w)) (pa_cons (pv 0) (pa_cons (pv 1) pa_nil))) (pv 3) (nomark _)))))))))))), ?_⟩
    walk_at "rd"
    refine ⟨_, .inr hy, fun l hl' => ⟨false, l, p, xs, hs, rfl, SqL.of upd_same, hH.mono (Same.new hl'), by omega, fun _ h y' H2 s2 a1 a2 => ?_, fun z => by (rw [hok] at z; cases z)⟩⟩
    have sl := Same.new hl' (o := .lst xs)
    have hl2 := s2 _ _ (show upd H l (.lst xs) l = some (.lst xs) from upd_same)
    have s02 := sl.trans s2
    clear sl s2
    refine ⟨_, .inr (s02.seqT hy), fun l2 hl2' => ?_⟩
    have sl2 := Same.new hl2' (o := .lst xs)
    have s03 := s02.trans sl2
    refine ⟨_, (hH.mono s03).eqn (.inl ⟨SqL.of (sl2 _ _ hl2), SqL.of upd_same⟩) 4, ?_⟩
    rw [if_neg (by decide)]
    have hl0 : 1 <= hs.length := by
      unfold okW at hok
      simp only [Bool.and_eq_true, decide_eq_true_eq] at hok
      exact hok.2.1.1
    obtain ⟨a0, ha0, _⟩ := hH.2 0 hs[0] (by simp [show 0 < hs.length by omega])
    have hxl := hH.1
    have hl3 := sl2 _ _ hl2
    refine ⟨.inl ⟨rfl, _, SqL.of hl3⟩, _, s03.seqT hy, _, (atI_nat ha0 : atI xs ((0 : Nat) : Int) = _), _, hl3, by omega, ?_⟩
    have h4 := seqT_off (ys := xs ++ [V.ref a0]) hl3 (sl2.seqT (SqT.of (K := K) a1))
    have y4 := seqT_off (ys := xs ++ [V.ref a0]) hl3 (sl2.seqT a2)
    have hy4 := seqT_off (ys := xs ++ [V.ref a0]) hl3 (s03.seqT hy)
    have hH4 := (hH.mono s03).off (ys := xs ++ [V.ref a0]) hl3
    have s04 : Same H (upd (upd H2 l2 (.lst xs)) l (.lst (xs ++ [V.ref a0]))) := s03.over hl'
    generalize upd (upd H2 l2 (.lst xs)) l (.lst (xs ++ [V.ref a0])) = H4 at h4 y4 hy4 hH4 s04 ⊢
    refine ⟨_, _, .tup h4, rel_ty, _, kit_self, ?_⟩
    rw [if_neg (by decide)]
    refine ⟨h, rfl, _, .inr h4, ?_⟩
    rw [if_neg (by simp)]
    refine ⟨h, rfl, _, h4, _, rfl, _, _, .int _, rel_ty, _, kit_int_bool, ?_⟩
    rw [if_neg (by decide)]
    refine ⟨h, rfl, _, h4, _, rfl, rfl, ?_⟩
    rw [if_neg (by simp)]
    refine ⟨h, rfl, _, h4, _, rfl, _, _, .tup y4, rel_ty, _, kit_self, ?_⟩
    rw [if_pos rfl]
    refine ⟨h, rfl, _, h4, _, rfl, y', rfl, _, HsL.eqn hH4 (.inr ⟨y4, hy4⟩) 4, ?_⟩
    rw [if_pos rfl]
    refine ⟨true, y, p, xs, hs, rfl, hy4, hH4, by omega, fun _ h2 y2 H5 s5 b1 b2 => ?_, fun z => by (rw [hok] at z; cases z)⟩
    refine ⟨h2, rfl, h, rfl, true, .inr ⟨h2, h, _, _, rfl, rfl, .inr ⟨SqT.of b1, s5.seqT h4⟩, fun _ => true, fun i x y hx hy => ?_, by simp⟩, k _ (s04.trans s5)⟩
    match i, hx, hy with
    | 0, hx, hy => cases hx; cases hy; exact .inl ⟨rfl, rfl, (eqV_self rfl).symm⟩
    | 1, hx, hy => cases hx; cases hy; exact HsL.eqn (hH4.mono s5) (.inr ⟨b2, s5.seqT y4⟩) 3
    | i + 2, hx, hy => cases hx
theorem cut_ints (ns : List Int) (i j : Option Int) : ∃ cs : List Int, cutV (ns.map V.int) i j = cs.map V.int /\ cs.length <= ns.length := by
  have hle := cutV_length (ns.map V.int) i j
  rw [List.length_map] at hle
  unfold cutV at hle ⊢
  rw [<- List.map_drop, <- List.map_take] at hle ⊢
  exact ⟨_, rfl, by rw [List.length_map] at hle; omega⟩
def spLaw (K : PySem.W.Frag) : Sp := fun vs H Q _ => ∃ (a : Addr) (ns : List Int), vs = [.ref a] /\ SqL K H a (ns.map V.int) /\ ns.length <= 63 /\ ∀ H', Q (.bl true) H'
theorem ok_law {f : Addr} {fd : FuncData} (F : Fun K "law" "law" s_law f fd) (T : Txt mg)
    (W : Own K mg)
    (Z : Exs K mg C_AskError C_BadHouse C_BadWord)
    {f_takes : Addr} {fd_takes : FuncData} (g_takes : FnOk P w K mg base (CXe P w) 7 f_takes fd_takes ["works", "signs"] (sp_takes K C_BadWord)) (F_takes : Fun K "takes" "takes" s_takes f_takes fd_takes) (b_takes : Binds K fd_takes ["works", "signs"] []) (m_takes : mg "takes" = some (.ref f_takes))
    {f__law_cell_at : Addr} {fd__law_cell_at : FuncData} (g__law_cell_at : FnOk P w K mg base CX0 1 f__law_cell_at fd__law_cell_at ["script", "k"] (sp_cell K)) (F__law_cell_at : Fun K "_law_cell_at" "_law_cell_at" s__law_cell_at f__law_cell_at fd__law_cell_at) (b__law_cell_at : Binds K fd__law_cell_at ["script", "k"] []) (m__law_cell_at : mg "_law_cell_at" = some (.ref f__law_cell_at))
    {f__law_nest : Addr} {fd__law_nest : FuncData} (g__law_nest : FnOk P w K mg base CX0 1 f__law_nest fd__law_nest ["flow", "plain", "helpers"] (sp_lnest K)) (F__law_nest : Fun K "_law_nest" "_law_nest" s__law_nest f__law_nest fd__law_nest) (b__law_nest : Binds K fd__law_nest ["flow", "plain", "helpers"] []) (m__law_nest : mg "_law_nest" = some (.ref f__law_nest))
    {f__law_works_by : Addr} {fd__law_works_by : FuncData} (g__law_works_by : FnOk P w K mg base CX0 3 f__law_works_by fd__law_works_by ["flow", "plain", "helpers"] (sp_wby79 K)) (F__law_works_by : Fun K "_law_works_by" "_law_works_by" s__law_works_by f__law_works_by fd__law_works_by) (b__law_works_by : Binds K fd__law_works_by ["flow", "plain", "helpers"] []) (m__law_works_by : mg "_law_works_by" = some (.ref f__law_works_by))
    {f__law_accepted : Addr} {fd__law_accepted : FuncData} (g__law_accepted : FnOk P w K mg base CX0 2 f__law_accepted fd__law_accepted ["works", "signs", "top"] (sp_acc79 K)) (F__law_accepted : Fun K "_law_accepted" "_law_accepted" s__law_accepted f__law_accepted fd__law_accepted) (b__law_accepted : Binds K fd__law_accepted ["works", "signs", "top"] []) (m__law_accepted : mg "_law_accepted" = some (.ref f__law_accepted))
    {f__law_spoiled : Addr} {fd__law_spoiled : FuncData} (g__law_spoiled : FnOk P w K mg base CX0 2 f__law_spoiled fd__law_spoiled ["plain", "helpers", "houses", "cell"] (sp_spoil79 K)) (F__law_spoiled : Fun K "_law_spoiled" "_law_spoiled" s__law_spoiled f__law_spoiled fd__law_spoiled) (b__law_spoiled : Binds K fd__law_spoiled ["plain", "helpers", "houses", "cell"] []) (m__law_spoiled : mg "_law_spoiled" = some (.ref f__law_spoiled))
    {f__law_refused_works : Addr} {fd__law_refused_works : FuncData} (g__law_refused_works : FnOk P w K mg base CX0 2 f__law_refused_works fd__law_refused_works ["plain", "houses"] (sp_refw79 K)) (F__law_refused_works : Fun K "_law_refused_works" "_law_refused_works" s__law_refused_works f__law_refused_works fd__law_refused_works) (b__law_refused_works : Binds K fd__law_refused_works ["plain", "houses"] []) (m__law_refused_works : mg "_law_refused_works" = some (.ref f__law_refused_works))
    {f__law_refused_row : Addr} {fd__law_refused_row : FuncData} (g__law_refused_row : FnOk P w K mg base CX0 8 f__law_refused_row fd__law_refused_row ["works", "signs"] (sp_refr79 K)) (F__law_refused_row : Fun K "_law_refused_row" "_law_refused_row" s__law_refused_row f__law_refused_row fd__law_refused_row) (b__law_refused_row : Binds K fd__law_refused_row ["works", "signs"] []) (m__law_refused_row : mg "_law_refused_row" = some (.ref f__law_refused_row))
    {f__law_made : Addr} {fd__law_made : FuncData} (g__law_made : FnOk P w K mg base CX0 2 f__law_made fd__law_made ["plain", "houses"] (sp_made79 K)) (F__law_made : Fun K "_law_made" "_law_made" s__law_made f__law_made fd__law_made) (b__law_made : Binds K fd__law_made ["plain", "houses"] []) (m__law_made : mg "_law_made" = some (.ref f__law_made))
    : FnOk P w K mg base CX0 9 f fd ["script"] (spLaw K) := by
  refine F.ok sc_law (fun vs H Q E h => ?_) (fun cdv A outer s H vs Q E hr h => ?_)
  . obtain ⟨a, ns, rfl, _⟩ := h; rfl
  . obtain ⟨a, ns, rfl, hs, hz, k⟩ := h
    have hl := line1000
    refine ⟨_, (pss_cons (ps_set (i := 1) sc_law.nd rfl (Or.inl rfl) (pe_op op_add pe_int (pe_op op_mod (pe_call g__law_cell_at (hr.mono (by decide)) rfl m__law_cell_at F__law_cell_at.kp b__law_cell_at .nil pass0 (pa_cons (pv 0) (pa_cons pe_int pa_nil))) pe_int)))
      (pss_cons (ps_set (i := 2) sc_law.nd rfl (Or.inl rfl) (pe_op op_add pe_int (pe_op op_mod (pe_op op_fdiv (pe_call g__law_cell_at (hr.mono (by decide)) rfl m__law_cell_at F__law_cell_at.kp b__law_cell_at .nil pass0 (pa_cons (pv 0) (pa_cons pe_int pa_nil))) pe_int) (pe_callB (call_min2 rfl) rfl T.min PyProof.Rows.boot_min (pa_cons pe_int (pa_cons (pe_op op_sub pe_int (pv 1)) pa_nil))))))
      (pss_cons (ps_set (i := 3) sc_law.nd rfl (Or.inl rfl) (pe_op op_add pe_int (pe_op op_mod (pe_call g__law_cell_at (hr.mono (by decide)) rfl m__law_cell_at F__law_cell_at.kp b__law_cell_at .nil pass0 (pa_cons (pv 0) (pa_cons pe_int pa_nil))) (pe_callB (call_max2 rfl) rfl T.max PyProof.Rows.boot_max (pa_cons pe_int (pa_cons (pe_op op_sub (pe_callB call_len_seq (by rfl) T.len PySem.boot_len (pa_cons (pv 0) pa_nil)) pe_int) pa_nil))))))
      (pss_cons (ps_set (i := 4) sc_law.nd rfl (Or.inl rfl) (pe_call g__law_works_by (hr.mono (by decide)) rfl m__law_works_by F__law_works_by.kp b__law_works_by .nil pass0 (pa_cons (pe_slice sl_list (pv 0) (po_some pe_int) (po_some (pv 3))) (pa_cons (pv 1) (pa_cons (pv 2) pa_nil)))))
      (pss_cons (ps_set (i := 5) sc_law.nd rfl (Or.inl rfl) (pe_call g__law_nest (hr.mono (by decide)) rfl m__law_nest F__law_nest.kp b__law_nest .nil pass0 (pa_cons (pe_slice sl_list (pv 0) (po_some (pv 3)) (po_some (pe_op op_add (pv 3) pe_int))) (pa_cons (pv 1) (pa_cons (pv 2) pa_nil)))))
      (pss_cons (ps_set (i := 6) sc_law.nd rfl (Or.inl rfl) (pe_call g__law_cell_at (hr.mono (by decide)) rfl m__law_cell_at F__law_cell_at.kp b__law_cell_at .nil pass0 (pa_cons (pv 0) (pa_cons pe_int pa_nil))))
      (pss_cut (ps_if (pt_cmpR op_eq (pe_op op_mod (pe_call g__law_cell_at (hr.mono (by decide)) rfl m__law_cell_at F__law_cell_at.kp b__law_cell_at .nil pass0 (pa_cons (pv 0) (pa_cons pe_int pa_nil))) pe_int) pe_int (nomark _))
      (pss_cons (ps_set (i := 7) sc_law.nd rfl (Or.inl rfl) (pe_call g__law_spoiled (hr.mono (by decide)) rfl m__law_spoiled F__law_spoiled.kp b__law_spoiled .nil pass0 (pa_cons (pv 1) (pa_cons (pv 2) (pa_cons (pe_ix ix_tup (pv 4) pe_int (fun _ _ => rfl)) (pa_cons (pe_op op_fdiv (pe_call g__law_cell_at (hr.mono (by decide)) rfl m__law_cell_at F__law_cell_at.kp b__law_cell_at .nil pass0 (pa_cons (pv 0) (pa_cons pe_int pa_nil))) pe_int) pa_nil))))))
      (pss_one (ps_if (pt_not (pt_val (pe_call g__law_refused_works (hr.mono (by decide)) rfl m__law_refused_works F__law_refused_works.kp b__law_refused_works .nil pass0 (pa_cons (pe_ix ix_tup (pv 7) pe_int (fun _ _ => rfl)) (pa_cons (pe_ix ix_tup (pv 7) pe_int (fun _ _ => rfl)) pa_nil)))))
      (pss_one (ps_ret pe_bl))
      pss_nil)))
      pss_nil)
      (pss_cons (ps_if (pt_not (pt_val (pe_call g__law_made (hr.mono (by decide)) rfl m__law_made F__law_made.kp b__law_made .nil pass0 (pa_cons (pv 1) (pa_cons (pe_ix ix_tup (pv 4) pe_int (fun _ _ => rfl)) pa_nil)))))
      (pss_one (ps_ret pe_bl))
      pss_nil)
      (pss_cons (ps_if (pt_cmpR op_eq (pe_op op_mod (pv 6) pe_int) pe_int (nomark _))
      (pss_cons (ps_expr (pe_bm PySem.F.plainAttrs_list PySem.F.slot_list_insert PySem.F.type_list_insert mt_insert (pv 5) (pa_cons (pe_op op_mod (pe_op op_fdiv (pv 6) pe_int) (pe_op op_add (pe_callB call_len_seq (by rfl) T.len PySem.boot_len (pa_cons (pv 5) pa_nil)) pe_int)) (pa_cons (pe_op op_add (pv 1) (pe_ix ix_list (pe_lst (pa_cons (pv 2) (pa_cons (pe_op op_mod (pe_op op_fdiv (pv 6) pe_int) (pv 2)) pa_nil))) (pe_op op_mod (pe_op op_fdiv (pv 6) pe_int) pe_int) (fun _ _ => rfl))) pa_nil))))
      (pss_one (ps_ret (pe_call g__law_refused_row (hr.mono (by decide)) rfl m__law_refused_row F__law_refused_row.kp b__law_refused_row .nil pass0 (pa_cons (pv 4) (pa_cons (pe_callTy call_tuple_of rfl T.tuple PyProof.Rows.boot_tuple (pa_cons (pv 5) pa_nil)) pa_nil))))))
      pss_nil)
      (pss_cons (ps_set (i := 8) sc_law.nd rfl (Or.inl rfl) (pe_call g_takes (hr.mono (by decide)) rfl m_takes F_takes.kp b_takes .nil (passNev (P := P) (w := w)) (pa_cons (pv 4) (pa_cons (pe_callTy call_tuple_of rfl T.tuple PyProof.Rows.boot_tuple (pa_cons (pv 5) pa_nil)) pa_nil))))
      (pss_one (ps_ret (pe_and (pe_callB call_isinstW rfl T.isinstance PyProof.Rows.boot_isinstance (pa_cons (pv 8) (pa_cons (pe_bltn (v := .ty "bool") rfl T.bool PyProof.Rows.boot_bool rfl) pa_nil))) (pe_one (pe_cmpR op_eq (pv 8) (pe_call g__law_accepted (hr.mono (by decide)) rfl m__law_accepted F__law_accepted.kp b__law_accepted .nil pass0 (pa_cons (pv 4) (pa_cons (pv 5) (pa_cons pe_int pa_nil)))) (nomark _)))))))))))))))), ?_⟩
    walk_at "rd"
    refine ⟨a, ns, 0, rfl, hs, ?_⟩
    walk_at "rd"
    have a0 := Int.emod_nonneg (cell ns 0) (show (4 : Int) ≠ 0 by decide)
    have a1 := Int.emod_lt_of_pos (cell ns 0) (show (0 : Int) < 4 by decide)
    obtain ⟨p, hp, hp1', hp4⟩ : ∃ p : Nat, 1 + cell ns 0 % 4 = (p : Int) /\ 1 <= p /\ p <= 4 := ⟨(1 + cell ns 0 % 4).toNat, by omega, by omega, by omega⟩
    rw [hp]
    obtain ⟨m3, hm0, hm1, hm2, hm6⟩ : ∃ m : Int, (if 6 - (p : Int) < 3 then 6 - (p : Int) else 3) = m /\ 0 < m /\ m <= 3 /\ m <= 6 - p := ⟨_, rfl, by split <;> omega, by split <;> omega, by split <;> omega⟩
    rw [hm0]
    refine ⟨by decide, a, ns, 0, rfl, hs, _, rfl, ⟨by decide, by decide⟩, hm1, ?_⟩
    have b0 := Int.emod_nonneg (cell ns 0 / 4) (show m3 ≠ 0 by omega)
    have b1 := Int.emod_lt_of_pos (cell ns 0 / 4) hm1
    generalize cell ns 0 / 4 % m3 = c3 at b0 b1 ⊢
    obtain ⟨h, hh, hh1, hh3, hh6⟩ : ∃ h : Nat, 1 + c3 = (h : Int) /\ 1 <= h /\ h <= 3 /\ p + h <= 6 := ⟨(1 + c3).toNat, by omega, by omega, by omega, by omega⟩
    rw [hh]
    refine ⟨a, ns, 1, rfl, hs, _, .inl hs, _, rfl, by split <;> omega, _, hs, fun p1 hp1 => ?_⟩
    generalize (4 + cell ns 1 % (if ((List.map V.int ns).length : Int) - 3 > 1 then ((List.map V.int ns).length : Int) - 3 else 1)) = ct
    obtain ⟨cs, hcs, hcl⟩ := cut_ints ns (some 4) (some ct)
    obtain ⟨gs, hgs, hgl⟩ := cut_ints ns (some ct) (some (ct + 200))
    rw [hcs]
    have s0 := Same.new hp1 (o := .lst (cs.map V.int))
    refine ⟨p1, cs, p, h, rfl, SqL.of upd_same, hp1', hh1, hh3, hh6, fun w' xs hls H1 s1 hW hlen wf h4 => ⟨_, (s0.trans s1).seq hs, fun p2 hp2 => ?_⟩⟩
    rw [hgs]
    have s2 := (s0.trans s1).newT hp2 (o := .lst (gs.map V.int))
    refine ⟨p2, gs, p, h, rfl, SqL.of upd_same, by omega, by omega, by omega, fun l row H2 s3 hl2 hrl hnest => ?_⟩
    have s03 := s2.trans s3
    have hW2 := hW.mono ((Same.new hp2).trans s3)
    clear s2 s3 s0 s1 hW
    refine ⟨a, ns, 2, rfl, s03.seq hs, ?_⟩
    have hph : (p : Int) + h = p + hls.length := by rw [hlen]
    rw [hph] at hnest
    have wf' : WfW ((p : Int) + hls.length) hls := by rw [hlen]; exact wf
    obtain ⟨y, W1, W2, W3⟩ := id hW2
    have hokW : okW p hls = true := by
      cases e : okW p hls with
      | true => rfl
      | false =>
        unfold okW okP at e
        exfalso
        revert e
        simp only [Bool.and_eq_false_iff, decide_eq_false_iff_not, List.all_eq_false]
        rintro ((e | e) | (e | e) | ⟨r, hr1, e⟩)
        . omega
        . omega
        . omega
        . omega
        . have := h4 r hr1
          have h5 := (wf' r hr1).1
          simp [this, h5] at e
    obtain ⟨R, hR⟩ : ∃ R : St -> Hp -> Prop, ∀ σ' H', R σ' H' ↔ (Same H2 H' /\ ∃ o, σ' = [some (.ref a), some (.int p), some (.int h), some (.int ct), some (.ref w'), some (.ref l), some (.int (cell ns 2)), o, none]) := ⟨_, fun _ _ => Iff.rfl⟩
    refine ⟨R, ?_, fun σ5 H5 h5 => ?_⟩
    . walk_at "rd"
      refine ⟨a, ns, 3, rfl, s03.seq hs, _, rfl, by decide, ite2 (fun e => ?_) (fun e => (hR _ _).mpr ⟨Same.refl _, _, rfl⟩)⟩
      refine ⟨_, W1, _, rfl, a, ns, 3, rfl, s03.seq hs, _, rfl, ⟨by decide, by decide⟩, p, h, y, _, xs, hls, rfl, W2, W3, hlen, hp1', hh1, hh3, hh6, fun r hr1 => ⟨((wf r hr1).2).n1, h4 r hr1⟩, fun q H3 s3 hB => ?_⟩
      obtain ⟨n, lq, xs2, hs2, b1, b2, b3, b4, b5⟩ := hB
      refine ⟨q, rfl, _, SqT.of b1, _, rfl, q, rfl, _, SqT.of b1, _, rfl, n, lq, xs2, hs2, rfl, b2, b3, b4, b5, fun H4 s4 => ⟨_, rfl, ?_⟩⟩
      rw [if_neg (by decide)]
      exact (hR _ _).mpr ⟨s3.trans s4, _, rfl⟩
    . obtain ⟨s5, o, rfl⟩ := (hR _ _).mp h5
      walk_at "rd"
      refine ⟨_, s5.seqT W1, _, rfl, p, y, xs, hls, rfl, s5.seqT W2, W3.mono s5, by omega, hokW, fun H6 s6 => ⟨_, rfl, ?_⟩⟩
      rw [if_neg (by decide)]
      have s26 := s5.trans s6
      refine ⟨by decide, ite2 (fun e => ?_) (fun e => ?_)⟩
      . have hl6 := s26 _ _ hl2
        have i0 := Int.emod_nonneg (cell ns 2 / 10) (show (row.length : Int) + 1 ≠ 0 by omega)
        have i1 := Int.emod_lt_of_pos (cell ns 2 / 10) (show (0 : Int) < (row.length : Int) + 1 by omega)
        obtain ⟨kk, hkk, hkl⟩ : ∃ n : Nat, cell ns 2 / 10 % ((row.length : Int) + 1) = n /\ n <= row.length := ⟨(cell ns 2 / 10 % ((row.length : Int) + 1)).toNat, by omega, by omega⟩
        have j0 := Int.emod_nonneg (cell ns 2 / 1009) (show (h : Int) ≠ 0 by omega)
        have j1 := Int.emod_nonneg (cell ns 2 / 5) (show (2 : Int) ≠ 0 by decide)
        have j2 := Int.emod_lt_of_pos (cell ns 2 / 5) (show (0 : Int) < 2 by decide)
        generalize cell ns 2 / 1009 % (h : Int) = c9 at j0 ⊢
        obtain ⟨v, hv, v0⟩ : ∃ v : Int, atI [V.int h, V.int c9] (cell ns 2 / 5 % 2) = some (V.int v) /\ 0 <= v := by
          have cc : cell ns 2 / 5 % 2 = 0 \/ cell ns 2 / 5 % 2 = 1 := by omega
          rcases cc with z | z <;> rw [z] <;> exact ⟨_, rfl, by omega⟩
        refine ⟨.inl ⟨rfl, _, SqL.of hl6⟩, ⟨by decide, by decide⟩, _, .inl (SqL.of hl6), by omega, ⟨by decide, by decide⟩, by omega, by omega, fun q1 hq1 => ?_⟩
        have sq := Same.new hq1 (o := .lst [V.int h, V.int c9])
        have hl7 := sq _ _ hl6
        have W7 := hW2.mono (s26.trans sq)
        refine ⟨⟨by decide, by decide⟩, by decide, _, SqL.of upd_same, _, hv, v, rfl, ?_⟩
        generalize upd H6 q1 (.lst [V.int h, V.int c9]) = H7 at hl7 W7 ⊢
        rw [List.length_map, hkk, Int.toNat_natCast]
        obtain ⟨y7, W71, W72, W73⟩ := W7
        have em : (row.map V.int).take kk ++ V.int ((p : Int) + v) :: (row.map V.int).drop kk = (row.take kk ++ ((p : Int) + v) :: row.drop kk).map V.int := by rw [List.map_append, List.map_cons, List.map_take, List.map_drop]
        refine ⟨_, hl7, by omega, by rw [List.length_map]; omega, by rw [List.length_map]; omega, _, .inl ⟨SqL.of upd_same, fun t ht => ?_⟩⟩
        rw [em] at ht ⊢
        have st := Same.new ht (o := .tup ((row.take kk ++ ((p : Int) + v) :: row.drop kk).map V.int))
        refine ⟨w', t, p, xs, hls, row.take kk ++ ((p : Int) + v) :: row.drop kk, rfl, ⟨y7, st.seqT (seqT_off hl7 W71), st.seqT (seqT_off hl7 W72), (W73.off hl7).mono st⟩, wf', by omega, SqT.of upd_same, by rw [List.length_append, List.length_cons, List.length_take, List.length_drop]; omega, Nest.nestR_insert (by rw [List.take_append_drop]; exact hnest) (by omega), fun H9 _ => k _⟩
      . have hl6 := s26 _ _ hl2
        refine ⟨_, .inl ⟨SqL.of hl6, fun t ht => ⟨w', t, p, xs, hls, row, rfl, hW2.mono (s26.newT ht), wf', by omega, SqT.of upd_same, by omega, fun _ H7 s7 => ?_, fun z => by (rw [hnest] at z; cases z)⟩⟩⟩
        have s67 := (Same.new ht (o := .tup (row.map V.int))).trans s7
        refine ⟨_, _, .bl _, rel_ty, _, kit_self, ?_⟩
        rw [if_pos rfl]
        refine ⟨w', l, p, xs, hls, row, rfl, hW2.mono (s26.trans s67), wf', by omega, SqL.of (s67 _ _ hl6), by omega, hnest, fun H8 => ⟨rfl, ?_⟩⟩
        rw [decide_eq_true rfl]
        exact k _
end
theorem all_mk {l : PySem.W.OpenLaw} {w : World} {K : PySem.W.Frag} {h : Heap} {mg : Str -> Option Value} {fa f_is_word f_check_word f_trail f_room_behind f_mark_behind f_end_sign f_nested f_check_nested f_parts f_made_works f_takes_part f_takes f__law_cell_at f__law_nest f__law_parts f__law_draw f__law_house_by f__law_works_by f__law_answer f__law_accepted f__law_other_house f__law_spoiled f__law_refused_works f__law_refused_row f__law_made f_law : Addr} (X : K.In h) (G : h.Ns mainGlobals mg) (hfa : mg "law" = some (.ref fa))
    {C_AskError C_BadHouse C_BadWord : Addr}
    {od_is_word an_is_word : Option Addr} {sl_is_word : Array (Option Value)} {oc_is_word kV_is_word dc_is_word pm_is_word cd_is_word ct_is_word : Value}
    {od_check_word an_check_word : Option Addr} {sl_check_word : Array (Option Value)} {oc_check_word kV_check_word dc_check_word pm_check_word cd_check_word ct_check_word : Value}
    {od_trail an_trail : Option Addr} {sl_trail : Array (Option Value)} {oc_trail kV_trail dc_trail pm_trail cd_trail ct_trail : Value}
    {od_room_behind an_room_behind : Option Addr} {sl_room_behind : Array (Option Value)} {oc_room_behind kV_room_behind dc_room_behind pm_room_behind cd_room_behind ct_room_behind : Value}
    {od_mark_behind an_mark_behind : Option Addr} {sl_mark_behind : Array (Option Value)} {oc_mark_behind kV_mark_behind dc_mark_behind pm_mark_behind cd_mark_behind ct_mark_behind : Value}
    {od_end_sign an_end_sign : Option Addr} {sl_end_sign : Array (Option Value)} {oc_end_sign kV_end_sign dc_end_sign pm_end_sign cd_end_sign ct_end_sign : Value}
    {od_nested an_nested : Option Addr} {sl_nested : Array (Option Value)} {oc_nested kV_nested dc_nested pm_nested cd_nested ct_nested : Value}
    {od_check_nested an_check_nested : Option Addr} {sl_check_nested : Array (Option Value)} {oc_check_nested kV_check_nested dc_check_nested pm_check_nested cd_check_nested ct_check_nested : Value}
    {od_parts an_parts : Option Addr} {sl_parts : Array (Option Value)} {oc_parts kV_parts dc_parts pm_parts cd_parts ct_parts : Value}
    {od_made_works an_made_works : Option Addr} {sl_made_works : Array (Option Value)} {oc_made_works kV_made_works dc_made_works pm_made_works cd_made_works ct_made_works : Value}
    {od_takes_part an_takes_part : Option Addr} {sl_takes_part : Array (Option Value)} {oc_takes_part kV_takes_part dc_takes_part pm_takes_part cd_takes_part ct_takes_part : Value}
    {od_takes an_takes : Option Addr} {sl_takes : Array (Option Value)} {oc_takes kV_takes dc_takes pm_takes cd_takes ct_takes : Value}
    {od__law_cell_at an__law_cell_at : Option Addr} {sl__law_cell_at : Array (Option Value)} {oc__law_cell_at kV__law_cell_at dc__law_cell_at pm__law_cell_at cd__law_cell_at ct__law_cell_at : Value}
    {od__law_nest an__law_nest : Option Addr} {sl__law_nest : Array (Option Value)} {oc__law_nest kV__law_nest dc__law_nest pm__law_nest cd__law_nest ct__law_nest : Value}
    {od__law_parts an__law_parts : Option Addr} {sl__law_parts : Array (Option Value)} {oc__law_parts kV__law_parts dc__law_parts pm__law_parts cd__law_parts ct__law_parts : Value}
    {od__law_draw an__law_draw : Option Addr} {sl__law_draw : Array (Option Value)} {oc__law_draw kV__law_draw dc__law_draw pm__law_draw cd__law_draw ct__law_draw : Value}
    {od__law_house_by an__law_house_by : Option Addr} {sl__law_house_by : Array (Option Value)} {oc__law_house_by kV__law_house_by dc__law_house_by pm__law_house_by cd__law_house_by ct__law_house_by : Value}
    {od__law_works_by an__law_works_by : Option Addr} {sl__law_works_by : Array (Option Value)} {oc__law_works_by kV__law_works_by dc__law_works_by pm__law_works_by cd__law_works_by ct__law_works_by : Value}
    {od__law_answer an__law_answer : Option Addr} {sl__law_answer : Array (Option Value)} {oc__law_answer kV__law_answer dc__law_answer pm__law_answer cd__law_answer ct__law_answer : Value}
    {od__law_accepted an__law_accepted : Option Addr} {sl__law_accepted : Array (Option Value)} {oc__law_accepted kV__law_accepted dc__law_accepted pm__law_accepted cd__law_accepted ct__law_accepted : Value}
    {od__law_other_house an__law_other_house : Option Addr} {sl__law_other_house : Array (Option Value)} {oc__law_other_house kV__law_other_house dc__law_other_house pm__law_other_house cd__law_other_house ct__law_other_house : Value}
    {od__law_spoiled an__law_spoiled : Option Addr} {sl__law_spoiled : Array (Option Value)} {oc__law_spoiled kV__law_spoiled dc__law_spoiled pm__law_spoiled cd__law_spoiled ct__law_spoiled : Value}
    {od__law_refused_works an__law_refused_works : Option Addr} {sl__law_refused_works : Array (Option Value)} {oc__law_refused_works kV__law_refused_works dc__law_refused_works pm__law_refused_works cd__law_refused_works ct__law_refused_works : Value}
    {od__law_refused_row an__law_refused_row : Option Addr} {sl__law_refused_row : Array (Option Value)} {oc__law_refused_row kV__law_refused_row dc__law_refused_row pm__law_refused_row cd__law_refused_row ct__law_refused_row : Value}
    {od__law_made an__law_made : Option Addr} {sl__law_made : Array (Option Value)} {oc__law_made kV__law_made dc__law_made pm__law_made cd__law_made ct__law_made : Value}
    {od_law an_law : Option Addr} {sl_law : Array (Option Value)} {oc_law kV_law dc_law pm_law cd_law ct_law : Value}
    {tk_MOST_HELPERS : Tok} (q_MOST_HELPERS : PySem.W.nsIn K mainGlobals "MOST_HELPERS" = some (some (.int 3 tk_MOST_HELPERS)))
    {tk_MOST_PLAIN : Tok} (q_MOST_PLAIN : PySem.W.nsIn K mainGlobals "MOST_PLAIN" = some (some (.int 4 tk_MOST_PLAIN)))
    {tk_MOST_ROOMS_OF_HELPER : Tok} (q_MOST_ROOMS_OF_HELPER : PySem.W.nsIn K mainGlobals "MOST_ROOMS_OF_HELPER" = some (some (.int 4 tk_MOST_ROOMS_OF_HELPER)))
    (a_is_word : PySem.W.nsIn K mainGlobals "is_word" = some (some (.ref f_is_word)))
    (l_is_word : K.lookup f_is_word = some ⟨oc_is_word, od_is_word, .func (PySem.W.fnOf "is_word" "is_word" (defArgs s_is_word) (defBody s_is_word) (defScope s_is_word) .none kV_is_word dc_is_word pm_is_word an_is_word cd_is_word ct_is_word), sl_is_word⟩)
    (c_is_word : PySem.W.codeIn K cd_is_word "is_word" = true)
    (k_is_word : PySem.W.keepIn K (.ref f_is_word) = true)
    (a_check_word : PySem.W.nsIn K mainGlobals "check_word" = some (some (.ref f_check_word)))
    (l_check_word : K.lookup f_check_word = some ⟨oc_check_word, od_check_word, .func (PySem.W.fnOf "check_word" "check_word" (defArgs s_check_word) (defBody s_check_word) (defScope s_check_word) .none kV_check_word dc_check_word pm_check_word an_check_word cd_check_word ct_check_word), sl_check_word⟩)
    (c_check_word : PySem.W.codeIn K cd_check_word "check_word" = true)
    (k_check_word : PySem.W.keepIn K (.ref f_check_word) = true)
    (a_trail : PySem.W.nsIn K mainGlobals "trail" = some (some (.ref f_trail)))
    (l_trail : K.lookup f_trail = some ⟨oc_trail, od_trail, .func (PySem.W.fnOf "trail" "trail" (defArgs s_trail) (defBody s_trail) (defScope s_trail) .none kV_trail dc_trail pm_trail an_trail cd_trail ct_trail), sl_trail⟩)
    (c_trail : PySem.W.codeIn K cd_trail "trail" = true)
    (k_trail : PySem.W.keepIn K (.ref f_trail) = true)
    (a_room_behind : PySem.W.nsIn K mainGlobals "room_behind" = some (some (.ref f_room_behind)))
    (l_room_behind : K.lookup f_room_behind = some ⟨oc_room_behind, od_room_behind, .func (PySem.W.fnOf "room_behind" "room_behind" (defArgs s_room_behind) (defBody s_room_behind) (defScope s_room_behind) .none kV_room_behind dc_room_behind pm_room_behind an_room_behind cd_room_behind ct_room_behind), sl_room_behind⟩)
    (c_room_behind : PySem.W.codeIn K cd_room_behind "room_behind" = true)
    (k_room_behind : PySem.W.keepIn K (.ref f_room_behind) = true)
    (a_mark_behind : PySem.W.nsIn K mainGlobals "mark_behind" = some (some (.ref f_mark_behind)))
    (l_mark_behind : K.lookup f_mark_behind = some ⟨oc_mark_behind, od_mark_behind, .func (PySem.W.fnOf "mark_behind" "mark_behind" (defArgs s_mark_behind) (defBody s_mark_behind) (defScope s_mark_behind) .none kV_mark_behind dc_mark_behind pm_mark_behind an_mark_behind cd_mark_behind ct_mark_behind), sl_mark_behind⟩)
    (c_mark_behind : PySem.W.codeIn K cd_mark_behind "mark_behind" = true)
    (k_mark_behind : PySem.W.keepIn K (.ref f_mark_behind) = true)
    (a_end_sign : PySem.W.nsIn K mainGlobals "end_sign" = some (some (.ref f_end_sign)))
    (l_end_sign : K.lookup f_end_sign = some ⟨oc_end_sign, od_end_sign, .func (PySem.W.fnOf "end_sign" "end_sign" (defArgs s_end_sign) (defBody s_end_sign) (defScope s_end_sign) .none kV_end_sign dc_end_sign pm_end_sign an_end_sign cd_end_sign ct_end_sign), sl_end_sign⟩)
    (c_end_sign : PySem.W.codeIn K cd_end_sign "end_sign" = true)
    (k_end_sign : PySem.W.keepIn K (.ref f_end_sign) = true)
    (a_nested : PySem.W.nsIn K mainGlobals "nested" = some (some (.ref f_nested)))
    (l_nested : K.lookup f_nested = some ⟨oc_nested, od_nested, .func (PySem.W.fnOf "nested" "nested" (defArgs s_nested) (defBody s_nested) (defScope s_nested) .none kV_nested dc_nested pm_nested an_nested cd_nested ct_nested), sl_nested⟩)
    (c_nested : PySem.W.codeIn K cd_nested "nested" = true)
    (k_nested : PySem.W.keepIn K (.ref f_nested) = true)
    (a_check_nested : PySem.W.nsIn K mainGlobals "check_nested" = some (some (.ref f_check_nested)))
    (l_check_nested : K.lookup f_check_nested = some ⟨oc_check_nested, od_check_nested, .func (PySem.W.fnOf "check_nested" "check_nested" (defArgs s_check_nested) (defBody s_check_nested) (defScope s_check_nested) .none kV_check_nested dc_check_nested pm_check_nested an_check_nested cd_check_nested ct_check_nested), sl_check_nested⟩)
    (c_check_nested : PySem.W.codeIn K cd_check_nested "check_nested" = true)
    (k_check_nested : PySem.W.keepIn K (.ref f_check_nested) = true)
    (a_parts : PySem.W.nsIn K mainGlobals "parts" = some (some (.ref f_parts)))
    (l_parts : K.lookup f_parts = some ⟨oc_parts, od_parts, .func (PySem.W.fnOf "parts" "parts" (defArgs s_parts) (defBody s_parts) (defScope s_parts) .none kV_parts dc_parts pm_parts an_parts cd_parts ct_parts), sl_parts⟩)
    (c_parts : PySem.W.codeIn K cd_parts "parts" = true)
    (k_parts : PySem.W.keepIn K (.ref f_parts) = true)
    (a_made_works : PySem.W.nsIn K mainGlobals "made_works" = some (some (.ref f_made_works)))
    (l_made_works : K.lookup f_made_works = some ⟨oc_made_works, od_made_works, .func (PySem.W.fnOf "made_works" "made_works" (defArgs s_made_works) (defBody s_made_works) (defScope s_made_works) .none kV_made_works dc_made_works pm_made_works an_made_works cd_made_works ct_made_works), sl_made_works⟩)
    (c_made_works : PySem.W.codeIn K cd_made_works "made_works" = true)
    (k_made_works : PySem.W.keepIn K (.ref f_made_works) = true)
    (a_takes_part : PySem.W.nsIn K mainGlobals "takes_part" = some (some (.ref f_takes_part)))
    (l_takes_part : K.lookup f_takes_part = some ⟨oc_takes_part, od_takes_part, .func (PySem.W.fnOf "takes_part" "takes_part" (defArgs s_takes_part) (defBody s_takes_part) (defScope s_takes_part) .none kV_takes_part dc_takes_part pm_takes_part an_takes_part cd_takes_part ct_takes_part), sl_takes_part⟩)
    (c_takes_part : PySem.W.codeIn K cd_takes_part "takes_part" = true)
    (k_takes_part : PySem.W.keepIn K (.ref f_takes_part) = true)
    (a_takes : PySem.W.nsIn K mainGlobals "takes" = some (some (.ref f_takes)))
    (l_takes : K.lookup f_takes = some ⟨oc_takes, od_takes, .func (PySem.W.fnOf "takes" "takes" (defArgs s_takes) (defBody s_takes) (defScope s_takes) .none kV_takes dc_takes pm_takes an_takes cd_takes ct_takes), sl_takes⟩)
    (c_takes : PySem.W.codeIn K cd_takes "takes" = true)
    (k_takes : PySem.W.keepIn K (.ref f_takes) = true)
    (a__law_cell_at : PySem.W.nsIn K mainGlobals "_law_cell_at" = some (some (.ref f__law_cell_at)))
    (l__law_cell_at : K.lookup f__law_cell_at = some ⟨oc__law_cell_at, od__law_cell_at, .func (PySem.W.fnOf "_law_cell_at" "_law_cell_at" (defArgs s__law_cell_at) (defBody s__law_cell_at) (defScope s__law_cell_at) .none kV__law_cell_at dc__law_cell_at pm__law_cell_at an__law_cell_at cd__law_cell_at ct__law_cell_at), sl__law_cell_at⟩)
    (c__law_cell_at : PySem.W.codeIn K cd__law_cell_at "_law_cell_at" = true)
    (k__law_cell_at : PySem.W.keepIn K (.ref f__law_cell_at) = true)
    (a__law_nest : PySem.W.nsIn K mainGlobals "_law_nest" = some (some (.ref f__law_nest)))
    (l__law_nest : K.lookup f__law_nest = some ⟨oc__law_nest, od__law_nest, .func (PySem.W.fnOf "_law_nest" "_law_nest" (defArgs s__law_nest) (defBody s__law_nest) (defScope s__law_nest) .none kV__law_nest dc__law_nest pm__law_nest an__law_nest cd__law_nest ct__law_nest), sl__law_nest⟩)
    (c__law_nest : PySem.W.codeIn K cd__law_nest "_law_nest" = true)
    (k__law_nest : PySem.W.keepIn K (.ref f__law_nest) = true)
    (a__law_parts : PySem.W.nsIn K mainGlobals "_law_parts" = some (some (.ref f__law_parts)))
    (l__law_parts : K.lookup f__law_parts = some ⟨oc__law_parts, od__law_parts, .func (PySem.W.fnOf "_law_parts" "_law_parts" (defArgs s__law_parts) (defBody s__law_parts) (defScope s__law_parts) .none kV__law_parts dc__law_parts pm__law_parts an__law_parts cd__law_parts ct__law_parts), sl__law_parts⟩)
    (c__law_parts : PySem.W.codeIn K cd__law_parts "_law_parts" = true)
    (k__law_parts : PySem.W.keepIn K (.ref f__law_parts) = true)
    (a__law_draw : PySem.W.nsIn K mainGlobals "_law_draw" = some (some (.ref f__law_draw)))
    (l__law_draw : K.lookup f__law_draw = some ⟨oc__law_draw, od__law_draw, .func (PySem.W.fnOf "_law_draw" "_law_draw" (defArgs s__law_draw) (defBody s__law_draw) (defScope s__law_draw) .none kV__law_draw dc__law_draw pm__law_draw an__law_draw cd__law_draw ct__law_draw), sl__law_draw⟩)
    (c__law_draw : PySem.W.codeIn K cd__law_draw "_law_draw" = true)
    (k__law_draw : PySem.W.keepIn K (.ref f__law_draw) = true)
    (a__law_house_by : PySem.W.nsIn K mainGlobals "_law_house_by" = some (some (.ref f__law_house_by)))
    (l__law_house_by : K.lookup f__law_house_by = some ⟨oc__law_house_by, od__law_house_by, .func (PySem.W.fnOf "_law_house_by" "_law_house_by" (defArgs s__law_house_by) (defBody s__law_house_by) (defScope s__law_house_by) .none kV__law_house_by dc__law_house_by pm__law_house_by an__law_house_by cd__law_house_by ct__law_house_by), sl__law_house_by⟩)
    (c__law_house_by : PySem.W.codeIn K cd__law_house_by "_law_house_by" = true)
    (k__law_house_by : PySem.W.keepIn K (.ref f__law_house_by) = true)
    (a__law_works_by : PySem.W.nsIn K mainGlobals "_law_works_by" = some (some (.ref f__law_works_by)))
    (l__law_works_by : K.lookup f__law_works_by = some ⟨oc__law_works_by, od__law_works_by, .func (PySem.W.fnOf "_law_works_by" "_law_works_by" (defArgs s__law_works_by) (defBody s__law_works_by) (defScope s__law_works_by) .none kV__law_works_by dc__law_works_by pm__law_works_by an__law_works_by cd__law_works_by ct__law_works_by), sl__law_works_by⟩)
    (c__law_works_by : PySem.W.codeIn K cd__law_works_by "_law_works_by" = true)
    (k__law_works_by : PySem.W.keepIn K (.ref f__law_works_by) = true)
    (a__law_answer : PySem.W.nsIn K mainGlobals "_law_answer" = some (some (.ref f__law_answer)))
    (l__law_answer : K.lookup f__law_answer = some ⟨oc__law_answer, od__law_answer, .func (PySem.W.fnOf "_law_answer" "_law_answer" (defArgs s__law_answer) (defBody s__law_answer) (defScope s__law_answer) .none kV__law_answer dc__law_answer pm__law_answer an__law_answer cd__law_answer ct__law_answer), sl__law_answer⟩)
    (c__law_answer : PySem.W.codeIn K cd__law_answer "_law_answer" = true)
    (k__law_answer : PySem.W.keepIn K (.ref f__law_answer) = true)
    (a__law_accepted : PySem.W.nsIn K mainGlobals "_law_accepted" = some (some (.ref f__law_accepted)))
    (l__law_accepted : K.lookup f__law_accepted = some ⟨oc__law_accepted, od__law_accepted, .func (PySem.W.fnOf "_law_accepted" "_law_accepted" (defArgs s__law_accepted) (defBody s__law_accepted) (defScope s__law_accepted) .none kV__law_accepted dc__law_accepted pm__law_accepted an__law_accepted cd__law_accepted ct__law_accepted), sl__law_accepted⟩)
    (c__law_accepted : PySem.W.codeIn K cd__law_accepted "_law_accepted" = true)
    (k__law_accepted : PySem.W.keepIn K (.ref f__law_accepted) = true)
    (a__law_other_house : PySem.W.nsIn K mainGlobals "_law_other_house" = some (some (.ref f__law_other_house)))
    (l__law_other_house : K.lookup f__law_other_house = some ⟨oc__law_other_house, od__law_other_house, .func (PySem.W.fnOf "_law_other_house" "_law_other_house" (defArgs s__law_other_house) (defBody s__law_other_house) (defScope s__law_other_house) .none kV__law_other_house dc__law_other_house pm__law_other_house an__law_other_house cd__law_other_house ct__law_other_house), sl__law_other_house⟩)
    (c__law_other_house : PySem.W.codeIn K cd__law_other_house "_law_other_house" = true)
    (k__law_other_house : PySem.W.keepIn K (.ref f__law_other_house) = true)
    (a__law_spoiled : PySem.W.nsIn K mainGlobals "_law_spoiled" = some (some (.ref f__law_spoiled)))
    (l__law_spoiled : K.lookup f__law_spoiled = some ⟨oc__law_spoiled, od__law_spoiled, .func (PySem.W.fnOf "_law_spoiled" "_law_spoiled" (defArgs s__law_spoiled) (defBody s__law_spoiled) (defScope s__law_spoiled) .none kV__law_spoiled dc__law_spoiled pm__law_spoiled an__law_spoiled cd__law_spoiled ct__law_spoiled), sl__law_spoiled⟩)
    (c__law_spoiled : PySem.W.codeIn K cd__law_spoiled "_law_spoiled" = true)
    (k__law_spoiled : PySem.W.keepIn K (.ref f__law_spoiled) = true)
    (a__law_refused_works : PySem.W.nsIn K mainGlobals "_law_refused_works" = some (some (.ref f__law_refused_works)))
    (l__law_refused_works : K.lookup f__law_refused_works = some ⟨oc__law_refused_works, od__law_refused_works, .func (PySem.W.fnOf "_law_refused_works" "_law_refused_works" (defArgs s__law_refused_works) (defBody s__law_refused_works) (defScope s__law_refused_works) .none kV__law_refused_works dc__law_refused_works pm__law_refused_works an__law_refused_works cd__law_refused_works ct__law_refused_works), sl__law_refused_works⟩)
    (c__law_refused_works : PySem.W.codeIn K cd__law_refused_works "_law_refused_works" = true)
    (k__law_refused_works : PySem.W.keepIn K (.ref f__law_refused_works) = true)
    (a__law_refused_row : PySem.W.nsIn K mainGlobals "_law_refused_row" = some (some (.ref f__law_refused_row)))
    (l__law_refused_row : K.lookup f__law_refused_row = some ⟨oc__law_refused_row, od__law_refused_row, .func (PySem.W.fnOf "_law_refused_row" "_law_refused_row" (defArgs s__law_refused_row) (defBody s__law_refused_row) (defScope s__law_refused_row) .none kV__law_refused_row dc__law_refused_row pm__law_refused_row an__law_refused_row cd__law_refused_row ct__law_refused_row), sl__law_refused_row⟩)
    (c__law_refused_row : PySem.W.codeIn K cd__law_refused_row "_law_refused_row" = true)
    (k__law_refused_row : PySem.W.keepIn K (.ref f__law_refused_row) = true)
    (a__law_made : PySem.W.nsIn K mainGlobals "_law_made" = some (some (.ref f__law_made)))
    (l__law_made : K.lookup f__law_made = some ⟨oc__law_made, od__law_made, .func (PySem.W.fnOf "_law_made" "_law_made" (defArgs s__law_made) (defBody s__law_made) (defScope s__law_made) .none kV__law_made dc__law_made pm__law_made an__law_made cd__law_made ct__law_made), sl__law_made⟩)
    (c__law_made : PySem.W.codeIn K cd__law_made "_law_made" = true)
    (k__law_made : PySem.W.keepIn K (.ref f__law_made) = true)
    (a_law : PySem.W.nsIn K mainGlobals "law" = some (some (.ref f_law)))
    (l_law : K.lookup f_law = some ⟨oc_law, od_law, .func (PySem.W.fnOf "law" "law" (defArgs s_law) (defBody s_law) (defScope s_law) .none kV_law dc_law pm_law an_law cd_law ct_law), sl_law⟩)
    (c_law : PySem.W.codeIn K cd_law "law" = true)
    (k_law : PySem.W.keepIn K (.ref f_law) = true)
    (z_all : PySem.W.nsIn K mainGlobals "all" = some none)
    (z_bool : PySem.W.nsIn K mainGlobals "bool" = some none)
    (z_isinstance : PySem.W.nsIn K mainGlobals "isinstance" = some none)
    (z_len : PySem.W.nsIn K mainGlobals "len" = some none)
    (z_list : PySem.W.nsIn K mainGlobals "list" = some none)
    (z_max : PySem.W.nsIn K mainGlobals "max" = some none)
    (z_min : PySem.W.nsIn K mainGlobals "min" = some none)
    (z_range : PySem.W.nsIn K mainGlobals "range" = some none)
    (z_tuple : PySem.W.nsIn K mainGlobals "tuple" = some none)
    (m_AskError : PySem.W.nsIn K mainGlobals "AskError" = some (some (.ref C_AskError)))
    (m_BadHouse : PySem.W.nsIn K mainGlobals "BadHouse" = some (some (.ref C_BadHouse)))
    (m_BadWord : PySem.W.nsIn K mainGlobals "BadWord" = some (some (.ref C_BadWord)))
    (x_BadHouse : PySem.W.excIn K C_BadHouse bmV "ValueError.__new__" = true)
    (ga_BadHouse : PySem.W.findIn K (.ref C_BadHouse) "__getattribute__" = some (some (.builtin "BaseException.__getattribute__")))
    (hk_BadHouse : PySem.W.findIn K (.ref C_BadHouse) "__getattr__" = some none)
    {cd_BadHouse : ClassData}
    (cl_BadHouse : PySem.W.clsIn K C_BadHouse = some cd_BadHouse)
    (ca_BadHouse : PySem.W.findIn K (.ref C_BadHouse) "__class__" = some (some (.builtin "object.__class__")))
    (mo_BadHouse : PySem.W.mroIn K C_BadHouse (.type "object") = some true)
    (mb_BadHouse : PySem.W.mroIn K C_BadHouse (.type "BaseException") = some true)
    (e_BadHouse : PySem.W.exmOne K (.ref C_BadHouse) (.ref C_AskError) = some true)
    (v_BadHouse : PySem.W.kitOne K (.ref C_BadHouse) (.type "ValueError") = some true)
    (k_BadHouse_AskError : PySem.W.kitOne K (.ref C_BadHouse) (.ref C_AskError) = some true)
    (k_BadHouse_BadHouse : PySem.W.kitOne K (.ref C_BadHouse) (.ref C_BadHouse) = some true)
    (k_BadHouse_BadWord : PySem.W.kitOne K (.ref C_BadHouse) (.ref C_BadWord) = some false)
    (x_BadWord : PySem.W.excIn K C_BadWord bmV "ValueError.__new__" = true)
    (ga_BadWord : PySem.W.findIn K (.ref C_BadWord) "__getattribute__" = some (some (.builtin "BaseException.__getattribute__")))
    (hk_BadWord : PySem.W.findIn K (.ref C_BadWord) "__getattr__" = some none)
    {cd_BadWord : ClassData}
    (cl_BadWord : PySem.W.clsIn K C_BadWord = some cd_BadWord)
    (ca_BadWord : PySem.W.findIn K (.ref C_BadWord) "__class__" = some (some (.builtin "object.__class__")))
    (mo_BadWord : PySem.W.mroIn K C_BadWord (.type "object") = some true)
    (mb_BadWord : PySem.W.mroIn K C_BadWord (.type "BaseException") = some true)
    (e_BadWord : PySem.W.exmOne K (.ref C_BadWord) (.ref C_AskError) = some true)
    (v_BadWord : PySem.W.kitOne K (.ref C_BadWord) (.type "ValueError") = some true)
    (k_BadWord_AskError : PySem.W.kitOne K (.ref C_BadWord) (.ref C_AskError) = some true)
    (k_BadWord_BadHouse : PySem.W.kitOne K (.ref C_BadWord) (.ref C_BadHouse) = some false)
    (k_BadWord_BadWord : PySem.W.kitOne K (.ref C_BadWord) (.ref C_BadWord) = some true)
    (gs : PySem.W.specialIn K (.builtin "object.__class__") "__get__" = some (some (.builtin "getset_descriptor.__get__")))
    (tk : PySem.W.takesIn K (.builtin "object.__class__") = some true)
    : ∃ fd : FuncData, (∀ (s : Shared) (v : Value), BindsTo s fd ⟨[v], []⟩ [("script", v)]) /\ ∀ base : Heap, K.In base -> base.Ns mainGlobals mg -> FnOk l.prog w K mg base CX0 9 fa fd ["script"] (spLaw K) := by
  have e := hfa.symm.trans (PySem.W.mg_of X G a_law)
  cases e
  have T : Txt mg := ⟨PySem.W.mg_none_of X G z_all, PySem.W.mg_none_of X G z_bool, PySem.W.mg_none_of X G z_isinstance, PySem.W.mg_none_of X G z_len, PySem.W.mg_none_of X G z_list, PySem.W.mg_none_of X G z_max, PySem.W.mg_none_of X G z_min, PySem.W.mg_none_of X G z_range, PySem.W.mg_none_of X G z_tuple⟩
  have Z : Exs K mg C_AskError C_BadHouse C_BadWord := ⟨PySem.W.mg_of X G m_AskError, PySem.W.mg_of X G m_BadHouse, PySem.W.mg_of X G m_BadWord, x_BadHouse, ⟨ga_BadHouse, hk_BadHouse, by rw [cl_BadHouse]; rfl, ca_BadHouse, gs, tk, mo_BadHouse, mb_BadHouse⟩, e_BadHouse, v_BadHouse, k_BadHouse_AskError, k_BadHouse_BadHouse, k_BadHouse_BadWord, x_BadWord, ⟨ga_BadWord, hk_BadWord, by rw [cl_BadWord]; rfl, ca_BadWord, gs, tk, mo_BadWord, mb_BadWord⟩, e_BadWord, v_BadWord, k_BadWord_AskError, k_BadWord_BadHouse, k_BadWord_BadWord⟩
  have W : Own K mg := ⟨⟨_, PySem.W.mg_of X G q_MOST_HELPERS⟩, ⟨_, PySem.W.mg_of X G q_MOST_PLAIN⟩, ⟨_, PySem.W.mg_of X G q_MOST_ROOMS_OF_HELPER⟩⟩
  have F_is_word := fun_mk (st := s_is_word) l_is_word c_is_word k_is_word
  have b_is_word := F_is_word.binds (ps := ["letters", "word"]) fun _ _ _ _ _ _ us hl => match us, hl with | [_, _], _ => rfl
  have m_is_word := PySem.W.mg_of X G a_is_word
  have F_check_word := fun_mk (st := s_check_word) l_check_word c_check_word k_check_word
  have b_check_word := F_check_word.binds (ps := ["letters", "word"]) fun _ _ _ _ _ _ us hl => match us, hl with | [_, _], _ => rfl
  have m_check_word := PySem.W.mg_of X G a_check_word
  have F_trail := fun_mk (st := s_trail) l_trail c_trail k_trail
  have b_trail := F_trail.binds (ps := ["house", "word"]) fun _ _ _ _ _ _ us hl => match us, hl with | [_, _], _ => rfl
  have m_trail := PySem.W.mg_of X G a_trail
  have F_room_behind := fun_mk (st := s_room_behind) l_room_behind c_room_behind k_room_behind
  have b_room_behind := F_room_behind.binds (ps := ["house", "word"]) fun _ _ _ _ _ _ us hl => match us, hl with | [_, _], _ => rfl
  have m_room_behind := PySem.W.mg_of X G a_room_behind
  have F_mark_behind := fun_mk (st := s_mark_behind) l_mark_behind c_mark_behind k_mark_behind
  have b_mark_behind := F_mark_behind.binds (ps := ["house", "word"]) fun _ _ _ _ _ _ us hl => match us, hl with | [_, _], _ => rfl
  have m_mark_behind := PySem.W.mg_of X G a_mark_behind
  have F_end_sign := fun_mk (st := s_end_sign) l_end_sign c_end_sign k_end_sign
  have b_end_sign := F_end_sign.binds (ps := ["plain", "helpers"]) fun _ _ _ _ _ _ us hl => match us, hl with | [_, _], _ => rfl
  have m_end_sign := PySem.W.mg_of X G a_end_sign
  have F_nested := fun_mk (st := s_nested) l_nested c_nested k_nested
  have b_nested := F_nested.binds (ps := ["plain", "helpers", "signs"]) fun _ _ _ _ _ _ us hl => match us, hl with | [_, _, _], _ => rfl
  have m_nested := PySem.W.mg_of X G a_nested
  have F_check_nested := fun_mk (st := s_check_nested) l_check_nested c_check_nested k_check_nested
  have b_check_nested := F_check_nested.binds (ps := ["plain", "helpers", "signs"]) fun _ _ _ _ _ _ us hl => match us, hl with | [_, _, _], _ => rfl
  have m_check_nested := PySem.W.mg_of X G a_check_nested
  have F_parts := fun_mk (st := s_parts) l_parts c_parts k_parts
  have b_parts := F_parts.binds (ps := ["plain", "helpers", "signs"]) fun _ _ _ _ _ _ us hl => match us, hl with | [_, _, _], _ => rfl
  have m_parts := PySem.W.mg_of X G a_parts
  have F_made_works := fun_mk (st := s_made_works) l_made_works c_made_works k_made_works
  have b_made_works := F_made_works.binds (ps := ["plain", "houses"]) fun _ _ _ _ _ _ us hl => match us, hl with | [_, _], _ => rfl
  have m_made_works := PySem.W.mg_of X G a_made_works
  have F_takes_part := fun_mk (st := s_takes_part) l_takes_part c_takes_part k_takes_part
  have b_takes_part := F_takes_part.binds (ps := ["works", "part"]) fun _ _ _ _ _ _ us hl => match us, hl with | [_, _], _ => rfl
  have m_takes_part := PySem.W.mg_of X G a_takes_part
  have F_takes := fun_mk (st := s_takes) l_takes c_takes k_takes
  have b_takes := F_takes.binds (ps := ["works", "signs"]) fun _ _ _ _ _ _ us hl => match us, hl with | [_, _], _ => rfl
  have m_takes := PySem.W.mg_of X G a_takes
  have F__law_cell_at := fun_mk (st := s__law_cell_at) l__law_cell_at c__law_cell_at k__law_cell_at
  have b__law_cell_at := F__law_cell_at.binds (ps := ["script", "k"]) fun _ _ _ _ _ _ us hl => match us, hl with | [_, _], _ => rfl
  have m__law_cell_at := PySem.W.mg_of X G a__law_cell_at
  have F__law_nest := fun_mk (st := s__law_nest) l__law_nest c__law_nest k__law_nest
  have b__law_nest := F__law_nest.binds (ps := ["flow", "plain", "helpers"]) fun _ _ _ _ _ _ us hl => match us, hl with | [_, _, _], _ => rfl
  have m__law_nest := PySem.W.mg_of X G a__law_nest
  have F__law_parts := fun_mk (st := s__law_parts) l__law_parts c__law_parts k__law_parts
  have b__law_parts := F__law_parts.binds (ps := ["plain", "helpers", "signs", "top"]) fun _ _ _ _ _ _ us hl => match us, hl with | [_, _, _, _], _ => rfl
  have m__law_parts := PySem.W.mg_of X G a__law_parts
  have F__law_draw := fun_mk (st := s__law_draw) l__law_draw c__law_draw k__law_draw
  have b__law_draw := F__law_draw.binds (ps := ["flow", "k", "many"]) fun _ _ _ _ _ _ us hl => match us, hl with | [_, _, _], _ => rfl
  have m__law_draw := PySem.W.mg_of X G a__law_draw
  have F__law_house_by := fun_mk (st := s__law_house_by) l__law_house_by c__law_house_by k__law_house_by
  have b__law_house_by := F__law_house_by.binds (ps := ["flow", "at", "letters"]) fun _ _ _ _ _ _ us hl => match us, hl with | [_, _, _], _ => rfl
  have m__law_house_by := PySem.W.mg_of X G a__law_house_by
  have F__law_works_by := fun_mk (st := s__law_works_by) l__law_works_by c__law_works_by k__law_works_by
  have b__law_works_by := F__law_works_by.binds (ps := ["flow", "plain", "helpers"]) fun _ _ _ _ _ _ us hl => match us, hl with | [_, _, _], _ => rfl
  have m__law_works_by := PySem.W.mg_of X G a__law_works_by
  have F__law_answer := fun_mk (st := s__law_answer) l__law_answer c__law_answer k__law_answer
  have b__law_answer := F__law_answer.binds (ps := ["house", "word"]) fun _ _ _ _ _ _ us hl => match us, hl with | [_, _], _ => rfl
  have m__law_answer := PySem.W.mg_of X G a__law_answer
  have F__law_accepted := fun_mk (st := s__law_accepted) l__law_accepted c__law_accepted k__law_accepted
  have b__law_accepted := F__law_accepted.binds (ps := ["works", "signs", "top"]) fun _ _ _ _ _ _ us hl => match us, hl with | [_, _, _], _ => rfl
  have m__law_accepted := PySem.W.mg_of X G a__law_accepted
  have F__law_other_house := fun_mk (st := s__law_other_house) l__law_other_house c__law_other_house k__law_other_house
  have b__law_other_house := F__law_other_house.binds (ps := ["letters", "rooms"]) fun _ _ _ _ _ _ us hl => match us, hl with | [_, _], _ => rfl
  have m__law_other_house := PySem.W.mg_of X G a__law_other_house
  have F__law_spoiled := fun_mk (st := s__law_spoiled) l__law_spoiled c__law_spoiled k__law_spoiled
  have b__law_spoiled := F__law_spoiled.binds (ps := ["plain", "helpers", "houses", "cell"]) fun _ _ _ _ _ _ us hl => match us, hl with | [_, _, _, _], _ => rfl
  have m__law_spoiled := PySem.W.mg_of X G a__law_spoiled
  have F__law_refused_works := fun_mk (st := s__law_refused_works) l__law_refused_works c__law_refused_works k__law_refused_works
  have b__law_refused_works := F__law_refused_works.binds (ps := ["plain", "houses"]) fun _ _ _ _ _ _ us hl => match us, hl with | [_, _], _ => rfl
  have m__law_refused_works := PySem.W.mg_of X G a__law_refused_works
  have F__law_refused_row := fun_mk (st := s__law_refused_row) l__law_refused_row c__law_refused_row k__law_refused_row
  have b__law_refused_row := F__law_refused_row.binds (ps := ["works", "signs"]) fun _ _ _ _ _ _ us hl => match us, hl with | [_, _], _ => rfl
  have m__law_refused_row := PySem.W.mg_of X G a__law_refused_row
  have F__law_made := fun_mk (st := s__law_made) l__law_made c__law_made k__law_made
  have b__law_made := F__law_made.binds (ps := ["plain", "houses"]) fun _ _ _ _ _ _ us hl => match us, hl with | [_, _], _ => rfl
  have m__law_made := PySem.W.mg_of X G a__law_made
  have F_law := fun_mk (st := s_law) l_law c_law k_law
  have b_law := F_law.binds (ps := ["script"]) fun _ _ _ _ _ _ us hl => match us, hl with | [_], _ => rfl
  have m_law := PySem.W.mg_of X G a_law
  refine ⟨PySem.W.fnOf "law" "law" (defArgs s_law) (defBody s_law) (defScope s_law) .none kV_law dc_law pm_law an_law cd_law ct_law, fun s v => .of_eq rfl, fun base _ _ => ?_⟩
  have g_is_word := ok_is_word (P := l.prog) (w := w) (base := base) F_is_word T W Z 
  have g_check_word := ok_check_word (P := l.prog) (w := w) (base := base) F_check_word T W Z g_is_word F_is_word b_is_word m_is_word
  have g_trail := ok_trail (P := l.prog) (w := w) (base := base) F_trail T W Z g_check_word F_check_word b_check_word m_check_word
  have g_room_behind := ok_room_behind (P := l.prog) (w := w) (base := base) F_room_behind T W Z g_trail F_trail b_trail m_trail
  have g_mark_behind := ok_mark_behind (P := l.prog) (w := w) (base := base) F_mark_behind T W Z g_room_behind F_room_behind b_room_behind m_room_behind
  have g_end_sign := ok_end_sign (P := l.prog) (w := w) (base := base) F_end_sign T W Z 
  have g_nested := ok_nested (P := l.prog) (w := w) (base := base) F_nested T W Z g_end_sign F_end_sign b_end_sign m_end_sign
  have g_check_nested := ok_check_nested (P := l.prog) (w := w) (base := base) F_check_nested T W Z g_nested F_nested b_nested m_nested
  have g_parts := ok_parts (P := l.prog) (w := w) (base := base) F_parts T W Z g_end_sign F_end_sign b_end_sign m_end_sign g_check_nested F_check_nested b_check_nested m_check_nested
  have g_made_works := ok_made_works (P := l.prog) (w := w) (base := base) F_made_works T W Z 
  have g_takes_part := ok_takes_part (P := l.prog) (w := w) (base := base) F_takes_part T W Z g_mark_behind F_mark_behind b_mark_behind m_mark_behind
  have g_takes := ok_takes (P := l.prog) (w := w) (base := base) F_takes T W Z g_parts F_parts b_parts m_parts g_takes_part F_takes_part b_takes_part m_takes_part
  have g__law_cell_at := ok__law_cell_at (P := l.prog) (w := w) (base := base) F__law_cell_at T W Z 
  have g__law_nest := ok__law_nest (P := l.prog) (w := w) (base := base) F__law_nest T W Z 
  have g__law_parts := ok__law_parts (P := l.prog) (w := w) (base := base) F__law_parts T W Z 
  have g__law_draw := ok__law_draw (P := l.prog) (w := w) (base := base) F__law_draw T W Z 
  have g__law_house_by := ok__law_house_by (P := l.prog) (w := w) (base := base) F__law_house_by T W Z g__law_draw F__law_draw b__law_draw m__law_draw
  have g__law_works_by := ok__law_works_by (P := l.prog) (w := w) (base := base) F__law_works_by T W Z g__law_house_by F__law_house_by b__law_house_by m__law_house_by
  have g__law_answer := ok__law_answer (P := l.prog) (w := w) (base := base) F__law_answer T W Z 
  have g__law_accepted := ok__law_accepted (P := l.prog) (w := w) (base := base) F__law_accepted T W Z g__law_parts F__law_parts b__law_parts m__law_parts g__law_answer F__law_answer b__law_answer m__law_answer
  have g__law_other_house := ok__law_other_house (P := l.prog) (w := w) (base := base) F__law_other_house T W Z 
  have g__law_spoiled := ok__law_spoiled (P := l.prog) (w := w) (base := base) F__law_spoiled T W Z g__law_other_house F__law_other_house b__law_other_house m__law_other_house
  have g__law_refused_works := ok__law_refused_works (P := l.prog) (w := w) (base := base) F__law_refused_works T W Z g_made_works F_made_works b_made_works m_made_works
  have g__law_refused_row := ok__law_refused_row (P := l.prog) (w := w) (base := base) F__law_refused_row T W Z g_takes F_takes b_takes m_takes
  have g__law_made := ok__law_made (P := l.prog) (w := w) (base := base) F__law_made T W Z g_made_works F_made_works b_made_works m_made_works
  have g_law := ok_law (P := l.prog) (w := w) (base := base) F_law T W Z g_takes F_takes b_takes m_takes g__law_cell_at F__law_cell_at b__law_cell_at m__law_cell_at g__law_nest F__law_nest b__law_nest m__law_nest g__law_works_by F__law_works_by b__law_works_by m__law_works_by g__law_accepted F__law_accepted b__law_accepted m__law_accepted g__law_spoiled F__law_spoiled b__law_spoiled m__law_spoiled g__law_refused_works F__law_refused_works b__law_refused_works m__law_refused_works g__law_refused_row F__law_refused_row b__law_refused_row m__law_refused_row g__law_made F__law_made b__law_made m__law_made
  exact g_law
theorem walk {l : PySem.W.OpenLaw} {q : Program} {loose : List Str} {XP : (Str -> Option Value) -> Heap -> Prop} {YP : World -> Heap -> Prop} {d : DefRec} {K : Params -> PySem.W.Frag} (hn : l.most = some 63) (hdf : d.params.defaults = [])
    (hY : ∀ (w : World) (h : Heap), YP w h -> (K w.params).In h)
    (F : ∀ (w : World) (mg : Str -> Option Value) (fa : Addr) (h : Heap), (K w.params).In h -> h.Ns mainGlobals mg -> mg d.name = some (.ref fa) ->
      ∃ fd : FuncData, (∀ (s : Shared) (u : Value), BindsTo s fd ⟨[u], []⟩ [("script", u)]) /\ ∀ base : Heap, (K w.params).In base -> base.Ns mainGlobals mg -> FnOk l.prog w (K w.params) mg base CX0 9 fa fd ["script"] (spLaw (K w.params))) :
    PySem.W.WalkO q loose XP YP l.row.toRowW d [] (fun f vs => PySem.call f vs) :=
  L2.walk_of (n := 63) (k := 9) (x := "script") (CX := fun _ => CX0) (sp := fun w => spLaw (K w.params)) hn (by decide) hdf ⟨rfl, by decide, by decide⟩ hY F (fun _ _ a ns hl _ hS => ⟨a, ns, rfl, hS, hl, fun _ => rfl⟩) fun _ _ _ _ _ z => z
end Mine
open PySem PySem.W PyProof.Rows
set_option maxRecDepth 100000 in
set_option maxHeartbeats 0 in
theorem PySem.Challenge.cw_guessroom_k79_rows_taken_holds : PySem.Challenge.rw_guessroom_k79_rows_taken.Holds := by
  w_on; o_law; k_head; (case hw => w_witness2)
  k_fill
  refine Mine.walk (l := PySem.Challenge.rw_guessroom_k79_rows_taken) rfl rfl (fun w h Y => PySem.W.kIn_of Y) ?F
  case F =>
    intro w mg fa h KX G hmg
    refine' Mine.all_mk KX G hmg ?q_MOST_HELPERS ?q_MOST_PLAIN ?q_MOST_ROOMS_OF_HELPER ?a_is_word ?l_is_word ?c_is_word ?k_is_word ?a_check_word ?l_check_word ?c_check_word ?k_check_word ?a_trail ?l_trail ?c_trail ?k_trail ?a_room_behind ?l_room_behind ?c_room_behind ?k_room_behind ?a_mark_behind ?l_mark_behind ?c_mark_behind ?k_mark_behind ?a_end_sign ?l_end_sign ?c_end_sign ?k_end_sign ?a_nested ?l_nested ?c_nested ?k_nested ?a_check_nested ?l_check_nested ?c_check_nested ?k_check_nested ?a_parts ?l_parts ?c_parts ?k_parts ?a_made_works ?l_made_works ?c_made_works ?k_made_works ?a_takes_part ?l_takes_part ?c_takes_part ?k_takes_part ?a_takes ?l_takes ?c_takes ?k_takes ?a__law_cell_at ?l__law_cell_at ?c__law_cell_at ?k__law_cell_at ?a__law_nest ?l__law_nest ?c__law_nest ?k__law_nest ?a__law_parts ?l__law_parts ?c__law_parts ?k__law_parts ?a__law_draw ?l__law_draw ?c__law_draw ?k__law_draw ?a__law_house_by ?l__law_house_by ?c__law_house_by ?k__law_house_by ?a__law_works_by ?l__law_works_by ?c__law_works_by ?k__law_works_by ?a__law_answer ?l__law_answer ?c__law_answer ?k__law_answer ?a__law_accepted ?l__law_accepted ?c__law_accepted ?k__law_accepted ?a__law_other_house ?l__law_other_house ?c__law_other_house ?k__law_other_house ?a__law_spoiled ?l__law_spoiled ?c__law_spoiled ?k__law_spoiled ?a__law_refused_works ?l__law_refused_works ?c__law_refused_works ?k__law_refused_works ?a__law_refused_row ?l__law_refused_row ?c__law_refused_row ?k__law_refused_row ?a__law_made ?l__law_made ?c__law_made ?k__law_made ?a_law ?l_law ?c_law ?k_law ?z_all ?z_bool ?z_isinstance ?z_len ?z_list ?z_max ?z_min ?z_range ?z_tuple ?m_AskError ?m_BadHouse ?m_BadWord ?x_BadHouse ?ga_BadHouse ?hk_BadHouse ?cl_BadHouse ?ca_BadHouse ?mo_BadHouse ?mb_BadHouse ?e_BadHouse ?v_BadHouse ?k_BadHouse_AskError ?k_BadHouse_BadHouse ?k_BadHouse_BadWord ?x_BadWord ?ga_BadWord ?hk_BadWord ?cl_BadWord ?ca_BadWord ?mo_BadWord ?mb_BadWord ?e_BadWord ?v_BadWord ?k_BadWord_AskError ?k_BadWord_BadHouse ?k_BadWord_BadWord ?gs ?tk
    (case q_MOST_HELPERS => k_is)
    (case q_MOST_PLAIN => k_is)
    (case q_MOST_ROOMS_OF_HELPER => k_is)
    (case a_is_word => k_is)
    (case l_is_word => k_is)
    (case c_is_word => k_is)
    (case k_is_word => k_is)
    (case a_check_word => k_is)
    (case l_check_word => k_is)
    (case c_check_word => k_is)
    (case k_check_word => k_is)
    (case a_trail => k_is)
    (case l_trail => k_is)
    (case c_trail => k_is)
    (case k_trail => k_is)
    (case a_room_behind => k_is)
    (case l_room_behind => k_is)
    (case c_room_behind => k_is)
    (case k_room_behind => k_is)
    (case a_mark_behind => k_is)
    (case l_mark_behind => k_is)
    (case c_mark_behind => k_is)
    (case k_mark_behind => k_is)
    (case a_end_sign => k_is)
    (case l_end_sign => k_is)
    (case c_end_sign => k_is)
    (case k_end_sign => k_is)
    (case a_nested => k_is)
    (case l_nested => k_is)
    (case c_nested => k_is)
    (case k_nested => k_is)
    (case a_check_nested => k_is)
    (case l_check_nested => k_is)
    (case c_check_nested => k_is)
    (case k_check_nested => k_is)
    (case a_parts => k_is)
    (case l_parts => k_is)
    (case c_parts => k_is)
    (case k_parts => k_is)
    (case a_made_works => k_is)
    (case l_made_works => k_is)
    (case c_made_works => k_is)
    (case k_made_works => k_is)
    (case a_takes_part => k_is)
    (case l_takes_part => k_is)
    (case c_takes_part => k_is)
    (case k_takes_part => k_is)
    (case a_takes => k_is)
    (case l_takes => k_is)
    (case c_takes => k_is)
    (case k_takes => k_is)
    (case a__law_cell_at => k_is)
    (case l__law_cell_at => k_is)
    (case c__law_cell_at => k_is)
    (case k__law_cell_at => k_is)
    (case a__law_nest => k_is)
    (case l__law_nest => k_is)
    (case c__law_nest => k_is)
    (case k__law_nest => k_is)
    (case a__law_parts => k_is)
    (case l__law_parts => k_is)
    (case c__law_parts => k_is)
    (case k__law_parts => k_is)
    (case a__law_draw => k_is)
    (case l__law_draw => k_is)
    (case c__law_draw => k_is)
    (case k__law_draw => k_is)
    (case a__law_house_by => k_is)
    (case l__law_house_by => k_is)
    (case c__law_house_by => k_is)
    (case k__law_house_by => k_is)
    (case a__law_works_by => k_is)
    (case l__law_works_by => k_is)
    (case c__law_works_by => k_is)
    (case k__law_works_by => k_is)
    (case a__law_answer => k_is)
    (case l__law_answer => k_is)
    (case c__law_answer => k_is)
    (case k__law_answer => k_is)
    (case a__law_accepted => k_is)
    (case l__law_accepted => k_is)
    (case c__law_accepted => k_is)
    (case k__law_accepted => k_is)
    (case a__law_other_house => k_is)
    (case l__law_other_house => k_is)
    (case c__law_other_house => k_is)
    (case k__law_other_house => k_is)
    (case a__law_spoiled => k_is)
    (case l__law_spoiled => k_is)
    (case c__law_spoiled => k_is)
    (case k__law_spoiled => k_is)
    (case a__law_refused_works => k_is)
    (case l__law_refused_works => k_is)
    (case c__law_refused_works => k_is)
    (case k__law_refused_works => k_is)
    (case a__law_refused_row => k_is)
    (case l__law_refused_row => k_is)
    (case c__law_refused_row => k_is)
    (case k__law_refused_row => k_is)
    (case a__law_made => k_is)
    (case l__law_made => k_is)
    (case c__law_made => k_is)
    (case k__law_made => k_is)
    (case a_law => k_is)
    (case l_law => k_is)
    (case c_law => k_is)
    (case k_law => k_is)
    (case z_all => k_is)
    (case z_bool => k_is)
    (case z_isinstance => k_is)
    (case z_len => k_is)
    (case z_list => k_is)
    (case z_max => k_is)
    (case z_min => k_is)
    (case z_range => k_is)
    (case z_tuple => k_is)
    (case m_AskError => k_is)
    (case m_BadHouse => k_is)
    (case m_BadWord => k_is)
    (case x_BadHouse => k_exc)
    (case ga_BadHouse => k_is)
    (case hk_BadHouse => k_is)
    (case cl_BadHouse => k_is)
    (case ca_BadHouse => k_is)
    (case mo_BadHouse => k_is)
    (case mb_BadHouse => k_is)
    (case e_BadHouse => kts_exm)
    (case v_BadHouse => kit_is)
    (case k_BadHouse_AskError => kit_is)
    (case k_BadHouse_BadHouse => kit_is)
    (case k_BadHouse_BadWord => kit_is)
    (case x_BadWord => k_exc)
    (case ga_BadWord => k_is)
    (case hk_BadWord => k_is)
    (case cl_BadWord => k_is)
    (case ca_BadWord => k_is)
    (case mo_BadWord => k_is)
    (case mb_BadWord => k_is)
    (case e_BadWord => kts_exm)
    (case v_BadWord => kit_is)
    (case k_BadWord_AskError => kit_is)
    (case k_BadWord_BadHouse => kit_is)
    (case k_BadWord_BadWord => kit_is)
    (case gs => k_is)
    (case tk => k_is)
