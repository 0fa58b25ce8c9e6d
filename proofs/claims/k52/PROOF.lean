import PyProof.Rows.All
import Wide.All
import OpenK.AllK
import Wide.FinOn
import Lean
import PyProof.EqAt
import PyProof.EqKinds
import PyProof.TupleCall
import KE.KRevIter
import PyProof.ListRange
import PyProof.TupleOfGen
import PyProof.Draws
import PyProof.EnumMake
import PyProof.EnumFor
import PyProof.NeKinds
import KE.KDictList
import PyProof.Rows.TupDisplay
import PyProof.ZipIter
import PyProof.Rows.ZipGen
import KE.KItemsList
import PyProof.Rows.SumAny
import PySem.Challenge.RW_guessroom_k52_says_made
set_option Elab.async false
set_option linter.all false
set_option maxRecDepth 100000
namespace L2
open PySem PySem.Spec PyProof.Rows
abbrev Key := Sum Int Str
def keyIs : Key -> Value -> Bool
  | .inl k, v => Value.isInt k v
  | .inr x, v => Value.isStrOf x v
def keyH (w : World) : Key -> Int
  | .inl k => hashInt k
  | .inr x => hashStr w x
theorem keyIs_shape : ∀ {k : Key} {v : Value}, keyIs k v = true -> (∃ i t, k = Sum.inl i /\ v = Value.int i t) \/ (∃ x t, k = Sum.inr x /\ v = Value.str x t)
  | .inl i, v, h => by
    obtain ⟨t, e⟩ := Value.isInt_shape (k := i) (v := v) h
    exact .inl ⟨i, t, rfl, e⟩
  | .inr x, v, h => by
    obtain ⟨t, e⟩ := Value.isStrOf_shape (x := x) (v := v) h
    exact .inr ⟨x, t, rfl, e⟩
theorem key_ll (a b : Int) : decide ((Sum.inl a : Key) = Sum.inl b) = (a == b) := by
  by_cases e : a = b
  . subst e; simp
  . have h : ¬ (Sum.inl a : Key) = Sum.inl b := fun q => e (Sum.inl.inj q)
    rw [decide_eq_false h]
    exact (beq_eq_false_iff_ne.mpr e).symm
theorem key_rr (a b : Str) : decide ((Sum.inr a : Key) = Sum.inr b) = decide (a = b) := by
  by_cases e : a = b
  . subst e; simp
  . have h : ¬ (Sum.inr a : Key) = Sum.inr b := fun q => e (Sum.inr.inj q)
    rw [decide_eq_false h, decide_eq_false e]
theorem key_lr (a : Int) (b : Str) : decide ((Sum.inl a : Key) = Sum.inr b) = false := decide_eq_false (fun q => nomatch q)
theorem key_rl (a : Str) (b : Int) : decide ((Sum.inr a : Key) = Sum.inl b) = false := decide_eq_false (fun q => nomatch q)
def mixKind (prog : Program) (w : World) : PySem.KeyKind prog w Key where
  is := keyIs
  hash := keyH w
  inj := fun v a b ha hb => by
    rcases keyIs_shape ha with ⟨i, t, rfl, rfl⟩ | ⟨x, t, rfl, rfl⟩
    . rcases keyIs_shape hb with ⟨j, u, rfl, e⟩ | ⟨y, u, rfl, e⟩
      . injection e with e1 _; rw [e1]
      . exact nomatch e
    . rcases keyIs_shape hb with ⟨j, u, rfl, e⟩ | ⟨y, u, rfl, e⟩
      . exact nomatch e
      . injection e with e1 _; rw [e1]
  byValue := fun k v h => by
    rcases keyIs_shape h with ⟨i, t, rfl, rfl⟩ | ⟨x, t, rfl, rfl⟩ <;> rfl
  pyHash := fun hv h => by
    rcases keyIs_shape hv with ⟨i, t, rfl, rfl⟩ | ⟨x, t, rfl, rfl⟩
    . exact wpAny_pyHash_int h
    . exact wpAny_pyHash_str h
  eqBool := fun hu hv h => by
    rcases keyIs_shape hu with ⟨i, t, rfl, rfl⟩ | ⟨x, t, rfl, rfl⟩
    . rcases keyIs_shape hv with ⟨j, u, rfl, rfl⟩ | ⟨y, u, rfl, rfl⟩
      . rw [key_ll] at h; exact wpAny_eqBool_int h
      . rw [key_lr] at h; exact SeqAt.EqAt.int_str i t y u _ _ _ _ h
    . rcases keyIs_shape hv with ⟨j, u, rfl, rfl⟩ | ⟨y, u, rfl, rfl⟩
      . rw [key_rl] at h; exact SeqAt.EqAt.str_int x t j u _ _ _ _ h
      . rw [key_rr] at h; exact wpAny_eqBool_str h
  «strs» := fun k x t v h => by
    rcases keyIs_shape h with ⟨i, u, rfl, e⟩ | ⟨y, u, rfl, e⟩
    . exact nomatch e
    . injection e with e1 _
      subst e1
      cases v <;> rfl
end L2
namespace L2
open PySem PySem.Spec PyProof.Rows
inductive V where
  | non | bl (b : Bool) | int (i : Int) | str (x : Str) | byt (b : Array UInt8) | flt (b : UInt64) | ref (a : Addr) | ty (n : String)
  deriving DecidableEq
def RelV : V -> Value -> Prop
  | .non, u => u = Value.none
  | .bl b, u => u = Value.bool b
  | .int i, u => ∃ t, u = Value.int i t
  | .str x, u => ∃ t, u = Value.str x t
  | .byt b, u => ∃ t, u = Value.bytes b t
  | .flt b, u => ∃ t, u = Value.float b t
  | .ref a, u => u = Value.ref a
  | .ty n, u => u = Value.type n
abbrev Vals : List V -> List Value -> Prop := Paired RelV
theorem Vals.length {xs : List V} {us : List Value} (r : Vals xs us) : xs.length = us.length := Paired.length r
theorem Vals.get : ∀ {xs : List V} {us : List Value} {i : Nat} {x : V}, Vals xs us -> xs[i]? = some x -> ∃ u, us[i]? = some u /\ RelV x u
  | _, _, _, _, .nil, e => by simp at e
  | _, _, 0, _, .cons r _, e => by simp at e; subst e; exact ⟨_, rfl, r⟩
  | _, _, i + 1, x, .cons _ t, e => by
    obtain ⟨u, h1, h2⟩ := Vals.get (i := i) (x := x) t (by simpa using e)
    exact ⟨u, by simpa using h1, h2⟩
theorem Vals.set {x : V} {u : Value} (r : RelV x u) : ∀ {xs : List V} {us : List Value} (i : Nat), Vals xs us -> Vals (xs.set i x) (us.set i u)
  | _, _, _, .nil => .nil
  | _, _, 0, .cons _ t => .cons r t
  | _, _, i + 1, .cons q t => .cons q (Vals.set r i t)
theorem Vals.append : ∀ {xs ys : List V} {us ws : List Value}, Vals xs us -> Vals ys ws -> Vals (xs ++ ys) (us ++ ws)
  | _, _, _, _, .nil, s => s
  | _, _, _, _, .cons r t, s => .cons r (Vals.append t s)
def RelO : Option V -> Option Value -> Prop
  | some v, some u => RelV v u
  | none, none => True
  | _, _ => False
def KV {κ : Type} : List (κ × V) -> List (κ × Value) -> Prop := Paired fun (p : κ × V) (q : κ × Value) => p.1 = q.1 /\ RelV p.2 q.2
def kV : Key -> V
  | .inl i => .int i
  | .inr x => .str x
inductive HO where
  /-- a list -/
  | lst (xs : List V)
  /-- a tuple (never changes) -/
  | tup (xs : List V)
  /-- a dict whose keys are ints and texts; one whose keys are tuples of ints and texts (the empty one is both) -/
  | dK (kvs : List (Key × V)) | dT (kvs : List (List Key × V))
  /-- a set of ints: its members, its size -/
  | set (S : Int -> Bool) (n : Nat)
  /-- an instance of the class at C, its dict at dx, its attributes -/
  | ins (C dx : Addr) (fs : List (Str × V))
  /-- the dict of the instance at x -/
  | own (x : Addr)
  /-- the dict of an exception -/
  | xd (fs : List (Str × V))
  /-- a bound method, f of x -/
  | met (f x : Addr)
  /-- a range object lo, lo + 1, .. below hi -/
  | rng (lo hi : Int)
  /-- a thing that is known to the object (the script; a dict while a loop walks it): read, never written while it is so -/
  | frz (o : Obj) (u : HO)
  /-- a code object's table -/
  | tbl (ps : Array Value)
  /-- any other thing, by what is true of its one object (a def of one's own: SetO a S n := HO.ext fun h => ..) -/
  | ext (φ : Heap -> Prop)
abbrev Hp := Addr -> Option HO
def upd (H : Hp) (a : Addr) (o : HO) : Hp := fun b => if b = a then some o else H b
theorem upd_same {H : Hp} {a : Addr} {o : HO} : upd H a o a = some o := by unfold upd; rw [if_pos rfl]
theorem upd_ne {H : Hp} {a b : Addr} {o : HO} (h : b ≠ a) : upd H a o b = H b := by unfold upd; rw [if_neg h]
theorem ne_of_none {H : Hp} {a b : Addr} {o : HO} (h : H a = some o) (h' : H b = none) : a ≠ b := by
  intro e; subst e; rw [h] at h'; cases h'
section
variable (P : Program) (w : World)
def ObjOk (H : Hp) (h : Heap) (a : Addr) : HO -> Prop
  | .lst xs => xs.length <= sizeLine /\ ∃ (its : List Value) (n : Nat), Vals xs its /\ h.get? a = some { cls := .type "list", data := .seq its.toArray n }
  | .tup xs => xs.length <= sizeLine /\ ∃ its : List Value, Vals xs its /\ IsTup h a its.toArray
  | .dK kvs => kvs.length <= sizeLine /\ (a == sysModules) = false /\ ∃ vs, KV kvs vs /\ h.DictOf (mixKind P w) a vs
  | .dT kvs => kvs.length <= sizeLine /\ (a == sysModules) = false /\ ∃ xs : List (List Key × Addr × Value),
      Paired (fun (p : List Key × V) (q : List Key × Addr × Value) => p.1 = q.1 /\ H q.2.1 = some (.tup (p.1.map kV)) /\ RelV p.2 q.2.2) kvs xs /\
      ∃ o es ep, h.get? a = some o /\ o.ExactDict /\ o.data = .dict es ep /\ es.toList = xs.map (entryOfKey (tupleKind (mixKind P w))) /\ (xs.map (·.1)).Nodup
  | .set S n => h.SetOf (intKind P w) a S n
  | .ins C dx fs => H dx = some (.own a) /\ fs.length <= 1000 /\ dx ≠ a /\ h.get? a = some (PySem.W.instObj C dx) /\
      ∃ mA, h.Ns1 dx mA /\ (∀ f, RelO (fs.lookup f) (mA f)) /\ PySem.Within mA (fs.map (·.1))
  | .own _ => ∃ o, h.get? a = some o
  | .xd fs => ∃ mA, h.Ns1 a mA /\ ∀ f, RelO (fs.lookup f) (mA f)
  | .rng lo hi => ∃ t u v, h.get? a = some { cls := .type "range", data := .fields #[.int lo t, .int hi u, .int 1 v] }
  | .frz o u => h.get? a = some o /\ ObjOk H h a u
  | .tbl ps => h.get? a = some { cls := .none, data := .fields ps }
  | .met f x => h.get? a = some (PySem.W.methodObj (.ref f) (.ref x))
  | .ext φ => φ h /\ (∃ o, h.get? a = some o) /\ ∀ h1 h2 : Heap, φ h1 -> (∀ o, h1.get? a = some o -> h2.get? a = some o) -> φ h2
def HOk (H : Hp) (h : Heap) : Prop := ∀ a o, H a = some o -> ObjOk P w H h a o
end
section
variable {P : Program} {w : World} {H H' : Hp} {h h' : Heap} {a : Addr} {o : HO}
theorem ObjOk.lt (x : ObjOk P w H h a o) : a < h.objs.size := by
  cases o with
  | lst xs => obtain ⟨_, _, _, _, e⟩ := x; exact Heap.lt_size e
  | tup xs => obtain ⟨_, _, _, p⟩ := x; exact p.lt
  | dK kvs => obtain ⟨_, _, _, _, o, _, _, e, _⟩ := x; exact Heap.lt_size e
  | dT kvs => obtain ⟨_, _, _, _, o, _, _, e, _⟩ := x; exact Heap.lt_size e
  | set S n => obtain ⟨o, _, _, _, e, _⟩ := x; exact Heap.lt_size e
  | ins C dx fs => obtain ⟨_, _, _, e, _⟩ := x; exact Heap.lt_size e
  | own y => obtain ⟨_, e⟩ := x; exact Heap.lt_size e
  | xd fs => obtain ⟨_, ⟨_, _, _, e, _⟩, _⟩ := x; exact Heap.lt_size e
  | rng lo hi => obtain ⟨_, _, _, e⟩ := x; exact Heap.lt_size e
  | frz ob u => obtain ⟨e, _⟩ := x; exact Heap.lt_size e
  | tbl ps => exact Heap.lt_size (show h.get? a = some _ from x)
  | met f y => exact Heap.lt_size (show h.get? a = some _ from x)
  | ext φ => obtain ⟨_, ⟨_, e⟩, _⟩ := x; exact Heap.lt_size e
theorem Paired.mapP {α β : Type} {F G : α -> β -> Prop} : ∀ {l₁ : List α} {l₂ : List β}, Paired F l₁ l₂ -> (∀ a b, F a b -> G a b) -> Paired G l₁ l₂
  | _, _, .nil, _ => .nil
  | _, _, .cons r t, f => .cons (f _ _ r) (Paired.mapP t f)
theorem ObjOk.stay (x : ObjOk P w H h a o) (k : ∀ b u, (b = a \/ H b = some (.own a)) -> h.get? b = some u -> h'.get? b = some u)
    (ho : ∀ b, H b = some (.own a) -> H' b = some (.own a)) (ht : ∀ b xs, H b = some (.tup xs) -> H' b = some (.tup xs)) : ObjOk P w H' h' a o := by
  induction o with
  | lst xs => obtain ⟨z, its, n, r, e⟩ := x; exact ⟨z, its, n, r, k _ _ (.inl rfl) e⟩
  | tup xs => obtain ⟨z, its, r, ob, e, c⟩ := x; exact ⟨z, its, r, ob, k _ _ (.inl rfl) e, c⟩
  | dK kvs => obtain ⟨z, y, vs, r, ob, es, ep, e, c⟩ := x; exact ⟨z, y, vs, r, ob, es, ep, k _ _ (.inl rfl) e, c⟩
  | dT kvs =>
    obtain ⟨z, y, xs, r, ob, es, ep, e, c⟩ := x
    exact ⟨z, y, xs, Paired.mapP r fun p q z => ⟨z.1, ht _ _ z.2.1, z.2.2⟩, ob, es, ep, k _ _ (.inl rfl) e, c⟩
  | set S n => obtain ⟨ob, es, ep, t, e, c⟩ := x; exact ⟨ob, es, ep, t, k _ _ (.inl rfl) e, c⟩
  | ins C dx fs =>
    obtain ⟨d, z, ne, e, mA, ⟨od, es, ep, e2, c⟩, r⟩ := x
    exact ⟨ho _ d, z, ne, k _ _ (.inl rfl) e, mA, ⟨od, es, ep, k _ _ (.inr d) e2, c⟩, r⟩
  | own y => obtain ⟨ob, e⟩ := x; exact ⟨ob, k _ _ (.inl rfl) e⟩
  | xd fs => obtain ⟨mA, ⟨od, es, ep, e, c⟩, r⟩ := x; exact ⟨mA, ⟨od, es, ep, k _ _ (.inl rfl) e, c⟩, r⟩
  | rng lo hi => obtain ⟨t, u, v, e⟩ := x; exact ⟨t, u, v, k _ _ (.inl rfl) e⟩
  | frz ob u ih => obtain ⟨e, q⟩ := x; exact ⟨k _ _ (.inl rfl) e, ih q⟩
  | tbl ps =>
    have e : h.get? a = some { cls := .none, data := .fields ps } := x
    show h'.get? a = some { cls := .none, data := .fields ps }
    exact k a _ (.inl rfl) e
  | met f y =>
    have e : h.get? a = some (PySem.W.methodObj (.ref f) (.ref y)) := x
    show h'.get? a = some (PySem.W.methodObj (.ref f) (.ref y))
    exact k a _ (.inl rfl) e
  | ext φ => obtain ⟨p, ⟨o, e⟩, st⟩ := x; exact ⟨st _ _ p fun o q => k _ _ (.inl rfl) q, ⟨o, k _ _ (.inl rfl) e⟩, st⟩
theorem HOk.lt (x : HOk P w H h) (e : H a = some o) : a < h.objs.size := (x a o e).lt
theorem HOk.fresh (x : HOk P w H h) (e : h.objs.size <= a) : H a = none := by
  cases q : H a with
  | none => rfl
  | some u => exact absurd (Nat.lt_of_lt_of_le (x.lt q) e) (Nat.lt_irrefl _)
theorem HOk.kept (x : HOk P w H h) (k : ∀ b u, h.get? b = some u -> h'.get? b = some u) : HOk P w H h' := fun a o e =>
  (x a o e).stay (fun b u _ q => k b u q) (fun _ q => q) fun _ _ q => q
theorem HOk.laid (x : HOk P w H h) (k : ∀ b u, h.get? b = some u -> h'.get? b = some u) (hp : h.objs.size <= a) (new : ObjOk P w (upd H a o) h' a o) : HOk P w (upd H a o) h' := fun b u e => by
  have hn := x.fresh hp
  by_cases hb : b = a
  . subst hb; rw [upd_same] at e; cases e; exact new
  . rw [upd_ne hb] at e
    exact (x b u e).stay (fun c v _ q => k c v q) (fun c q => by rw [upd_ne (ne_of_none q hn)]; exact q) fun c xs q => by rw [upd_ne (ne_of_none q hn)]; exact q
end
def Rd (H : Hp) (a : Addr) (u : HO) : Prop := H a = some u \/ ∃ o, H a = some (.frz o u)
theorem Rd.ok {P : Program} {w : World} {H : Hp} {h : Heap} {a : Addr} {u : HO} (r : Rd H a u) (x : HOk P w H h) : ObjOk P w H h a u := by
  rcases r with r | ⟨o, r⟩
  . exact x a u r
  . obtain ⟨_, q⟩ := x a _ r
    exact q
def Mut : Option HO -> Prop
  | some (.lst _) => True
  | some (.dK _) => True
  | some (.dT _) => True
  | some (.set _ _) => True
  | some (.ins _ _ _) => True
  | some (.ext _) => True
  | _ => False
section
variable {P : Program} {w : World} {H : Hp} {h h' : Heap} {x e : Addr} {o' : HO}
theorem HOk.write (ok : HOk P w H h) (mu : Mut (H x)) (he : e = x \/ H e = some (.own x)) (k : ∀ b u, b ≠ e -> h.get? b = some u -> h'.get? b = some u) (heo : ∃ u, h'.get? e = some u)
    (new : ObjOk P w (upd H x o') h' x o') : HOk P w (upd H x o') h' := fun b u q => by
  have nown : ∀ c y, H c = some (.own y) -> c ≠ x := fun c y r z => by subst z; rw [r] at mu; exact mu
  have ntup : ∀ c xs, H c = some (.tup xs) -> c ≠ x := fun c xs r z => by subst z; rw [r] at mu; exact mu
  by_cases hb : b = x
  . subst hb; rw [upd_same] at q; cases q; exact new
  . rw [upd_ne hb] at q
    by_cases hbe : b = e
    . have q' : H b = some (.own x) := by
        rcases he with z | z
        . exact absurd (hbe.trans z) hb
        . rw [hbe]; exact z
      rw [q] at q'; cases q'
      obtain ⟨v, hv⟩ := heo
      exact ⟨v, by rw [hbe]; exact hv⟩
    . refine (ok b u q).stay (fun c v hc r => k c v ?_ r) (fun c r => by rw [upd_ne (nown c b r)]; exact r) fun c xs r => by rw [upd_ne (ntup c xs r)]; exact r
      rcases hc with rfl | hc
      . exact hbe
      . rintro rfl
        rcases he with z | z
        . exact nown c b hc z
        . rw [hc] at z; cases z; exact hb rfl
end
structure Un (fs ex : List Addr) (H H' : Hp) (h h' : Heap) : Prop where
  keep : ∀ b o, h.get? b = some o -> H b = none -> b ∉ fs -> b ∉ ex -> h'.get? b = some o
  slot : ∀ b o, h.get? b = some o -> H b = none -> b ∈ fs -> b ∉ ex -> ∃ sl, h'.get? b = some { o with slots := sl }
  free : ∀ b o, h.get? b = some o -> H b = none -> b ∉ ex -> H' b = none
  there : ∀ b o, h.get? b = some o -> b ∉ ex -> ∃ o', h'.get? b = some o'
  tups : ∀ b xs, H b = some (.tup xs) -> H' b = some (.tup xs)
  frzs : ∀ b o u, H b = some (.frz o u) -> H' b = some (.frz o u)
  tbls : ∀ b ps, H b = some (.tbl ps) -> ∃ more, H' b = some (.tbl (ps ++ more))
section
variable {fs fs' ex ex' : List Addr} {H H1 H2 : Hp} {h h1 h2 h' : Heap} {a x e : Addr} {o : HO}
theorem Un.any (u : Un fs ex H H1 h h1) {b : Addr} {ob : Obj} (q : h.get? b = some ob) (n : H b = none) (hx : b ∉ ex) : ∃ sl, h1.get? b = some { ob with slots := sl } := by
  by_cases hb : b ∈ fs
  . exact u.slot b ob q n hb hx
  . exact ⟨ob.slots, u.keep b ob q n hb hx⟩
theorem Un.kept (k : ∀ b u, h.get? b = some u -> h'.get? b = some u) : Un fs ex H H h h' :=
  ⟨fun b ob q _ _ _ => k b ob q, fun b ob q _ _ _ => ⟨ob.slots, k b ob q⟩, fun _ _ _ n _ => n, fun b ob q _ => ⟨ob, k b ob q⟩, fun _ _ q => q, fun _ _ _ q => q, fun _ ps q => ⟨#[], by rw [q]; simp⟩⟩
theorem Un.refl : Un fs ex H H h h := Un.kept fun _ _ q => q
theorem Un.laid (k : ∀ b u, h.get? b = some u -> h'.get? b = some u) (hp : h.objs.size <= a) (hn : H a = none) : Un fs ex H (upd H a o) h h' where
  keep := fun b u q _ _ _ => k b u q
  slot := fun b u q _ _ _ => ⟨u.slots, k b u q⟩
  free := fun b u q n _ => by rw [upd_ne (Nat.ne_of_lt (Nat.lt_of_lt_of_le (Heap.lt_size q) hp))]; exact n
  there := fun b u q _ => ⟨u, k b u q⟩
  tups := fun b xs q => by rw [upd_ne (ne_of_none q hn)]; exact q
  frzs := fun b u xs q => by rw [upd_ne (ne_of_none q hn)]; exact q
  tbls := fun b ps q => ⟨#[], by rw [upd_ne (ne_of_none q hn), q]; simp⟩
theorem Un.write (mu : Mut (H x)) (he : e = x \/ H e = some (.own x)) (k : ∀ b u, b ≠ e -> h.get? b = some u -> h'.get? b = some u) (heo : ∃ u, h'.get? e = some u) : Un fs ex H (upd H x o) h h' := by
  have hx : ∀ b, H b = none -> b ≠ x := fun b n z => by subst z; rw [n] at mu; exact mu
  have hb : ∀ b, H b = none -> b ≠ e := fun b n z => by
    subst z
    rcases he with r | r
    . exact hx b n r
    . rw [n] at r; cases r
  have hm : ∀ b u, H b = some u -> ¬ Mut (some u) -> b ≠ x := fun b u q nm z => by subst z; rw [q] at mu; exact nm mu
  refine ⟨fun b u q n _ _ => k b u (hb b n) q, fun b u q n _ _ => ⟨u.slots, k b u (hb b n) q⟩, fun b u q n _ => by rw [upd_ne (hx b n)]; exact n, fun b u q _ => ?_,
    fun b xs q => by rw [upd_ne (hm b _ q fun z => z)]; exact q, fun b u xs q => by rw [upd_ne (hm b _ q fun z => z)]; exact q, fun b ps q => ⟨#[], by rw [upd_ne (hm b _ q fun z => z), q]; simp⟩⟩
  by_cases hbe : b = e
  . subst hbe; exact heo
  . exact ⟨u, k b u hbe q⟩
end
def trk (h : Heap) (H : Hp) : List Addr := (List.range h.objs.size).filter fun a => (H a).isSome
def hidT (h : Heap) (H : Hp) : Heap := PySem.W.hideAll h (trk h H)
theorem hidT_size (h : Heap) (H : Hp) : (hidT h H).objs.size = h.objs.size := PySem.W.hideAll_size _ _
theorem hidT_get {h : Heap} {H : Hp} {b : Addr} {o : Obj} (e : h.get? b = some o) (n : H b = none) : (hidT h H).get? b = some o :=
  PySem.W.hideAll_get _ e fun hm => by
    have q : (H b).isSome = true := (List.mem_filter.mp hm).2
    rw [n] at q; simp at q
theorem of_hidT {h : Heap} {H : Hp} {b : Addr} {o : Obj} (e : (hidT h H).get? b = some o) : h.get? b = some o /\ H b = none := by
  have e' : h.get? b = some o := PySem.W.of_hideAll (trk h H) e
  refine ⟨e', ?_⟩
  cases q : H b with
  | none => rfl
  | some x =>
    have hm : b ∈ trk h H := List.mem_filter.mpr ⟨List.mem_range.mpr (Heap.lt_size e'), by simp [q]⟩
    have z : (hidT h H).get? b = none := PySem.W.hideAll_none (trk h H) hm
    rw [z] at e; cases e
def allNews (g h : Heap) (L : Addr) : List (Addr × Obj) := (List.range h.objs.size).filterMap fun a => if a = L \/ (g.get? a).isSome = true then none else (h.get? a).map fun o => (a, o)
def rest (g h : Heap) (L d : Addr) : List (Addr × Obj) := (allNews g h L).filter fun p => decide (p.1 ≠ d)
end L2
namespace L2
open PySem PySem.Spec PyProof.Rows
structure Mod (K : PySem.W.Frag) (mg : Str -> Option Value) (base : Heap) : Prop where
  kin : K.In base
  glob : base.Ns mainGlobals mg
  blt : ∃ mb, base.Ns builtinsNs mb /\ ∀ x : Str, x ≠ "__name__" -> mb x = bootBuiltins x
  nolimit : base.NoLimit
structure Cx where
  prog : Program
  w : World
  K : PySem.W.Frag
  mg : Str -> Option Value
  base : Heap
  A : Around
  N : List Str
  s₀ : Shared
  H₀ : Hp
  env : Env
  outer : List Env
  stack : List Env
  ex : List Addr
  fn : Str -> Bool
  calm : Bool
  pn : List (Addr × Obj)
  xe : Value -> Shared -> Prop
def frs (l : List Env) : List Addr := l.filterMap (·.frame)
abbrev Cx.fs (X : Cx) : List Addr := frs X.outer
def Vis (sc : Scope) (x : Str) : Prop := sc.names.lookup x = some .local \/ sc.names.lookup x = some .cell \/ sc.names.lookup x = some .free
def Loc (sc : Scope) (x : Str) : Prop := sc.names.lookup x = some .local \/ sc.names.lookup x = some .cell
def Look (env : Env) (h : Heap) (m : Str -> Option Value) (x : Str) (u : Value) : Prop :=
  (env.kindOf x = some .local /\ m x = some u) \/ ((env.kindOf x = some .cell \/ env.kindOf x = some .free) /\ ∃ c, env.cells.lookup x = some c /\ h.IsCell c (some u))
structure Cx.Ok (X : Cx) : Prop where
  mod : Mod X.K X.mg X.base
  kind : X.env.scope.kind = .function
  glob : X.env.globals = mainGlobals
  blt : X.env.builtins = builtinsNs
  above : X.s₀.heap.objs.size <= X.env.locals
  inj : ∀ x y c, X.env.cells.lookup x = some c -> X.env.cells.lookup y = some c -> x = y
  has : ∀ x, (X.env.kindOf x = some .cell \/ X.env.kindOf x = some .free) -> ∃ c, X.env.cells.lookup x = some c
  cab : ∀ x c, X.fn x = true -> X.env.cells.lookup x = some c -> X.s₀.heap.objs.size <= c
  hd : X.calm = true -> X.A.handled = none
  frames : X.A.frames = some X.stack
  stk : X.stack = X.outer \/ (X.stack = X.env :: X.outer /\ X.env.frame = some X.env.locals)
  exf : ∀ b ∈ X.ex, b ≠ X.env.locals /\ ∀ x c, X.env.cells.lookup x = some c -> c ≠ b
  bs : ∀ b o, X.base.get? b = some o -> X.s₀.heap.get? b = some o /\ X.H₀ b = none
  bsz : X.base.objs.size <= X.s₀.heap.objs.size
  noex : ∀ b o, X.base.get? b = some o -> b ∉ X.ex
  exfs : ∀ b ∈ X.ex, b ∉ X.fs
  funs : X.s₀.heap.FunFrames X.base X.outer
  frf : ∀ b ∈ X.fs, X.H₀ b = none
structure Inv (X : Cx) (pins : List (Addr × Obj)) (σ : List (Option V)) (H : Hp) (s : Shared) : Prop where
  ok : X.Ok
  os : s.os = X.s₀.os
  bare : AllBare s.gens
  base : Un X.fs X.ex X.H₀ H X.s₀.heap s.heap
  loc : ∃ m, s.heap.Ns X.env.locals m /\ ∀ (i : Nat) (x : Str) (v : V), X.N[i]? = some x -> σ[i]? = some (some v) -> Vis X.env.scope x -> ∃ u, RelV v u /\ Look X.env s.heap m x u
  cell : ∀ x c, X.env.cells.lookup x = some c -> ∃ v, s.heap.IsCell c v
  free : H X.env.locals = none
  freeC : ∀ x c, X.env.cells.lookup x = some c -> H c = none
  pin : ∀ p ∈ X.pn ++ pins, s.heap.get? p.1 = some p.2 /\ H p.1 = none /\ p.1 ≠ X.env.locals /\ p.1 ∉ X.fs /\ ∀ v, p.2.data ≠ .cell v
  hok : HOk X.prog X.w H s.heap
  len : σ.length = X.N.length
section
variable {X : Cx} {pins : List (Addr × Obj)} {σ : List (Option V)} {H H' : Hp} {s : Shared} {h' : Heap}
theorem Cx.Ok.nofr (ok : X.Ok) {b : Addr} {o : Obj} (e : X.base.get? b = some o) : b ∉ X.fs := fun hb => by
  have := (ok.funs.mem hb).1
  rw [e] at this; cases this
theorem Inv.bs (I : Inv X pins σ H s) : ∀ b o, X.base.get? b = some o -> s.heap.get? b = some o /\ H b = none := fun b o e =>
  ⟨I.base.keep b o (I.ok.bs b o e).1 (I.ok.bs b o e).2 (I.ok.nofr e) (I.ok.noex b o e), I.base.free b o (I.ok.bs b o e).1 (I.ok.bs b o e).2 (I.ok.noex b o e)⟩
theorem Inv.bk (I : Inv X pins σ H s) : ∀ b o, X.base.get? b = some o -> s.heap.get? b = some o := fun b o e => (I.bs b o e).1
theorem Inv.mod (I : Inv X pins σ H s) : Mod X.K X.mg X.base := I.ok.mod
theorem Inv.kIn (I : Inv X pins σ H s) : X.K.In s.heap := I.ok.mod.kin.keeps I.bk
theorem Inv.lt (I : Inv X pins σ H s) : X.env.locals < s.heap.objs.size := let ⟨_, hn, _⟩ := I.loc; hn.lt
theorem Inv.sz (I : Inv X pins σ H s) : X.s₀.heap.objs.size <= s.heap.objs.size := Nat.le_trans I.ok.above (Nat.le_of_lt I.lt)
theorem Inv.nofs (I : Inv X pins σ H s) {a : Addr} (h : s.heap.objs.size <= a) : a ∉ X.fs := fun hb => by
  obtain ⟨_, o, ho, _⟩ := I.ok.funs.mem hb
  exact absurd (Nat.lt_of_lt_of_le (Heap.lt_size ho) (Nat.le_trans I.sz h)) (Nat.lt_irrefl _)
theorem Inv.cne (I : Inv X pins σ H s) : ∀ x c, X.env.cells.lookup x = some c -> c ≠ X.env.locals := fun x c e z => by
  obtain ⟨v, o, ho, hd⟩ := I.cell x c e
  obtain ⟨m, ⟨o', es, ep, ho', hd', _⟩, _⟩ := I.loc
  rw [z, ho'] at ho; cases ho; rw [hd'] at hd; cases hd
theorem Inv.funs (I : Inv X pins σ H s) : s.heap.FunFrames X.base X.outer := by
  have all : ∀ (l : List Env), (∀ b ∈ frs l, b ∈ X.fs) -> X.s₀.heap.FunFrames X.base l -> s.heap.FunFrames X.base l := by
    intro l
    induction l with
    | nil => intro _ _; trivial
    | cons env r ih =>
      intro hs hl
      obtain ⟨hk, ⟨L, o, hf, hn, ho, hd⟩, hr⟩ := hl
      have hL : L ∈ X.fs := hs L (by unfold frs; rw [List.filterMap_cons, hf]; exact List.mem_cons_self)
      obtain ⟨sl, e⟩ := I.base.slot L o ho (I.ok.frf L hL) hL fun z => I.ok.exfs L z hL
      exact ⟨hk, ⟨L, _, hf, hn, e, hd⟩, ih (fun b hb => hs b (by unfold frs; rw [List.filterMap_cons, hf]; exact List.mem_cons_of_mem _ hb)) hr⟩
  exact all X.outer (fun _ hb => hb) I.ok.funs
theorem Inv.stack (I : Inv X pins σ H s) : s.heap.FunFrames X.base X.stack := by
  rcases I.ok.stk with e | ⟨e, hf⟩
  . rw [e]; exact I.funs
  . rw [e]
    obtain ⟨m, hn, _⟩ := I.loc
    refine .cons (by rw [I.ok.kind]; decide) hf hn ?_ I.funs
    exact Heap.get?_none_of_le (Nat.le_trans I.ok.bsz I.ok.above)
theorem Inv.stkSub (I : Inv X pins σ H s) : ∀ b ∈ frs X.stack, b ∈ X.env.locals :: X.fs := fun b hb => by
  rcases I.ok.stk with e | ⟨e, hf⟩
  . rw [e] at hb; exact List.mem_cons_of_mem _ hb
  . rw [e] at hb
    unfold frs at hb
    rw [List.filterMap_cons, hf] at hb
    exact hb
theorem Inv.stkFree (I : Inv X pins σ H s) : ∀ b ∈ frs X.stack, H b = none := fun b hb => by
  rcases List.mem_cons.mp (I.stkSub b hb) with e | hb
  . rw [e]; exact I.free
  . obtain ⟨_, o, ho, _⟩ := I.ok.funs.mem hb
    exact I.base.free b o ho (I.ok.frf b hb) fun z => I.ok.exfs b z hb
theorem Inv.step {g' : Array GenState} {t' : Nat} {d' : Drawn} {ch : List Addr} (I : Inv X pins σ H s)
    (hch : ∀ b ∈ ch, (b ∈ X.ex \/ X.s₀.heap.objs.size <= b) /\ b ≠ X.env.locals /\ (∀ x c, X.env.cells.lookup x = some c -> c ≠ b) /\ ∀ p ∈ X.pn ++ pins, p.1 ≠ b)
    (keep : ∀ b o, b ≠ X.env.locals -> b ∉ X.fs -> b ∉ ch -> s.heap.get? b = some o -> H b = none -> h'.get? b = some o)
    (slot : ∀ b o, b ≠ X.env.locals -> b ∈ X.fs -> b ∉ ch -> s.heap.get? b = some o -> H b = none -> ∃ sl, h'.get? b = some { o with slots := sl }) (free : ∀ b o, b ∉ ch -> s.heap.get? b = some o -> H b = none -> H' b = none)
    (there : ∀ b o, b ∉ ch -> s.heap.get? b = some o -> ∃ o', h'.get? b = some o')
    (tups : ∀ b xs, H b = some (.tup xs) -> H' b = some (.tup xs)) (frzs : ∀ b o u, H b = some (.frz o u) -> H' b = some (.frz o u)) (tbls : ∀ b ps, H b = some (.tbl ps) -> ∃ more, H' b = some (.tbl (ps ++ more)))
    (ns : ∀ m, s.heap.Ns X.env.locals m -> h'.Ns X.env.locals m) (hok : HOk X.prog X.w H' h') (hg : AllBare g') :
    Inv X pins σ H' { s with heap := h', gens := g', drawn := d', toks := t' } := by
  have neL : ∀ b o, X.s₀.heap.get? b = some o -> b ≠ X.env.locals := fun b o e => Nat.ne_of_lt (Nat.lt_of_lt_of_le (Heap.lt_size e) I.ok.above)
  have neC : ∀ b o, X.s₀.heap.get? b = some o -> b ∉ X.ex -> b ∉ ch := fun b o e hx hb => by
    rcases (hch b hb).1 with z | z
    . exact hx z
    . exact absurd (Nat.lt_of_lt_of_le (Heap.lt_size e) z) (Nat.lt_irrefl _)
  have cellK : ∀ x c, X.env.cells.lookup x = some c -> ∀ v, s.heap.IsCell c v -> h'.IsCell c v := fun x c e v ⟨o, ho, hd⟩ => by
    have nch : c ∉ ch := fun z => (hch c z).2.2.1 x c e rfl
    by_cases hc : c ∈ X.fs
    . obtain ⟨sl, q⟩ := slot c o (I.cne x c e) hc nch ho (I.freeC x c e)
      exact ⟨_, q, hd⟩
    . exact ⟨o, keep c o (I.cne x c e) hc nch ho (I.freeC x c e), hd⟩
  refine ⟨I.ok, I.os, hg, ⟨fun b o e n hb hx => ?_, fun b o e n hb hx => ?_, fun b o e n hx => ?_, fun b o e hx => ?_, fun b xs e => tups b xs (I.base.tups b xs e), fun b o xs e => frzs b o xs (I.base.frzs b o xs e), fun b ps e => ?_⟩, ?_, fun x c e => ?_, ?_, fun x c e => ?_, fun p hp => ?_, hok, I.len⟩
  . exact keep b o (neL b o e) hb (neC b o e hx) (I.base.keep b o e n hb hx) (I.base.free b o e n hx)
  . obtain ⟨sl, e1⟩ := I.base.slot b o e n hb hx
    obtain ⟨sl', e2⟩ := slot b _ (neL b o e) hb (neC b o e hx) e1 (I.base.free b o e n hx)
    exact ⟨sl', e2⟩
  . obtain ⟨o', e1⟩ := I.base.there b o e hx
    exact free b o' (neC b o e hx) e1 (I.base.free b o e n hx)
  . obtain ⟨o', e1⟩ := I.base.there b o e hx
    exact there b o' (neC b o e hx) e1
  . obtain ⟨m1, e1⟩ := I.base.tbls b ps e
    obtain ⟨m2, e2⟩ := tbls b _ e1
    exact ⟨m1 ++ m2, by rw [e2, Array.append_assoc]⟩
  . obtain ⟨m, hn, hl⟩ := I.loc
    refine ⟨m, ns m hn, fun i x v e1 e2 e3 => ?_⟩
    obtain ⟨u, r, l⟩ := hl i x v e1 e2 e3
    refine ⟨u, r, ?_⟩
    rcases l with l | ⟨k, c, e, z⟩
    . exact .inl l
    . exact .inr ⟨k, c, e, cellK x c e _ z⟩
  . obtain ⟨v, z⟩ := I.cell x c e
    exact ⟨v, cellK x c e v z⟩
  . obtain ⟨m, ⟨o, _, _, ho, _⟩, _⟩ := I.loc
    exact free _ o (fun z => (hch _ z).2.1 rfl) ho I.free
  . obtain ⟨v, o, ho, hd⟩ := I.cell x c e
    exact free c o (fun z => (hch c z).2.2.1 x c e rfl) ho (I.freeC x c e)
  . obtain ⟨e, n, ne, nf, d⟩ := I.pin p hp
    have nch : p.1 ∉ ch := fun z => (hch p.1 z).2.2.2 p hp rfl
    exact ⟨keep p.1 p.2 ne nf nch e n, free p.1 p.2 nch e n, ne, nf, d⟩
theorem Inv.un {t' : Nat} (I : Inv X pins σ H s) (u : Un X.fs [] H H' s.heap h') (hok : HOk X.prog X.w H' h') : Inv X pins σ H' { s with heap := h', toks := t' } := by
  obtain ⟨m, ⟨o, es, ep, ho, r⟩, _⟩ := id I.loc
  obtain ⟨sl, hL⟩ := u.any ho I.free (by simp)
  exact I.step (g' := s.gens) (d' := s.drawn) (ch := []) (fun _ z => nomatch z) (fun b o _ hb _ e n => u.keep b o e n hb (by simp)) (fun b o _ hb _ e n => u.slot b o e n hb (by simp)) (fun b o _ e n => u.free b o e n (by simp)) (fun b o _ e => u.there b o e (by simp)) u.tups u.frzs u.tbls (fun m' hm => by
    obtain ⟨o', es', ep', ho', r'⟩ := hm
    rw [ho] at ho'; cases ho'
    exact ⟨_, es', ep', hL, r'⟩) hok I.bare
theorem Inv.call {g' : Array GenState} {t' : Nat} {d' : Drawn} {ch : List Addr} (I : Inv X pins σ H s) (u : Un (frs X.stack) ch H H' s.heap h') (hok : HOk X.prog X.w H' h') (hg : AllBare g')
    (hch : ∀ b ∈ ch, (b ∈ X.ex \/ X.s₀.heap.objs.size <= b) /\ b ≠ X.env.locals /\ (∀ x c, X.env.cells.lookup x = some c -> c ≠ b) /\ ∀ p ∈ X.pn ++ pins, p.1 ≠ b) :
    Inv X pins σ H' { s with heap := h', gens := g', drawn := d', toks := t' } := by
  obtain ⟨m, ⟨o, es, ep, ho, r⟩, _⟩ := id I.loc
  obtain ⟨sl, hL⟩ := u.any ho I.free fun z => (hch _ z).2.1 rfl
  exact I.step (ch := ch) hch (fun b o hL hb hc e n => u.keep b o e n (fun z => (List.mem_cons.mp (I.stkSub b z)).elim hL hb) hc) (fun b o _ _ hc e n => u.any e n hc) (fun b o hc e n => u.free b o e n hc) (fun b o hc e => u.there b o e hc) u.tups u.frzs u.tbls (fun m' hm => by
    obtain ⟨o', es', ep', ho', r'⟩ := hm
    rw [ho] at ho'; cases ho'
    exact ⟨_, es', ep', hL, r'⟩) hok hg
theorem Inv.turned {t' : Nat} {it : Addr} (I : Inv X pins σ H s) (k : ∀ b o, b ≠ it -> s.heap.get? b = some o -> h'.get? b = some o) (hn : H it = none) (hL : it ≠ X.env.locals)
    (h1 : it ∈ X.ex \/ X.s₀.heap.objs.size <= it) (h2 : ∀ x c, X.env.cells.lookup x = some c -> c ≠ it) (h3 : ∀ p ∈ X.pn ++ pins, p.1 ≠ it) : Inv X pins σ H { s with heap := h', toks := t' } := by
  have nit : ∀ b u, H b = some u -> b ≠ it := fun b u e z => by rw [z, hn] at e; cases e
  refine I.step (g' := s.gens) (d' := s.drawn) (ch := [it]) (fun b hb => ?_) (fun b o _ _ hc e _ => k b o (fun z => hc (by simp [z])) e) (fun b o _ _ hc e _ => ⟨o.slots, k b o (fun z => hc (by simp [z])) e⟩) (fun _ _ _ _ n => n)
    (fun b o hc e => ⟨o, k b o (fun z => hc (by simp [z])) e⟩) (fun _ _ e => e) (fun _ _ _ e => e) (fun b ps e => ⟨#[], by rw [e]; simp⟩) (fun m hm => ?_) (fun b u e => ?_) I.bare
  . have e : b = it := by simpa using hb
    subst e
    exact ⟨h1, hL, h2, h3⟩
  . obtain ⟨o, es, ep, ho, r⟩ := hm
    exact ⟨o, es, ep, k _ o (Ne.symm hL) ho, r⟩
  . refine (I.hok b u e).stay (fun c v hc q => k c v ?_ q) (fun _ q => q) fun _ _ q => q
    rcases hc with z | z
    . rw [z]; exact nit b u e
    . exact nit c _ z
theorem Inv.tok (I : Inv X pins σ H s) (t : Nat) : Inv X pins σ H { s with toks := t } := I.un (h' := s.heap) (t' := t) Un.refl I.hok
theorem Inv.kept {t' : Nat} (I : Inv X pins σ H s) (k : ∀ b u, s.heap.get? b = some u -> h'.get? b = some u) : Inv X pins σ H { s with heap := h', toks := t' } := I.un (Un.kept k) (I.hok.kept k)
theorem Inv.laid {a : Addr} {o : HO} {t' : Nat} (I : Inv X pins σ H s) (k : ∀ b u, s.heap.get? b = some u -> h'.get? b = some u) (hp : s.heap.objs.size <= a) (new : ObjOk X.prog X.w (upd H a o) h' a o) :
    Inv X pins σ (upd H a o) { s with heap := h', toks := t' } := I.un (Un.laid k hp (I.hok.fresh hp)) (I.hok.laid k hp new)
theorem Inv.write {x e : Addr} {o : HO} {t' : Nat} (I : Inv X pins σ H s) (mu : Mut (H x)) (he : e = x \/ H e = some (.own x)) (k : ∀ b u, b ≠ e -> s.heap.get? b = some u -> h'.get? b = some u) (heo : ∃ u, h'.get? e = some u)
    (new : ObjOk X.prog X.w (upd H x o) h' x o) : Inv X pins σ (upd H x o) { s with heap := h', toks := t' } := I.un (Un.write mu he k heo) (I.hok.write mu he k heo new)
theorem Inv.pins_of {pins' : List (Addr × Obj)} (I : Inv X pins σ H s) (h : ∀ p ∈ pins', s.heap.get? p.1 = some p.2 /\ H p.1 = none /\ p.1 ≠ X.env.locals /\ p.1 ∉ X.fs /\ ∀ v, p.2.data ≠ .cell v) : Inv X pins' σ H s :=
  ⟨I.ok, I.os, I.bare, I.base, I.loc, I.cell, I.free, I.freeC, fun p hp => (List.mem_append.mp hp).elim (fun z => I.pin p (List.mem_append_left _ z)) (h p), I.hok, I.len⟩
theorem nodup_ix {N : List Str} (hN : N.Nodup) {i j : Nat} {x : Str} (a : N[i]? = some x) (b : N[j]? = some x) : i = j := by
  obtain ⟨h1, e1⟩ := List.getElem?_eq_some_iff.mp a
  obtain ⟨h2, e2⟩ := List.getElem?_eq_some_iff.mp b
  exact (List.getElem_inj hN).mp (e1.trans e2.symm)
theorem store_ok2 {M : Model} {A : Around} {E : Value -> Shared -> Prop} {i : Nat} {x : Str} {v : V} {u : Value} {Q : Unit -> Shared -> Prop} (I : Inv X pins σ H s) (hN : X.N.Nodup) (hi : X.N[i]? = some x) (hx : Loc X.env.scope x) (r : RelV v u)
    (h : ∀ s', Inv X pins (σ.set i (some v)) H s' -> (∃ a, Heap.SameBut a s.heap s'.heap /\ (a = X.env.locals \/ X.env.cells.lookup x = some a)) -> Q () s') (hf : X.fn x = true \/ X.env.scope.names.lookup x = some .local := by first | exact .inl rfl | exact .inr rfl | assumption) : wpAny M A (storeName X.env x u) Q E s := by
  obtain ⟨m, hn, hl⟩ := id I.loc
  have hcls : (X.env.scope.kind == .class || (X.env.scope.kind == .module && X.env.locals != X.env.globals)) = false := by rw [I.ok.kind]; rfl
  have hiσ : i < σ.length := by rw [I.len]; exact (List.getElem?_eq_some_iff.mp hi).1
  have cne := I.cne
  have tracked : ∀ {a : Addr} {h' : Heap}, (∃ o, s.heap.get? a = some o /\ H a = none) -> Heap.SameBut a s.heap h' -> HOk X.prog X.w H h' := fun {a h'} ha hs b ob e => by
    obtain ⟨_, _, hfree⟩ := ha
    refine (I.hok b ob e).stay (fun c w' hc q => (hs.2 c ?_).trans q) (fun _ q => q) fun _ _ q => q
    rintro rfl
    rcases hc with rfl | hc
    . rw [hfree] at e; cases e
    . rw [hfree] at hc; cases hc
  rcases hx with hk | hk
  . refine wpAny_storeName_local hk hn (fun h' hn' hs => ?_) hcls
    obtain ⟨oL, _, _, hoL, _⟩ := id hn
    refine h _ ⟨I.ok, I.os, I.bare, ⟨fun b o e n hb hx => ?_, fun b o e n hb hx => ?_, I.base.free, fun b o e hx => ?_, I.base.tups, I.base.frzs, I.base.tbls⟩, ⟨_, hn', fun j y v' e1 e2 e3 => ?_⟩, fun y c e => ?_, I.free, I.freeC, fun p hp => ?_, tracked ⟨oL, hoL, I.free⟩ hs, by simpa using I.len⟩ ⟨_, hs, .inl rfl⟩
    . exact (hs.2 b (Nat.ne_of_lt (Nat.lt_of_lt_of_le (Heap.lt_size e) I.ok.above))).trans (I.base.keep b o e n hb hx)
    . obtain ⟨sl, e1⟩ := I.base.slot b o e n hb hx
      exact ⟨sl, (hs.2 b (Nat.ne_of_lt (Nat.lt_of_lt_of_le (Heap.lt_size e) I.ok.above))).trans e1⟩
    . obtain ⟨o', e1⟩ := I.base.there b o e hx
      exact ⟨o', (hs.2 b (Nat.ne_of_lt (Nat.lt_of_lt_of_le (Heap.lt_size e) I.ok.above))).trans e1⟩
    . by_cases hj : j = i
      . subst hj
        rw [hi] at e1; cases e1
        rw [List.getElem?_set_self hiσ] at e2
        cases e2
        exact ⟨u, r, .inl ⟨hk, by simp⟩⟩
      . rw [List.getElem?_set_ne (Ne.symm hj)] at e2
        obtain ⟨u', r', q⟩ := hl j y v' e1 e2 e3
        refine ⟨u', r', ?_⟩
        rcases q with ⟨k, e⟩ | ⟨k, c, e, z⟩
        . refine .inl ⟨k, ?_⟩
          have : y ≠ x := fun e => hj (nodup_ix hN e1 (e ▸ hi))
          simp [this, e]
        . exact .inr ⟨k, c, e, z.sameBut hs (cne y c e)⟩
    . obtain ⟨w', z⟩ := I.cell y c e
      exact ⟨w', z.sameBut hs (cne y c e)⟩
    . obtain ⟨e, n, ne, nf, d⟩ := I.pin p hp
      exact ⟨(hs.2 p.1 ne).trans e, n, ne, nf, d⟩
  . have hfn : X.fn x = true := by
      rcases hf with z | z
      . exact z
      . rw [z] at hk; cases hk
    obtain ⟨c, hc⟩ := I.ok.has x (.inl hk)
    obtain ⟨w', z⟩ := I.cell x c hc
    refine wpAny_storeName_cell I.ok.kind hk hc z (fun h' hc' hs => ?_)
    obtain ⟨oc, hoc, hocd⟩ := id z
    refine h { s with heap := h' } ⟨I.ok, I.os, I.bare, ⟨fun b o e n hb hx => ?_, fun b o e n hb hx => ?_, I.base.free, fun b o e hx => ?_, I.base.tups, I.base.frzs, I.base.tbls⟩, ⟨m, hn.sameBut hs (Ne.symm (cne x c hc)), fun j y v' e1 e2 e3 => ?_⟩, fun y c' e => ?_, I.free, I.freeC, fun p hp => ?_, tracked ⟨oc, hoc, I.freeC x c hc⟩ hs, by simpa using I.len⟩ ⟨c, hs, .inr hc⟩
    . exact (hs.2 b (Nat.ne_of_lt (Nat.lt_of_lt_of_le (Heap.lt_size e) (I.ok.cab x c hfn hc)))).trans (I.base.keep b o e n hb hx)
    . obtain ⟨sl, e1⟩ := I.base.slot b o e n hb hx
      exact ⟨sl, (hs.2 b (Nat.ne_of_lt (Nat.lt_of_lt_of_le (Heap.lt_size e) (I.ok.cab x c hfn hc)))).trans e1⟩
    . obtain ⟨o', e1⟩ := I.base.there b o e hx
      exact ⟨o', (hs.2 b (Nat.ne_of_lt (Nat.lt_of_lt_of_le (Heap.lt_size e) (I.ok.cab x c hfn hc)))).trans e1⟩
    . by_cases hj : j = i
      . subst hj
        rw [hi] at e1; cases e1
        rw [List.getElem?_set_self hiσ] at e2
        cases e2
        exact ⟨u, r, .inr ⟨.inl hk, c, hc, hc'⟩⟩
      . rw [List.getElem?_set_ne (Ne.symm hj)] at e2
        obtain ⟨u', r', q⟩ := hl j y v' e1 e2 e3
        refine ⟨u', r', ?_⟩
        rcases q with q | ⟨k, c', e, z'⟩
        . exact .inl q
        . refine .inr ⟨k, c', e, z'.sameBut hs ?_⟩
          rintro rfl
          exact hj (nodup_ix hN e1 (I.ok.inj _ _ _ e hc ▸ hi))
    . by_cases hcc : c' = c
      . subst hcc; exact ⟨_, hc'⟩
      . obtain ⟨w2, z2⟩ := I.cell y c' e
        exact ⟨w2, z2.sameBut hs hcc⟩
    . obtain ⟨e, n, ne, nf, d⟩ := I.pin p hp
      refine ⟨(hs.2 p.1 ?_).trans e, n, ne, nf, d⟩
      intro q
      rw [q, hoc] at e
      have q' : oc = p.2 := Option.some.inj e
      exact d w' (by rw [<- q']; exact hocd)
theorem store_ok {M : Model} {A : Around} {E : Value -> Shared -> Prop} {i : Nat} {x : Str} {v : V} {u : Value} {Q : Unit -> Shared -> Prop} (I : Inv X pins σ H s) (hN : X.N.Nodup) (hi : X.N[i]? = some x) (hx : Loc X.env.scope x) (r : RelV v u)
    (h : ∀ s', Inv X pins (σ.set i (some v)) H s' -> Q () s') (hf : X.fn x = true \/ X.env.scope.names.lookup x = some .local := by first | exact .inl rfl | exact .inr rfl | assumption) : wpAny M A (storeName X.env x u) Q E s :=
  store_ok2 I hN hi hx r (fun s' I' _ => h s' I') hf
theorem Inv.call' {s' : Shared} {ch : List Addr} (I : Inv X pins σ H s) (ho : s'.os = s.os) (u : Un (frs X.stack) ch H H' s.heap s'.heap) (hok : HOk X.prog X.w H' s'.heap) (hg : AllBare s'.gens)
    (hch : ∀ b ∈ ch, (b ∈ X.ex \/ X.s₀.heap.objs.size <= b) /\ b ≠ X.env.locals /\ (∀ x c, X.env.cells.lookup x = some c -> c ≠ b) /\ ∀ p ∈ X.pn ++ pins, p.1 ≠ b) : Inv X pins σ H' s' := by
  obtain ⟨h', g', d', t', o'⟩ := s'
  have e : o' = s.os := ho
  subst e
  exact I.call (g' := g') (t' := t') (d' := d') u hok hg hch
end
abbrev XK := Value -> Option Addr -> Hp -> Prop
abbrev St := List (Option V)
abbrev VK := V -> Hp -> Prop
abbrev TE := St -> Hp -> VK -> Prop
abbrev TT := St -> Hp -> (Bool -> Hp -> Prop) -> Prop
abbrev TA := St -> Hp -> (List V -> Hp -> Prop) -> Prop
structure Ends where
  nx : St -> Hp -> Prop
  rt : VK
  bk : St -> Hp -> Prop := fun _ _ => False
  ct : St -> Hp -> Prop := fun _ _ => False
abbrev TS := Ends -> St -> Hp -> Prop
def EP (X : Cx) (pins : List (Addr × Obj)) (σ : St) (Q : VK) (u : Value) (s' : Shared) : Prop := ∃ v H', Inv X pins σ H' s' /\ RelV v u /\ Q v H'
def TP (X : Cx) (pins : List (Addr × Obj)) (σ : St) (Q : Bool -> Hp -> Prop) (b : Bool) (s' : Shared) : Prop := ∃ H', Inv X pins σ H' s' /\ Q b H'
def AP (X : Cx) (pins : List (Addr × Obj)) (σ : St) (Q : List V -> Hp -> Prop) (us : List Value) (s' : Shared) : Prop := ∃ vs H', Inv X pins σ H' s' /\ Vals vs us /\ Q vs H'
def SP (X : Cx) (pins : List (Addr × Obj)) (D : Ends) (f : Flow) (s' : Shared) : Prop :=
  match f with
  | .next => ∃ σ' H', Inv X pins σ' H' s' /\ D.nx σ' H'
  | .brk => ∃ σ' H', Inv X pins σ' H' s' /\ D.bk σ' H'
  | .cont => ∃ σ' H', Inv X pins σ' H' s' /\ D.ct σ' H'
  | .ret u => ∃ v σ' H', Inv X pins σ' H' s' /\ RelV v u /\ D.rt v H'
def PE (X : Cx) (e : Expr) (t : TE) : Prop :=
  ∀ (pins : List (Addr × Obj)) (s : Shared) (σ : St) (H : Hp) (Q : VK), Inv X pins σ H s -> t σ H Q -> wpAny (model X.prog X.w) X.A (eval e X.env) (EP X pins σ Q) X.xe s
def PT (X : Cx) (e : Expr) (t : TT) : Prop :=
  ∀ (pins : List (Addr × Obj)) (s : Shared) (σ : St) (H : Hp) (Q : Bool -> Hp -> Prop), Inv X pins σ H s -> t σ H Q -> wpAny (model X.prog X.w) X.A (isTrue e X.env (eval e X.env)) (TP X pins σ Q) X.xe s
def PW (X : Cx) (e : Expr) (t : TT) : Prop :=
  ∀ (whole : Sem Value) (pins : List (Addr × Obj)) (s : Shared) (σ : St) (H : Hp) (Q : Bool -> Hp -> Prop), Inv X pins σ H s -> t σ H Q -> wpAny (model X.prog X.w) X.A (isTrue e X.env whole) (TP X pins σ Q) X.xe s
theorem PW.pt {X : Cx} {e : Expr} {t : TT} (h : PW X e t) : PT X e t := h _
def PA (X : Cx) (es : List Expr) (t : TA) : Prop :=
  ∀ (pos : Pos) (pins : List (Addr × Obj)) (s : Shared) (σ : St) (H : Hp) (Q : List V -> Hp -> Prop), Inv X pins σ H s -> t σ H Q -> wpAny (model X.prog X.w) X.A (spliced (backTo pos (starEach es X.env))) (AP X pins σ Q) X.xe s
def PS (X : Cx) (st : Stmt) (t : TS) : Prop :=
  ∀ (pins : List (Addr × Obj)) (s : Shared) (σ : St) (H : Hp) (D : Ends), Inv X pins σ H s -> t D σ H -> wpAny (model X.prog X.w) X.A (exec st X.env) (SP X pins D) X.xe s
def PSs (X : Cx) (st : List Stmt) (t : TS) : Prop :=
  ∀ (pins : List (Addr × Obj)) (s : Shared) (σ : St) (H : Hp) (D : Ends), Inv X pins σ H s -> t D σ H -> wpAny (model X.prog X.w) X.A (execs st X.env) (SP X pins D) X.xe s
theorem thn {α : Type} {t : Sem α} {Q Q' : α -> Shared -> Prop} {M : Model} {A : Around} {E : Value -> Shared -> Prop} {s : Shared} (h : wpAny M A t Q E s) (hQ : ∀ a s, Q a s -> Q' a s) : wpAny M A t Q' E s := wpAny_mono h hQ fun _ _ x => x
end L2
namespace L2
open PySem PySem.Spec PyProof.Rows
section
variable {X : Cx}
def tVar (i : Nat) : TE := fun σ H Q => ∃ v, σ[i]? = some (some v) /\ Q v H
def tC (v : V) : TE := fun _ H Q => Q v H
theorem pe_var {i : Nat} {x : Str} {pos : Pos} (hN : X.N[i]? = some x) (hv : Vis X.env.scope x) (hd : (x == ("__debug__" : Str)) = false := by decide) (hcd : (x == ("__classdict__" : Str)) = false := by decide) : PE X (.Name x pos) (tVar i) := by
  intro pins s σ H Q I h
  obtain ⟨v, e, h⟩ := h
  obtain ⟨m, hn, hl⟩ := I.loc
  obtain ⟨u, r, l⟩ := hl i x v hN e hv
  have fin : EP X pins σ Q u s := ⟨v, H, I, r, h⟩
  rcases l with ⟨hk, hm⟩ | ⟨hk, c, hc, hcell⟩
  . exact wpAny_Name (wpAny_loadName_local I.ok.kind hk hn hm fin) hd
  . rcases hk with hk | hk
    . exact wpAny_Name (wpAny_loadName_cell I.ok.kind hk hc hcell fin) hd
    . exact wpAny_Name (wpAny_loadName_free I.ok.kind hk hc hcell fin hcd) hd
theorem pe_int {i j pos} : PE X (.Constant (.int i) j pos) (tC (.int i)) := fun _ _ _ H _ I h => wpAny_Constant_int ⟨.int i, H, I.tok _, ⟨_, rfl⟩, h⟩
theorem pe_bl {b j pos} : PE X (.Constant (.bool b) j pos) (tC (.bl b)) := fun _ _ _ H _ I h => Constant_bool ⟨.bl b, H, I, rfl, h⟩
theorem pe_str {x j pos} : PE X (.Constant (.str x) j pos) (tC (.str x)) := fun _ _ _ H _ I h => Calls.Constant_str ⟨.str x, H, I.tok _, ⟨_, rfl⟩, h⟩
def Gl (X : Cx) (x : Str) : Prop := X.env.kindOf x = some .globalImplicit
theorem ld_glob {E : Value -> Shared -> Prop} {pins : List (Addr × Obj)} {s : Shared} {σ : St} {H : Hp} {x : Str} {u : Value} {pos : Pos} {Q : Value -> Shared -> Prop} (I : Inv X pins σ H s) (hg : Gl X x) (hm : X.mg x = some u) (h : Q u s)
    (hd : (x == ("__debug__" : Str)) = false := by decide) : wpAny (model X.prog X.w) X.A (eval (.Name x pos) X.env) Q E s :=
  Calls.Name_function_global I.ok.kind hg (Calls.loadGlobal_global (by rw [I.ok.glob]; exact I.mod.glob.keeps I.bk) hm h) hd
theorem ld_blt {E : Value -> Shared -> Prop} {pins : List (Addr × Obj)} {s : Shared} {σ : St} {H : Hp} {x : Str} {u : Value} {pos : Pos} {Q : Value -> Shared -> Prop} (I : Inv X pins σ H s) (hg : Gl X x) (hm : X.mg x = none) (hv : bootBuiltins x = some u) (h : Q u s)
    (hn : x ≠ "__name__" := by decide) (hd : (x == ("__debug__" : Str)) = false := by decide) : wpAny (model X.prog X.w) X.A (eval (.Name x pos) X.env) Q E s := by
  obtain ⟨mb, h1, h2⟩ := I.mod.blt
  exact Calls.Name_function_global I.ok.kind hg (Calls.loadGlobal_builtin (by rw [I.ok.glob]; exact I.mod.glob.keeps I.bk) hm (by rw [I.ok.blt]; exact h1.keeps I.bk) ((h2 x hn).trans hv) h) hd
theorem pe_glob {x : Str} {v : V} {u : Value} {pos : Pos} (hg : Gl X x) (hm : X.mg x = some u) (r : RelV v u) (hd : (x == ("__debug__" : Str)) = false := by decide) : PE X (.Name x pos) (tC v) :=
  fun _ _ _ H _ I h => ld_glob I hg hm ⟨v, H, I, r, h⟩ hd
theorem pe_bltn {x : Str} {v : V} {u : Value} {pos : Pos} (hg : Gl X x) (hm : X.mg x = none) (hv : bootBuiltins x = some u) (r : RelV v u) (hn : x ≠ "__name__" := by decide) (hd : (x == ("__debug__" : Str)) = false := by decide) : PE X (.Name x pos) (tC v) :=
  fun _ _ _ H _ I h => ld_blt I hg hm hv ⟨v, H, I, r, h⟩ hn hd
variable {a b : Expr} {ta tb : TE} {pos : Pos}
def tB (t : TE) : TT := fun σ H Q => t σ H fun x H1 => ∃ c, x = .bl c /\ Q c H1
theorem pt_val {e : Expr} {t : TE} (h : PE X e t) (he : ∀ whole, isTrue e X.env whole = (do let v <- whole; standAt e.pos; holding [v] (truthy v)) := by intro _; rfl) : PT X e (tB t) := by
  intro pins s σ H Q I hw
  refine isTrue_plain (thn (h pins s σ H _ I hw) fun v s1 ⟨x, H1, I1, r1, q1⟩ => ?_) (he _)
  obtain ⟨d, rfl, q⟩ := q1
  cases r1
  exact wpAny_truthy_bool ⟨H1, I1, q⟩
variable {tA tB' : TT} {rest : List Expr}
def tOr (t u : TT) : TT := fun σ H Q => t σ H fun c H1 => if c = true then Q true H1 else u σ H1 Q
def tNot (t : TT) : TT := fun σ H Q => t σ H fun c H1 => Q (!c) H1
theorem pw_or1 (ha : PT X a tA) : PW X (.BoolOp .Or [a] pos) tA := by
  intro wh pins s σ H Q I h
  refine isTrue_or (thn (ha pins s σ H Q I h) fun c s1 e => ?_)
  cases c with
  | false => exact isTrue_or_nil e
  | true => exact e
theorem pw_or (ha : PT X a tA) (hb : PW X (.BoolOp .Or (b :: rest) pos) tB') : PW X (.BoolOp .Or (a :: b :: rest) pos) (tOr tA tB') := by
  intro wh pins s σ H Q I h
  refine isTrue_or (thn (ha pins s σ H _ I h) fun c s1 ⟨H1, I1, q1⟩ => ?_)
  cases c with
  | true => exact ⟨H1, I1, q1⟩
  | false => exact hb wh pins s1 σ H1 Q I1 q1
theorem pt_not (ha : PT X a tA) : PT X (.UnaryOp .Not a pos) (tNot tA) := by
  intro pins s σ H Q I h
  exact isTrue_not (ha pins s σ H (fun c H1 => Q (!c) H1) I h)
def tAndV (ta tb : TE) : TE := fun σ H Q => ta σ H fun x H1 => ∃ c, x = .bl c /\ if c = true then tb σ H1 Q else Q (.bl false) H1
def tNotV (ta : TE) : TE := fun σ H Q => ta σ H fun x H1 => ∃ c, x = .bl c /\ Q (.bl (!c)) H1
theorem pe_one {op} {t : TE} (h : PE X a t) : PE X (.BoolOp op [a] pos) t := fun pins s σ H Q I hw => BoolOp_one (h pins s σ H Q I hw)
theorem pe_and (ha : PE X a ta) (hb : PE X (.BoolOp .And (b :: rest) pos) tb) : PE X (.BoolOp .And (a :: b :: rest) pos) (tAndV ta tb) := by
  intro pins s σ H Q I h
  refine BoolOp_and (thn (ha pins s σ H _ I h) fun v s1 ⟨x, H1, I1, r1, q1⟩ => ?_)
  obtain ⟨c, rfl, q1⟩ := q1
  cases r1
  refine wpAny_truthy_bool ?_
  cases c with
  | true => exact hb pins s1 σ H1 Q I1 q1
  | false => exact ⟨.bl false, H1, I1, rfl, q1⟩
theorem pe_not (ha : PE X a ta) : PE X (.UnaryOp .Not a pos) (tNotV ta) := by
  intro pins s σ H Q I h
  refine UnaryOp_ (thn (ha pins s σ H _ I h) fun v s1 ⟨x, H1, I1, r1, q1⟩ => ?_)
  obtain ⟨c, rfl, q1⟩ := q1
  cases r1
  exact not_of (wpAny_truthy_bool ⟨.bl (!c), H1, I1, rfl, q1⟩)
end
end L2
namespace L2
open PySem PySem.Spec PyProof.Rows
def SqL (K : PySem.W.Frag) (H : Hp) (a : Addr) (xs : List V) : Prop :=
  Rd H a (.lst xs) \/
    ∃ (o : Obj) (its : Array Value) (n : Nat), K.lookup a = some o /\ o.cls = .type "list" /\ o.dict = none /\ o.data = .seq its n /\ its.size <= sizeLine /\ Vals xs its.toList
def SqT (K : PySem.W.Frag) (H : Hp) (a : Addr) (xs : List V) : Prop :=
  Rd H a (.tup xs) \/
    ∃ (o : Obj) (its : Array Value) (n : Nat), K.lookup a = some o /\ o.cls = .type "tuple" /\ o.data = .seq its n /\ its.size <= sizeLine /\ Vals xs its.toList
def absV : Value -> Option V
  | .none => some .non
  | .bool b => some (.bl b)
  | .int i _ => some (.int i)
  | .str x _ => some (.str x)
  | .bytes b _ => some (.byt b)
  | .float b _ => some (.flt b)
  | .ref a => some (.ref a)
  | .type n => some (.ty n)
  | _ => none
theorem RelV.abs {x : V} {u : Value} (r : RelV x u) : absV u = some x := by
  cases x with
  | non => cases r; rfl
  | bl _ => cases r; rfl
  | int _ => obtain ⟨t, rfl⟩ := r; rfl
  | str _ => obtain ⟨t, rfl⟩ := r; rfl
  | byt _ => obtain ⟨t, rfl⟩ := r; rfl
  | flt _ => obtain ⟨t, rfl⟩ := r; rfl
  | ref _ => cases r; rfl
  | ty _ => cases r; rfl
theorem RelV.inj {x y : V} {u : Value} (r : RelV x u) (q : RelV y u) : x = y := Option.some.inj (r.abs.symm.trans q.abs)
theorem Vals.inj : ∀ {xs ys : List V} {us : List Value}, Vals xs us -> Vals ys us -> xs = ys
  | _, _, _, .nil, .nil => rfl
  | _, _, _, .cons r t, .cons r' t' => by rw [r.inj r', Vals.inj t t']
section
variable {X : Cx} {pins : List (Addr × Obj)} {σ : St} {H : Hp} {s : Shared} {a : Addr} {xs ys : List V}
theorem SqL.of {K : PySem.W.Frag} (h : H a = some (.lst xs)) : SqL K H a xs := .inl (.inl h)
theorem SqT.of {K : PySem.W.Frag} (h : H a = some (.tup xs)) : SqT K H a xs := .inl (.inl h)
theorem Inv.list (I : Inv X pins σ H s) (h : SqL X.K H a xs) : ∃ its : List Value, Vals xs its /\ PlainL s.heap a its.toArray /\ xs.length <= sizeLine := by
  rcases h with h | ⟨o, its, n, hk, hc, hd, hs, hz, r⟩
  . obtain ⟨z, its, n, r, e⟩ := h.ok I.hok
    exact ⟨its, r, ⟨_, n, e, rfl, rfl, rfl⟩, z⟩
  . refine ⟨its.toList, r, ⟨o, n, I.kIn a o hk, hc, hd, by simpa using hs⟩, ?_⟩
    have e := r.length
    simp only [Array.length_toList] at e
    omega
theorem Inv.tuple (I : Inv X pins σ H s) (h : SqT X.K H a xs) : ∃ its : List Value, Vals xs its /\ IsTup s.heap a its.toArray /\ xs.length <= sizeLine := by
  rcases h with h | ⟨o, its, n, hk, hc, hs, hz, r⟩
  . obtain ⟨z, its, r, p⟩ := h.ok I.hok
    exact ⟨its, r, p, z⟩
  . refine ⟨its.toList, r, ⟨o, I.kIn a o hk, hc, n, by simpa using hs⟩, ?_⟩
    have e := r.length
    simp only [Array.length_toList] at e
    omega
theorem Inv.list_inj (I : Inv X pins σ H s) (h : SqL X.K H a xs) (h' : SqL X.K H a ys) : xs = ys := by
  obtain ⟨its, r, ⟨o, n, e, _, _, d⟩, _⟩ := I.list h
  obtain ⟨its', r', ⟨o', n', e', _, _, d'⟩, _⟩ := I.list h'
  rw [e] at e'; cases e'
  rw [d] at d'
  injection d' with d1 _
  have : its = its' := by simpa using congrArg Array.toList d1
  subst this
  exact r.inj r'
theorem Inv.tuple_inj (I : Inv X pins σ H s) (h : SqT X.K H a xs) (h' : SqT X.K H a ys) : xs = ys := by
  obtain ⟨its, r, ⟨o, e, _, n, d⟩, _⟩ := I.tuple h
  obtain ⟨its', r', ⟨o', e', _, n', d'⟩, _⟩ := I.tuple h'
  rw [e] at e'; cases e'
  rw [d] at d'
  injection d' with d1 _
  have : its = its' := by simpa using congrArg Array.toList d1
  subst this
  exact r.inj r'
end
abbrev Cx.wish (X : Cx) (E : Value -> Shared -> Prop) : Cx := { X with xe := E }
abbrev Cx.nox (X : Cx) : Cx := X.wish fun _ _ => False
theorem Cx.Ok.wish {X : Cx} (ok : X.Ok) (E : Value -> Shared -> Prop) : (X.wish E).Ok :=
  ⟨ok.mod, ok.kind, ok.glob, ok.blt, ok.above, ok.inj, ok.has, ok.cab, ok.hd, ok.frames, ok.stk, ok.exf, ok.bs, ok.bsz, ok.noex, ok.exfs, ok.funs, ok.frf⟩
theorem Cx.Ok.unwish {X : Cx} {E : Value -> Shared -> Prop} (ok : (X.wish E).Ok) : X.Ok :=
  ⟨ok.mod, ok.kind, ok.glob, ok.blt, ok.above, ok.inj, ok.has, ok.cab, ok.hd, ok.frames, ok.stk, ok.exf, ok.bs, ok.bsz, ok.noex, ok.exfs, ok.funs, ok.frf⟩
section
variable {X : Cx} {pins : List (Addr × Obj)} {σ : St} {H : Hp} {s : Shared} {E : Value -> Shared -> Prop}
theorem Inv.wish (I : Inv X pins σ H s) (E : Value -> Shared -> Prop) : Inv (X.wish E) pins σ H s := ⟨I.ok.wish E, I.os, I.bare, I.base, I.loc, I.cell, I.free, I.freeC, I.pin, I.hok, I.len⟩
theorem Inv.unwish (I : Inv (X.wish E) pins σ H s) : Inv X pins σ H s := ⟨I.ok.unwish, I.os, I.bare, I.base, I.loc, I.cell, I.free, I.freeC, I.pin, I.hok, I.len⟩
theorem SP.unwish {D : Ends} {f : Flow} {s' : Shared} (h : SP (X.wish E) pins D f s') : SP X pins D f s' := by
  cases f with
  | next => obtain ⟨σ', H', I, q⟩ := h; exact ⟨σ', H', I.unwish, q⟩
  | brk => obtain ⟨σ', H', I, q⟩ := h; exact ⟨σ', H', I.unwish, q⟩
  | cont => obtain ⟨σ', H', I, q⟩ := h; exact ⟨σ', H', I.unwish, q⟩
  | ret u => obtain ⟨v, σ', H', I, r, q⟩ := h; exact ⟨v, σ', H', I.unwish, r, q⟩
theorem PSs.nox {st : List Stmt} {t : TS} (h : PSs X.nox st t) : PSs X st t := fun pins s σ H D I hw =>
  wpAny_mono (h pins s σ H D (I.wish _) hw) (fun _ _ q => q.unwish) fun _ _ z => False.elim z
end
section
variable {X : Cx} {st : Stmt} {rest : List Stmt} {t u : TS} {e : Expr} {te : TE} {pos : Pos}
def tNext : TS := fun D σ H => D.nx σ H
def tSeq (t u : TS) : TS := fun D σ H => t { D with nx := u D } σ H
theorem pss_nil : PSs X [] tNext := fun _ _ σ H _ I h => wpAny_execs_nil ⟨σ, H, I, h⟩
theorem pss_cons (h1 : PS X st t) (h2 : PSs X rest u) : PSs X (st :: rest) (tSeq t u) := by
  intro pins s σ H D I h
  refine wpAny_execs_cons (thn (h1 pins s σ H { D with nx := u D } I h) fun f s1 q => ?_)
  cases f with
  | next =>
    obtain ⟨σ', H', I', q⟩ := q
    exact h2 pins s1 σ' H' D I' q
  | ret v => exact q
  | brk => exact q
  | cont => exact q
theorem pss_one (h1 : PS X st t) : PSs X [st] t := by
  intro pins s σ H D I h
  refine wpAny_execs_cons (thn (h1 pins s σ H D I h) fun f s1 q => ?_)
  cases f with
  | next => exact wpAny_execs_nil q
  | ret v => exact q
  | brk => exact q
  | cont => exact q
theorem Inv.quiet {pins : List (Addr × Obj)} {σ : St} {H : Hp} {s : Shared} (I : Inv X pins σ H s) : interactive X.env = false := by simp [interactive, I.ok.kind]
def tDrop (te : TE) : TS := fun D σ H => te σ H fun _ H1 => D.nx σ H1
theorem ps_expr (he : PE X e te) (hs : swapsWith e none pos.line X.env = pure false := by rfl) : PS X (.Expr e pos) (tDrop te) := by
  intro pins s σ H D I h
  exact wpAny_Expr_any (thn (he pins s σ H _ I h) fun v s1 ⟨x, H1, I1, r1, q1⟩ => ⟨σ, H1, I1, q1⟩) I.quiet hs
def tRet (te : TE) : TS := fun D σ H => te σ H D.rt
theorem ps_ret (he : PE X e te) : PS X (.Return (some e) pos) (tRet te) := by
  intro pins s σ H D I h
  exact wpAny_Return_some (thn (he pins s σ H _ I h) fun v s1 ⟨x, H1, I1, r1, q1⟩ => ⟨x, σ, H1, I1, r1, q1⟩)
def tIfS (c : TT) (t u : TS) : TS := fun D σ H => c σ H fun b H1 => if b = true then t D σ H1 else u D σ H1
theorem ps_if {c : Expr} {a b : List Stmt} {tc : TT} (hc : PT X c tc) (ha : PSs X a t) (hb : PSs X b u) : PS X (.If c a b pos) (tIfS tc t u) := by
  intro pins s σ H D I h
  refine wpAny_If (thn (hc pins s σ H _ I h) fun d s1 ⟨H1, I1, q1⟩ => ?_)
  cases d with
  | true => exact ha pins s1 σ H1 D I1 q1
  | false => exact hb pins s1 σ H1 D I1 q1
end
abbrev TG := V -> St -> Hp -> (St -> Hp -> Prop) -> Prop
def PG (X : Cx) (target : Expr) (t : TG) : Prop :=
  ∀ (pins : List (Addr × Obj)) (s : Shared) (σ : St) (H : Hp) (v : V) (u : Value) (Q : St -> Hp -> Prop), Inv X pins σ H s -> RelV v u -> t v σ H Q ->
    wpAny (model X.prog X.w) X.A (assign target X.env u) (fun _ s' => ∃ σ' H', Inv X pins σ' H' s' /\ Q σ' H') X.xe s
abbrev TSet := V -> V -> V -> Hp -> (Hp -> Prop) -> Prop
def PSet (X : Cx) (t : TSet) : Prop :=
  ∀ (pins : List (Addr × Obj)) (s : Shared) (σ : St) (H : Hp) (o i v : V) (ov iv u : Value) (Q : Hp -> Prop), Inv X pins σ H s -> RelV o ov -> RelV i iv -> RelV v u -> t o i v H Q ->
    wpAny (model X.prog X.w) X.A (setItem ov iv u) (fun _ s' => ∃ H', Inv X pins σ H' s' /\ Q H') X.xe s
section
variable {X : Cx} {pos : Pos}
def gName (i : Nat) : TG := fun v σ H Q => Q (σ.set i (some v)) H
theorem pg_name {i : Nat} {x : Str} (hN : X.N.Nodup) (hi : X.N[i]? = some x) (hx : Loc X.env.scope x) (hf : X.fn x = true \/ X.env.scope.names.lookup x = some .local := by first | exact .inl rfl | exact .inr rfl | assumption) : PG X (.Name x pos) (gName i) := by
  intro pins s σ H v u Q I r h
  exact wpAny_assign_Name (store_ok I hN hi hx r (fun s' I' => ⟨_, H, I', h⟩) hf)
def gSub (to ti : TE) (t : TSet) : TG := fun v σ H Q => to σ H fun o H1 => ti σ H1 fun i H2 => t o i v H2 fun H3 => Q σ H3
theorem pg_sub {o i : Expr} {to ti : TE} {t : TSet} (ho : PE X o to) (hi : PE X i ti) (hs : PSet X t)
    (ha : ∀ v, assign (.Subscript o i pos) X.env v = (do
      let ov <- holding [v] (eval o X.env)
      let iv <- holding [v, ov] (eval i X.env)
      standAt pos
      holding [v, ov, iv] (setItem ov iv v)
      release [v, ov, iv] []) := by intro _; rfl) : PG X (.Subscript o i pos) (gSub to ti t) := by
  intro pins s σ H v u Q I r h
  rw [ha]
  refine wpAny_bind (wpAny_holding (thn (ho pins s σ H _ I h) fun ov s1 ⟨x, H1, I1, r1, q1⟩ => ?_))
  refine wpAny_bind (wpAny_holding (thn (hi pins s1 σ H1 _ I1 q1) fun iv s2 ⟨y, H2, I2, r2, q2⟩ => ?_))
  refine wpAny_bind (wpAny_standAt (wpAny_bind (wpAny_holding (thn (hs pins s2 σ H2 x y v ov iv u _ I2 r1 r2 r q2) fun _ s3 ⟨H3, I3, q3⟩ => ?_))))
  exact wpAny_release ⟨σ, H3, I3, q3⟩
def tAsg (te : TE) (g : TG) : TS := fun D σ H => te σ H fun x H1 => g x σ H1 D.nx
theorem ps_asg {tg e : Expr} {te : TE} {g : TG} (he : PE X e te) (hg : PG X tg g) (hs : swapsWithSole [tg] e pos.line X.env = pure false := by rfl) (hw : swappedStores [tg] e X.env = pure none := by rfl)
    (h1 : (assignEach [tg] X.env).map (·.2) = [assign tg X.env] := by rfl) : PS X (.Assign [tg] e pos) (tAsg te g) := by
  intro pins s σ H D I h
  refine wpAny_Assign_stores (thn (he pins s σ H _ I h) fun v s1 ⟨x, H1, I1, r1, q1⟩ => ?_) hs hw
  rw [h1]
  exact thn (hg pins s1 σ H1 x v _ I1 r1 q1) fun _ s2 q => q
theorem ps_set {i : Nat} {x : Str} {e : Expr} {te : TE} {pos' : Pos} (hN : X.N.Nodup) (hi : X.N[i]? = some x) (hx : Loc X.env.scope x) (he : PE X e te) (hs : swapsWith e (some (.Name x pos')) pos.line X.env = pure false := by rfl) (hf : X.fn x = true \/ X.env.scope.names.lookup x = some .local := by first | exact .inl rfl | exact .inr rfl | assumption) :
    PS X (.Assign [.Name x pos'] e pos) (tAsg te (gName i)) := by
  intro pins s σ H D I h
  refine wpAny_Assign_Name (thn (he pins s σ H _ I h) fun v s1 ⟨y, H1, I1, r1, q1⟩ => ?_) hs
  exact store_ok I1 hN hi hx r1 (fun s2 I2 => ⟨_, H1, I2, q1⟩) hf
end
section
variable {X : Cx} {pos : Pos}
end
structure It where
  go : Nat -> Hp -> Prop
  yld : Nat -> Hp -> V -> Hp -> Prop
  stop : Nat -> Hp -> Prop
def FpOk (X : Cx) (pins : List (Addr × Obj)) (H : Hp) (b : Addr) : Prop :=
  H b = none /\ b ≠ X.env.locals /\ b ∉ X.fs /\ (b ∈ X.ex \/ X.s₀.heap.objs.size <= b) /\ (∀ x c, X.env.cells.lookup x = some c -> c ≠ b) /\ ∀ p ∈ X.pn ++ pins, p.1 ≠ b
theorem Inv.fpOk {X : Cx} {pins : List (Addr × Obj)} {σ : St} {H H' : Hp} {s : Shared} {b : Addr} (I : Inv X pins σ H s) (hb : s.heap.objs.size <= b) (hn : H' b = none) : FpOk X pins H' b := by
  refine ⟨hn, Nat.ne_of_gt (Nat.lt_of_lt_of_le I.lt hb), I.nofs hb, .inr (Nat.le_trans I.sz hb), fun x c e z => ?_, fun p hp z => ?_⟩
  . obtain ⟨v, q⟩ := I.cell x c e
    exact absurd (Nat.lt_of_lt_of_le q.lt (by rw [z]; exact hb)) (Nat.lt_irrefl _)
  . exact absurd (Nat.lt_of_lt_of_le (Heap.lt_size (I.pin p hp).1) (by rw [z]; exact hb)) (Nat.lt_irrefl _)
structure Turn (P : Program) (w : World) (K : PySem.W.Frag) (tg : Expr) (J : It) (fp : List Addr) (it : Addr) (tn : Nat -> Heap -> Prop) : Prop where
  mem : it ∈ fp
  obj : ∀ i h, tn i h -> ∀ b ∈ fp, ∃ o, h.get? b = some o /\ ∀ v, o.data ≠ .cell v
  keep : ∀ i h h', tn i h -> (∀ b ∈ fp, ∀ o, h.get? b = some o -> h'.get? b = some o) -> tn i h'
  item : ∀ (X : Cx), X.prog = P -> X.w = w -> X.K = K -> X.calm = true -> ∀ (i : Nat) (pins : List (Addr × Obj)) (s : Shared) (σ : St) (H : Hp) (E : Value -> Shared -> Prop), Inv X pins σ H s -> (∀ b ∈ fp, FpOk X pins H b) -> tn i s.heap -> J.go i H ->
    wpAny (model P w) X.A (pyNext (.ref it)) (fun r s1 => ∃ u, r = some u /\
      wpAny (model P w) X.A (letOwnedTupleGo tg (.ref it) u) (fun _ s2 => ∃ x H', Inv X pins σ H' s2 /\ RelV x u /\ J.yld i H x H' /\ tn (i + 1) s2.heap /\ ∀ b ∈ fp, H' b = none) E s1) E s
  done : ∀ (X : Cx), X.prog = P -> X.w = w -> X.K = K -> X.calm = true -> ∀ (i : Nat) (pins : List (Addr × Obj)) (s : Shared) (σ : St) (H : Hp) (E : Value -> Shared -> Prop), Inv X pins σ H s -> (∀ b ∈ fp, FpOk X pins H b) -> tn i s.heap -> J.stop i H ->
    wpAny (model P w) X.A (pyNext (.ref it)) (fun r s1 => r = none /\ Inv X pins σ H s1) E s
  self : ∀ (A : Around) (i : Nat) (s : Shared) (Q : Value -> Shared -> Prop) (E : Value -> Shared -> Prop), tn i s.heap -> Q (.ref it) s -> wpAny (model P w) A (pyIter (.ref it)) Q E s
abbrev TI := St -> Hp -> (It -> Hp -> Prop) -> Prop
def PIE (X : Cx) (pins : List (Addr × Obj)) (σ : St) (tg : Expr) (R : It -> Hp -> Prop) (itv : Value) (s2 : Shared) : Prop :=
  ∃ (it : Addr) (fp : List Addr) (tn : Nat -> Heap -> Prop) (J : It) (H' : Hp), itv = .ref it /\ Inv X pins σ H' s2 /\ Turn X.prog X.w X.K tg J fp it tn /\ tn 0 s2.heap /\ (∀ b ∈ fp, FpOk X pins H' b) /\ R J H'
def PI (X : Cx) (tg iter : Expr) (wi : TI) : Prop :=
  ∀ (pins : List (Addr × Obj)) (s : Shared) (σ : St) (H : Hp) (R : It -> Hp -> Prop), Inv X pins σ H s -> wi σ H R ->
    wpAny (model X.prog X.w) X.A (eval iter X.env) (fun v s1 => wpAny (model X.prog X.w) X.A (pyIter v) (PIE X pins σ tg R) X.xe s1) X.xe s
theorem go_of {M : Model} {A : Around} {E : Value -> Shared -> Prop} {s : Shared} {tg : Expr} {it : Addr} {u : Value} {o : Obj} {n : String} {vs : Array Value} {Q : Unit -> Shared -> Prop} (ho : s.heap.get? it = some o) (hc : o.cls = .type n) (hd : o.data = .fields vs)
    (hn : ["enumerate", "zip", "dict_itemiterator", "dict_reverseitemiterator", "odict_iterator", "itertools.zip_longest", "itertools.pairwise"].contains n = false) (hQ : Q () s) : wpAny M A (letOwnedTupleGo tg (.ref it) u) Q E s := by
  unfold letOwnedTupleGo
  cases tg <;> first
    | exact wpAny_pure hQ
    | (cases u <;> first
        | exact wpAny_pure hQ
        | (refine wpAny_bind (wpAny_load ho ?_)
           rw [hc, hd]
           show wpAny M A (if (["enumerate", "zip", "dict_itemiterator", "dict_reverseitemiterator", "odict_iterator", "itertools.zip_longest", "itertools.pairwise"].contains n && vs[0]? == some (rawInt _)) = true then _ else _) Q E s
           rw [if_neg (by intro h; rw [hn, Bool.false_and] at h; cases h)]
           exact wpAny_pure hQ))
def Itl (K : PySem.W.Frag) (a : Addr) : It :=
  ⟨fun i H => ∃ xs x, SqL K H a xs /\ xs[i]? = some x, fun i H x H' => H' = H /\ ∀ xs, SqL K H a xs -> xs[i]? = some x, fun i H => ∃ xs, SqL K H a xs /\ xs.length <= i⟩
def Itt (K : PySem.W.Frag) (a : Addr) : It :=
  ⟨fun i H => ∃ xs x, SqT K H a xs /\ xs[i]? = some x, fun i H x H' => H' = H /\ ∀ xs, SqT K H a xs -> xs[i]? = some x, fun i H => ∃ xs, SqT K H a xs /\ xs.length <= i⟩
def Itr (lo : Int) (n : Nat) : It := ⟨fun i _ => i < n, fun i H x H' => H' = H /\ x = .int (lo + i), fun i _ => n <= i⟩
theorem turn_list {P : Program} {w : World} {K : PySem.W.Frag} {tg : Expr} (a it : Addr) : Turn P w K tg (Itl K a) [it] it (fun i h => h.IsListIter it a i) where
  mem := by simp
  obj := fun i h st b hb => by
    have e : b = it := by simpa using hb
    subst e
    obtain ⟨o, e, c, d⟩ := st
    exact ⟨o, e, fun v z => by rw [d] at z; cases z⟩
  keep := fun i h h' st k => st.at fun o e => k it (by simp) o e
  item := by
    intro X hP hw hK hc i pins s σ H E I hf st hg
    subst hP hw hK
    obtain ⟨xs, x, hq, hx⟩ := hg
    obtain ⟨its, rv, p, hz⟩ := I.list hq
    obtain ⟨u, hu, ru⟩ := rv.get hx
    obtain ⟨f0, f1, f2, f3, f4, f5⟩ := hf it (by simp)
    refine wpAny_pyNext_list_item st p.isList (x := u) (by simpa using hu) fun h' st' sb => ?_
    have I1 : Inv X pins σ H { s with heap := h' } := I.turned (t' := s.toks) (fun b o hb e => (sb.2 b hb).trans e) f0 f1 f3 f4 f5
    obtain ⟨o, e, c, d⟩ := id st'
    exact ⟨u, rfl, go_of (s := { s with heap := h' }) e c d (by decide) ⟨x, H, I1, ru, ⟨rfl, fun ys hy => by rw [I.list_inj hy hq]; exact hx⟩, st', fun b hb => (hf b hb).1⟩⟩
  done := by
    intro X hP hw hK hc i pins s σ H E I hf st hg
    subst hP hw hK
    obtain ⟨xs, hq, hx⟩ := hg
    obtain ⟨its, rv, p, hz⟩ := I.list hq
    obtain ⟨f0, f1, f2, f3, f4, f5⟩ := hf it (by simp)
    have hl := rv.length
    exact wpAny_pyNext_list_end (I.ok.hd hc) st p.isList (by simp; omega) fun h' eb => ⟨rfl, I.turned (t' := s.toks) (fun b o hb e => eb b o hb e) f0 f1 f3 f4 f5⟩
  self := fun _ _ _ _ _ st h => wpAny_pyIter_listiter st h
theorem turn_tuple {P : Program} {w : World} {K : PySem.W.Frag} {tg : Expr} (a it : Addr) : Turn P w K tg (Itt K a) [it] it (fun i h => h.IsTupleIter it a i) where
  mem := by simp
  obj := fun i h st b hb => by
    have e : b = it := by simpa using hb
    subst e
    obtain ⟨o, e, c, d⟩ := st
    exact ⟨o, e, fun v z => by rw [d] at z; cases z⟩
  keep := fun i h h' st k => st.at fun o e => k it (by simp) o e
  item := by
    intro X hP hw hK hc i pins s σ H E I hf st hg
    subst hP hw hK
    obtain ⟨xs, x, hq, hx⟩ := hg
    obtain ⟨its, rv, p, hz⟩ := I.tuple hq
    obtain ⟨u, hu, ru⟩ := rv.get hx
    obtain ⟨f0, f1, f2, f3, f4, f5⟩ := hf it (by simp)
    refine wpAny_pyNext_tuple_item st (show s.heap.IsTuple a its.toArray from p) (x := u) (by simpa using hu) fun h' st' sb => ?_
    have I1 : Inv X pins σ H { s with heap := h' } := I.turned (t' := s.toks) (fun b o hb e => (sb.2 b hb).trans e) f0 f1 f3 f4 f5
    obtain ⟨o, e, c, d⟩ := id st'
    exact ⟨u, rfl, go_of (s := { s with heap := h' }) e c d (by decide) ⟨x, H, I1, ru, ⟨rfl, fun ys hy => by rw [I.tuple_inj hy hq]; exact hx⟩, st', fun b hb => (hf b hb).1⟩⟩
  done := by
    intro X hP hw hK hc i pins s σ H E I hf st hg
    subst hP hw hK
    obtain ⟨xs, hq, hx⟩ := hg
    obtain ⟨its, rv, p, hz⟩ := I.tuple hq
    obtain ⟨f0, f1, f2, f3, f4, f5⟩ := hf it (by simp)
    have hl := rv.length
    exact wpAny_pyNext_tuple_end (I.ok.hd hc) st (show s.heap.IsTuple a its.toArray from p) (by simp; omega) fun h' eb => ⟨rfl, I.turned (t' := s.toks) (fun b o hb e => eb b o hb e) f0 f1 f3 f4 f5⟩
  self := fun _ _ _ _ _ st h => wpAny_pyIter_tupleiter st h
theorem turn_range {P : Program} {w : World} {K : PySem.W.Frag} {tg : Expr} (it : Addr) (lo : Int) (n : Nat) : Turn P w K tg (Itr lo n) [it] it (fun i h => IsRangeIter h it (lo + (i : Nat) * 1) ((n : Int) - (i : Nat)) 1) where
  mem := by simp
  obj := fun i h st b hb => by
    have e : b = it := by simpa using hb
    subst e
    exact ⟨_, st, fun v z => by
      have z' : Data.fields _ = Data.cell v := z
      cases z'⟩
  keep := fun i h h' st k => k it (by simp) _ st
  item := by
    intro X hP hw hK hc i pins s σ H E I hf st hg
    subst hP hw hK
    obtain ⟨f0, f1, f2, f3, f4, f5⟩ := hf it (by simp)
    have W := Walks.range (prog := X.prog) (w := X.w) (I.ok.hd hc) it lo 1 n
    refine W.item i s _ _ hg st fun v h' tk hv st' kk => ?_
    obtain ⟨t, rfl⟩ := hv
    have I1 : Inv X pins σ H { s with heap := h', toks := tk } := I.turned (fun b o hb e => kk b o (by simpa using hb) e) f0 f1 f3 f4 f5
    refine ⟨_, rfl, go_of (s := { s with heap := h', toks := tk }) (n := "range_iterator") st' rfl rfl (by decide) ⟨.int (lo + i), H, I1, ⟨t, ?_⟩, ⟨rfl, rfl⟩, st', fun b hb => (hf b hb).1⟩⟩
    rw [Int.mul_one]
  done := by
    intro X hP hw hK hc i pins s σ H E I hf st hg
    subst hP hw hK
    obtain ⟨f0, f1, f2, f3, f4, f5⟩ := hf it (by simp)
    exact wpAny_pyNext_range_end (I.ok.hd hc) st (by have : n <= i := hg; omega) fun h' eb => ⟨rfl, I.turned (t' := s.toks) (fun b o hb e => eb b o hb e) f0 f1 f3 f4 f5⟩
  self := fun _ _ _ _ _ st h => wpAny_pyIter_rangeiter st h
end L2
namespace L2
open PySem PySem.Spec PyProof.Rows
section
variable {X : Cx} {tg : Expr}
def iTup (K : PySem.W.Frag) (tl : TE) : TI := fun σ H R => tl σ H fun x H1 => ∃ a, x = .ref a /\ (∃ xs, SqT K H1 a xs) /\ R (Itt K a) H1
theorem pi_tup {l : Expr} {tl : TE} (hl : PE X l tl) : PI X tg l (iTup X.K tl) := by
  intro pins s σ H R I h
  refine thn (hl pins s σ H _ I h) fun v s1 ⟨x, H1, I1, r1, q1⟩ => ?_
  obtain ⟨a, e, ⟨xs, hq⟩, q⟩ := q1
  subst e
  cases r1
  obtain ⟨its, rv, p, hz⟩ := I1.tuple hq
  refine wpAny_pyIter_tuple (show s1.heap.IsTuple a its.toArray from p) ?_
  refine ⟨s1.heap.objs.size, [s1.heap.objs.size], _, _, H1, rfl, I1.kept (t' := s1.toks) fun b o e => Heap.get?_push_of_some _ e, turn_tuple a _, ⟨_, Heap.get?_push_size _ rfl, rfl, rfl⟩, fun b hb => ?_, q⟩
  have e : b = s1.heap.objs.size := by simpa using hb
  subst e
  exact I1.fpOk (Nat.le_refl _) (I1.hok.fresh (Nat.le_refl _))
theorem range_it {pins : List (Addr × Obj)} {σ : St} {H : Hp} {s : Shared} {R : It -> Hp -> Prop} {E : Value -> Shared -> Prop} {lo hi : Int} {t u v : Tok} {tk : Nat} (I : Inv X pins σ H s) (h1 : -(2 ^ 62) <= lo) (h2 : lo < 2 ^ 62) (h3 : -(2 ^ 62) <= hi) (h4 : hi < 2 ^ 62)
    (q : R (Itr lo (hi - lo).toNat) H) : wpAny (model X.prog X.w) X.A (pyIter (.ref s.heap.objs.size)) (PIE X pins σ tg R) E { s with heap := s.heap.push { cls := .type "range", data := .fields #[.int lo t, .int hi u, .int 1 v] }, toks := tk } := by
  refine wpAny_pyIter_range (IsRange.new ..) (small_one h1 h2 h3 h4) ?_
  have I1 : Inv X pins σ H { s with heap := s.heap.push { cls := .type "range", data := .fields #[.int lo t, .int hi u, .int 1 v] }, toks := tk } := I.kept fun b o e => Heap.get?_push_of_some _ e
  refine ⟨(s.heap.push { cls := .type "range", data := .fields #[.int lo t, .int hi u, .int 1 v] }).objs.size, [(s.heap.push { cls := .type "range", data := .fields #[.int lo t, .int hi u, .int 1 v] }).objs.size], _, _, H, rfl,
    I1.kept (t' := tk) fun b o e => Heap.get?_push_of_some _ e, turn_range _ lo (hi - lo).toNat, ?_, fun b hb => ?_, q⟩
  . have e1 : lo + ((0 : Nat) : Int) * 1 = lo := by simp
    have e2 : (((hi - lo).toNat : Nat) : Int) - ((0 : Nat) : Int) = Builtin.Range.rangeSize lo hi 1 := by rw [rangeSize_one]; split <;> omega
    show IsRangeIter _ _ (lo + ((0 : Nat) : Int) * 1) ((((hi - lo).toNat : Nat) : Int) - ((0 : Nat) : Int)) 1
    rw [e1, e2]
    exact Heap.get?_push_size _ rfl
  . have e : b = (s.heap.push { cls := .type "range", data := .fields #[.int lo t, .int hi u, .int 1 v] }).objs.size := by simpa using hb
    subst e
    exact I1.fpOk (Nat.le_refl _) (I1.hok.fresh (Nat.le_refl _))
def iRng1 (ta : TA) : TI := fun σ H R => ta σ H fun vs H1 => ∃ j : Int, vs = [.int j] /\ -(2 ^ 62) <= j /\ j < 2 ^ 62 /\ R (Itr 0 j.toNat) H1
theorem pi_range1 {a : Expr} {ta : TA} {p pos : Pos} (hg : Gl X "range") (hm : X.mg "range" = none) (ha : PA X [a] ta) (hs : starEach [a] X.env = [(false, eval a X.env)] := by rfl) : PI X tg (.Call (.Name "range" p) [a] [] pos) (iRng1 ta) := by
  intro pins s σ H R I h
  refine Call_ (ld_blt I hg hm boot_range (PyProof.Rows.callWith_type1 (thn (ha pos pins s σ H _ I h) fun us s1 ⟨vs, H1, I1, r1, q1⟩ => ?_) hs rfl))
  obtain ⟨j, e, q1, q2, q⟩ := q1
  subst e
  cases r1 with
  | cons r rr =>
    cases rr
    obtain ⟨t, rfl⟩ := r
    exact call_range_1 (range_it I1 (by omega) (by omega) q1 q2 (by simpa using q))
def tFor (wi : TI) (g : TG) (tb : TS) : TS := fun D σ H => wi σ H fun J H1 => ∃ W : Nat -> Nat -> St -> Hp -> Prop, (∃ m, W 0 m σ H1) /\ ∀ i m σ H, W i m σ H ->
  (J.stop i H /\ D.nx σ H) \/ (J.go i H /\ ∃ N : St -> Hp -> Prop, (∀ σ' H', N σ' H' -> ∃ m', m' < m /\ W (i + 1) m' σ' H') /\ ∀ x H', J.yld i H x H' -> g x σ H' fun σ2 H2 => tb { D with nx := N, ct := N, bk := D.nx } σ2 H2)
def pinsAt (fp : List Addr) (h : Heap) : List (Addr × Obj) := fp.filterMap fun b => (h.get? b).map fun o => (b, o)
theorem mem_pinsAt {fp : List Addr} {h : Heap} {b : Addr} {o : Obj} (hb : b ∈ fp) (e : h.get? b = some o) : (b, o) ∈ pinsAt fp h := List.mem_filterMap.mpr ⟨b, hb, by rw [e]; rfl⟩
theorem of_pinsAt {fp : List Addr} {h : Heap} {p : Addr × Obj} (hp : p ∈ pinsAt fp h) : p.1 ∈ fp /\ h.get? p.1 = some p.2 := by
  obtain ⟨b, hb, e⟩ := List.mem_filterMap.mp hp
  cases q : h.get? b with
  | none => rw [q] at e; cases e
  | some o =>
    rw [q] at e
    have e' : (b, o) = p := Option.some.inj e
    subst e'
    exact ⟨hb, q⟩
theorem Inv.pinned {pins : List (Addr × Obj)} {σ : St} {H : Hp} {s : Shared} {fp : List Addr} (I : Inv X pins σ H s) (hf : ∀ b ∈ fp, FpOk X pins H b) (ho : ∀ b ∈ fp, ∃ o, s.heap.get? b = some o /\ ∀ v, o.data ≠ .cell v) : Inv X (pins ++ pinsAt fp s.heap) σ H s :=
  I.pins_of fun p hp => (List.mem_append.mp hp).elim (fun z => I.pin p (List.mem_append_right _ z)) fun z => by
    obtain ⟨hb, e⟩ := of_pinsAt z
    obtain ⟨f0, f1, f2, _⟩ := hf p.1 hb
    obtain ⟨o, e', d⟩ := ho p.1 hb
    rw [e] at e'; cases e'
    exact ⟨e, f0, f1, f2, d⟩
theorem Inv.unpinned {pins pl : List (Addr × Obj)} {σ : St} {H : Hp} {s : Shared} (I : Inv X (pins ++ pl) σ H s) : Inv X pins σ H s := I.pins_of fun p hp => I.pin p (List.mem_append_right _ (List.mem_append_left _ hp))
theorem ps_for {iter : Expr} {body : List Stmt} {wi : TI} {g : TG} {tb : TS} {pos : Pos} (hp : PassesOwn (model X.prog X.w) X.A X.env X.xe) (hc : X.calm = true) (hi : PI X tg iter wi) (hg : PG X tg g) (hb : PSs X body tb)
    (hs : ∀ x, foldedSetIterable iter X.env x = pure x := by intro _; rfl) : PS X (.For tg iter body [] pos) (tFor wi g tb) := by
  intro pins s σ H D I h
  refine wpAny_For (thn (hi pins s σ H _ I h) fun v s1 h1 => thn h1 fun itv s2 h2 => ?_) hs
  obtain ⟨it, fp, tn, J, H2, e, I2, T, st2, f2, W, ⟨m0, w0⟩, turn⟩ := h2
  subst e
  -- what stays true of the iterator's objects through the loop
  have stat : ∀ {H' : Hp}, (∀ b ∈ fp, H' b = none) -> ∀ b ∈ fp, FpOk X pins H' b := fun hn b hb => ⟨hn b hb, (f2 b hb).2⟩
  refine codeAny_forLoop_any (fun n s' => ∃ i σ' H', Inv X pins σ' H' s' /\ tn i s'.heap /\ (∀ b ∈ fp, H' b = none) /\ W i n σ' H') ?_ m0 ⟨0, σ, H2, I2, st2, fun b hb => (f2 b hb).1, w0⟩
  rintro n s3 ⟨i, σ3, H3, I3, st3, fr3, w3⟩
  rcases turn i n σ3 H3 w3 with ⟨stop, qn⟩ | ⟨go, N, hN, step⟩
  . refine wpAny_passesOwn hp (thn (T.done X rfl rfl rfl hc i pins s3 σ3 H3 X.xe I3 (stat fr3) st3 stop) fun r s4 ⟨hr, I4⟩ => ?_)
    subst hr
    exact wpAny_execs_nil ⟨σ3, H3, I4, qn⟩
  . refine wpAny_passesOwn hp (thn (T.item X rfl rfl rfl hc i pins s3 σ3 H3 X.xe I3 (stat fr3) st3 go) fun r s4 ⟨u, hr, h4⟩ => ?_)
    subst hr
    refine wpAny_passesOwn hp (thn h4 fun _ s5 ⟨x, H5, I5, r5, y5, st5, fr5⟩ => ?_)
    have I5' := I5.pinned (stat fr5) (T.obj _ _ st5)
    refine wpAny_passesOwn hp (thn (hg _ s5 σ3 H5 x u _ I5' r5 (step x H5 y5)) fun _ s6 ⟨σ6, H6, I6, q6⟩ => ?_)
    refine wpAny_passesOwn hp (thn (hb _ s6 σ6 H6 _ I6 q6) fun f s7 q7 => ?_)
    have again : ∀ {σ7 : St} {H7 : Hp}, Inv X (pins ++ pinsAt fp s5.heap) σ7 H7 s7 -> N σ7 H7 -> ∃ m, m < n /\ ∃ i σ' H', Inv X pins σ' H' s7 /\ tn i s7.heap /\ (∀ b ∈ fp, H' b = none) /\ W i m σ' H' := fun {σ7 H7} I7 n7 => by
      obtain ⟨m', hm, w7⟩ := hN σ7 H7 n7
      refine ⟨m', hm, i + 1, σ7, H7, I7.unpinned, T.keep _ _ _ st5 fun b hb o e => (I7.pin (b, o) (List.mem_append_right _ (List.mem_append_right _ (mem_pinsAt hb e)))).1, fun b hb => ?_, w7⟩
      obtain ⟨o, e, d⟩ := T.obj _ _ st5 b hb
      exact (I7.pin (b, o) (List.mem_append_right _ (List.mem_append_right _ (mem_pinsAt hb e)))).2.1
    cases f with
    | next => obtain ⟨σ7, H7, I7, n7⟩ := q7; exact again I7 n7
    | cont => obtain ⟨σ7, H7, I7, n7⟩ := q7; exact again I7 n7
    | brk => obtain ⟨σ7, H7, I7, q7⟩ := q7; exact ⟨σ7, H7, I7.unpinned, q7⟩
    | ret v => obtain ⟨x7, σ7, H7, I7, r7, q7⟩ := q7; exact ⟨x7, σ7, H7, I7.unpinned, r7, q7⟩
end
theorem for_list {K : PySem.W.Frag} {a : Addr} {xs : List V} {g : TG} {tb : TS} {D : Ends} {σ : St} {H : Hp} (Pv : Nat -> St -> Hp -> Prop) (h0 : Pv 0 σ H) (hl : ∀ i σ H, i <= xs.length -> Pv i σ H -> SqL K H a xs)
    (hs : ∀ i x σ H, xs[i]? = some x -> Pv i σ H -> g x σ H fun σ2 H2 => tb { D with nx := Pv (i + 1), ct := Pv (i + 1), bk := D.nx } σ2 H2) (hd : ∀ σ H, Pv xs.length σ H -> D.nx σ H) :
    ∃ W : Nat -> Nat -> St -> Hp -> Prop, (∃ m, W 0 m σ H) /\ ∀ i m σ H, W i m σ H ->
      ((Itl K a).stop i H /\ D.nx σ H) \/ ((Itl K a).go i H /\ ∃ N : St -> Hp -> Prop, (∀ σ' H', N σ' H' -> ∃ m', m' < m /\ W (i + 1) m' σ' H') /\ ∀ x H', (Itl K a).yld i H x H' -> g x σ H' fun σ2 H2 => tb { D with nx := N, ct := N, bk := D.nx } σ2 H2) := by
  refine ⟨fun i m σ H => m = xs.length - i /\ i <= xs.length /\ Pv i σ H, ⟨xs.length, by simp, Nat.zero_le _, h0⟩, ?_⟩
  rintro i m σ H ⟨rfl, hi, p⟩
  have q := hl i σ H hi p
  by_cases hlt : i < xs.length
  . refine .inr ⟨⟨xs, xs[i], q, by simp [hlt]⟩, Pv (i + 1), fun σ' H' p' => ⟨xs.length - (i + 1), by omega, rfl, hlt, p'⟩, fun x H' y => ?_⟩
    obtain ⟨e, y⟩ := y
    subst e
    exact hs i x σ _ (y xs q) p
  . have e : i = xs.length := by omega
    subst e
    exact .inl ⟨⟨xs, q, Nat.le_refl _⟩, hd σ H p⟩
theorem for_tup {K : PySem.W.Frag} {a : Addr} {xs : List V} {g : TG} {tb : TS} {D : Ends} {σ : St} {H : Hp} (Pv : Nat -> St -> Hp -> Prop) (h0 : Pv 0 σ H) (hl : ∀ i σ H, i <= xs.length -> Pv i σ H -> SqT K H a xs)
    (hs : ∀ i x σ H, xs[i]? = some x -> Pv i σ H -> g x σ H fun σ2 H2 => tb { D with nx := Pv (i + 1), ct := Pv (i + 1), bk := D.nx } σ2 H2) (hd : ∀ σ H, Pv xs.length σ H -> D.nx σ H) :
    ∃ W : Nat -> Nat -> St -> Hp -> Prop, (∃ m, W 0 m σ H) /\ ∀ i m σ H, W i m σ H ->
      ((Itt K a).stop i H /\ D.nx σ H) \/ ((Itt K a).go i H /\ ∃ N : St -> Hp -> Prop, (∀ σ' H', N σ' H' -> ∃ m', m' < m /\ W (i + 1) m' σ' H') /\ ∀ x H', (Itt K a).yld i H x H' -> g x σ H' fun σ2 H2 => tb { D with nx := N, ct := N, bk := D.nx } σ2 H2) := by
  refine ⟨fun i m σ H => m = xs.length - i /\ i <= xs.length /\ Pv i σ H, ⟨xs.length, by simp, Nat.zero_le _, h0⟩, ?_⟩
  rintro i m σ H ⟨rfl, hi, p⟩
  have q := hl i σ H hi p
  by_cases hlt : i < xs.length
  . refine .inr ⟨⟨xs, xs[i], q, by simp [hlt]⟩, Pv (i + 1), fun σ' H' p' => ⟨xs.length - (i + 1), by omega, rfl, hlt, p'⟩, fun x H' y => ?_⟩
    obtain ⟨e, y⟩ := y
    subst e
    exact hs i x σ _ (y xs q) p
  . have e : i = xs.length := by omega
    subst e
    exact .inl ⟨⟨xs, q, Nat.le_refl _⟩, hd σ H p⟩
theorem for_range {lo : Int} {n : Nat} {g : TG} {tb : TS} {D : Ends} {σ : St} {H : Hp} (Pv : Nat -> St -> Hp -> Prop) (h0 : Pv 0 σ H)
    (hs : ∀ i σ H, i < n -> Pv i σ H -> g (.int (lo + i)) σ H fun σ2 H2 => tb { D with nx := Pv (i + 1), ct := Pv (i + 1), bk := D.nx } σ2 H2) (hd : ∀ σ H, Pv n σ H -> D.nx σ H) :
    ∃ W : Nat -> Nat -> St -> Hp -> Prop, (∃ m, W 0 m σ H) /\ ∀ i m σ H, W i m σ H ->
      ((Itr lo n).stop i H /\ D.nx σ H) \/ ((Itr lo n).go i H /\ ∃ N : St -> Hp -> Prop, (∀ σ' H', N σ' H' -> ∃ m', m' < m /\ W (i + 1) m' σ' H') /\ ∀ x H', (Itr lo n).yld i H x H' -> g x σ H' fun σ2 H2 => tb { D with nx := N, ct := N, bk := D.nx } σ2 H2) := by
  refine ⟨fun i m σ H => m = n - i /\ i <= n /\ Pv i σ H, ⟨n, by simp, Nat.zero_le _, h0⟩, ?_⟩
  rintro i m σ H ⟨rfl, hi, p⟩
  by_cases hlt : i < n
  . refine .inr ⟨hlt, Pv (i + 1), fun σ' H' p' => ⟨n - (i + 1), by omega, rfl, hlt, p'⟩, fun x H' y => ?_⟩
    obtain ⟨e, y⟩ := y
    subst e y
    exact hs i σ _ hlt p
  . have e : i = n := by omega
    subst e
    exact .inl ⟨Nat.le_refl _, hd σ H p⟩
end L2
namespace L2
open PySem PySem.Spec PyProof.Rows
abbrev R2 := V -> V -> Hp -> VK -> Prop
def OpR (X : Cx) (f : Value -> Value -> Sem Value) (r : R2) : Prop :=
  ∀ (pins : List (Addr × Obj)) (s : Shared) (σ : St) (H : Hp) (x y : V) (v u : Value) (Q : VK), Inv X pins σ H s -> RelV x v -> RelV y u -> r x y H Q ->
    wpAny (model X.prog X.w) X.A (f v u) (EP X pins σ Q) X.xe s
def UnR (X : Cx) (f : Value -> Sem Value) (r : V -> Hp -> VK -> Prop) : Prop :=
  ∀ (pins : List (Addr × Obj)) (s : Shared) (σ : St) (H : Hp) (x : V) (v : Value) (Q : VK), Inv X pins σ H s -> RelV x v -> r x H Q ->
    wpAny (model X.prog X.w) X.A (f v) (EP X pins σ Q) X.xe s
def CallR (X : Cx) (f : Value) (r : List V -> Hp -> VK -> Prop) : Prop :=
  ∀ (pins : List (Addr × Obj)) (s : Shared) (σ : St) (H : Hp) (xs : List V) (us : List Value) (Q : VK), Inv X pins σ H s -> Vals xs us -> r xs H Q ->
    wpAny (model X.prog X.w) X.A (call f us) (EP X pins σ Q) X.xe s
def tOp (r : R2) (ta tb : TE) : TE := fun σ H Q => ta σ H fun x H1 => tb σ H1 fun y H2 => r x y H2 Q
def tUn (r : V -> Hp -> VK -> Prop) (ta : TE) : TE := fun σ H Q => ta σ H fun x H1 => r x H1 Q
def rI (C : Int -> Int -> Prop) (g : Int -> Int -> V) : R2 := fun x y H Q => ∃ i j, x = .int i /\ y = .int j /\ C i j /\ Q (g i j) H
def rI0 (g : Int -> Int -> V) : R2 := fun x y H Q => ∃ i j, x = .int i /\ y = .int j /\ Q (g i j) H
def rU (g : Int -> V) : V -> Hp -> VK -> Prop := fun x H Q => ∃ i, x = .int i /\ Q (g i) H
section
variable {X : Cx} {a b c : Expr} {ta tb tc : TE} {pos : Pos}
theorem binT (ha : PE X a ta) (hb : PE X b tb) {pins : List (Addr × Obj)} {s : Shared} {σ : St} {H : Hp} {R : V -> V -> Hp -> Prop} (I : Inv X pins σ H s)
    (h : ta σ H fun x H1 => tb σ H1 fun y H2 => R x y H2) {Q : Value -> Shared -> Prop} {f : Value -> Value -> Sem Value}
    (hf : ∀ v u s2 x y H2, Inv X pins σ H2 s2 -> RelV x v -> RelV y u -> R x y H2 -> wpAny (model X.prog X.w) X.A (f v u) Q X.xe s2) :
    wpAny (model X.prog X.w) X.A (eval a X.env) (fun v s₁ => wpAny (model X.prog X.w) X.A (eval b X.env) (fun u s₂ => wpAny (model X.prog X.w) X.A (f v u) Q X.xe s₂) X.xe s₁) X.xe s := by
  refine thn (ha pins s σ H _ I h) fun v s1 ⟨x, H1, I1, r1, q1⟩ => ?_
  refine thn (hb pins s1 σ H1 _ I1 q1) fun u s2 ⟨y, H2, I2, r2, q2⟩ => ?_
  exact hf v u s2 x y H2 I2 r1 r2 q2
theorem pe_op {op : Operator} {r : R2} (ho : OpR X (binaryOp op) r) (ha : PE X a ta) (hb : PE X b tb) : PE X (.BinOp a op b pos) (tOp r ta tb) := by
  intro pins s σ H Q I h
  exact wpAny_BinOp (binT ha hb I h fun v u s2 x y H2 I2 rx ry q => ho pins s2 σ H2 x y v u Q I2 rx ry q)
theorem pe_un {op : UnaryOp} {r : V -> Hp -> VK -> Prop} (ho : UnR X (unaryOp op) r) (ha : PE X a ta) : PE X (.UnaryOp op a pos) (tUn r ta) := by
  intro pins s σ H Q I h
  exact UnaryOp_ (thn (ha pins s σ H _ I h) fun v s1 ⟨x, H1, I1, r1, q1⟩ => ho pins s1 σ H1 x v Q I1 r1 q1)
theorem opI {f : Value -> Value -> Sem Value} {C : Int -> Int -> Prop} {g : Int -> Int -> Int}
    (rule : ∀ (i j : Int) (t u : Tok) (s : Shared) (Q : Value -> Shared -> Prop) (E : Value -> Shared -> Prop), C i j -> Q (.int (g i j) s.toks) { s with toks := s.toks + 1 } -> wpAny (model X.prog X.w) X.A (f (.int i t) (.int j u)) Q E s) :
    OpR X f (rI C fun i j => .int (g i j)) := by
  intro pins s σ H x y v u Q I rx ry h
  obtain ⟨i, j, rfl, rfl, hc, q⟩ := h
  obtain ⟨t, rfl⟩ := rx
  obtain ⟨t', rfl⟩ := ry
  exact rule i j t t' s _ _ hc ⟨.int (g i j), H, I.tok _, ⟨_, rfl⟩, q⟩
theorem opI0 {f : Value -> Value -> Sem Value} {g : Int -> Int -> Int}
    (rule : ∀ (i j : Int) (t u : Tok) (s : Shared) (Q : Value -> Shared -> Prop) (E : Value -> Shared -> Prop), Q (.int (g i j) s.toks) { s with toks := s.toks + 1 } -> wpAny (model X.prog X.w) X.A (f (.int i t) (.int j u)) Q E s) :
    OpR X f (rI0 fun i j => .int (g i j)) := by
  intro pins s σ H x y v u Q I rx ry h
  obtain ⟨i, j, rfl, rfl, q⟩ := h
  obtain ⟨t, rfl⟩ := rx
  obtain ⟨t', rfl⟩ := ry
  exact rule i j t t' s _ _ ⟨.int (g i j), H, I.tok _, ⟨_, rfl⟩, q⟩
theorem opB0 {f : Value -> Value -> Sem Value} {g : Int -> Int -> Bool}
    (rule : ∀ (i j : Int) (t u : Tok) (s : Shared) (Q : Value -> Shared -> Prop) (E : Value -> Shared -> Prop), Q (.bool (g i j)) s -> wpAny (model X.prog X.w) X.A (f (.int i t) (.int j u)) Q E s) :
    OpR X f (rI0 fun i j => .bl (g i j)) := by
  intro pins s σ H x y v u Q I rx ry h
  obtain ⟨i, j, rfl, rfl, q⟩ := h
  obtain ⟨t, rfl⟩ := rx
  obtain ⟨t', rfl⟩ := ry
  exact rule i j t t' s _ _ ⟨.bl (g i j), H, I, rfl, q⟩
def CDiv (i j : Int) : Prop := 0 < j /\ j < 1073741824
def CPow (i j : Int) : Prop := 0 <= j /\ j <= 1000000 /\ i.natAbs < 2 ^ 64
def CMul (i j : Int) : Prop := (-(2 ^ 64) < i /\ i < 2 ^ 64) \/ (-(2 ^ 64) < j /\ j < 2 ^ 64)
theorem CMul.ok {i j : Int} (h : CMul i j) : IntMulOk i j := by
  rcases h with ⟨h1, h2⟩ | ⟨h1, h2⟩
  . exact .of_left (intBits_le_64 h1 h2)
  . exact .of_right (intBits_le_64 h1 h2)
theorem op_add : OpR X (binaryOp .Add) (rI0 fun i j => .int (i + j)) := opI0 fun _ _ _ _ _ _ _ q => add_int q
theorem op_sub : OpR X (binaryOp .Sub) (rI0 fun i j => .int (i - j)) := opI0 fun _ _ _ _ _ _ _ q => sub_int q
theorem op_mul : OpR X (binaryOp .Mult) (rI CMul fun i j => .int (i * j)) := opI fun _ _ _ _ _ _ _ hc q => mul_int q hc.ok
theorem op_fdiv : OpR X (binaryOp .FloorDiv) (rI CDiv fun i j => .int (i / j)) := opI fun i j _ _ _ _ _ hc q => by
  have h1 : (0 : Int) < j := hc.1
  have h2 : j < 1073741824 := hc.2
  exact floordiv_int (by omega) (by rw [Int.fdiv_eq_ediv_of_nonneg i (by omega)]; exact q) (.inl (PyProof.noPylong_small (by omega)))
theorem op_mod : OpR X (binaryOp .Mod) (rI (fun _ j => 0 < j) fun i j => .int (i % j)) := opI fun i j _ _ _ _ _ hc q => by
  have h1 : (0 : Int) < j := hc
  exact mod_int' (by omega) (by rw [Int.fmod_eq_emod_of_nonneg i (by omega)]; exact q)
theorem op_pow : OpR X (binaryOp .Pow) (rI CPow fun i j => .int (i ^ j.toNat)) := opI fun _ _ _ _ _ _ _ hc q => pow_int_small hc.1 hc.2.1 hc.2.2 q
theorem unI {f : Value -> Sem Value} {g : Int -> Int}
    (rule : ∀ (i : Int) (t : Tok) (s : Shared) (Q : Value -> Shared -> Prop) (E : Value -> Shared -> Prop), Q (.int (g i) s.toks) { s with toks := s.toks + 1 } -> wpAny (model X.prog X.w) X.A (f (.int i t)) Q E s) :
    UnR X f (rU fun i => .int (g i)) := by
  intro pins s σ H x v Q I rx h
  obtain ⟨i, rfl, q⟩ := h
  obtain ⟨t, rfl⟩ := rx
  exact rule i t s _ _ ⟨.int (g i), H, I.tok _, ⟨_, rfl⟩, q⟩
theorem un_neg : UnR X (unaryOp .USub) (rU fun i => .int (-i)) := unI fun _ _ _ _ _ q => neg_int q
end
def scal : V -> V -> Bool
  | .non, .non => true | .non, .int _ => true | .int _, .non => true | .non, .bl _ => true | .bl _, .non => true | .non, .str _ => true | .str _, .non => true
  | .int _, .int _ => true | .bl _, .bl _ => true | .str _, .str _ => true | .byt _, .byt _ => true
  | .int _, .str _ => true | .str _, .int _ => true | .bl _, .str _ => true | .str _, .bl _ => true
  | _, _ => false
def rEq : R2 := fun x y H Q => scal x y = true /\ Q (.bl (decide (x = y))) H
def rNe : R2 := fun x y H Q => scal x y = true /\ Q (.bl (!decide (x = y))) H
theorem dec_int {i j : Int} : decide (V.int i = V.int j) = (i == j) := by
  rw [Bool.eq_iff_iff]
  simp
theorem dec_bl {i j : Bool} : decide (V.bl i = V.bl j) = (i == j) := by
  rw [Bool.eq_iff_iff]
  simp
theorem dec_str {i j : Str} : decide (V.str i = V.str j) = (i == j) := by
  rw [Bool.eq_iff_iff]
  simp
theorem dec_byt {i j : Array UInt8} : decide (V.byt i = V.byt j) = (i.toList == j.toList) := by
  rw [Bool.eq_iff_iff]
  cases i
  cases j
  simp
section
variable {X : Cx} {a b c : Expr} {ta tb tc : TE} {pos : Pos}
theorem fin_bl {pins : List (Addr × Obj)} {σ : St} {H : Hp} {s : Shared} {Q : VK} {k k' : Bool} (I : Inv X pins σ H s) (q : Q (.bl k) H) (e : k = k') : EP X pins σ Q (.bool k') s := by
  subst e
  exact ⟨.bl k, H, I, rfl, q⟩
theorem op_eq : OpR X (compareOp .Eq) rEq := by
  intro pins s σ H x y v u Q I rx ry h
  obtain ⟨hs, q⟩ := h
  cases x with
  | non =>
    cases rx
    cases y with
    | non => cases ry; exact PySem.EqNone.eq_none_none (fin_bl I q (by simp))
    | bl j => cases ry; exact PySem.EqNone.eq_none_bool (fin_bl I q (by simp))
    | int j => obtain ⟨t', rfl⟩ := ry; exact PySem.EqNone.eq_none_int (fin_bl I q (by simp))
    | str j => obtain ⟨t', rfl⟩ := ry; exact PySem.EqNone.eq_none_str (fin_bl I q (by simp))
    | _ => exact absurd (show false = true from hs) Bool.false_ne_true
  | bl i =>
    cases rx
    cases y with
    | non => cases ry; exact PySem.EqNone.eq_bool_none (fin_bl I q (by simp))
    | bl j => cases ry; exact eq_bool (fin_bl I q dec_bl)
    | str j => obtain ⟨t', rfl⟩ := ry; exact PySem.EqMixed.eq_bool_str (fin_bl I q (by simp))
    | _ => exact absurd (show false = true from hs) Bool.false_ne_true
  | int i =>
    obtain ⟨t, rfl⟩ := rx
    cases y with
    | non => cases ry; exact PySem.EqNone.eq_int_none (fin_bl I q (by simp))
    | int j => obtain ⟨t', rfl⟩ := ry; exact eq_int (fin_bl I q dec_int)
    | str j => obtain ⟨t', rfl⟩ := ry; exact PySem.EqMixed.eq_int_str (fin_bl I q (by simp))
    | _ => exact absurd (show false = true from hs) Bool.false_ne_true
  | str i =>
    obtain ⟨t, rfl⟩ := rx
    cases y with
    | non => cases ry; exact PySem.EqNone.eq_str_none (fin_bl I q (by simp))
    | bl j => cases ry; exact PySem.EqMixed.eq_str_bool (fin_bl I q (by simp))
    | int j => obtain ⟨t', rfl⟩ := ry; exact PySem.EqMixed.eq_str_int (fin_bl I q (by simp))
    | str j => obtain ⟨t', rfl⟩ := ry; exact eq_str (fin_bl I q dec_str)
    | _ => exact absurd (show false = true from hs) Bool.false_ne_true
  | byt i =>
    obtain ⟨t, rfl⟩ := rx
    cases y with
    | byt j => obtain ⟨t', rfl⟩ := ry; exact PySem.W.eq_bytes (fin_bl I q dec_byt)
    | _ => exact absurd (show false = true from hs) Bool.false_ne_true
  | _ => cases y <;> exact absurd (show false = true from hs) Bool.false_ne_true
theorem op_ne : OpR X (compareOp .NotEq) rNe := by
  intro pins s σ H x y v u Q I rx ry h
  obtain ⟨hs, q⟩ := h
  cases x with
  | non =>
    cases rx
    cases y with
    | non => cases ry; exact PySem.EqNone.ne_none_none (fin_bl I q (by simp))
    | bl j => cases ry; exact PySem.EqNone.ne_none_bool (fin_bl I q (by simp))
    | int j => obtain ⟨t', rfl⟩ := ry; exact PySem.EqNone.ne_none_int (fin_bl I q (by simp))
    | str j => obtain ⟨t', rfl⟩ := ry; exact PySem.EqNone.ne_none_str (fin_bl I q (by simp))
    | _ => exact absurd (show false = true from hs) Bool.false_ne_true
  | bl i =>
    cases rx
    cases y with
    | non => cases ry; exact PySem.EqNone.ne_bool_none (fin_bl I q (by simp))
    | bl j => cases ry; exact ne_bool (fin_bl I q (congrArg not dec_bl))
    | str j => obtain ⟨t', rfl⟩ := ry; exact PySem.EqMixed.ne_bool_str (fin_bl I q (by simp))
    | _ => exact absurd (show false = true from hs) Bool.false_ne_true
  | int i =>
    obtain ⟨t, rfl⟩ := rx
    cases y with
    | non => cases ry; exact PySem.EqNone.ne_int_none (fin_bl I q (by simp))
    | int j => obtain ⟨t', rfl⟩ := ry; exact ne_int (fin_bl I q (congrArg not dec_int))
    | str j => obtain ⟨t', rfl⟩ := ry; exact PySem.EqMixed.ne_int_str (fin_bl I q (by simp))
    | _ => exact absurd (show false = true from hs) Bool.false_ne_true
  | str i =>
    obtain ⟨t, rfl⟩ := rx
    cases y with
    | non => cases ry; exact PySem.EqNone.ne_str_none (fin_bl I q (by simp))
    | bl j => cases ry; exact PySem.EqMixed.ne_str_bool (fin_bl I q (by simp))
    | int j => obtain ⟨t', rfl⟩ := ry; exact PySem.EqMixed.ne_str_int (fin_bl I q (by simp))
    | str j => obtain ⟨t', rfl⟩ := ry; exact ne_str (fin_bl I q (congrArg not dec_str))
    | _ => exact absurd (show false = true from hs) Bool.false_ne_true
  | byt i =>
    obtain ⟨t, rfl⟩ := rx
    cases y with
    | byt j => obtain ⟨t', rfl⟩ := ry; exact PySem.W.ne_bytes (fin_bl I q (congrArg not dec_byt))
    | _ => exact absurd (show false = true from hs) Bool.false_ne_true
  | _ => cases y <;> exact absurd (show false = true from hs) Bool.false_ne_true
theorem op_lt : OpR X (compareOp .Lt) (rI0 fun i j => .bl (decide (i < j))) := opB0 fun _ _ _ _ _ _ _ q => lt_int q
theorem op_le : OpR X (compareOp .LtE) (rI0 fun i j => .bl (decide (i <= j))) := opB0 fun _ _ _ _ _ _ _ q => le_int q
theorem nomark (b : Expr) {op : CmpOp} (h : op ≠ .In := by decide) (h2 : op ≠ .NotIn := by decide) : behindInMarks op b = false := by
  have e1 : (op == CmpOp.In) = false := by cases op <;> first | rfl | exact absurd rfl h
  have e2 : (op == CmpOp.NotIn) = false := by cases op <;> first | rfl | exact absurd rfl h2
  cases b <;> simp [behindInMarks, e1, e2]
def tTest (t : TE) : TT := fun σ H Q => t σ H fun x H' => ∃ k, x = .bl k /\ Q k H'
theorem pt_cmpR {op : CmpOp} {r : R2} (ho : OpR X (compareOp op) r) (ha : PE X a ta) (hb : PE X b tb) (hm : behindInMarks op b = false) : PT X (.Compare a [op] [b] pos) (tTest (tOp r ta tb)) := by
  intro pins s σ H Q I h
  refine wpAny_isTrue_Compare1 (thn (ha pins s σ H _ I h) fun v s1 ⟨x, H1, I1, r1, q1⟩ => thn (hb pins s1 σ H1 _ I1 q1) fun u s2 ⟨y, H2, I2, r2, q2⟩ =>
    thn (ho pins s2 σ H2 x y v u _ I2 r1 r2 q2) fun c s3 ⟨z, H3, I3, r3, k, e, q3⟩ => ?_) hm
  subst e
  cases r3
  exact wpAny_truthy_bool ⟨H3, I3, q3⟩
def tChain (r r' : R2) (ta tb tc : TE) : TE := fun σ H Q => ta σ H fun x H1 => tb σ H1 fun y H2 => r x y H2 fun z H3 => ∃ k, z = .bl k /\
  (if k = true then tc σ H3 fun w' H4 => r' y w' H4 Q else Q (.bl false) H3)
theorem pe_chain {op op' : CmpOp} {r r' : R2} (ho : OpR X (compareOp op) r) (ho' : OpR X (compareOp op') r') (ha : PE X a ta) (hb : PE X b tb) (hc : PE X c tc)
    (hm : lastMarks [op, op'] [b, c] = false := by with_unfolding_all rfl) : PE X (.Compare a [op, op'] [b, c] pos) (tChain r r' ta tb tc) := by
  intro pins s σ H Q I h
  refine Compare_chain (thn (ha pins s σ H _ I h) fun v s1 ⟨x, H1, I1, r1, q1⟩ => chain_link (thn (hb pins s1 σ H1 _ I1 q1) fun u s2 ⟨y, H2, I2, r2, q2⟩ =>
    thn (ho pins s2 σ H2 x y v u _ I2 r1 r2 q2) fun d s3 ⟨z, H3, I3, r3, k, e, q3⟩ => ?_)) hm
  subst e
  cases r3
  refine wpAny_truthy_bool ?_
  cases k with
  | false => exact ite_ff ⟨.bl false, H3, I3, rfl, q3⟩
  | true => exact ite_tt (chain_last (thn (hc pins s3 σ H3 _ I3 q3) fun w' s4 ⟨z', H4, I4, r4, q4⟩ => ho' pins s4 σ H4 y z' u w' Q I4 r2 r4 q4))
theorem pt_chain {op op' : CmpOp} {r r' : R2} (ho : OpR X (compareOp op) r) (ho' : OpR X (compareOp op') r') (ha : PE X a ta) (hb : PE X b tb) (hc : PE X c tc)
    (hm : lastMarks [op, op'] [b, c] = false := by with_unfolding_all rfl) : PT X (.Compare a [op, op'] [b, c] pos) (tTest (tChain r r' ta tb tc)) := by
  intro pins s σ H Q I h
  refine isTrue_chain (thn (ha pins s σ H _ I h) fun v s1 ⟨x, H1, I1, r1, q1⟩ => test_link (thn (hb pins s1 σ H1 _ I1 q1) fun u s2 ⟨y, H2, I2, r2, q2⟩ =>
    thn (ho pins s2 σ H2 x y v u _ I2 r1 r2 q2) fun d s3 ⟨z, H3, I3, r3, k, e, q3⟩ => ?_)) hm
  subst e
  cases r3
  refine wpAny_truthy_bool ?_
  cases k with
  | false =>
    obtain ⟨k', e', q'⟩ := q3
    cases e'
    exact ite_ff ⟨H3, I3, q'⟩
  | true =>
    refine ite_tt (test_last (thn (hc pins s3 σ H3 _ I3 q3) fun w' s4 ⟨z', H4, I4, r4, q4⟩ => thn (ho' pins s4 σ H4 y z' u w' _ I4 r2 r4 q4) fun d' s5 ⟨z2, H5, I5, r5, k2, e2, q5⟩ => ?_))
    subst e2
    cases r5
    exact wpAny_truthy_bool ⟨H5, I5, q5⟩
theorem line63 : (sizeLine : Nat) < 2 ^ 63 := by rw [sizeLine_eq]; decide
theorem vals1 {x : V} {us : List Value} (r : Vals [x] us) : ∃ u, us = [u] /\ RelV x u := by
  cases r with
  | cons r1 r2 => cases r2; exact ⟨_, rfl, r1⟩
theorem vals2 {x y : V} {us : List Value} (r : Vals [x, y] us) : ∃ u w', us = [u, w'] /\ RelV x u /\ RelV y w' := by
  cases r with
  | cons r1 r2 =>
    cases r2 with
    | cons r3 r4 => cases r4; exact ⟨_, _, rfl, r1, r3⟩
theorem call_max2 (hc : X.calm = true) : CallR X (.builtin "max") (fun xs H Q => ∃ i j, xs = [.int i, .int j] /\ Q (.int (if j > i then j else i)) H) := by
  intro pins s σ H xs us Q I r h
  obtain ⟨i, j, rfl, q⟩ := h
  obtain ⟨u, w', rfl, ⟨t, rfl⟩, ⟨t', rfl⟩⟩ := vals2 r
  refine max_two_ints (I.ok.hd hc) fun h' tk k => ⟨_, H, I.kept k, ?_, q⟩
  by_cases hj : j > i
  . rw [if_pos hj, if_pos hj]; exact ⟨_, rfl⟩
  . rw [if_neg hj, if_neg hj]; exact ⟨_, rfl⟩
end
end L2
namespace L2
open PySem PySem.Spec PyProof.Rows
structure ObjM (h : Heap) (x dx C : Addr) (mA : Str -> Option Value) : Prop where
  obj : h.get? x = some (PySem.W.instObj C dx)
  ns : h.Ns1 dx mA
  ne : dx ≠ x
theorem lookIn_ns {h : Heap} {dx : Addr} {mA : Str -> Option Value} (n : h.Ns1 dx mA) : ∃ od, h.get? dx = some od /\ ∀ name, PySem.W.lookIn name od = some (mA name) := by
  obtain ⟨o, es, ep, ho, hd, hk, _, hm⟩ := n
  refine ⟨o, ho, fun name => ?_⟩
  have e := hm name
  unfold nsFind findBy at e
  rw [<- Array.find?_toList] at e
  unfold PySem.W.lookIn
  rw [hd]
  dsimp only
  split
  . rename_i y q
    rw [q] at e
    exact congrArg some e
  . rename_i q
    rw [q] at e
    have a : es.toList.any (·.refKey) = false := by
      rw [List.any_eq_false]
      intro y hy
      obtain ⟨z, t, hkey⟩ := hk y (Array.mem_toList_iff.mp hy)
      simp [DictEntry.refKey, hkey]
    have a' : ¬ es.toList.any (·.refKey) = true := by rw [a]; exact Bool.false_ne_true
    rw [if_neg a']
    exact congrArg some e
theorem ObjM.look {h : Heap} {x dx C : Addr} {mA : Str -> Option Value} (I : ObjM h x dx C mA) : ∃ od, PySem.W.InstAt h x (PySem.W.instObj C dx) C (some od) /\ ∀ name, PySem.W.lookIn name od = some (mA name) :=
  let ⟨od, ho, hl⟩ := lookIn_ns I.ns
  ⟨od, ⟨I.obj, rfl, rfl, ho⟩, hl⟩
section
variable {prog : Program} {w : World} {A : Around} {E : Value -> Shared -> Prop} {s : Shared} {K : PySem.W.Frag} {x dx C f : Addr} {mA : Str -> Option Value} {name : Str} {v : Value}
end
section
variable {P : Program} {w : World} {H H' : Hp} {h h' : Heap} {a C dx : Addr} {fs fs' : List (Str × V)}
theorem ins_get (hok : HOk P w H h) (e : H a = some (.ins C dx fs)) : ∃ mA, ObjM h a dx C mA /\ (∀ f, RelO (fs.lookup f) (mA f)) /\ PySem.Within mA (fs.map (·.1)) /\ fs.length <= 1000 /\ H dx = some (.own a) := by
  obtain ⟨d, z, ne, ob, mA, n, r, q⟩ := (show ObjOk P w H h a (.ins C dx fs) from hok a _ e)
  exact ⟨mA, ⟨ob, n, ne⟩, r, q, z, d⟩
end
structure Cls (K : PySem.W.Frag) (C : Addr) : Prop where
  pg : PySem.W.plainGet K C Str.empty = true
  hd : PySem.W.hasDictIn K C = true
  po : PySem.W.plainOver K C = true
  sa : PySem.W.findIn K (.ref C) "__setattr__" = some (some (.builtin "object.__setattr__"))
theorem Cls.get {K : PySem.W.Frag} {C : Addr} (c : Cls K C) (f : Str) : PySem.W.plainGet K C f = true := c.pg
section
variable {X : Cx} {pins : List (Addr × Obj)} {σ : St} {H : Hp} {s : Shared} {a C dx : Addr} {fs : List (Str × V)} {f : Str} {v : V} {A : Around} {E : Value -> Shared -> Prop}
end
section
variable {X : Cx} {o e value : Expr} {f : Str} {pos pos' tpos : Pos} {ta tv : TE}
end
section
variable {X : Cx} {pins : List (Addr × Obj)} {σ : St} {H : Hp} {s : Shared} {A : Around} {E : Value -> Shared -> Prop} {Q : Value -> Shared -> Prop} {c : Value} {b : Bool}
inductive TyOf (K : PySem.W.Frag) (H : Hp) : V -> Value -> Prop where
  | non : TyOf K H .non (.type "NoneType")
  | bl (x : Bool) : TyOf K H (.bl x) (.type "bool")
  | int (i : Int) : TyOf K H (.int i) (.type "int")
  | str (x : Str) : TyOf K H (.str x) (.type "str")
  | flt (x : UInt64) : TyOf K H (.flt x) (.type "float")
  | lst {a : Addr} {xs : List V} (e : H a = some (.lst xs)) : TyOf K H (.ref a) (.type "list")
  | frz {a : Addr} {o : Obj} {xs : List V} (e : H a = some (.frz o (.lst xs))) : TyOf K H (.ref a) (.type "list")
  | tup {a : Addr} {xs : List V} (e : H a = some (.tup xs)) : TyOf K H (.ref a) (.type "tuple")
  | dK {a : Addr} {kvs : List (Key × V)} (e : H a = some (.dK kvs)) : TyOf K H (.ref a) (.type "dict")
  | dT {a : Addr} {kvs : List (List Key × V)} (e : H a = some (.dT kvs)) : TyOf K H (.ref a) (.type "dict")
  | ins {a C dx : Addr} {fs : List (Str × V)} (e : H a = some (.ins C dx fs)) (cl : Cls K C) (ha : PySem.W.findIn K (.ref C) "__class__" = some (some (.builtin "object.__class__")))
      (hn : PySem.W.specialIn K (.builtin "object.__class__") "__get__" = some (some (.builtin "getset_descriptor.__get__"))) (htk : PySem.W.takesIn K (.builtin "object.__class__") = some true)
      (hm : PySem.W.mroIn K C (.type "object") = some true) : TyOf K H (.ref a) (.ref C)
theorem isinst_ok {x : V} {u t : Value} (I : Inv X pins σ H s) (rx : RelV x u) (ty : TyOf X.K H x t) (e : PySem.W.kitOne X.K t c = some b) (h : ∀ tk, Q (.bool b) { s with toks := tk }) :
    wpAny (model X.prog X.w) A (call (.builtin "isinstance") [u, c]) Q E s := by
  cases ty with
  | non => cases (show u = Value.none from rx); exact PySem.W.kia_one PySem.W.kitx_none I.kIn True.intro e (fun z => nomatch z) h
  | bl y => cases (show u = Value.bool y from rx); exact PySem.W.kia_one PySem.W.kitx_bool I.kIn True.intro e (fun z => nomatch z) h
  | int i => obtain ⟨t, q⟩ := (show ∃ t, u = Value.int i t from rx); cases q; exact PySem.W.kia_one PySem.W.kitx_int I.kIn True.intro e (fun z => nomatch z) h
  | str y => obtain ⟨t, q⟩ := (show ∃ t, u = Value.str y t from rx); cases q; exact PySem.W.kia_one PySem.W.kitx_str I.kIn True.intro e (fun z => nomatch z) h
  | flt y => obtain ⟨t, q⟩ := (show ∃ t, u = Value.float y t from rx); cases q; exact PySem.W.kia_one PySem.W.kitx_float I.kIn True.intro e (fun z => nomatch z) h
  | @lst a xs ea =>
    cases (show u = Value.ref a from rx)
    obtain ⟨_, _, n, _, h1⟩ := (show ObjOk X.prog X.w H s.heap a (.lst xs) from I.hok a _ ea)
    exact PySem.W.kia_one PySem.W.kitx_list I.kIn ⟨_, h1, rfl⟩ e (fun z => nomatch z) h
  | @frz a ob xs ea =>
    cases (show u = Value.ref a from rx)
    obtain ⟨_, _, _, n, _, h1⟩ := (show ObjOk X.prog X.w H s.heap a (.frz ob (.lst xs)) from I.hok a _ ea)
    exact PySem.W.kia_one PySem.W.kitx_list I.kIn ⟨_, h1, rfl⟩ e (fun z => nomatch z) h
  | @tup a xs ea =>
    cases (show u = Value.ref a from rx)
    obtain ⟨_, _, _, p⟩ := (show ObjOk X.prog X.w H s.heap a (.tup xs) from I.hok a _ ea)
    obtain ⟨o, h1, h2, _⟩ := p
    exact PySem.W.kia_one PySem.W.kitx_tuple I.kIn ⟨o, h1, h2⟩ e (fun z => nomatch z) h
  | @dK a kvs ea =>
    cases (show u = Value.ref a from rx)
    obtain ⟨_, _, vs, _, p⟩ := (show ObjOk X.prog X.w H s.heap a (.dK kvs) from I.hok a _ ea)
    obtain ⟨o, es, ep, h1, h2, _⟩ := p
    exact PySem.W.kia_one PySem.W.kitx_dict I.kIn ⟨o, h1, h2.1⟩ e (fun z => nomatch z) h
  | @dT a kvs ea =>
    cases (show u = Value.ref a from rx)
    obtain ⟨_, _, xs, _, o, es, ep, h1, h2, _⟩ := (show ObjOk X.prog X.w H s.heap a (.dT kvs) from I.hok a _ ea)
    exact PySem.W.kia_one PySem.W.kitx_dict I.kIn ⟨o, h1, h2.1⟩ e (fun z => nomatch z) h
  | @ins a C dx fs ea cl ha hn htk hm =>
    cases (show u = Value.ref a from rx)
    obtain ⟨mA, O, _⟩ := ins_get I.hok ea
    obtain ⟨od, J, _⟩ := O.look
    exact PySem.W.kia_one (PySem.W.kitx_own (cl.get _) cl.hd ha hn htk hm) I.kIn J e (fun z => nomatch z) h
end
end L2
namespace L2
open PySem PySem.Spec PyProof.Rows
structure Room (k : Nat) (A : Around) : Prop where
  hd : A.handled = none
  dp : A.depth + 3 * k + 5 < recursionLimit
  un : A.units + 16 * k + 200 < cLine
theorem Room.mono {j k : Nat} {A : Around} (r : Room k A) (h : j <= k) : Room j A := ⟨r.hd, by have := r.dp; omega, by have := r.un; omega⟩
theorem Room.deeper {k : Nat} {A : Around} (r : Room (k + 1) A) (env : Env) : Room k (A.deeper env) :=
  ⟨r.hd, by have := r.dp; show A.depth + 1 + 3 * k + 5 < _; omega, by have := r.un; show A.units + 3 + 16 * k + 200 < _; omega⟩
theorem Room.depth {k : Nat} {A : Around} (r : Room k A) : A.depth < recursionLimit := by have := r.dp; omega
theorem Room.units {k : Nat} {A : Around} (r : Room k A) : A.units + 64 < cLine := by have := r.un; omega
def tNil : TA := fun _ H Q => Q [] H
def tCons (ta : TE) (tr : TA) : TA := fun σ H Q => ta σ H fun x H1 => tr σ H1 fun xs H2 => Q (x :: xs) H2
section
variable {X : Cx} {e : Expr} {es : List Expr} {te : TE} {t : TA} {pos : Pos}
theorem pa_nil : PA X [] tNil := fun _ _ _ _ H Q I h => Calls.spliced_nil ⟨[], H, I, .nil, h⟩
theorem pa_cons (ha : PE X e te) (hr : PA X es t) (hs : starEach (e :: es) X.env = (false, eval e X.env) :: starEach es X.env := by rfl) : PA X (e :: es) (tCons te t) := by
  intro pos pins s σ H Q I h
  rw [hs]
  show wpAny _ _ (spliced ((false, eval e X.env) :: backTo pos (starEach es X.env))) _ _ s
  refine Calls.spliced_cons (thn (ha pins s σ H _ I h) fun u s1 ⟨x, H1, I1, r1, q1⟩ => ?_)
  exact thn (hr pos pins s1 σ H1 _ I1 q1) fun us s2 ⟨xs, H2, I2, r2, q2⟩ => ⟨x :: xs, H2, I2, .cons r1 r2, q2⟩
def tTup (t : TA) : TE := fun σ H Q => t σ H fun xs H1 => xs.length <= sizeLine /\ ∀ p, H1 p = none -> Q (.ref p) (upd H1 p (.tup xs))
def tLst (t : TA) : TE := fun σ H Q => t σ H fun xs H1 => xs.length <= sizeLine /\ ∀ p, H1 p = none -> Q (.ref p) (upd H1 p (.lst xs))
theorem pe_tup {x1} (h : PA X es t) : PE X (.Tuple es x1 pos) (tTup t) := by
  intro pins s σ H Q I hq
  refine wpAny_Tuple_spliced (thn (h pos pins s σ H _ I hq) fun us s1 ⟨xs, H1, I1, r, z, q⟩ => ⟨by rw [<- r.length]; exact z, ?_⟩)
  have hf : H1 s1.heap.objs.size = none := I1.hok.fresh (Nat.le_refl _)
  refine ⟨.ref s1.heap.objs.size, upd H1 s1.heap.objs.size (.tup xs), I1.laid (t' := s1.toks) (fun b u e => Heap.get?_push_of_some _ e) (Nat.le_refl _) ?_, rfl, q _ hf⟩
  exact ⟨z, us, r, ⟨_, Heap.get?_push_size _ rfl, rfl, _, rfl⟩⟩
theorem pe_lst (h : PA X es t) : PE X (.List es pos) (tLst t) := by
  intro pins s σ H Q I hq
  refine wpAny_List_spliced (thn (h pos pins s σ H _ I hq) fun us s1 ⟨xs, H1, I1, r, z, q⟩ => ⟨by rw [<- r.length]; exact z, ?_⟩)
  have hf : H1 s1.heap.objs.size = none := I1.hok.fresh (Nat.le_refl _)
  refine ⟨.ref s1.heap.objs.size, upd H1 s1.heap.objs.size (.lst xs), I1.laid (t' := s1.toks) (fun b u e => Heap.get?_push_of_some _ e) (Nat.le_refl _) ?_, rfl, q _ hf⟩
  exact ⟨z, us, 0, r, Heap.get?_push_size _ rfl⟩
end
abbrev Sp := List V -> Hp -> VK -> XK -> Prop
abbrev CXT := List Env -> Hp -> Shared -> XK -> Value -> Shared -> Prop
structure Env0 (P : Program) (w : World) (K : PySem.W.Frag) (mg : Str -> Option Value) (base : Heap) (A : Around) (outer : List Env) (s : Shared) (H : Hp) : Prop where
  frames : A.frames = some outer
  mod : Mod K mg base
  bs : ∀ b o, base.get? b = some o -> s.heap.get? b = some o /\ H b = none
  bsz : base.objs.size <= s.heap.objs.size
  funs : s.heap.FunFrames base outer
  frf : ∀ b ∈ frs outer, H b = none
  hok : HOk P w H s.heap
  bare : AllBare s.gens
def CE (outer : List Env) (P : Program) (w : World) (H : Hp) (s : Shared) (Q : VK) (u : Value) (s' : Shared) : Prop :=
  ∃ v H', s'.os = s.os /\ AllBare s'.gens /\ Un (frs outer) [] H H' s.heap s'.heap /\ HOk P w H' s'.heap /\ RelV v u /\ Q v H'
def CR (CX : CXT) (outer : List Env) (P : Program) (w : World) (H : Hp) (s : Shared) (Q : VK) (E : XK) (r : Result) (s' : Shared) : Prop :=
  match r with
  | .ok (.ret u) => CE outer P w H s Q u s'
  | .ok _ => False
  | .error e => CX outer H s E e s'
structure FnOk (P : Program) (w : World) (K : PySem.W.Frag) (mg : Str -> Option Value) (base : Heap) (CX : CXT) (k : Nat) (f : Addr) (fd : FuncData) (ps : List Str) (sp : Sp) : Prop where
  len : ∀ vs H Q E, sp vs H Q E -> vs.length = ps.length
  run : ∀ (A : Around) (outer : List Env) (s : Shared) (H : Hp) (args : Args) (us : List Value) (vs : List V) (Q : VK) (E : XK), Room k A -> Env0 P w K mg base A outer s H -> BindsTo s fd args (ps.zip us) -> Vals vs us -> sp vs H Q E ->
    codeAny (model P w) A (.call (.ref f) args) (CR CX outer P w H s Q E) s
section
variable {X : Cx} {pins : List (Addr × Obj)} {σ : St} {H : Hp} {s s' : Shared}
theorem Inv.env0 (I : Inv X pins σ H s) : Env0 X.prog X.w X.K X.mg X.base X.A X.stack s H :=
  ⟨I.ok.frames, I.ok.mod, I.bs, Nat.le_trans I.ok.bsz I.sz, I.stack, I.stkFree, I.hok, I.bare⟩
theorem Inv.after {Q : VK} {u : Value} (I : Inv X pins σ H s) (h : CE X.stack X.prog X.w H s Q u s') : EP X pins σ Q u s' := by
  obtain ⟨v, H', os, bare, un, hok, r, q⟩ := h
  obtain ⟨hh, g, d, t, os'⟩ := s'
  obtain rfl : os' = s.os := os
  exact ⟨v, H', I.call (h' := hh) (g' := g) (d' := d) (t' := t) (ch := []) un hok bare (fun b z => absurd z (by simp)), r, q⟩
end
def tCall (sp : Sp) (dvs : List V) (E : XK) (t : TA) : TE := fun σ H Q => t σ H fun vs H1 => sp (vs ++ dvs) H1 Q E
def Binds (K : PySem.W.Frag) (fd : FuncData) (ps : List Str) (ds : List Value) : Prop :=
  ∀ (s : Shared) (us : List Value), K.In s.heap -> (us ++ ds).length = ps.length -> BindsTo s fd ⟨us, []⟩ (ps.zip (us ++ ds))
theorem Binds.all {K : PySem.W.Frag} {fd : FuncData} {ps : List Str} (h : ∀ us : List Value, us.length = ps.length -> bindArgs fd ⟨us, []⟩ = pure (ps.zip us)) : Binds K fd ps [] := fun s us _ hl => by
  rw [List.append_nil] at hl ⊢
  exact .of_eq (h us hl)
def Passes (CX : CXT) (X : Cx) (E : XK) : Prop := ∀ (pins : List (Addr × Obj)) (σ : St) (H : Hp) (s : Shared) (e : Value) (s' : Shared), Inv X pins σ H s -> CX X.stack H s E e s' -> X.xe e s'
section
variable {X : Cx} {CX : CXT} {k : Nat} {f C : Addr} {fd : FuncData} {ps : List Str} {sp : Sp} {dvs : List V} {ds : List Value} {E : XK} {x m : Str} {p pos apos : Pos} {e o : Expr} {es : List Expr} {ta : TE} {t : TA}
theorem run_fn {pins : List (Addr × Obj)} {σ : St} {H : Hp} {s : Shared} {Q : VK} {us : List Value} {vs : List V} (F : FnOk X.prog X.w X.K X.mg X.base CX k f fd ps sp) (hr : Room k X.A) (hb : Binds X.K fd ps ds) (hd : Vals dvs ds) (hx : Passes CX X E)
    (I : Inv X pins σ H s) (r : Vals vs us) (h : sp (vs ++ dvs) H Q E) : wpAny (model X.prog X.w) X.A (call (.ref f) us) (EP X pins σ Q) X.xe s := by
  have r2 : Vals (vs ++ dvs) (us ++ ds) := r.append hd
  have hl : (us ++ ds).length = ps.length := by rw [<- r2.length]; exact F.len _ _ _ _ h
  refine wpAny_call (codeAny_mono (F.run X.A X.stack s H ⟨us, []⟩ (us ++ ds) (vs ++ dvs) Q E hr I.env0 (hb s us I.kIn hl) r2 h) fun r s' hq => ?_)
  cases r with
  | error e => exact hx pins σ H s e s' I hq
  | ok fl =>
    cases fl with
    | ret u => exact I.after hq
    | next => exact False.elim hq
    | brk => exact False.elim hq
    | cont => exact False.elim hq
theorem pe_call (F : FnOk X.prog X.w X.K X.mg X.base CX k f fd ps sp) (hr : Room k X.A) (hg : Gl X x) (hm : X.mg x = some (.ref f)) (hk : PySem.W.keepIn X.K (.ref f) = true) (hb : Binds X.K fd ps ds) (hd : Vals dvs ds) (hx : Passes CX X E)
    (ha : PA X (e :: es) t) (hdb : (x == ("__debug__" : Str)) = false := by decide) (he : starEach (e :: es) X.env = (false, eval e X.env) :: starEach es X.env := by rfl) (hpl : (backTo pos (starEach es X.env)).any (·.1) = false := by rfl) :
    PE X (.Call (.Name x p) (e :: es) [] pos) (tCall sp dvs E t) := by
  intro pins s σ H Q I h
  refine wpAny_Call_Name_kw (ld_glob I hg hm ?_ hdb)
  refine PySem.W.callWith_K (h₀ := X.base) I.ok.mod.kin hk (thn (ha pos pins s σ H _ I h) fun us s1 ⟨vs, H1, I1, r, q⟩ => ⟨I1.kIn, ?_⟩) he hpl
  exact run_fn F hr hb hd hx I1 r q
end
section
variable {X : Cx} {CX : CXT} {k : Nat} {f C : Addr} {fd : FuncData} {ps ks : List Str} {sp : Sp} {E : XK} {x m : Str} {p pos apos kpos : Pos} {e o : Expr} {es : List Expr} {kws : List Keyword} {te ta : TE} {t tk : TA} {nm : Option Str}
variable {g : List Value -> List Value -> List Value} {gV : List V -> List V -> List V}
end
structure FnScope (N P : List Str) (sc : Scope) : Prop where
  kind : sc.kind = .function
  co : sc.isCoroutine = false
  gen : sc.isGenerator = false
  nd : N.Nodup
  pre : N.take P.length = P
  par : ∀ x ∈ P, sc.names.lookup x = some .local \/ sc.names.lookup x = some .cell
  nofree : ∀ y ∈ sc.names, y.2 ≠ .free
theorem bindL_out {kindOf : Str -> Option NameKind} {x : Str} : ∀ {binds : List (Str × Value)} {m : Str -> Option Value}, (∀ v, (x, v) ∉ binds) -> bindL kindOf binds m x = m x
  | [], _, _ => rfl
  | (n, v) :: r, m, h => by
    unfold bindL
    rw [bindL_out fun w hw => h w (List.mem_cons_of_mem _ hw)]
    split
    . have : x ≠ n := by rintro rfl; exact h v List.mem_cons_self
      simp [this]
    . rfl
theorem bindC_out {kindOf : Str -> Option NameKind} {x : Str} : ∀ {binds : List (Str × Value)} {m : Str -> Option Value}, (∀ v, (x, v) ∉ binds) -> bindC kindOf binds m x = m x
  | [], _, _ => rfl
  | (n, v) :: r, m, h => by
    unfold bindC
    rw [bindC_out fun w hw => h w (List.mem_cons_of_mem _ hw)]
    split
    . rfl
    . have : x ≠ n := by rintro rfl; exact h v List.mem_cons_self
      simp [this]
theorem bindL_get {kindOf : Str -> Option NameKind} {x : Str} {v : Value} : ∀ {P : List Str} {vs : List Value} {i : Nat} {m : Str -> Option Value}, P.Nodup -> P[i]? = some x -> vs[i]? = some v -> kindOf x = some .local ->
    bindL kindOf (P.zip vs) m x = some v
  | [], _, _, _, _, h, _, _ => by simp at h
  | _ :: _, [], _, _, _, _, h, _ => by simp at h
  | p :: P, w :: vs, 0, m, nd, h1, h2, hk => by
    simp at h1 h2; subst h1; subst h2
    show bindL kindOf ((p, w) :: P.zip vs) m p = _
    unfold bindL
    rw [bindL_out fun v hv => (List.nodup_cons.mp nd).1 (List.of_mem_zip hv).1, if_pos hk]
    simp
  | p :: P, w :: vs, i + 1, m, nd, h1, h2, hk => by
    show bindL kindOf ((p, w) :: P.zip vs) m x = _
    unfold bindL
    exact bindL_get (i := i) (List.nodup_cons.mp nd).2 (by simpa using h1) (by simpa using h2) hk
theorem bindC_get {kindOf : Str -> Option NameKind} {x : Str} {v : Value} : ∀ {P : List Str} {vs : List Value} {i : Nat} {m : Str -> Option Value}, P.Nodup -> P[i]? = some x -> vs[i]? = some v -> kindOf x ≠ some .local ->
    bindC kindOf (P.zip vs) m x = some v
  | [], _, _, _, _, h, _, _ => by simp at h
  | _ :: _, [], _, _, _, _, h, _ => by simp at h
  | p :: P, w :: vs, 0, m, nd, h1, h2, hk => by
    simp at h1 h2; subst h1; subst h2
    show bindC kindOf ((p, w) :: P.zip vs) m p = _
    unfold bindC
    rw [bindC_out fun v hv => (List.nodup_cons.mp nd).1 (List.of_mem_zip hv).1, if_neg hk]
    simp
  | p :: P, w :: vs, i + 1, m, nd, h1, h2, hk => by
    show bindC kindOf ((p, w) :: P.zip vs) m x = _
    unfold bindC
    exact bindC_get (i := i) (List.nodup_cons.mp nd).2 (by simpa using h1) (by simpa using h2) hk
def start (N : List Str) (vs : List V) : St := vs.map some ++ List.replicate (N.length - vs.length) none
def cxOf (CX : CXT) (P : Program) (w : World) (K : PySem.W.Frag) (mg : Str -> Option Value) (base : Heap) (N : List Str) (qual : Str) (scope : Scope) (f : Addr) (cd : Value) (A : Around) (outer : List Env) (s : Shared) (H : Hp) (E : XK) : Cx where
  prog := P
  w := w
  K := K
  mg := mg
  base := base
  A := A.deeper (envOfC qual scope s.heap.objs.size f cd)
  N := N
  s₀ := s
  H₀ := H
  env := envOfC qual scope s.heap.objs.size f cd
  outer := outer
  stack := envOfC qual scope s.heap.objs.size f cd :: outer
  ex := []
  calm := true
  fn := fun _ => true
  pn := []
  xe := fun e s' => wpAny (model P w) (A.deeper (envOfC qual scope s.heap.objs.size f cd)) (leaving (envOfC qual scope s.heap.objs.size f cd) e) (fun _ s'' => CX outer H s E e s'') (fun e' s'' => CX outer H s E e' s'') s'
theorem cell_has {sc : Scope} {n : Nat} {x : Str} (h : sc.names.lookup x = some .cell) : ∃ c, (cellsFrom n sc.names []).lookup x = some c := by
  have q := PySem.W.cellsFrom_some sc.names n [] (.inl h)
  exact Option.isSome_iff_exists.mp q
theorem inv_start {CX : CXT} {P : Program} {w : World} {K : PySem.W.Frag} {mg : Str -> Option Value} {base : Heap} {N ps : List Str} {qual : Str} {scope : Scope} {f : Addr} {cd : Value} {A : Around} {outer : List Env} {s s1 : Shared} {H : Hp} {E : XK} {us : List Value} {vs : List V}
    (S : FnScope N ps scope) (hd : A.handled = none) (e0 : Env0 P w K mg base A outer s H) (hl : vs.length = ps.length) (r : Vals vs us)
    (x : InCallC s s.heap.objs.size (bindL (envOfC qual scope s.heap.objs.size f cd).kindOf (ps.zip us) fun _ => none) (cellsFrom (s.heap.objs.size + 1) scope.names []) (bindC (envOfC qual scope s.heap.objs.size f cd).kindOf (ps.zip us) fun _ => none) s1) :
    Inv (cxOf CX P w K mg base N qual scope f cd A outer s H E) [] (start N vs) H s1 := by
  have hpl : ps.length <= N.length := by have := congrArg List.length S.pre; rw [List.length_take] at this; omega
  obtain ⟨h1, tk, rfl, hk⟩ := x.done
  have noA : ∀ b : Addr, b ∉ (cxOf CX P w K mg base N qual scope f cd A outer s H E).ex := fun b z => absurd (show b ∈ ([] : List Addr) from z) (by simp)
  refine ⟨⟨e0.mod, S.kind, rfl, rfl, Nat.le_refl _, fun y z c h1 h2 => ?_, fun y hy => ?_, fun y c _ h => ?_, fun _ => hd, Around.frames_deeper e0.frames, .inr ⟨rfl, rfl⟩, fun b z => absurd z (noA b), e0.bs, e0.bsz, fun b _ _ => noA b, fun b z => absurd z (noA b), e0.funs, e0.frf⟩,
    rfl, e0.bare, Un.kept hk, ⟨_, x.toInCall.ns, fun i y v h1 h2 h3 => ?_⟩, fun y c h => ⟨_, x.cell y c h⟩, e0.hok.fresh (Nat.le_refl _), fun y c h => ?_, fun p hp => absurd (show p ∈ ([] : List (Addr × Obj)) from hp) (by simp), e0.hok.kept hk, ?_⟩
  . exact name_of_addr x.apart (PySem.mem_of_lookup h1) (PySem.mem_of_lookup h2)
  . have hy : scope.names.lookup y = some .cell \/ scope.names.lookup y = some .free := hy
    rcases hy with hy | hy
    . exact cell_has hy
    . exact absurd rfl (S.nofree _ (PySem.mem_of_lookup hy))
  . exact Nat.le_of_lt (x.above y c (PySem.mem_of_lookup h))
  . have hi : i < vs.length := by
      unfold start at h2
      by_cases hi : i < vs.length
      . exact hi
      . rw [List.getElem?_append_right (by simpa using hi)] at h2
        rw [List.getElem?_replicate] at h2
        split at h2 <;> cases h2
    have ha : vs[i]? = some v := by
      unfold start at h2
      rw [List.getElem?_append_left (by simpa using hi), List.getElem?_map] at h2
      cases e : vs[i]? with
      | none => rw [e] at h2; cases h2
      | some a => rw [e] at h2; cases h2; rfl
    obtain ⟨u, hu, rv⟩ := r.get ha
    have hp : ps[i]? = some y := by
      rw [<- S.pre, List.getElem?_take_of_lt (by omega)]; exact h1
    have ndP : ps.Nodup := by rw [<- S.pre]; exact S.nd.sublist (List.take_sublist _ _)
    refine ⟨u, rv, ?_⟩
    rcases S.par y (List.mem_of_getElem? hp) with k | k
    . exact .inl ⟨k, bindL_get ndP hp hu k⟩
    . obtain ⟨c, e⟩ := cell_has (n := s.heap.objs.size + 1) k
      refine .inr ⟨.inl k, c, e, ?_⟩
      have q := x.cell y c e
      rw [bindC_get ndP hp hu (by show scope.names.lookup y ≠ _; rw [k]; decide)] at q
      exact q
  . exact e0.hok.fresh (Nat.le_of_lt (x.above y c (PySem.mem_of_lookup h)))
  . unfold start
    show _ = N.length
    rw [List.length_append, List.length_map, List.length_replicate]
    omega
theorem fn_of {CX : CXT} {P : Program} {w : World} {K : PySem.W.Frag} {mg : Str -> Option Value} {base : Heap} {k : Nat} {f : Addr} {name qual : Str} {params : Arguments} {body : List Stmt} {scope : Scope} {dV kV doc pm cdv ct oc : Value} {an od : Option Addr}
    {osl : Array (Option Value)} {N ps : List Str} {sp : Sp} (lk : K.lookup f = some ⟨oc, od, .func (PySem.W.fnOf name qual params body scope dV kV doc pm an cdv ct), osl⟩) (hcd : PySem.W.codeIn K cdv qual = true) (S : FnScope N ps scope)
    (len : ∀ vs H Q E, sp vs H Q E -> vs.length = ps.length)
    (hbody : ∀ (A : Around) (outer : List Env) (s : Shared) (H : Hp) (vs : List V) (Q : VK) (E : XK), Room k (A.deeper (envOfC qual scope s.heap.objs.size f cdv)) -> sp vs H Q E ->
      ∃ t, PSs (cxOf CX P w K mg base N qual scope f cdv A outer s H E) body t /\ t { nx := fun _ H' => Q .non H', rt := Q } (start N vs) H) :
    FnOk P w K mg base CX (k + 1) f (PySem.W.fnOf name qual params body scope dV kV doc pm an cdv ct) ps sp := by
  refine ⟨len, fun A outer s H args us vs Q E hr e0 hb r hsp => ?_⟩
  have hl := len _ _ _ _ hsp
  have KX : K.In s.heap := e0.mod.kin.keeps fun b o e => (e0.bs b o e).1
  have lim : s.heap.NoLimit := e0.mod.nolimit.keeps fun b o e => (e0.bs b o e).1
  have hkind : ∀ y ∈ ps.zip us, scope.names.lookup y.1 = some .local \/ (scope.names.lookup y.1 = some .cell /\ ((cellsFrom (s.heap.objs.size + 1) scope.names []).lookup y.1).isSome = true) := fun ⟨n, v⟩ hy => by
    rcases S.par n (List.of_mem_zip hy).1 with q | q
    . exact .inl q
    . exact .inr ⟨q, PySem.W.cellsFrom_some _ _ _ (.inl q)⟩
  refine codeAny_call_function hr.depth (KX _ _ lk) rfl S.co S.gen rfl (PySem.W.codeRec_of KX hcd) (hb _ _ _ _ ?_)
  refine wpAny_newFunctionEnv_cells S.kind hkind fun env he s1 x => ?_
  subst he
  refine ⟨lim.keeps x.toInCall.keep, codeAny_func ?_⟩
  obtain ⟨t, ht, hq⟩ := hbody A outer s H vs Q E (hr.deeper _) hsp
  have I : Inv (cxOf CX P w K mg base N qual scope f cdv A outer s H E) [] (start N vs) H s1 := inv_start S hr.hd e0 hl r x
  refine wpAny_mono (ht [] s1 (start N vs) H _ I hq) (fun fl s' hs => ?_) fun e s' hs => hs
  have fin : ∀ {σ' : St} {H' : Hp} {v : V} {u : Value}, Inv (cxOf CX P w K mg base N qual scope f cdv A outer s H E) [] σ' H' s' -> RelV v u -> Q v H' -> CE outer P w H s Q u s' :=
    fun {σ' H' v u} J rv q => ⟨v, H', J.os, J.bare, J.base, J.hok, rv, q⟩
  cases fl with
  | ret u =>
    obtain ⟨v, σ', H', J, rv, q⟩ := hs
    exact fin J rv q
  | next =>
    obtain ⟨σ', H', J, q⟩ := hs
    exact fin (v := V.non) (u := Value.none) J rfl q
  | brk =>
    obtain ⟨_, _, _, q⟩ := hs
    exact False.elim q
  | cont =>
    obtain ⟨_, _, _, q⟩ := hs
    exact False.elim q
end L2
namespace L2
open PySem PySem.Spec PyProof.Rows
section
variable {X : Cx} {x : Str} {p pos : Pos} {e : Expr} {es : List Expr} {t : TA} {id T : String} {r : List V -> Hp -> VK -> Prop}
def tCB (r : List V -> Hp -> VK -> Prop) (t : TA) : TE := fun σ H Q => t σ H fun vs H1 => r vs H1 Q
theorem pe_callB (hc : CallR X (.builtin id) r) (hg : Gl X x) (hm : X.mg x = none) (hv : bootBuiltins x = some (.builtin id)) (ha : PA X (e :: es) t) (hn : x ≠ "__name__" := by decide) (hdb : (x == ("__debug__" : Str)) = false := by decide)
    (he : starEach (e :: es) X.env = (false, eval e X.env) :: starEach es X.env := by rfl) (hpl : (backTo pos (starEach es X.env)).any (·.1) = false := by rfl) : PE X (.Call (.Name x p) (e :: es) [] pos) (tCB r t) := by
  intro pins s σ H Q I h
  refine wpAny_Call_Name_kw (ld_blt I hg hm hv ?_ hn hdb)
  exact PyProof.Rows.callWith_builtin1 (thn (ha pos pins s σ H _ I h) fun us s1 ⟨vs, H1, I1, r1, q1⟩ => hc pins s1 σ H1 vs us Q I1 r1 q1) he hpl
theorem pe_callTy (hc : CallR X (.type T) r) (hg : Gl X x) (hm : X.mg x = none) (hv : bootBuiltins x = some (.type T)) (ha : PA X (e :: es) t) (hn : x ≠ "__name__" := by decide) (hdb : (x == ("__debug__" : Str)) = false := by decide)
    (he : starEach (e :: es) X.env = (false, eval e X.env) :: starEach es X.env := by rfl) (hpl : (backTo pos (starEach es X.env)).any (·.1) = false := by rfl) : PE X (.Call (.Name x p) (e :: es) [] pos) (tCB r t) := by
  intro pins s σ H Q I h
  refine wpAny_Call_Name_kw (ld_blt I hg hm hv ?_ hn hdb)
  exact PyProof.Rows.callWith_type1 (thn (ha pos pins s σ H _ I h) fun us s1 ⟨vs, H1, I1, r1, q1⟩ => hc pins s1 σ H1 vs us Q I1 r1 q1) he hpl
end
end L2
namespace HT
open PySem PyProof.Rows
section
open PySem.SeqAt
open PySem.AutoSeq1 (wpAny_loadPart')
open PySem.MeetsSeq PySem.MeetsSeq2 PySem.MeetsSeq3
end
section
variable {prog : Program} {w : World} {A : Around} {E : Value -> Shared -> Prop} {s : Shared}
end
end HT
namespace L2
open PySem PySem.Spec PyProof.Rows
abbrev TO := St -> Hp -> (Option Int -> Hp -> Prop) -> Prop
section
variable {X : Cx} {e : Expr} {te : TE} {lo hi : Option Expr} {tl th : TO} {pos p2 : Pos}
theorem Vals.nil_iff {xs : List V} {us : List Value} (r : Vals xs us) : us = [] ↔ xs = [] := by
  cases r with
  | nil => simp
  | cons _ _ => simp
end
end L2
namespace L2
open PySem PySem.Spec PyProof.Rows
def ixN (n : Nat) (i : Int) : Option Nat := if 0 <= i then (if i < n then some i.toNat else none) else if -(n : Int) <= i then some (i + n).toNat else none
def atI {α : Type} (xs : List α) (i : Int) : Option α := (ixN xs.length i).bind fun j => xs[j]?
theorem ixN_seq {n : Nat} {i : Int} {j : Nat} (h : ixN n i = some j) : seqIndex? i n = some j /\ j < n /\ -(n : Int) <= i /\ i < n := by
  unfold ixN at h
  by_cases h0 : 0 <= i
  . rw [if_pos h0] at h
    by_cases h1 : i < n
    . rw [if_pos h1] at h
      have e : i.toNat = j := Option.some.inj h
      exact ⟨by rw [seqIndex_of h0 h1, e], by omega, by omega, h1⟩
    . rw [if_neg h1] at h; cases h
  . rw [if_neg h0] at h
    by_cases h1 : -(n : Int) <= i
    . rw [if_pos h1] at h
      have e : (i + n).toNat = j := Option.some.inj h
      exact ⟨by rw [seqIndex_neg (by omega) h1, e], by omega, h1, by omega⟩
    . rw [if_neg h1] at h; cases h
theorem atI_get {α : Type} {xs : List α} {i : Int} {v : α} (h : atI xs i = some v) : ∃ j, seqIndex? i xs.length = some j /\ xs[j]? = some v /\ j < xs.length /\ -(xs.length : Int) <= i /\ i < xs.length := by
  unfold atI at h
  cases e : ixN xs.length i with
  | none => rw [e] at h; cases h
  | some j =>
    rw [e] at h
    obtain ⟨h1, h2, h3, h4⟩ := ixN_seq e
    exact ⟨j, h1, h, h2, h3, h4⟩
theorem atI_nat {α : Type} {xs : List α} {j : Nat} {v : α} (h : xs[j]? = some v) : atI xs (j : Int) = some v := by
  have hj : j < xs.length := (List.getElem?_eq_some_iff.mp h).1
  have e : ixN xs.length (j : Int) = some j := by
    unfold ixN
    rw [if_pos (by omega), if_pos (by omega)]; simp
  unfold atI; rw [e]; exact h
def PlainIx (b : Expr) : Prop := ∀ o i, subscripted b false o i = operate [o, i] (getItem o i)
def IxR (X : Cx) (r : R2) : Prop :=
  ∀ (value slice : Expr) (pins : List (Addr × Obj)) (s : Shared) (σ : St) (H : Hp) (x y : V) (v u : Value) (Q : VK), Inv X pins σ H s -> RelV x v -> RelV y u -> r x y H Q ->
    subscripted slice false v u = operate [v, u] (getItem v u) -> wpAny (model X.prog X.w) X.A (subscriptTail value slice v u) (EP X pins σ Q) X.xe s
def MtR (X : Cx) (id : String) (r : V -> List V -> Hp -> VK -> Prop) : Prop :=
  ∀ (pins : List (Addr × Obj)) (s : Shared) (σ : St) (H : Hp) (x : V) (xs : List V) (v : Value) (us : List Value) (Q : VK), Inv X pins σ H s -> RelV x v -> Vals xs us -> r x xs H Q ->
    wpAny (model X.prog X.w) X.A (call (.builtin id) (v :: us)) (EP X pins σ Q) X.xe s
section
variable {X : Cx} {a b : Expr} {ta tb : TE} {pos : Pos}
theorem pe_ix {r : R2} (hr : IxR X r) (ha : PE X a ta) (hb : PE X b tb) (hs : PlainIx b) : PE X (.Subscript a b pos) (tOp r ta tb) := by
  intro pins s σ H Q I h
  exact Subscript_ (binT ha hb I h fun v u s2 x y H2 I2 rx ry q => hr a b pins s2 σ H2 x y v u Q I2 rx ry q (hs _ _))
def rIxL (K : PySem.W.Frag) : R2 := fun x y H Q => ∃ p xs i v, x = .ref p /\ y = .int i /\ SqL K H p xs /\ atI xs i = some v /\ Q v H
def rIxT (K : PySem.W.Frag) : R2 := fun x y H Q => ∃ p xs i v, x = .ref p /\ y = .int i /\ SqT K H p xs /\ atI xs i = some v /\ Q v H
theorem ix_list : IxR X (rIxL X.K) := by
  intro value slice pins s σ H x y v u Q I rx ry h hs
  obtain ⟨p, xs, i, z, rfl, rfl, hq, he, q⟩ := h
  cases rx
  obtain ⟨t, rfl⟩ := ry
  obtain ⟨its, r, pl, hz⟩ := I.list hq
  obtain ⟨j, h1, h2, h3, h4, h5⟩ := atI_get he
  obtain ⟨w, ew, rw'⟩ := r.get h2
  have hl := r.length
  have hn := line63
  have fin : EP X pins σ Q w s := ⟨z, H, I, rw', q⟩
  by_cases h0 : 0 <= i
  . have hj : i.toNat = j := by
      rw [seqIndex_of h0 h5] at h1
      exact Option.some.inj h1
    exact item_listR pl.isList h0 (by omega) (by rw [hj]; simpa using ew) fin hs
  . have hj : (i + (its.toArray.size : Int)).toNat = j := by
      rw [seqIndex_neg (by omega) h4] at h1
      rw [List.size_toArray, <- hl]
      exact Option.some.inj h1
    exact subscriptTail_builtinR (x := w) pl.isList.typeIs slot_list_getitem.lookup
      (wpAny_getItem_list_neg (Q := fun r s' => r = w /\ EP X pins σ Q r s') pl.isList (by omega) (by rw [List.size_toArray] <;> omega) (by omega) (by rw [hj]; simpa using ew) ⟨rfl, fin⟩) hs
theorem ix_tup : IxR X (rIxT X.K) := by
  intro value slice pins s σ H x y v u Q I rx ry h hs
  obtain ⟨p, xs, i, z, rfl, rfl, hq, he, q⟩ := h
  cases rx
  obtain ⟨t, rfl⟩ := ry
  obtain ⟨its, r, pl, hz⟩ := I.tuple hq
  obtain ⟨j, h1, h2, h3, h4, h5⟩ := atI_get he
  obtain ⟨w, ew, rw'⟩ := r.get h2
  have hl := r.length
  have hn := line63
  have fin : EP X pins σ Q w s := ⟨z, H, I, rw', q⟩
  exact subscriptTail_builtinR (x := w) pl.typeIs slot_tuple_getitem.lookup
    (getItem_tuple (j := j) (Q := fun r s' => r = w /\ EP X pins σ Q r s') pl (by omega) (by omega) (by rw [List.size_toArray, <- hl]; exact h1) (by simpa using ew) ⟨rfl, fin⟩) hs
theorem mapSeq_set (its : List Value) (n j : Nat) (u : Value) : Obj.mapSeq (·.setIfInBounds j u) { cls := .type "list", data := .seq its.toArray n } = { cls := .type "list", data := .seq (its.set j u).toArray n } := by
  simp [Obj.mapSeq]
theorem Inv.lst {pins : List (Addr × Obj)} {σ : St} {H : Hp} {s : Shared} {p : Addr} {xs : List V} (I : Inv X pins σ H s) (h : H p = some (.lst xs)) :
    ∃ (its : List Value) (n : Nat), Vals xs its /\ s.heap.get? p = some { cls := .type "list", data := .seq its.toArray n } /\ xs.length <= sizeLine := by
  obtain ⟨z, its, n, r, e⟩ := I.hok p _ h
  exact ⟨its, n, r, e, z⟩
theorem Inv.lstUpd {pins : List (Addr × Obj)} {σ : St} {H : Hp} {s : Shared} {p : Addr} {xs ys : List V} {its its' : List Value} {n n' : Nat} {f : Obj -> Obj} (I : Inv X pins σ H s) (h : H p = some (.lst xs))
    (ho : s.heap.get? p = some { cls := .type "list", data := .seq its.toArray n }) (hf : f { cls := .type "list", data := .seq its.toArray n } = { cls := .type "list", data := .seq its'.toArray n' }) (r : Vals ys its') (hz : ys.length <= sizeLine) (t : Nat) :
    Inv X pins σ (upd H p (.lst ys)) { s with heap := s.heap.update p f, toks := t } := by
  have e : (s.heap.update p f).get? p = some { cls := .type "list", data := .seq its'.toArray n' } := by
    rw [Heap.get?_update_self f ho (by rw [hf] <;> rfl), hf]
  refine I.write (x := p) (e := p) (by rw [h]; trivial) (.inl rfl) (fun b u hb q => (Heap.get?_update_other _ _ (Ne.symm hb)).trans q) ⟨_, e⟩ ?_
  exact ⟨hz, its', n', r, e⟩
def rSetL : V -> V -> V -> Hp -> (Hp -> Prop) -> Prop := fun o i v H Q => ∃ p xs k j, o = .ref p /\ i = .int k /\ H p = some (.lst xs) /\ ixN xs.length k = some j /\ Q (upd H p (.lst (xs.set j v)))
theorem set_list : PSet X rSetL := by
  intro pins s σ H o i v ov iv u Q I ro ri rv h
  obtain ⟨p, xs, k, j, rfl, rfl, hp, hj, q⟩ := h
  cases ro
  obtain ⟨t, rfl⟩ := ri
  obtain ⟨its, n, r, ho, hz⟩ := I.lst hp
  obtain ⟨h1, h2, h3, h4⟩ := ixN_seq hj
  have hl := r.length
  have hn := line63
  have I' : Inv X pins σ (upd H p (.lst (xs.set j v))) { s with heap := s.heap.update p (Obj.mapSeq (·.setIfInBounds j u)) } :=
    I.lstUpd hp ho (mapSeq_set its n j u) (r.set rv j) (by rw [List.length_set]; exact hz) s.toks
  by_cases h0 : 0 <= k
  . have hk : k.toNat = j := by
      rw [seqIndex_of h0 h4] at h1
      exact Option.some.inj h1
    exact PySem.W.ki_setAt ho h0 (by omega) (by rw [List.size_toArray, <- hl]; exact h4) (by rw [hk]; exact ⟨_, I', q⟩)
  . have hk : (k + (its.toArray.size : Int)).toNat = j := by
      rw [seqIndex_neg (by omega) h3] at h1
      rw [List.size_toArray, <- hl]
      exact Option.some.inj h1
    exact PySem.W.ki_setBack ho (by omega) (by rw [List.size_toArray, <- hl]; exact h3) (by omega) (by rw [hk]; exact ⟨_, I', q⟩)
def flatV : V -> Bool
  | .non => true
  | .bl _ => true
  | .int _ => true
  | .str _ => true
  | _ => false
def eqV : V -> V -> Bool
  | .non, .non => true
  | .bl a, .bl b => a == b
  | .bl a, .int b => (if a then 1 else 0) == b
  | .int a, .bl b => a == (if b then 1 else 0)
  | .int a, .int b => a == b
  | .str a, .str b => a == b
  | _, _ => false
theorem eqAt_V {A : Around} {s : Shared} {y x : V} {u v : Value} (ry : RelV y u) (rx : RelV x v) (fy : flatV y = true) (fx : flatV x = true) : SeqAt.EqAt A s u v (eqV y x) := by
  cases y with
  | non =>
    cases ry
    cases x with
    | non => cases rx; exact SeqAt.EqAt.same _
    | bl b => cases rx; exact SeqAt.EqAt.none_bool b
    | int b => obtain ⟨t, rfl⟩ := rx; exact SeqAt.EqAt.none_int b t
    | str b => obtain ⟨t, rfl⟩ := rx; exact SeqAt.EqAt.none_str b t
    | _ => exact absurd (show false = true from fx) Bool.false_ne_true
  | bl a =>
    cases ry
    cases x with
    | non => cases rx; exact SeqAt.EqAt.bool_none a
    | bl b => cases rx; exact SeqAt.EqAt.bool_bool a b
    | int b => obtain ⟨t, rfl⟩ := rx; exact SeqAt.EqAt.bool_int a b t
    | str b => obtain ⟨t, rfl⟩ := rx; exact SeqAt.EqAt.bool_str a b t
    | _ => exact absurd (show false = true from fx) Bool.false_ne_true
  | int a =>
    obtain ⟨t', rfl⟩ := ry
    cases x with
    | non => cases rx; exact SeqAt.EqAt.int_none a t'
    | bl b => cases rx; exact SeqAt.EqAt.int_bool a t' b
    | int b => obtain ⟨t, rfl⟩ := rx; exact SeqAt.EqAt.int_int a t' b t
    | str b => obtain ⟨t, rfl⟩ := rx; exact SeqAt.EqAt.int_str a t' b t
    | _ => exact absurd (show false = true from fx) Bool.false_ne_true
  | str a =>
    obtain ⟨t', rfl⟩ := ry
    cases x with
    | non => cases rx; exact SeqAt.EqAt.str_none a t'
    | bl b => cases rx; exact SeqAt.EqAt.str_bool a t' b
    | int b => obtain ⟨t, rfl⟩ := rx; exact SeqAt.EqAt.str_int a t' b t
    | str b => obtain ⟨t, rfl⟩ := rx; exact SeqAt.EqAt.str_str a t' b t
    | _ => exact absurd (show false = true from fx) Bool.false_ne_true
  | _ => exact absurd (show false = true from fy) Bool.false_ne_true
theorem call_len_seq : CallR X (.builtin "len") (fun xs H Q => ∃ p ys, xs = [.ref p] /\ (SqL X.K H p ys \/ SqT X.K H p ys) /\ Q (.int ys.length) H) := by
  intro pins s σ H xs us Q I r h
  obtain ⟨p, ys, rfl, hq, q⟩ := h
  obtain ⟨u, rfl, rx⟩ := vals1 r
  cases rx
  have hn := line63
  rcases hq with hq | hq
  . obtain ⟨its, r', pl, hz⟩ := I.list hq
    have hlen := r'.length
    exact Calls.call_len_list pl.isList (by simp only [List.size_toArray] <;> omega) ⟨.int ys.length, H, I.tok _, ⟨s.toks + 1, by rw [List.size_toArray, hlen]⟩, q⟩
  . obtain ⟨its, r', pl, hz⟩ := I.tuple hq
    have hlen := r'.length
    exact len_tuple pl (by simp only [List.size_toArray] <;> omega) ⟨.int ys.length, H, I.tok _, ⟨s.toks + 1, by rw [List.size_toArray, hlen]⟩, q⟩
theorem call_list_of : CallR X (.type "list") (fun xs H Q => ∃ p ys, xs = [.ref p] /\ (SqL X.K H p ys \/ SqT X.K H p ys) /\ ∀ l, H l = none -> Q (.ref l) (upd H l (.lst ys))) := by
  intro pins s σ H xs us Q I r h
  obtain ⟨p, ys, rfl, hq, q⟩ := h
  obtain ⟨u, rfl, rx⟩ := vals1 r
  cases rx
  have fin : ∀ (its : List Value), Vals ys its -> ys.length <= sizeLine -> ∀ (h' : Heap) (c' : Nat), (∀ b o', s.heap.get? b = some o' -> h'.get? b = some o') ->
      h'.get? s.heap.objs.size = some { cls := .type "list", dict := none, data := .seq its.toArray c', slots := #[] } -> EP X pins σ Q (.ref s.heap.objs.size) { s with heap := h' } := fun its r' hz h' c' kp e =>
    ⟨.ref s.heap.objs.size, _, I.laid (t' := s.toks) kp (Nat.le_refl _) (show ObjOk X.prog X.w _ h' _ (.lst ys) from ⟨hz, its, c', r', e⟩), rfl, q _ (I.hok.fresh (Nat.le_refl _))⟩
  rcases hq with hq | hq
  . obtain ⟨its, r', pl, hz⟩ := I.list hq
    have hlen := r'.length
    obtain ⟨o, ho, hc, n, hd⟩ := pl.isList
    exact call_list_seq p (.inl rfl) ho hc hd (fun h' c' kp e => fin its r' hz h' c' kp e) (by simp only [List.size_toArray] <;> omega)
  . obtain ⟨its, r', pl, hz⟩ := I.tuple hq
    have hlen := r'.length
    obtain ⟨o, ho, hc, n, hd⟩ := pl
    exact call_list_seq p (.inr rfl) ho hc hd (fun h' c' kp e => fin its r' hz h' c' kp e) (by simp only [List.size_toArray] <;> omega)
theorem call_tuple_of : CallR X (.type "tuple") (fun xs H Q => ∃ p ys, xs = [.ref p] /\ ((SqL X.K H p ys /\ ∀ l, H l = none -> Q (.ref l) (upd H l (.tup ys))) \/ (SqT X.K H p ys /\ Q (.ref p) H))) := by
  intro pins s σ H xs us Q I r h
  obtain ⟨p, ys, rfl, h⟩ := h
  obtain ⟨u, rfl, rx⟩ := vals1 r
  cases rx
  rcases h with ⟨hq, q⟩ | ⟨hq, q⟩
  . obtain ⟨its, r', pl, hz⟩ := I.list hq
    have hlen := r'.length
    refine call_tuple_list pl.isList (fun h' kp => ?_) (by simp only [List.size_toArray] <;> omega)
    have I1 : Inv X pins σ H { s with heap := h' } := I.kept (t' := s.toks) kp
    have I2 : Inv X pins σ (upd H h'.objs.size (.tup ys)) { s with heap := h'.push { cls := .type "tuple", data := .seq its.toArray } } :=
      I1.laid (t' := s.toks) (fun b o e => Heap.get?_push_of_some _ e) (Nat.le_refl _) (show ObjOk X.prog X.w _ _ _ (.tup ys) from ⟨hz, its, r', IsTup.new _ _⟩)
    exact ⟨.ref h'.objs.size, _, I2, rfl, q _ (I1.hok.fresh (Nat.le_refl _))⟩
  . obtain ⟨its, r', pl, hz⟩ := I.tuple hq
    exact call_tuple_same pl ⟨.ref p, H, I, rfl, q⟩
def tyV (K : PySem.W.Frag) (T : String) (x : V) (H : Hp) : Prop := match x with
  | .str _ => T = "str"
  | .int _ => T = "int"
  | .ref p => (T = "list" /\ ∃ xs, SqL K H p xs) \/ (T = "tuple" /\ ∃ o, K.lookup p = some o /\ o.cls = .type "tuple" /\ o.dict = none) \/
      (T = "dict" /\ ((∃ kvs, H p = some (.dK kvs)) \/ ∃ kvs, H p = some (.dT kvs))) \/ (T = "set" /\ ∃ S n, H p = some (.set S n))
  | _ => False
theorem tyV_is {pins : List (Addr × Obj)} {σ : St} {H : Hp} {s : Shared} {T : String} {x : V} {v : Value} (I : Inv X pins σ H s) (r : RelV x v) (ty : tyV X.K T x H) :
    s.TypeIs v T /\ ∀ a, v = .ref a -> ∃ ob, s.heap.get? a = some ob /\ ob.dict = none := by
  cases x with
  | str z =>
    obtain ⟨t, rfl⟩ := r
    cases (show T = "str" from ty)
    exact ⟨typeIs_str s z t, fun _ e => nomatch e⟩
  | int i =>
    obtain ⟨t, rfl⟩ := r
    cases (show T = "int" from ty)
    exact ⟨typeIs_int s i t, fun _ e => nomatch e⟩
  | ref p =>
    cases r
    rcases ty with ⟨rfl, xs, hq⟩ | ⟨rfl, o, hk, hc, hd⟩ | ⟨rfl, hk⟩ | ⟨rfl, S, n, hk⟩
    . obtain ⟨its, _, pl, _⟩ := I.list hq
      refine ⟨pl.isList.typeIs, fun a e => ?_⟩
      cases e
      obtain ⟨o, n, e, c, hd, _⟩ := pl
      exact ⟨o, e, hd⟩
    . refine ⟨⟨o, I.kIn p o hk, hc⟩, fun a e => ?_⟩
      cases e
      exact ⟨o, I.kIn _ o hk, hd⟩
    . have z : ∃ o, s.heap.get? p = some o /\ o.ExactDict := by
        rcases hk with ⟨kvs, hk⟩ | ⟨kvs, hk⟩
        . obtain ⟨_, _, _, _, o, _, _, e, ex, _⟩ := I.hok p _ hk
          exact ⟨o, e, ex⟩
        . obtain ⟨_, _, _, _, o, _, _, e, ex, _⟩ := I.hok p _ hk
          exact ⟨o, e, ex⟩
      obtain ⟨o, e, ex⟩ := z
      refine ⟨⟨o, e, ex.1⟩, fun a e2 => ?_⟩
      cases e2
      exact ⟨o, e, ex.2.1⟩
    . obtain ⟨o, _, _, _, e, ex, _⟩ := I.hok p _ hk
      refine ⟨⟨o, e, ex.1⟩, fun a e2 => ?_⟩
      cases e2
      exact ⟨o, e, ex.2.1⟩
  | _ => exact False.elim ty
def tBM0 (K : PySem.W.Frag) (T : String) (r : V -> List V -> Hp -> VK -> Prop) (to : TE) : TE := fun σ H Q => to σ H fun x H1 => tyV K T x H1 /\ r x [] H1 Q
def tBM (K : PySem.W.Frag) (T : String) (r : V -> List V -> Hp -> VK -> Prop) (to : TE) (t : TA) : TE := fun σ H Q => to σ H fun x H1 => tyV K T x H1 /\ t σ H1 fun xs H2 => r x xs H2 Q
variable {o e : Expr} {es : List Expr} {to : TE} {t : TA} {name : Str} {apos cpos : Pos} {T id : String} {r : V -> List V -> Hp -> VK -> Prop}
theorem pe_bm0 (pa : PlainAttrs T) (slot : Slot T name id) (hty : typeOf (.builtin id) = pure (.type "method_descriptor")) (hm : MtR X id r) (ho : PE X o to)
    (hbase : attributeBase o name X.env (eval o X.env) = eval o X.env := by rfl) (hline : (apos.endLine == cpos.line) = true := by rfl) : PE X (.Call (.Attribute o name apos) [] [] cpos) (tBM0 X.K T r to) := by
  intro pins s σ H Q I h
  refine wpAny_Call_method0_late hbase hline (thn (ho pins s σ H _ I h) fun v s1 ⟨x, H1, I1, r1, ty, q1⟩ => ?_)
  obtain ⟨h1, h2⟩ := tyV_is I1 r1 ty
  exact ⟨T, id, pa, slot, hty, h1, h2, Calls.callWith_builtin rfl (PySem.evalArgs_none (hm pins s1 σ H1 x [] v [] Q I1 r1 .nil q1))⟩
theorem pe_bm (pa : PlainAttrs T) (slot : Slot T name id) (hty : typeOf (.builtin id) = pure (.type "method_descriptor")) (hm : MtR X id r) (ho : PE X o to) (ha : PA X (e :: es) t)
    (hbase : attributeBase o name X.env (eval o X.env) = eval o X.env := by rfl)
    (hfew : ((backTo cpos (starEach (e :: es) X.env)).all (fun x => !x.1) && (backToKw cpos (keywordEach [] X.env)).all (fun x => x.1.isSome)
      && decide ((e :: es).length + ([] : List Keyword).length + (if ([] : List Keyword).isEmpty then 0 else 1) < 30)) = true := by rfl)
    (hline : (apos.endLine == cpos.line) = true := by rfl) (hs : starEach (e :: es) X.env = (false, eval e X.env) :: starEach es X.env := by rfl) (hplain : (backTo cpos (starEach es X.env)).any (·.1) = false := by rfl) :
    PE X (.Call (.Attribute o name apos) (e :: es) [] cpos) (tBM X.K T r to t) := by
  intro pins s σ H Q I h
  refine wpAny_Call_method_late hbase hfew hline rfl (thn (ho pins s σ H _ I h) fun v s1 ⟨x, H1, I1, r1, ty, q1⟩ => ?_)
  obtain ⟨h1, h2⟩ := tyV_is I1 r1 ty
  refine ⟨T, id, pa, slot, hty, h1, h2, ?_⟩
  have hA := ha cpos pins s1 σ H1 _ I1 q1
  rw [hs] at hA ⊢
  refine Calls.callWith_builtin (by show (false || (backTo cpos (starEach es X.env)).any (·.1)) = false; rw [hplain] <;> rfl) (Calls.evalArgs_plain ?_)
  exact thn hA fun us s2 ⟨vs, H2, I2, r2, q2⟩ => hm pins s2 σ H2 x vs v us Q I2 r1 r2 q2
/- xs.append(e), list.index on a module's tuple .. are MtR facts of 06m -/
end
end L2
namespace L2
open PySem PySem.Spec PyProof.Rows
def MtM (X : Cx) (id : String) (r : V -> List V -> Hp -> VK -> Prop) : Prop :=
  ∀ (pins : List (Addr × Obj)) (s : Shared) (σ : St) (H : Hp) (x : V) (xs : List V) (v : Value) (us : List Value) (Q : VK), Inv X pins σ H s -> RelV x v -> Vals xs us -> r x xs H Q ->
    wpAny (model X.prog X.w) X.A (call (.builtin id) (v :: us)) (EP X pins σ Q) X.xe s
theorem Vals.one : ∀ {x : V} {us : List Value}, Vals [x] us -> ∃ u, us = [u] /\ RelV x u
  | _, _, .cons r .nil => ⟨_, rfl, r⟩
theorem Vals.zero : ∀ {us : List Value}, Vals [] us -> us = []
  | _, .nil => rfl
theorem Vals.dropLast {xs : List V} {us : List Value} (h : Vals xs us) : Vals xs.dropLast us.dropLast := by
  induction h with
  | nil => exact .nil
  | cons r t ih =>
    cases t with
    | nil => exact .nil
    | cons q t' => exact .cons r ih
theorem Vals.rep {xs : List V} {us : List Value} (h : Vals xs us) : ∀ k : Nat, Vals (List.replicate k xs).flatten (List.replicate k us).flatten
  | 0 => .nil
  | k + 1 => by
    rw [List.replicate_succ, List.replicate_succ, List.flatten_cons, List.flatten_cons]
    exact Vals.append h (Vals.rep h k)
theorem erase_last {α : Type} (l : List α) : l.eraseIdx (l.length - 1) = l.dropLast := by
  induction l with
  | nil => rfl
  | cons a r ih =>
    cases r with
    | nil => rfl
    | cons b r =>
      have e : (a :: b :: r).length - 1 = ((b :: r).length - 1) + 1 := by
        have h1 : (a :: b :: r).length = r.length + 2 := rfl
        have h2 : (b :: r).length = r.length + 1 := rfl
        omega
      rw [e, List.eraseIdx_cons_succ, ih]
      all_goals rfl
theorem foldl_rep (its : List Value) : ∀ (k : Nat) (acc : List Value),
    List.foldl (fun x1 x2 => x1 ++ x2) acc.toArray (List.replicate k its.toArray) = (acc ++ (List.replicate k its).flatten).toArray
  | 0, acc => by simp
  | k + 1, acc => by
    have e : acc.toArray ++ its.toArray = (acc ++ its).toArray := by simp
    have e2 : (acc ++ its) ++ (List.replicate k its).flatten = acc ++ (List.replicate (k + 1) its).flatten := by
      rw [List.replicate_succ, List.flatten_cons, List.append_assoc]
    rw [<- e2, <- foldl_rep its k (acc ++ its), <- e, List.replicate_succ, List.foldl_cons]
section
variable {X : Cx} {pins : List (Addr × Obj)} {σ : St} {H : Hp} {s : Shared} {l b : Addr} {xs ys zs : List V}
theorem Inv.lset {its its' : List Value} {n : Nat} {f : Array Value -> Array Value} {t' : Nat} (I : Inv X pins σ H s) (hH : H l = some (.lst xs))
    (e : s.heap.get? l = some { cls := .type "list", data := .seq its.toArray n }) (hf : f its.toArray = its'.toArray) (hv : Vals ys its') (hz : ys.length <= sizeLine) :
    Inv X pins σ (upd H l (.lst ys)) { s with heap := s.heap.update l (Obj.mapSeq f), toks := t' } := by
  have q := PySem.IsL.update e f
  rw [hf] at q
  refine I.write (x := l) (e := l) (by rw [hH]; exact trivial) (.inl rfl) (fun b' u hb hu => (Heap.get?_update_other s.heap (Obj.mapSeq f) (Ne.symm hb)).trans hu) ⟨_, q⟩ ?_
  exact ⟨hz, its', _, hv, q⟩
theorem Inv.lnew {its : List Value} {t' : Nat} (I : Inv X pins σ H s) (hv : Vals ys its) (hz : ys.length <= sizeLine) :
    Inv X pins σ (upd H s.heap.objs.size (.lst ys)) { s with heap := s.heap.push { cls := .type "list", data := .seq its.toArray }, toks := t' } :=
  I.laid (fun _ _ q => Heap.get?_push_of_some _ q) (Nat.le_refl _) ⟨hz, its, 0, hv, Heap.get?_push_size _ rfl⟩
theorem Inv.fresh (I : Inv X pins σ H s) : H s.heap.objs.size = none := I.hok.fresh (Nat.le_refl _)
theorem Inv.lstM (I : Inv X pins σ H s) (hH : H l = some (.lst xs)) : xs.length <= sizeLine /\ ∃ (its : List Value) (n : Nat), Vals xs its /\ xs.length = its.length /\ s.heap.get? l = some { cls := .type "list", data := .seq its.toArray n } := by
  obtain ⟨z, its, n, r, e⟩ := I.hok l _ hH
  exact ⟨z, its, n, r, r.length, e⟩
theorem notLongL {n : Nat} (h : n <= sizeLine) : Builtin.List.listTooLong n = false := by
  unfold Builtin.List.listTooLong
  exact decide_eq_false (by omega)
end
section
variable {X : Cx}
def rAppend : V -> List V -> Hp -> VK -> Prop := fun x vs H Q => ∃ l xs y, x = .ref l /\ vs = [y] /\ H l = some (.lst xs) /\ xs.length < sizeLine /\ Q .non (upd H l (.lst (xs ++ [y])))
theorem mt_append : MtM X "list.append" rAppend := by
  intro pins s σ H x vs v us Q I rx rv h
  obtain ⟨l, xs, y, rfl, rfl, hH, hz, q⟩ := h
  cases rx
  obtain ⟨u, rfl, ru⟩ := rv.one
  obtain ⟨z, its, n, r, hl, e⟩ := I.lstM hH
  refine call_meets F.slot_list_append ⟨_, e, rfl⟩ F.entry_list_append (F.args_list_append_2 _ _) (PySem.list_append l its.toArray n u (by rw [List.size_toArray]; omega)) ⟨e, ?_⟩
  refine ⟨.non, _, I.lset (its' := its ++ [u]) hH e (by simp) (r.append (.cons ru .nil)) ?_, rfl, q⟩
  rw [List.length_append, List.length_singleton]
  omega
def rPop : V -> List V -> Hp -> VK -> Prop := fun x vs H Q => ∃ l xs y, x = .ref l /\ vs = [] /\ H l = some (.lst xs) /\ xs[xs.length - 1]? = some y /\ Q y (upd H l (.lst xs.dropLast))
theorem mt_pop : MtM X "list.pop" rPop := by
  intro pins s σ H x vs v us Q I rx rv h
  obtain ⟨l, xs, y, rfl, rfl, hH, hy, q⟩ := h
  cases rx
  have hus := rv.zero
  subst hus
  obtain ⟨z, its, n, r, hl, e⟩ := I.lstM hH
  obtain ⟨u, hu, ru⟩ := r.get hy
  have hy' : its.toArray[its.toArray.size - 1]? = some u := by
    show its.toArray[its.length - 1]? = some u
    rw [<- Array.getElem?_toList, <- hl]
    exact hu
  refine call_meets F.slot_list_pop ⟨_, e, rfl⟩ F.entry_list_pop (F.args_list_pop_1 _) (MeetsSeq.list_pop_last l its.toArray n u hy' (by rw [List.size_toArray]; omega)) ⟨e, ?_⟩
  refine ⟨y, _, I.lset (its' := its.dropLast) hH e ?_ r.dropLast ?_, ru, q⟩
  . show its.toArray.eraseIdxIfInBounds (its.toArray.size - 1) = its.dropLast.toArray
    rw [List.size_toArray, List.eraseIdxIfInBounds_toArray, erase_last]
  . rw [List.length_dropLast]
    omega
def rRep : R2 := fun x y H Q => ∃ l k xs, x = .ref l /\ y = .int k /\ H l = some (.lst xs) /\ -(2 ^ 63) <= k /\ k < 2 ^ 63 /\ xs.length * k.toNat <= sizeLine /\
  ∀ p, H p = none -> Q (.ref p) (upd H p (.lst (List.replicate k.toNat xs).flatten))
theorem len_rep {α : Type} (xs : List α) (k : Nat) : (List.replicate k xs).flatten.length = k * xs.length := by
  induction k with
  | zero => simp
  | succ k ih => rw [List.replicate_succ, List.flatten_cons, List.length_append, ih, Nat.succ_mul, Nat.add_comm]
theorem op_rep : OpR X (binaryOp .Mult) rRep := by
  intro pins s σ H x y v u Q I rx ry h
  obtain ⟨l, k, xs, rfl, rfl, hH, h1, h2, hz, q⟩ := h
  cases rx
  obtain ⟨t, rfl⟩ := ry
  obtain ⟨z, its, n, r, hl, e⟩ := I.lstM hH
  have hlen : its.toArray.size * k.toNat <= sizeLine := by rw [List.size_toArray, <- hl]; exact hz
  have hcap : ¬ its.toArray.size * k.toNat > (2 ^ 63 - 1) / 8 := by
    have : (sizeLine : Nat) <= (2 ^ 63 - 1) / 8 := by decide
    omega
  have hfit : ¬ (!Builtin.List.listFitsIndex k) = true := by
    rw [fitsIndex_both h1 h2]
    exact Bool.false_ne_true
  have hlong : ¬ Builtin.List.listTooLong (its.toArray.size * k.toNat) = true := by
    rw [notLongL hlen]
    exact Bool.false_ne_true
  have hnew : List.foldl (fun x1 x2 => x1 ++ x2) #[] (List.replicate (if its.toArray.isEmpty = true then 0 else k.toNat) its.toArray) = (List.replicate k.toNat its).flatten.toArray := by
    have f0 : ∀ m : Nat, List.foldl (fun x1 x2 => x1 ++ x2) #[] (List.replicate m its.toArray) = (List.replicate m its).flatten.toArray := fun m => by
      have := foldl_rep its m []
      rw [List.nil_append] at this
      exact this
    rw [f0]
    cases its with
    | nil => simp
    | cons a r' => rw [if_neg (by simp)]
  refine wpAny_binaryOp_repeat_ref (T := "list") (U := "int") (by decide) ⟨_, e, rfl⟩ (fun s' => typeIs_int s' k t) noFill_list_mul F.fills_int_mul F.slot_int_rmul repeat_list F.slot_int_index.lookup
    (call_meets F.slot_int_rmul (typeIs_int s k t) F.entry_int_rmul (F.args_int_rmul_2 _ _) (int___rmul___int_list k t l its.toArray n)
      ⟨e, rfl, ⟨_, e, rfl⟩, call_meets F.slot_list_mul ⟨_, e, rfl⟩ F.entry_list_mul (F.args_list_mul_2 _ _) (AutoListH.list___mul___list_int_3 l its.toArray n k t hfit hcap hlong) ⟨e, ?_⟩⟩)
  rw [hnew]
  exact ⟨.ref _, _, I.lnew (t' := s.toks) (r.rep k.toNat) (by rw [len_rep, Nat.mul_comm]; exact hz), rfl, q _ I.fresh⟩
end
section
variable {prog : Program} {w : World} {A : Around} {E : Value -> Shared -> Prop} {s : Shared}
end
section
variable {X : Cx}
end
end L2
namespace Att
open PySem PySem.W PySem.Calls PyProof.Rows
theorem ints_of_wellAll {P : Params} {h : Heap} : ∀ (ns : List Int) (vs : List Value), WellAll P h vs (ns.map WData.int) -> IntsAre vs ns := by
  intro ns
  induction ns with
  | nil =>
    intro vs w
    rw [List.map_nil] at w
    cases w
    exact .nil
  | cons n ns ih =>
    intro vs w
    rw [List.map_cons] at w
    cases w with
    | cons a b =>
      cases a
      exact .cons _ _ (ih _ b)
theorem script_of {l : OpenLaw} {n : Nat} (hn : l.most = some n) {P : Params} {h : Heap} {args : List WData} {vals : List Value}
    (hpre : l.row.toRowW.claim.pre args = true) (hwl : WellAll P h vals args) :
    ∃ a vs ns, vals = [Value.ref a] /\ args = [WData.list (ns.map WData.int)] /\ h.get? a = some { cls := .type "list", data := .seq vs.toArray } /\ IntsAre vs ns /\ ns.length <= n := by
  have hsh : WShape.hasAll [] args [.list .int] = true := (pre_splitW hpre).1
  have hc : l.pre.holds [] { args := args } = true := (pre_splitW hpre).2
  obtain ⟨d, r, rfl, h1, h2⟩ := hasAllW_cons hsh
  obtain rfl := hasAllW_nil h2
  obtain ⟨xs, rfl, h3⟩ := hasW_list h1
  obtain ⟨ns, rfl⟩ := items_int h3
  have hlen : ns.length <= n := by
    unfold OpenLaw.pre at hc
    have h4 : (WTm.not (.lt (.lit (.int (n : Int))) (.len (.arg 0)))).holds [] { args := [.list (ns.map .int)] } = true := by
      have h4 := (holds_andW hc).1
      rw [hn] at h4
      exact h4
    have h5 := condW_of h4 (w_not (w_lt w_lit (w_len_list (w_arg rfl))))
    rw [List.length_map] at h5
    refine Nat.le_of_not_lt fun q => ?_
    have q' : (n : Int) < ((ns.length : Nat) : Int) := by omega
    first
      | (rw [decide_eq_true q'] at h5; exact absurd h5 (by decide))
      | (simp at h5; omega)
  cases hwl with
  | cons w1 w2 =>
    cases w2
    cases w1 with
    | list ho hall => exact ⟨_, _, ns, rfl, rfl, ho, ints_of_wellAll ns _ hall, hlen⟩
theorem post_true (l : OpenLaw) (args : List WData) : l.row.toRowW.claim.post args (.bool true) args = true :=
  postW_of (r := l.row.toRowW) (X := (true == true))
    (show WShape.has [] (.bool true) .bool = true by first | rfl | decide | simp [WShape.has, WShape.arms, WShape.armsAll])
    (show (WTm.eq .res (.lit (.bool true))).value [] { args := args, res := some (.bool true), after := args } = some (.bool (true == true)) from w_eq_bool (w_res rfl) w_lit) rfl
theorem attach_call {l : OpenLaw} {n : Nat} {q : Program} {loose : List Str} {XP : (Str -> Option Value) -> Heap -> Prop} {YP : World -> Heap -> Prop} {d : DefRec}
    (hn : l.most = some n) (hdf : d.params.defaults = [])
    (call : ∀ (w : World) (s₀ s₁ : Shared) (mg mb : Str -> Option Value) (fa : Addr) (o : Obj) (pm cd doc : Value) (a : Addr) (vs : List Value) (ns : List Int),
      Ground q loose [] XP w s₀ mg mb s₁.heap -> YP w s₁.heap ->
      s₁.heap.get? fa = some o -> o.data = .func (docDef d.name d.params d.body d.scope pm cd doc) -> s₁.heap.CodeRec cd d.name -> mg d.name = some (.ref fa) ->
      s₁.heap.get? a = some { cls := .type "list", data := .seq vs.toArray } -> IntsAre vs ns -> ns.length <= n -> s₁.gens = #[] ->
      codeAny (model l.prog w) callerA (.call (.ref fa) ⟨[.ref a], []⟩) (fun r s' => r = .ok (.ret (.bool true)) /\ OldK s₁.heap s'.heap /\ s'.os = s₁.os /\ AllBare s'.gens) s₁) :
    WalkO q loose XP YP l.row.toRowW d [] (fun f vs => PySem.call f vs) := by
  intro w s₀ s₁ mg mb G Y fa o pm cd doc dV kV ho hd hcd hD hmg hg args vals as hpre hlay hrd hwl hlo
  obtain rfl : dV = .none := Dflts.none hD hdf
  obtain rfl : kV = .none := Dflts.noKw hD
  obtain ⟨a, vs, ns, rfl, rfl, hobj, hints, hlen⟩ := script_of hn hpre hwl
  refine enter_call (codeAny_mono (call w s₀ s₁ mg mb fa o pm cd doc a vs ns G Y ho (fd_plain hd) hcd hmg hobj hints hlen hg) fun r s' hq => ?_)
  obtain ⟨rfl, h2, h3, h4⟩ := hq
  exact ⟨.inl ⟨.bool true, .bool true, [], rfl, fun _ => rfl, .bool true, post_true l _, fun _ => ⟨List.Pairwise.nil, fun _ hm => (nomatch hm)⟩⟩, h2, h3, h4⟩
section
variable {prog : Program} {w : World} {A : Around} {E : Value -> Shared -> Prop} {s : Shared} {K : Frag}
end
end Att
namespace L2
open PySem PySem.Spec PyProof.Rows
theorem vals_ints : ∀ {vs : List Value} {ns : List Int}, IntsAre vs ns -> Vals (ns.map V.int) vs
  | _, _, .nil => .nil
  | _, _, .cons n t h => .cons ⟨t, rfl⟩ (vals_ints h)
def Only (H : Hp) : Prop := ∀ b, H b = none \/ ∃ o xs, H b = some (.frz o (.lst xs))
theorem law_call {P : Program} {w : World} {K : PySem.W.Frag} {mg mb : Str -> Option Value} {CX : CXT} {k : Nat} {fa a : Addr} {fd : FuncData} {x : Str} {sp : Sp} {s₁ : Shared} {vs : List Value} {ns : List Int}
    (KX : K.In s₁.heap) (hns : s₁.heap.Ns mainGlobals mg) (hb : s₁.heap.Ns builtinsNs mb) (hbb : ∀ x : Str, x ≠ "__name__" -> mb x = bootBuiltins x) (hlim : s₁.heap.NoLimit) (hg : s₁.gens = #[])
    (ha : s₁.heap.get? a = some { cls := .type "list", data := .seq vs.toArray }) (hi : IntsAre vs ns) (hl : ns.length <= sizeLine) (hr : Room k callerA)
    (F : ∀ base : Heap, K.In base -> base.Ns mainGlobals mg -> FnOk P w K mg base CX k fa fd [x] sp) (hbind : ∀ (s : Shared) (u : Value), BindsTo s fd ⟨[u], []⟩ [(x, u)])
    (hsp : ∀ H : Hp, Only H -> SqL K H a (ns.map V.int) -> sp [.ref a] H (fun v _ => v = .bl true) fun _ _ _ => False)
    (hCX : ∀ H e s', CX [] H s₁ (fun _ _ _ => False) e s' -> False) :
    codeAny (model P w) callerA (.call (.ref fa) ⟨[.ref a], []⟩) (fun r s' => r = .ok (.ret (.bool true)) /\ OldK s₁.heap s'.heap /\ s'.os = s₁.os /\ AllBare s'.gens) s₁ := by
  have rv := vals_ints hi
  have lenV := hi.length
  -- from an abstract heap in which nothing but the script may be tracked
  have core : ∀ H : Hp, Only H -> SqL K H a (ns.map V.int) -> HOk P w H s₁.heap -> (∀ b, H b ≠ none -> b = a) -> (H a ≠ none -> K.lookup a = none) ->
      codeAny (model P w) callerA (.call (.ref fa) ⟨[.ref a], []⟩) (fun r s' => r = .ok (.ret (.bool true)) /\ OldK s₁.heap s'.heap /\ s'.os = s₁.os /\ AllBare s'.gens) s₁ := by
    intro H hO hS hok hA hK
    have base_of : ∀ {b : Addr} {o : Obj}, s₁.heap.get? b = some o -> H b = none -> (hidT s₁.heap H).get? b = some o := fun e n => hidT_get e n
    have noA : ∀ {b : Addr} {o : Obj} {es : Array DictEntry} {ep : Nat}, s₁.heap.get? b = some o -> o.data = .dict es ep -> H b = none := fun {b o es ep} e d => by
      cases q : H b with
      | none => rfl
      | some u =>
        have e' : b = a := hA b (by rw [q]; simp)
        subst e'
        rw [ha] at e; cases e
        have d' : Data.seq vs.toArray _ = Data.dict es ep := d
        cases d'
    have nsK : ∀ {b : Addr} {m : Str -> Option Value}, s₁.heap.Ns b m -> (hidT s₁.heap H).Ns b m := fun {b m} ⟨o, es, ep, e, d, r⟩ => ⟨o, es, ep, base_of e (noA e d), d, r⟩
    have hKb : K.In (hidT s₁.heap H) := fun b o e => base_of (KX b o e) (by
      cases q : H b with
      | none => rfl
      | some u =>
        have e' : b = a := hA b (by rw [q]; simp)
        subst e'
        rw [hK (by rw [q]; simp)] at e; cases e)
    have hM : Mod K mg (hidT s₁.heap H) := ⟨hKb, nsK hns, ⟨mb, nsK hb, hbb⟩, let ⟨mc, h1, h2⟩ := hlim; ⟨mc, nsK h1, h2⟩⟩
    have e0 : Env0 P w K mg (hidT s₁.heap H) callerA [] s₁ H := ⟨rfl, hM, fun b o e => of_hidT e, Nat.le_of_eq (hidT_size _ _), trivial, fun b hb => absurd (show b ∈ ([] : List Addr) from hb) (by simp), hok, .of_eq hg⟩
    refine codeAny_mono ((F _ hKb (nsK hns)).run callerA [] s₁ H ⟨[.ref a], []⟩ [.ref a] [.ref a] _ _ hr e0 (hbind s₁ (.ref a)) (.cons rfl .nil) (hsp H hO hS)) fun r s' h => ?_
    cases r with
    | error e => exact (hCX H e s' h).elim
    | ok fl =>
      cases fl with
      | next => exact False.elim h
      | brk => exact False.elim h
      | cont => exact False.elim h
      | ret u =>
        obtain ⟨v, H', os, bare, un, hok', r', q⟩ := h
        have q' : v = .bl true := q
        subst q'
        obtain rfl : u = Value.bool true := r'
        refine ⟨rfl, OldK.of_keep fun b o e => ?_, os, bare⟩
        cases q : H b with
        | none => exact un.keep b o e q (by intro z; exact absurd (show b ∈ ([] : List Addr) from z) (by simp)) (by simp)
        | some u =>
          rcases hO b with z | ⟨ob, xs, z⟩
          . rw [q] at z; cases z
          . have z2 := un.frzs b ob _ z
            obtain ⟨e1, _⟩ := hok b _ z
            obtain ⟨e2, _⟩ := hok' b _ z2
            rw [e] at e1; cases e1
            exact e2
  cases hk : K.lookup a with
  | some o =>
    -- the script is one of the module's own objects
    have e := KX a o hk
    rw [ha] at e
    cases e
    refine core (fun _ => none) (fun _ => .inl rfl) (.inr ⟨_, vs.toArray, _, hk, rfl, rfl, rfl, by rw [List.size_toArray, lenV]; exact hl, by simpa using rv⟩) (fun b u z => by have z' : (none : Option HO) = some u := z; cases z') (fun b z => absurd rfl z) fun z => absurd rfl z
  | none =>
    refine core (fun b => if b = a then some (.frz { cls := .type "list", data := .seq vs.toArray } (.lst (ns.map V.int))) else none) (fun b => ?_) (.inl (.inr ⟨{ cls := .type "list", data := .seq vs.toArray }, if_pos rfl⟩)) (fun b u z => ?_) (fun b z => ?_) fun _ => hk
    . by_cases hb : b = a
      . exact .inr ⟨_, _, if_pos hb⟩
      . exact .inl (if_neg hb)
    . by_cases hb : b = a
      . have z' := (if_pos hb).symm.trans z
        cases z'
        subst hb
        exact ⟨ha, by rw [List.length_map]; exact hl, vs, _, rv, ha⟩
      . have z' := (if_neg hb).symm.trans z
        cases z'
    . by_cases hb : b = a
      . exact hb
      . exact absurd (if_neg hb) z
end L2
namespace L2
open PySem PySem.Spec PyProof.Rows
theorem walk_of {l : PySem.W.OpenLaw} {n k : Nat} {q : Program} {loose : List Str} {XP : (Str -> Option Value) -> Heap -> Prop} {YP : World -> Heap -> Prop} {d : DefRec} {K : Params -> PySem.W.Frag} {CX : World -> CXT} {sp : World -> Sp} {x : Str}
    (hn : l.most = some n) (hn2 : n <= sizeLine) (hdf : d.params.defaults = []) (hr : Room k callerA)
    (hY : ∀ (w : World) (h : Heap), YP w h -> (K w.params).In h)
    (F : ∀ (w : World) (mg : Str -> Option Value) (fa : Addr) (h : Heap), (K w.params).In h -> h.Ns mainGlobals mg -> mg d.name = some (.ref fa) ->
      ∃ fd : FuncData, (∀ (s : Shared) (u : Value), BindsTo s fd ⟨[u], []⟩ [(x, u)]) /\
        ∀ base : Heap, (K w.params).In base -> base.Ns mainGlobals mg -> FnOk l.prog w (K w.params) mg base (CX w) k fa fd [x] (sp w))
    (hsp : ∀ (w : World) (H : Hp) (a : Addr) (ns : List Int), ns.length <= n -> Only H -> SqL (K w.params) H a (ns.map V.int) -> sp w [.ref a] H (fun v _ => v = .bl true) fun _ _ _ => False)
    (hCX : ∀ (w : World) (H : Hp) (s : Shared) (e : Value) (s' : Shared), CX w [] H s (fun _ _ _ => False) e s' -> False) :
    PySem.W.WalkO q loose XP YP l.row.toRowW d [] (fun f vs => PySem.call f vs) := by
  refine Att.attach_call hn hdf fun w s₀ s₁ mg mb fa o pm cd doc a vs ns G Y ho hd hcd hmg hobj hints hlen hg => ?_
  have KX := hY w _ Y
  obtain ⟨fd, hb, hF⟩ := F w mg fa _ KX G.T.g hmg
  exact law_call KX G.T.g G.T.b G.T.builtins G.T.nolimit hg hobj hints (Nat.le_trans hlen hn2) hr hF hb (fun H hO hS => hsp w H a ns hlen hO hS) fun H e s' => hCX w H s₁ e s'
end L2
namespace L2
open PySem PySem.Spec PyProof.Rows
def defArgs (s : Stmt) : Arguments := match s with
  | .FunctionDef _ a _ _ _ _ _ _ _ _ => a
  | _ => { posonlyargs := [], args := [], vararg := none, kwonlyargs := [], kw_defaults := [], kwarg := none, defaults := [] }
def defBody (s : Stmt) : List Stmt := match s with
  | .FunctionDef _ _ b _ _ _ _ _ _ _ => b
  | _ => []
def defScope (s : Stmt) : Scope := match s with
  | .FunctionDef _ _ _ _ _ _ sc _ _ _ => sc
  | _ => { kind := .function, names := [], isGenerator := false, isCoroutine := false }
abbrev CX0 : CXT := fun _ _ _ _ _ _ => False
abbrev E0 : XK := fun _ _ _ => False
theorem pass0 {X : Cx} : Passes CX0 X E0 := fun _ _ _ _ _ _ _ h => h.elim
structure Fun (K : PySem.W.Frag) (x qual : Str) (st : Stmt) (f : Addr) (fd : FuncData) : Prop where
  ex : ∃ (oc : Value) (od : Option Addr) (kV doc pm : Value) (an : Option Addr) (cdv ct : Value) (osl : Array (Option Value)),
    fd = PySem.W.fnOf x qual (defArgs st) (defBody st) (defScope st) .none kV doc pm an cdv ct /\ K.lookup f = some ⟨oc, od, .func fd, osl⟩ /\ PySem.W.codeIn K cdv qual = true
  kp : PySem.W.keepIn K (.ref f) = true
section
variable {P : Program} {w : World} {K : PySem.W.Frag} {mg : Str -> Option Value} {base : Heap}
theorem Fun.ok {x qual : Str} {st : Stmt} {f : Addr} {fd : FuncData} {N ps : List Str} {k : Nat} {sp : Sp} (F : Fun K x qual st f fd) (S : FnScope N ps (defScope st)) (len : ∀ vs H Q E, sp vs H Q E -> vs.length = ps.length)
    (hbody : ∀ (cdv : Value) (A : Around) (outer : List Env) (s : Shared) (H : Hp) (vs : List V) (Q : VK) (E : XK), Room k (A.deeper (envOfC qual (defScope st) s.heap.objs.size f cdv)) -> sp vs H Q E ->
      ∃ t, PSs (cxOf CX0 P w K mg base N qual (defScope st) f cdv A outer s H E).nox (defBody st) t /\ t { nx := fun _ H' => Q .non H', rt := Q } (start N vs) H) : FnOk P w K mg base CX0 (k + 1) f fd ps sp := by
  obtain ⟨oc, od, kV, doc, pm, an, cdv, ct, osl, rfl, lk, hcd⟩ := F.ex
  refine fn_of lk hcd S len fun A outer s H vs Q E hr hsp => ?_
  obtain ⟨t, h, q⟩ := hbody cdv A outer s H vs Q E hr hsp
  exact ⟨t, h.nox, q⟩
theorem Fun.binds {x qual : Str} {st : Stmt} {f : Addr} {fd : FuncData} {ps : List Str} (F : Fun K x qual st f fd)
    (h : ∀ (kV doc pm : Value) (an : Option Addr) (cdv ct : Value) (us : List Value), us.length = ps.length -> bindArgs (PySem.W.fnOf x qual (defArgs st) (defBody st) (defScope st) .none kV doc pm an cdv ct) ⟨us, []⟩ = pure (ps.zip us)) : Binds K fd ps [] := by
  obtain ⟨oc, od, kV, doc, pm, an, cdv, ct, osl, rfl, lk, hcd⟩ := F.ex
  exact .all (h kV doc pm an cdv ct)
theorem fun_mk {x qual : Str} {st : Stmt} {f : Addr} {oc : Value} {od an : Option Addr} {osl : Array (Option Value)} {kV doc pm cdv ct : Value} (l : K.lookup f = some ⟨oc, od, .func (PySem.W.fnOf x qual (defArgs st) (defBody st) (defScope st) .none kV doc pm an cdv ct), osl⟩)
    (c : PySem.W.codeIn K cdv qual = true) (k : PySem.W.keepIn K (.ref f) = true) : Fun K x qual st f (PySem.W.fnOf x qual (defArgs st) (defBody st) (defScope st) .none kV doc pm an cdv ct) := ⟨⟨oc, od, kV, doc, pm, an, cdv, ct, osl, rfl, l, c⟩, k⟩
end
section
variable {X : Cx}
theorem pv (i : Nat) {x : Str} {pos : Pos} (hN : X.N[i]? = some x := by rfl) (hv : Vis X.env.scope x := by first | exact Or.inl rfl | exact Or.inr (Or.inl rfl) | exact Or.inr (Or.inr rfl)) (hd : (x == ("__debug__" : Str)) = false := by decide)
    (hcd : (x == ("__classdict__" : Str)) = false := by decide) : PE X (.Name x pos) (tVar i) := pe_var hN hv hd hcd
end
theorem ite2 {c A B : Prop} [Decidable c] (h1 : c -> A) (h2 : ¬ c -> B) : if c then A else B := by
  by_cases h : c
  . rw [if_pos h]
    exact h1 h
  . rw [if_neg h]
    exact h2 h
def Same (H H' : Hp) : Prop := ∀ b o, H b = some o -> H' b = some o
theorem Same.refl (H : Hp) : Same H H := fun _ _ h => h
theorem Same.trans {H H1 H2 : Hp} (a : Same H H1) (b : Same H1 H2) : Same H H2 := fun c o h => b c o (a c o h)
theorem Same.seq {K : PySem.W.Frag} {H H' : Hp} {a : Addr} {xs : List V} (e : Same H H') (h : SqL K H a xs) : SqL K H' a xs := by
  rcases h with (h | ⟨o, h⟩) | h
  . exact .inl (.inl (e _ _ h))
  . exact .inl (.inr ⟨o, e _ _ h⟩)
  . exact .inr h
end L2
set_option Elab.async false
set_option linter.all false
set_option maxRecDepth 100000
set_option maxHeartbeats 4000000
namespace L2
open PySem PySem.Spec PyProof.Rows
section
variable {κ : Type} [DecidableEq κ]
end
section
variable {P : Program} {w : World} {H : Hp} {h : Heap} {a : Addr}
end
section
variable {X : Cx} {pins : List (Addr × Obj)} {σ : St} {H : Hp} {s : Shared} {a : Addr} {y v : V} {u r : Value} {o : Option V} {A : Around} {E : Value -> Shared -> Prop}
end
section
variable {X : Cx} {pins : List (Addr × Obj)} {σ : St} {H : Hp} {s : Shared} {a : Addr} {kvs : List (Key × V)} {k : Key} {u : Value} {A : Around} {E : Value -> Shared -> Prop}
end
section
variable {X : Cx} {o i e value : Expr} {pos pos' tpos : Pos} {td ty tv : TE}
end
section
variable {X : Cx} {pos : Pos}
end
section
variable {X : Cx} {pins : List (Addr × Obj)} {σ : St} {H : Hp} {s : Shared} {a : Addr} {y d : V} {u r : Value} {o : Option V} {A : Around} {E : Value -> Shared -> Prop}
end
section
variable {X : Cx} {o e f : Expr} {apos cpos : Pos} {td ty tx : TE}
end
section
variable {X : Cx} {pins : List (Addr × Obj)} {σ : St} {H : Hp} {s : Shared} {a : Addr} {kvs : List (Key × V)} {A : Around} {E : Value -> Shared -> Prop}
end
section
variable {X : Cx} {pins : List (Addr × Obj)} {σ : St} {H : Hp} {s : Shared} {a : Addr} {y : V} {u : Value} {A : Around} {E : Value -> Shared -> Prop}
end
end L2
set_option Elab.async false
set_option linter.all false
set_option maxRecDepth 100000
set_option maxHeartbeats 4000000
namespace L2
open PySem PySem.Spec PyProof.Rows
def clOf (env : Env) : List (Str × NameKind) -> List (Str × Addr) -> List (Str × Addr)
  | [], acc => acc
  | (n, k) :: r, acc => if (k == .free) = true then clOf env r ((n, (env.cells.lookup n).getD 0) :: acc) else clOf env r acc
theorem closure_eq {env : Env} {scope : Scope} (h : ∀ p ∈ scope.names, p.2 = .free -> ∃ c, env.cells.lookup p.1 = some c) : closureFor scope env = pure (clOf env scope.names []) := by
  have go : ∀ (l : List (Str × NameKind)) (acc : List (Str × Addr)), (∀ p ∈ l, p.2 = .free -> ∃ c, env.cells.lookup p.1 = some c) ->
      (forIn l acc fun (x : Str × NameKind) (cs : List (Str × Addr)) => (if (x.2 == .free) = true then do let c <- cellOf env x.1; pure (ForInStep.yield ((x.1, c) :: cs)) else pure (ForInStep.yield cs) : Sem (ForInStep (List (Str × Addr))))) = (pure (clOf env l acc) : Sem (List (Str × Addr))) := by
    intro l
    induction l with
    | nil => intro acc _; rfl
    | cons p r ih =>
      intro acc hl
      obtain ⟨n, k⟩ := p
      rw [List.forIn_cons]
      by_cases hk : (k == .free) = true
      . obtain ⟨c, hc⟩ := hl (n, k) List.mem_cons_self (by simpa using hk)
        have e1 : cellOf env n = pure c := by unfold cellOf; rw [hc]
        have ih' := ih ((n, c) :: acc) fun q hq => hl q (List.mem_cons_of_mem _ hq)
        show ((if (k == .free) = true then do let c <- cellOf env n; pure (ForInStep.yield ((n, c) :: acc)) else pure (ForInStep.yield acc) : Sem _) >>= _) = _
        rw [if_pos hk, e1]
        show (forIn r ((n, c) :: acc) _ : Sem _) = _
        rw [clOf, if_pos hk, hc]
        exact ih'
      . have ih' := ih acc fun q hq => hl q (List.mem_cons_of_mem _ hq)
        show ((if (k == .free) = true then do let c <- cellOf env n; pure (ForInStep.yield ((n, c) :: acc)) else pure (ForInStep.yield acc) : Sem _) >>= _) = _
        rw [if_neg hk]
        show (forIn r acc _ : Sem _) = _
        rw [clOf, if_neg hk]
        exact ih'
  have e := go scope.names [] h
  unfold closureFor
  show (forIn scope.names [] _ >>= fun cs => pure cs : Sem _) = _
  have e2 : (forIn scope.names [] (fun (x : Str × NameKind) (r : List (Str × Addr)) => (match x with
      | (name, kind) => if (kind == .free) = true then do let c <- cellOf env name; pure (ForInStep.yield ((name, c) :: r)) else do pure PUnit.unit; pure (ForInStep.yield r) : Sem (ForInStep (List (Str × Addr)))))) = (pure (clOf env scope.names []) : Sem (List (Str × Addr))) := e
  exact congrArg (fun z => z >>= fun cs => pure cs) e2
theorem clOf_mem {env : Env} : ∀ (l : List (Str × NameKind)) (acc : List (Str × Addr)), (∀ p ∈ l, p.2 = .free -> ∃ c, env.cells.lookup p.1 = some c) -> (∀ q ∈ acc, env.cells.lookup q.1 = some q.2) -> ∀ q ∈ clOf env l acc, env.cells.lookup q.1 = some q.2
  | [], _, _, ha, q, hq => ha q hq
  | (n, k) :: r, acc, hl, ha, q, hq => by
    unfold clOf at hq
    by_cases hk : (k == .free) = true
    . rw [if_pos hk] at hq
      obtain ⟨c, hc⟩ := hl (n, k) List.mem_cons_self (by simpa using hk)
      refine clOf_mem r _ (fun p hp => hl p (List.mem_cons_of_mem _ hp)) (fun p hp => ?_) q hq
      rcases List.mem_cons.mp hp with rfl | hp
      . show env.cells.lookup n = some ((env.cells.lookup n).getD 0)
        rw [hc]; rfl
      . exact ha p hp
    . rw [if_neg hk] at hq
      exact clOf_mem r _ (fun p hp => hl p (List.mem_cons_of_mem _ hp)) ha q hq
theorem clOf_has {env : Env} : ∀ (l : List (Str × NameKind)) (acc : List (Str × Addr)) (x : Str), ((x, NameKind.free) ∈ l \/ ∃ c, (x, c) ∈ acc) -> ∃ c, (x, c) ∈ clOf env l acc
  | [], _, _, h => by
    rcases h with h | h
    . cases h
    . exact h
  | (n, k) :: r, acc, x, h => by
    unfold clOf
    by_cases hk : (k == .free) = true
    . rw [if_pos hk]
      refine clOf_has r _ x ?_
      rcases h with h | ⟨c, h⟩
      . rcases List.mem_cons.mp h with h | h
        . cases h
          exact .inr ⟨_, List.mem_cons_self⟩
        . exact .inl h
      . exact .inr ⟨c, List.mem_cons_of_mem _ h⟩
    . rw [if_neg hk]
      refine clOf_has r _ x ?_
      rcases h with h | h
      . rcases List.mem_cons.mp h with h | h
        . cases h
          exact absurd rfl hk
        . exact .inl h
      . exact .inr h
theorem lookup_some_of_mem {β : Type} : ∀ {l : List (Str × β)} {x : Str} {c : β}, (x, c) ∈ l -> ∃ c', l.lookup x = some c'
  | [], _, _, h => by cases h
  | (n, d) :: r, x, c, h => by
    by_cases hx : (x == n) = true
    . exact ⟨d, by rw [List.lookup_cons, hx]⟩
    . rcases List.mem_cons.mp h with h | h
      . cases h; exact absurd (beq_self_eq_true _) hx
      . obtain ⟨c', e⟩ := lookup_some_of_mem h
        exact ⟨c', by rw [List.lookup_cons]; simp only [Bool.not_eq_true] at hx; rw [hx]; exact e⟩
def relF (env : Env) : Str × NameKind -> Str × NameKind := fun (n, k) => if (k == NameKind.free && env.scope.kind == .function && env.kindOf n == some .cell) then (n, NameKind.cell) else (n, k)
theorem relF_yes {env : Env} {n : Str} {k : NameKind} (h : (k == NameKind.free && env.scope.kind == .function && env.kindOf n == some .cell) = true) : relF env (n, k) = (n, .cell) := if_pos h
theorem relF_no {env : Env} {n : Str} {k : NameKind} (h : ¬ (k == NameKind.free && env.scope.kind == .function && env.kindOf n == some .cell) = true) : relF env (n, k) = (n, k) := if_neg h
theorem relabel_kind {env : Env} : ∀ {names : List (Str × NameKind)} {x : Str} {k : NameKind}, (∀ y ∈ names, y.2 ≠ .cell) ->
    (names.map (relF env)).lookup x = some k -> (k = .cell \/ k = .free) -> (x, NameKind.free) ∈ names
  | [], _, _, _, h, _ => by simp at h
  | (n, k') :: r, x, k, hc, h, hk => by
    have ih := @relabel_kind env r x k (fun y hy => hc y (List.mem_cons_of_mem _ hy))
    rw [List.map_cons] at h
    by_cases hb : (k' == NameKind.free && env.scope.kind == .function && env.kindOf n == some .cell) = true
    . rw [relF_yes hb, List.lookup_cons] at h
      cases hx : x == n with
      | true =>
        have e : x = n := by simpa using hx
        subst e
        have e2 : k' = .free := by
          simp only [Bool.and_eq_true] at hb
          simpa using hb.1.1
        subst e2
        exact List.mem_cons_self
      | false =>
        rw [hx] at h
        exact List.mem_cons_of_mem _ (ih h hk)
    . rw [relF_no hb, List.lookup_cons] at h
      cases hx : x == n with
      | true =>
        rw [hx] at h
        have e : x = n := by simpa using hx
        subst e
        have e2 : k' = k := Option.some.inj h
        subst e2
        rcases hk with rfl | rfl
        . exact absurd rfl (hc _ List.mem_cons_self)
        . exact List.mem_cons_self
      | false =>
        rw [hx] at h
        exact List.mem_cons_of_mem _ (ih h hk)
theorem relabel_free {env : Env} : ∀ {names : List (Str × NameKind)} {x : Str}, names.lookup x = some .free ->
    ∃ k, (k = NameKind.cell \/ k = NameKind.free) /\ (names.map (relF env)).lookup x = some k
  | [], _, h => by simp at h
  | (n, k') :: r, x, h => by
    have ih := @relabel_free env r x
    rw [List.lookup_cons] at h
    rw [List.map_cons]
    cases hx : x == n with
    | true =>
      rw [hx] at h
      have e2 : k' = .free := Option.some.inj h
      subst e2
      by_cases hb : ((NameKind.free : NameKind) == NameKind.free && env.scope.kind == .function && env.kindOf n == some .cell) = true
      . exact ⟨.cell, .inl rfl, by rw [relF_yes hb, List.lookup_cons, hx]⟩
      . exact ⟨.free, .inr rfl, by rw [relF_no hb, List.lookup_cons, hx]⟩
    | false =>
      rw [hx] at h
      obtain ⟨k, hk, e⟩ := ih h
      refine ⟨k, hk, ?_⟩
      by_cases hb : (k' == NameKind.free && env.scope.kind == .function && env.kindOf n == some .cell) = true
      . rw [relF_yes hb, List.lookup_cons, hx]; exact e
      . rw [relF_no hb, List.lookup_cons, hx]; exact e
end L2
set_option Elab.async false
set_option linter.all false
set_option maxRecDepth 100000
set_option maxHeartbeats 4000000
namespace L2
open PySem PySem.Spec PyProof.Rows
section
variable {prog : Program} {w : World} {A : Around} {R : Result -> Shared -> Prop} {s : Shared}
abbrev cpW (prog : Program) (w : World) (A : Around) (R : Result -> Shared -> Prop) (env : Env) {α : Type} (m : Sem α) (Q : α -> Shared -> Prop) : Shared -> Prop := wpAny (model prog w) A m Q (notedBy (model prog w) A env fun e t => R (.error e) t)
theorem compLoop_gen {elt target iter : Expr} {ifs : List Expr} {scope : Scope} {pos : Pos} {it acc : Value} {env : Env} (I : Nat -> Shared -> Prop)
    (turn : ∀ n s, I n s -> cpW prog w A R env (pyNext it) (fun r s => match r with
      | none => R (.ok .next) s
      | some v => cpW prog w A R env (letOwnedTupleGo target it v) (fun _ => cpW prog w A R env (assign target env v) fun _ => cpW prog w A R env (forIn ifs true fun c r => if r = true then do let ok <- isTrue c env (eval c env); pure (ForInStep.yield ok) else pure (ForInStep.yield r)) fun ok s =>
          if ok = true then cpW prog w A R env (eval elt env) (fun x => cpW prog w A R env (call (.builtin "list.append") [acc, x]) fun _ t => ∃ m, m < n /\ I m t) s else ∃ m, m < n /\ I m s) s) s)
    (n : Nat) (h : I n s) : codeAny (model prog w) A (.compLoop (.ListComp elt [⟨target, iter, ifs, 0⟩] scope pos) 0 it acc env) R s := by
  have mono : ∀ {α β : Type} {m : Sem α} {f : α -> Sem β} {Q : α -> Shared -> Prop} {Q' : β -> Shared -> Prop} {s : Shared}, cpW prog w A R env m Q s -> (∀ a t, Q a t -> cpW prog w A R env (f a) Q' t) -> cpW prog w A R env (m >>= f) Q' s := fun h k => wpAny_bind (wpAny_mono h k fun _ _ e => e)
  refine codeAny_loop rfl I (fun n s hI => wpAny_noted ?_) n h
  rw [compTurn_list]
  refine wpAny_bind (wpAny_standAt (mono (turn n s hI) fun r s1 h1 => ?_))
  cases r with
  | none => exact wpAny_pure h1
  | some v =>
    refine mono h1 fun _ _ h2 => mono h2 fun _ _ h3 => mono h3 fun ok s4 h4 => ?_
    cases ok with
    | false => exact wpAny_pure ⟨rfl, h4⟩
    | true => exact wpAny_bind (mono h4 fun _ _ h5 => mono h5 fun _ _ h6 => wpAny_pure (wpAny_pure ⟨rfl, h6⟩))
end
abbrev Cx.blk (X : Cx) (N : List Str) (sc : Scope) (C : Addr) (s₀ : Shared) (H₀ : Hp) (ex : List Addr) : Cx :=
  { X with N := N, env := compEnvC sc (clOf X.env sc.names []) C X.env, outer := X.stack, s₀ := s₀, H₀ := H₀, ex := ex, fn := fun _ => false, pn := [], xe := fun _ _ => False }
structure BlkSc (X : Cx) (sc : Scope) : Prop where
  kind : sc.kind = .function
  nocell : ∀ y ∈ sc.names, y.2 ≠ .cell
  loc : ∀ y ∈ sc.names, y.2 = .local -> sc.names.lookup y.1 = some .local
  free : ∀ y ∈ sc.names, y.2 = .free -> X.env.kindOf y.1 = some .cell \/ X.env.kindOf y.1 = some .free
abbrev Caps := List (Str × Option Nat)
def Caps.names (c : Caps) : List Str := c.map (·.1)
def Caps.st (c : Caps) (σ : St) : St := c.map fun p => p.2.bind fun j => (σ[j]?).join
def CapsOk (N : List Str) (sc : Scope) : Caps -> Prop
  | [] => True
  | (_, none) :: r => CapsOk N sc r
  | (x, some j) :: r => (N[j]? = some x /\ sc.names.lookup x = some .free) /\ CapsOk N sc r
theorem CapsOk.get {N : List Str} {sc : Scope} : ∀ {c : Caps} {i : Nat} {x : Str} {j : Nat}, CapsOk N sc c -> c[i]? = some (x, some j) -> N[j]? = some x /\ sc.names.lookup x = some .free
  | [], _, _, _, _, h => by simp at h
  | (y, none) :: r, 0, x, j, _, h => by simp at h
  | (y, none) :: r, i + 1, x, j, ok, h => CapsOk.get (c := r) (i := i) ok (by simpa using h)
  | (y, some k) :: r, 0, x, j, ok, h => by
    simp only [List.getElem?_cons_zero, Option.some.injEq, Prod.mk.injEq] at h
    obtain ⟨rfl, rfl⟩ := h
    exact ok.1
  | (y, some k) :: r, i + 1, x, j, ok, h => CapsOk.get (c := r) (i := i) ok.2 (by simpa using h)
section
variable {X : Cx} {pins : List (Addr × Obj)} {σ : St} {H : Hp} {s : Shared} {sc : Scope} {fp : List Addr}
theorem blk_cells (I : Inv X pins σ H s) (S : BlkSc X sc) : ∀ p ∈ sc.names, p.2 = .free -> ∃ c, X.env.cells.lookup p.1 = some c := fun p hp e => I.ok.has p.1 (S.free p hp e)
theorem blk_lookup (I : Inv X pins σ H s) (S : BlkSc X sc) {x : Str} {c : Addr} (h : (clOf X.env sc.names []).lookup x = some c) : X.env.cells.lookup x = some c :=
  clOf_mem sc.names [] (blk_cells I S) (fun q hq => by cases hq) (x, c) (PySem.mem_of_lookup h)
theorem blk_ok {N : List Str} {C : Addr} (I : Inv X pins σ H s) (S : BlkSc X sc) (hC : s.heap.objs.size <= C) (hf : ∀ b ∈ fp, FpOk X pins H b) (ho : ∀ b ∈ fp, ∃ o, s.heap.get? b = some o) : (X.blk N sc C s H fp).Ok where
  mod := I.ok.mod
  kind := S.kind
  glob := I.ok.glob
  blt := I.ok.blt
  above := hC
  inj := fun x y c h1 h2 => I.ok.inj x y c (blk_lookup I S h1) (blk_lookup I S h2)
  has := fun x hx => by
    have hx' : (x, NameKind.free) ∈ sc.names := by
      rcases hx with hx | hx
      . exact relabel_kind (env := X.env) S.nocell hx (.inl rfl)
      . exact relabel_kind (env := X.env) S.nocell hx (.inr rfl)
    obtain ⟨c, hc⟩ := clOf_has (env := X.env) sc.names [] x (.inl hx')
    exact lookup_some_of_mem hc
  cab := fun x c h => absurd (show false = true from h) Bool.false_ne_true
  hd := I.ok.hd
  frames := I.ok.frames
  stk := .inl rfl
  exf := fun b hb => by
    obtain ⟨o, ho⟩ := ho b hb
    refine ⟨Nat.ne_of_lt (Nat.lt_of_lt_of_le (Heap.lt_size ho) hC), fun x c h => (hf b hb).2.2.2.2.1 x c (blk_lookup I S h)⟩
  bs := I.bs
  bsz := Nat.le_trans I.ok.bsz I.sz
  noex := fun b o e hb => by
    rcases (hf b hb).2.2.2.1 with z | z
    . exact I.ok.noex b o e z
    . exact absurd (Nat.lt_of_lt_of_le (Heap.lt_size (I.ok.bs b o e).1) z) (Nat.lt_irrefl _)
  exfs := fun b hb z => by
    rcases List.mem_cons.mp (I.stkSub b z) with e | e
    . exact (hf b hb).2.1 e
    . exact (hf b hb).2.2.1 e
  funs := I.stack
  frf := I.stkFree
theorem blk_start {c : Caps} {C : Addr} {s4 : Shared} {m : Str -> Option Value} (I : Inv X pins σ H s) (S : BlkSc X sc) (hc : CapsOk X.N sc c) (hC : s.heap.objs.size <= C) (hf : ∀ b ∈ fp, FpOk X pins H b) (ho : ∀ b ∈ fp, ∃ o, s.heap.get? b = some o)
    (hos : s4.os = s.os) (hb : s4.gens = s.gens) (hk : ∀ b o, s.heap.get? b = some o -> s4.heap.get? b = some o) (hn : s4.heap.Ns C m) : Inv (X.blk c.names sc C s H fp) [] (c.st σ) H s4 where
  ok := blk_ok I S hC hf ho
  os := hos
  bare := by rw [hb]; exact I.bare
  base := Un.kept hk
  loc := by
    refine ⟨m, hn, fun i x v h1 h2 hv => ?_⟩
    have h1' : (c.map (·.1))[i]? = some x := h1
    have h2' : (c.map fun p => p.2.bind fun j => (σ[j]?).join)[i]? = some (some v) := h2
    rw [List.getElem?_map] at h1' h2'
    cases e : c[i]? with
    | none => rw [e] at h1'; cases h1'
    | some p =>
      obtain ⟨y, oj⟩ := p
      rw [e] at h1' h2'
      have e1 : y = x := Option.some.inj h1'
      subst e1
      have e2 : (oj.bind fun j => (σ[j]?).join) = some v := Option.some.inj h2'
      cases oj with
      | none => cases e2
      | some j =>
        have e3 : (σ[j]?).join = some v := e2
        have e4 : σ[j]? = some (some v) := by
          cases q : σ[j]? with
          | none => rw [q] at e3; cases e3
          | some z => rw [q] at e3; exact congrArg some e3
        obtain ⟨k1, k2⟩ := CapsOk.get hc e
        have k3 : X.env.kindOf y = some .cell \/ X.env.kindOf y = some .free := S.free (y, .free) (PySem.mem_of_lookup k2) rfl
        have vis : Vis X.env.scope y := by
          rcases k3 with k | k
          . exact .inr (.inl k)
          . exact .inr (.inr k)
        obtain ⟨mX, hnX, hl⟩ := I.loc
        obtain ⟨u, r, l⟩ := hl j y v k1 e4 vis
        refine ⟨u, r, ?_⟩
        rcases l with ⟨k, _⟩ | ⟨_, ca, hca, z⟩
        . rcases k3 with k' | k' <;> (rw [k] at k'; cases k')
        . obtain ⟨kd, hkd, ek⟩ := relabel_free (env := X.env) k2
          have hk2 : (compEnvC sc (clOf X.env sc.names []) C X.env).kindOf y = some kd := ek
          obtain ⟨c', hc'⟩ := clOf_has (env := X.env) sc.names [] y (.inl (PySem.mem_of_lookup k2))
          obtain ⟨c2, hc2⟩ := lookup_some_of_mem hc'
          have e5 := blk_lookup I S hc2
          rw [hca] at e5
          have e6 : ca = c2 := Option.some.inj e5
          subst e6
          refine .inr ⟨?_, ca, hc2, ?_⟩
          . rcases hkd with rfl | rfl
            . exact .inl hk2
            . exact .inr hk2
          . obtain ⟨oc, hoc, hd⟩ := z
            exact ⟨oc, hk _ _ hoc, hd⟩
  cell := fun x ca h => by
    obtain ⟨v, oc, hoc, hd⟩ := I.cell x ca (blk_lookup I S h)
    exact ⟨v, oc, hk _ _ hoc, hd⟩
  free := I.hok.fresh hC
  freeC := fun x ca h => I.freeC x ca (blk_lookup I S h)
  pin := fun p hp => absurd (show p ∈ ([] : List (Addr × Obj)) from hp) (by simp)
  hok := I.hok.kept hk
  len := by show (c.map _).length = (c.map _).length; rw [List.length_map, List.length_map]
theorem HOk.track {P : Program} {w : World} {H : Hp} {h : Heap} {a : Addr} {o : HO} (x : HOk P w H h) (hn : H a = none) (new : ObjOk P w (upd H a o) h a o) : HOk P w (upd H a o) h := fun b u e => by
  by_cases hb : b = a
  . subst hb; rw [upd_same] at e; cases e; exact new
  . rw [upd_ne hb] at e
    exact (x b u e).stay (fun c v _ q => q) (fun c q => by rw [upd_ne (ne_of_none q hn)]; exact q) fun c xs q => by rw [upd_ne (ne_of_none q hn)]; exact q
theorem Un.track {fs ex : List Addr} {H H' : Hp} {h h' : Heap} {a : Addr} {o : HO} (u : Un fs ex H H' h h') (ha : h.objs.size <= a) (hn : H' a = none) : Un fs ex H (upd H' a o) h h' where
  keep := u.keep
  slot := u.slot
  free := fun b ob q n hx => by rw [upd_ne (Nat.ne_of_lt (Nat.lt_of_lt_of_le (Heap.lt_size q) ha))]; exact u.free b ob q n hx
  there := u.there
  tups := fun b xs q => by rw [upd_ne (ne_of_none (u.tups b xs q) hn)]; exact u.tups b xs q
  frzs := fun b ob xs q => by rw [upd_ne (ne_of_none (u.frzs b ob xs q) hn)]; exact u.frzs b ob xs q
  tbls := fun b ps q => by
    obtain ⟨more, e⟩ := u.tbls b ps q
    exact ⟨more, by rw [upd_ne (ne_of_none e hn)]; exact e⟩
theorem blk_end {c : Caps} {C D : Addr} {s' : Shared} {σ' : St} {H' : Hp} {o : HO} (I : Inv X pins σ H s) (J : Inv (X.blk c.names sc C s H fp) [] σ' H' s') (hf : ∀ b ∈ fp, FpOk X pins H b) (hD : s.heap.objs.size <= D) (hn : H' D = none)
    (new : ObjOk X.prog X.w (upd H' D o) s'.heap D o) : Inv X pins σ (upd H' D o) s' := by
  have u : Un (frs X.stack) fp H H' s.heap s'.heap := J.base
  exact I.call' J.os (u.track hD hn) (J.hok.track hn new) J.bare fun b hb => ⟨(hf b hb).2.2.2.1, (hf b hb).2.1, (hf b hb).2.2.2.2.1, (hf b hb).2.2.2.2.2⟩
end
def PF (X : Cx) (ifs : List Expr) (t : TT) : Prop :=
  ∀ (pins : List (Addr × Obj)) (s : Shared) (σ : St) (H : Hp) (Q : Bool -> Hp -> Prop), Inv X pins σ H s -> t σ H Q ->
    wpAny (model X.prog X.w) X.A (forIn ifs true fun c r => if r = true then do let ok <- isTrue c X.env (eval c X.env); pure (ForInStep.yield ok) else pure (ForInStep.yield r)) (TP X pins σ Q) X.xe s
def tTrue : TT := fun _ H Q => Q true H
theorem pf_nil {X : Cx} : PF X [] tTrue := fun _ _ _ H _ I h => wpAny_tests_nil ⟨H, I, h⟩
def tComp (wi : TI) (cp : Caps) (g : TG) (tc : TT) (te : TE) : TE := fun σ H Q => wi σ H fun J H1 => ∃ W : Nat -> Nat -> List V -> St -> Hp -> Prop, (∃ m, W 0 m [] (cp.st σ) H1) /\ ∀ i m ys σ' H', W i m ys σ' H' ->
  ys.length < sizeLine /\ ((J.stop i H' /\ ∀ D, H' D = none -> Q (.ref D) (upd H' D (.lst ys))) \/ (J.go i H' /\ ∃ N : List V -> St -> Hp -> Prop, (∀ zs σ2 H2, N zs σ2 H2 -> ∃ m', m' < m /\ W (i + 1) m' zs σ2 H2) /\ ∀ x H2, J.yld i H' x H2 -> g x σ' H2 fun σ2 H3 => tc σ2 H3 fun b H4 =>
    if b = true then te σ2 H4 fun v H5 => N (ys ++ [v]) σ2 H5 else N ys σ2 H4))
section
variable {X : Cx} {tg iter elt : Expr} {ifs : List Expr} {sc : Scope} {pos : Pos} {wi : TI} {cp : Caps} {g : TG} {tc : TT} {te : TE}
theorem comp_core (hc : X.calm = true) (S : BlkSc X sc) (hcp : CapsOk X.N sc cp)
    (hg : ∀ C s₀ H₀ ex, PG (X.blk cp.names sc C s₀ H₀ ex) tg g) (hf : ∀ C s₀ H₀ ex, PF (X.blk cp.names sc C s₀ H₀ ex) ifs tc) (he : ∀ C s₀ H₀ ex, PE (X.blk cp.names sc C s₀ H₀ ex) elt te)
    {pins : List (Addr × Obj)} {σ : St} {H : Hp} {s : Shared} {J : It} {it : Addr} {fp : List Addr} {tn : Nat -> Heap -> Prop} {Q : VK} {RR : Value -> Addr -> Result -> Shared -> Prop} {E : Value -> Shared -> Prop}
    (I : Inv X pins σ H s) (T : Turn X.prog X.w X.K tg J fp it tn) (st : tn 0 s.heap) (fpo : ∀ b ∈ fp, FpOk X pins H b)
    (hw : ∃ W : Nat -> Nat -> List V -> St -> Hp -> Prop, (∃ m, W 0 m [] (cp.st σ) H) /\ ∀ i m ys σ' H', W i m ys σ' H' ->
      ys.length < sizeLine /\ ((J.stop i H' /\ ∀ D, H' D = none -> Q (.ref D) (upd H' D (.lst ys))) \/ (J.go i H' /\ ∃ N : List V -> St -> Hp -> Prop, (∀ zs σ2 H2, N zs σ2 H2 -> ∃ m', m' < m /\ W (i + 1) m' zs σ2 H2) /\ ∀ x H2, J.yld i H' x H2 -> g x σ' H2 fun σ2 H3 => tc σ2 H3 fun b H4 =>
        if b = true then te σ2 H4 fun v H5 => N (ys ++ [v]) σ2 H5 else N ys σ2 H4)))
    (hR : ∀ D C s' H' (m : Str -> Option Value), Inv X pins σ H' s' -> Q (.ref D) H' -> s'.heap.Ns C m -> H' C = none -> C ≠ X.env.locals -> X.s₀.heap.objs.size <= C -> (∀ x c, X.env.cells.lookup x = some c -> c ≠ C) -> (∀ p ∈ X.pn ++ pins, p.1 ≠ C) -> RR (.ref D) C (.ok .next) s') :
    wpAny (model X.prog X.w) X.A (newList []) (fun acc s₃ => wpAny (model X.prog X.w) X.A (newFunctionEnv sc X.env.globals (clOf X.env sc.names []) [] X.env.qual none .none (some X.env)) (fun cenv s₄ =>
      codeAny (model X.prog X.w) X.A (.compStart (.ListComp elt [⟨tg, iter, ifs, 0⟩] sc pos) 0 (.ref it) acc { cenv with scope := relabel sc X.env }) (RR acc cenv.locals) s₄) E s₃) E s := by
  obtain ⟨W, ⟨m0, w0⟩, turn⟩ := hw
  refine wpAny_newObj_type (wpAny_newFunctionEnv S.nocell (by intro y hy; simp at hy) (fun h₁ hns₁ hsb₁ => ?_) S.kind)
  dsimp only at hns₁ hsb₁ ⊢
  generalize hH2 : s.heap.push { cls := .type "list", dict := none, data := .seq ([] : List Value).toArray } = H2 at hns₁ hsb₁ ⊢
  have hC : H2.objs.size = s.heap.objs.size + 1 := by rw [<- hH2, Heap.size_push]
  have hDC : s.heap.objs.size ≠ H2.objs.size := by rw [hC]; exact Nat.ne_of_lt (Nat.lt_succ_self _)
  have hCle : s.heap.objs.size <= H2.objs.size := by rw [hC]; exact Nat.le_succ _
  have below : ∀ b, b < s.heap.objs.size -> b ≠ H2.objs.size := fun b hb => by rw [hC]; exact Nat.ne_of_lt (Nat.lt_succ_of_lt hb)
  have old : ∀ b o, s.heap.get? b = some o -> h₁.get? b = some o := fun b o e => hsb₁.extBut b o (below b (Heap.lt_size e)) (Heap.get?_push_of_some _ (hH2 ▸ Heap.get?_push_of_some _ e))
  have hacc : h₁.get? s.heap.objs.size = some { cls := .type "list", data := .seq ([] : List Value).toArray 0 } := hsb₁.extBut _ _ hDC (Heap.get?_push_of_some _ (hH2 ▸ Heap.get?_push_size _ rfl))
  have hst₁ : tn 0 h₁ := T.keep 0 _ _ st fun b _ o e => old b o e
  have hobj : ∀ b ∈ fp, ∃ o, s.heap.get? b = some o := fun b hb => let ⟨o, e, _⟩ := T.obj 0 _ st b hb; ⟨o, e⟩
  have J0 : Inv (X.blk cp.names sc H2.objs.size s H fp) [] (cp.st σ) H { s with heap := h₁, toks := s.toks + ([] : List (Str × Value)).length } := blk_start I S hcp hCle fpo hobj rfl rfl old hns₁
  have nfs : ∀ b, s.heap.objs.size <= b -> b ∉ frs X.stack := fun b hb z => by
    rcases List.mem_cons.mp (I.stkSub b z) with e | e
    . exact absurd (Nat.lt_of_lt_of_le I.lt (by rw [<- e]; exact hb)) (Nat.lt_irrefl _)
    . exact I.nofs hb e
  have ncell : ∀ b, s.heap.objs.size <= b -> ∀ x c, X.env.cells.lookup x = some c -> c ≠ b := fun b hb x c e z => by
    obtain ⟨v, q⟩ := I.cell x c e
    exact absurd (Nat.lt_of_lt_of_le q.lt (by rw [z]; exact hb)) (Nat.lt_irrefl _)
  have fpb : ∀ {pins' : List (Addr × Obj)} {H' : Hp}, (∀ b ∈ fp, H' b = none) -> (∀ p ∈ pins', p.1 ∉ fp) -> ∀ b ∈ fp, FpOk (X.blk cp.names sc H2.objs.size s H fp) pins' H' b := fun {pins' H'} hn hp b hb => by
    obtain ⟨o, e⟩ := hobj b hb
    refine ⟨hn b hb, below b (Heap.lt_size e), fun z => ?_, .inl hb, fun x c h => (fpo b hb).2.2.2.2.1 x c (blk_lookup I S h), fun p hp' z => ?_⟩
    . rcases List.mem_cons.mp (I.stkSub b z) with e | e
      . exact (fpo b hb).2.1 e
      . exact (fpo b hb).2.2.1 e
    . have hp'' : p ∈ pins' := by simpa using hp'
      exact hp p hp'' (by rw [z]; exact hb)
  have loop : ∀ s₃ : Shared, s₃ = { s with heap := h₁, toks := s.toks + ([] : List (Str × Value)).length } ->
      codeAny (model X.prog X.w) X.A (.compLoop (.ListComp elt [⟨tg, iter, ifs, 0⟩] sc pos) 0 (.ref it) (.ref s.heap.objs.size) (compEnvC sc (clOf X.env sc.names []) H2.objs.size X.env))
        (RR (.ref s.heap.objs.size) H2.objs.size) s₃ := by
    rintro s₃ rfl
    refine compLoop_gen (fun n s' => ∃ i σ' H' ys its k, Inv (X.blk cp.names sc H2.objs.size s H fp) [] σ' H' s' /\ tn i s'.heap /\ (∀ b ∈ fp, H' b = none) /\ H' s.heap.objs.size = none /\
      s'.heap.get? s.heap.objs.size = some { cls := .type "list", data := .seq its.toArray k } /\ Vals ys its /\ W i n ys σ' H') ?_ m0
      ⟨0, _, H, [], [], 0, J0, hst₁, fun b hb => (fpo b hb).1, I.hok.fresh (Nat.le_refl _), hacc, .nil, w0⟩
    rintro n s3 ⟨i, σ3, H3, ys, its, k, I3, st3, fr3, hD3, e3, rv, w3⟩
    obtain ⟨hz, tr⟩ := turn i n ys σ3 H3 w3
    have hlen := rv.length
    -- the accumulator stands still while anything else runs
    have dpin : ∀ p ∈ [(s.heap.objs.size, ({ cls := .type "list", data := .seq its.toArray k } : Obj))], p.1 ∉ fp := fun p hp z => by
      have e : p = _ := List.mem_singleton.mp hp
      subst e
      obtain ⟨o, e⟩ := hobj _ z
      exact absurd (Heap.lt_size e) (Nat.lt_irrefl _)
    have I3' : Inv (X.blk cp.names sc H2.objs.size s H fp) [(s.heap.objs.size, ({ cls := .type "list", data := .seq its.toArray k } : Obj))] σ3 H3 s3 := I3.pins_of fun p hp => by
      have e : p = _ := List.mem_singleton.mp hp
      subst e
      exact ⟨e3, hD3, hDC, nfs _ (Nat.le_refl _), fun v z => by cases z⟩
    have stat : ∀ b ∈ fp, FpOk (X.blk cp.names sc H2.objs.size s H fp) [(s.heap.objs.size, ({ cls := .type "list", data := .seq its.toArray k } : Obj))] H3 b := fpb fr3 dpin
    rcases tr with ⟨stop, qn⟩ | ⟨go, N, hN, step⟩
    . refine thn (T.done (X.blk cp.names sc H2.objs.size s H fp) rfl rfl rfl hc i _ s3 σ3 H3 _ I3' stat st3 stop) fun r s4 ⟨hr, I4⟩ => ?_
      subst hr
      obtain ⟨e4, n4, _⟩ := I4.pin (s.heap.objs.size, ({ cls := .type "list", data := .seq its.toArray k } : Obj)) (by simp)
      have new : ObjOk X.prog X.w (upd H3 s.heap.objs.size (.lst ys)) s4.heap s.heap.objs.size (.lst ys) := ⟨Nat.le_of_lt hz, its, k, rv, e4⟩
      obtain ⟨mC, hnC, _⟩ := I4.loc
      have I4' : Inv (X.blk cp.names sc H2.objs.size s H fp) [] σ3 H3 s4 := I4.pins_of fun p hp => by cases hp
      have I5 := blk_end I I4' fpo (Nat.le_refl _) n4 new
      refine hR _ _ s4 _ mC I5 (qn _ n4) hnC ?_ (Nat.ne_of_gt (Nat.lt_of_lt_of_le I.lt hCle)) (Nat.le_trans I.sz hCle) (ncell _ hCle) fun p hp z => ?_
      . rw [upd_ne (Ne.symm hDC)]; exact I4.free
      . exact absurd (Nat.lt_of_lt_of_le (Heap.lt_size (I.pin p hp).1) (by rw [z]; exact hCle)) (Nat.lt_irrefl _)
    . refine thn (T.item (X.blk cp.names sc H2.objs.size s H fp) rfl rfl rfl hc i _ s3 σ3 H3 _ I3' stat st3 go) fun r s4 ⟨u, hr, h4⟩ => ?_
      subst hr
      refine thn h4 fun _ s5 ⟨x, H5, I5, r5, y5, st5, fr5⟩ => ?_
      have I5' := I5.pinned (fpb fr5 dpin) (T.obj _ _ st5)
      have fin : ∀ {σ7 : St} {H7 : Hp} {s7 : Shared}, Inv (X.blk cp.names sc H2.objs.size s H fp) ([(s.heap.objs.size, ({ cls := .type "list", data := .seq its.toArray k } : Obj))] ++ pinsAt fp s5.heap) σ7 H7 s7 ->
          s7.heap.get? s.heap.objs.size = some { cls := .type "list", data := .seq its.toArray k } /\ H7 s.heap.objs.size = none /\ (∀ b ∈ fp, H7 b = none) /\ ∀ b ∈ fp, ∀ o, s5.heap.get? b = some o -> s7.heap.get? b = some o := fun {σ7 H7 s7} I7 => by
        obtain ⟨e7, n7, _⟩ := I7.pin (s.heap.objs.size, ({ cls := .type "list", data := .seq its.toArray k } : Obj)) (by simp)
        refine ⟨e7, n7, fun b hb => ?_, fun b hb o e => ?_⟩
        . obtain ⟨o, e, _⟩ := T.obj _ _ st5 b hb
          exact (I7.pin (b, o) (List.mem_append_right _ (List.mem_append_right _ (mem_pinsAt hb e)))).2.1
        . exact (I7.pin (b, o) (List.mem_append_right _ (List.mem_append_right _ (mem_pinsAt hb e)))).1
      refine wpAny_mono (hg _ _ _ _ _ s5 σ3 H5 x u _ I5' r5 (step x H5 y5)) (fun _ s6 ⟨σ6, H6, I6, q6⟩ => ?_) fun _ _ z => False.elim z
      refine wpAny_mono (hf _ _ _ _ _ s6 σ6 H6 _ I6 q6) (fun ok s7 ⟨H7, I7, q7⟩ => ?_) fun _ _ z => False.elim z
      cases ok with
      | false =>
        rw [if_neg Bool.false_ne_true]
        rw [if_neg Bool.false_ne_true] at q7
        obtain ⟨m', hm, w7⟩ := hN _ _ _ q7
        obtain ⟨e7, n7, fr7, k7⟩ := fin I7
        exact ⟨m', hm, i + 1, σ6, H7, ys, its, k, I7.pins_of (fun p hp => by cases hp), T.keep _ _ _ st5 k7, fr7, n7, e7, rv, w7⟩
      | true =>
        rw [if_pos rfl]
        rw [if_pos rfl] at q7
        refine wpAny_mono (he _ _ _ _ _ s7 σ6 H7 _ I7 q7) (fun v s8 ⟨y, H8, I8, r8, q8⟩ => ?_) fun _ _ z => False.elim z
        obtain ⟨m', hm, w8⟩ := hN _ _ _ q8
        obtain ⟨e8, n8, fr8, k8⟩ := fin I8
        refine call_meets F.slot_list_append ⟨_, e8, rfl⟩ F.entry_list_append (F.args_list_append_2 _ _) (PySem.list_append s.heap.objs.size its.toArray k v (by rw [List.size_toArray]; omega)) ⟨e8, ?_⟩
        obtain ⟨k', q⟩ : ∃ k', (s8.heap.update s.heap.objs.size (Obj.mapSeq fun x => x.push v)).get? s.heap.objs.size = some { cls := .type "list", data := .seq (its ++ [v]).toArray k' } := ⟨_, by
          have q := PySem.IsL.update e8 fun x => x.push v
          have e : (its ++ [v]).toArray = its.toArray.push v := by simp
          rw [e]
          exact q⟩
        have I8' : Inv (X.blk cp.names sc H2.objs.size s H fp) [] σ6 H8 s8 := I8.pins_of fun p hp => by cases hp
        have I9 : Inv (X.blk cp.names sc H2.objs.size s H fp) [] σ6 H8 { s8 with heap := s8.heap.update s.heap.objs.size (Obj.mapSeq fun x => x.push v), toks := s8.toks } :=
          I8'.turned (it := s.heap.objs.size) (fun b o hb e => (Heap.get?_update_other _ _ (Ne.symm hb)).trans e) n8 hDC (.inr (Nat.le_refl _)) (fun x c e => ncell _ (Nat.le_refl _) x c (blk_lookup I S e)) (fun p hp => by cases hp)
        refine ⟨m', hm, i + 1, σ6, H8, ys ++ [y], its ++ [v], k', I9, T.keep (i + 1) s5.heap _ st5 (fun b hb o e => ?_), fr8, n8, q, rv.append (.cons r8 .nil), w8⟩
        . refine (Heap.get?_update_other _ _ ?_).trans (k8 b hb o e)
          intro z
          obtain ⟨ob, eb⟩ := hobj b hb
          exact absurd (Heap.lt_size eb) (by rw [<- z]; exact Nat.lt_irrefl _)
  exact codeAny_compStart_list (loop _ rfl) (T.self _ 0 _ _ _ hst₁ (loop _ rfl))
theorem pe_comp (hc : X.calm = true) (S : BlkSc X sc) (hcp : CapsOk X.N sc cp) (hi : PI X tg iter wi)
    (hg : ∀ C s₀ H₀ ex, PG (X.blk cp.names sc C s₀ H₀ ex) tg g) (hf : ∀ C s₀ H₀ ex, PF (X.blk cp.names sc C s₀ H₀ ex) ifs tc) (he : ∀ C s₀ H₀ ex, PE (X.blk cp.names sc C s₀ H₀ ex) elt te)
    (hs : ∀ x, foldedSetIterable iter X.env x = pure x := by intro _; rfl) : PE X (.ListComp elt [⟨tg, iter, ifs, 0⟩] sc pos) (tComp wi cp g tc te) := by
  intro pins s σ H Q I h
  rw [eval_ListComp]
  refine wpAny_comprehension_free (use := none) rfl hs (closure_eq (blk_cells I S)) S.kind S.loc (thn (hi pins s σ H _ I h) fun xv s₁ h₁ => thn h₁ fun itv s₂ h₂ => ?_)
  obtain ⟨it, fp, tn, J, H2, e, I2, T, st2, f2, hw⟩ := h₂
  subst e
  refine comp_core (RR := fun acc C => compPost (model X.prog X.w) X.A X.xe none (EP X pins σ Q) acc C) hc S hcp hg hf he I2 T st2 f2 hw ?_
  intro D C s' H' m I' q hn hC hL hz hcl hp
  exact ⟨m, hn, fun h' hs' => ⟨.ref D, H', I'.turned (t' := s'.toks) (it := C) (fun b o hb e => hs'.extBut b o hb e) hC hL (.inr hz) hcl hp, rfl, q⟩⟩
end
theorem comp_list {K : PySem.W.Frag} {a : Addr} {xs : List V} {g : TG} {tc : TT} {te : TE} {Q : VK} {σ : St} {H : Hp} (Pv : Nat -> List V -> St -> Hp -> Prop) (h0 : Pv 0 [] σ H) (hz : xs.length < sizeLine)
    (hl : ∀ i ys σ H, i <= xs.length -> Pv i ys σ H -> SqL K H a xs /\ ys.length <= i)
    (hs : ∀ i x ys σ H, xs[i]? = some x -> Pv i ys σ H -> g x σ H fun σ2 H2 => tc σ2 H2 fun b H3 => if b = true then te σ2 H3 fun v H4 => Pv (i + 1) (ys ++ [v]) σ2 H4 else Pv (i + 1) ys σ2 H3)
    (hd : ∀ ys σ H, Pv xs.length ys σ H -> ∀ D, H D = none -> Q (.ref D) (upd H D (.lst ys))) :
    ∃ W : Nat -> Nat -> List V -> St -> Hp -> Prop, (∃ m, W 0 m [] σ H) /\ ∀ i m ys σ' H', W i m ys σ' H' ->
      ys.length < sizeLine /\ (((Itl K a).stop i H' /\ ∀ D, H' D = none -> Q (.ref D) (upd H' D (.lst ys))) \/ ((Itl K a).go i H' /\ ∃ N : List V -> St -> Hp -> Prop, (∀ zs σ2 H2, N zs σ2 H2 -> ∃ m', m' < m /\ W (i + 1) m' zs σ2 H2) /\ ∀ x H2, (Itl K a).yld i H' x H2 -> g x σ' H2 fun σ2 H3 => tc σ2 H3 fun b H4 =>
        if b = true then te σ2 H4 fun v H5 => N (ys ++ [v]) σ2 H5 else N ys σ2 H4)) := by
  refine ⟨fun i m ys σ H => m = xs.length - i /\ i <= xs.length /\ Pv i ys σ H, ⟨xs.length, by simp, Nat.zero_le _, h0⟩, ?_⟩
  rintro i m ys σ H ⟨rfl, hi, p⟩
  obtain ⟨q, ly⟩ := hl i ys σ H hi p
  refine ⟨by omega, ?_⟩
  by_cases hlt : i < xs.length
  . refine .inr ⟨⟨xs, xs[i], q, by simp [hlt]⟩, Pv (i + 1), fun zs σ' H' p' => ⟨xs.length - (i + 1), by omega, rfl, hlt, p'⟩, fun x H' y => ?_⟩
    obtain ⟨e, y⟩ := y
    subst e
    exact hs i x ys σ _ (y xs q) p
  . have e : i = xs.length := by omega
    subst e
    exact .inl ⟨⟨xs, q, Nat.le_refl _⟩, hd ys σ H p⟩
theorem comp_tup {K : PySem.W.Frag} {a : Addr} {xs : List V} {g : TG} {tc : TT} {te : TE} {Q : VK} {σ : St} {H : Hp} (Pv : Nat -> List V -> St -> Hp -> Prop) (h0 : Pv 0 [] σ H) (hz : xs.length < sizeLine)
    (hl : ∀ i ys σ H, i <= xs.length -> Pv i ys σ H -> SqT K H a xs /\ ys.length <= i)
    (hs : ∀ i x ys σ H, xs[i]? = some x -> Pv i ys σ H -> g x σ H fun σ2 H2 => tc σ2 H2 fun b H3 => if b = true then te σ2 H3 fun v H4 => Pv (i + 1) (ys ++ [v]) σ2 H4 else Pv (i + 1) ys σ2 H3)
    (hd : ∀ ys σ H, Pv xs.length ys σ H -> ∀ D, H D = none -> Q (.ref D) (upd H D (.lst ys))) :
    ∃ W : Nat -> Nat -> List V -> St -> Hp -> Prop, (∃ m, W 0 m [] σ H) /\ ∀ i m ys σ' H', W i m ys σ' H' ->
      ys.length < sizeLine /\ (((Itt K a).stop i H' /\ ∀ D, H' D = none -> Q (.ref D) (upd H' D (.lst ys))) \/ ((Itt K a).go i H' /\ ∃ N : List V -> St -> Hp -> Prop, (∀ zs σ2 H2, N zs σ2 H2 -> ∃ m', m' < m /\ W (i + 1) m' zs σ2 H2) /\ ∀ x H2, (Itt K a).yld i H' x H2 -> g x σ' H2 fun σ2 H3 => tc σ2 H3 fun b H4 =>
        if b = true then te σ2 H4 fun v H5 => N (ys ++ [v]) σ2 H5 else N ys σ2 H4)) := by
  refine ⟨fun i m ys σ H => m = xs.length - i /\ i <= xs.length /\ Pv i ys σ H, ⟨xs.length, by simp, Nat.zero_le _, h0⟩, ?_⟩
  rintro i m ys σ H ⟨rfl, hi, p⟩
  obtain ⟨q, ly⟩ := hl i ys σ H hi p
  refine ⟨by omega, ?_⟩
  by_cases hlt : i < xs.length
  . refine .inr ⟨⟨xs, xs[i], q, by simp [hlt]⟩, Pv (i + 1), fun zs σ' H' p' => ⟨xs.length - (i + 1), by omega, rfl, hlt, p'⟩, fun x H' y => ?_⟩
    obtain ⟨e, y⟩ := y
    subst e
    exact hs i x ys σ _ (y xs q) p
  . have e : i = xs.length := by omega
    subst e
    exact .inl ⟨⟨xs, q, Nat.le_refl _⟩, hd ys σ H p⟩
theorem comp_range {lo : Int} {n : Nat} {g : TG} {tc : TT} {te : TE} {Q : VK} {σ : St} {H : Hp} (Pv : Nat -> List V -> St -> Hp -> Prop) (h0 : Pv 0 [] σ H) (hz : n < sizeLine)
    (hl : ∀ i ys σ H, i <= n -> Pv i ys σ H -> ys.length <= i)
    (hs : ∀ i ys σ H, i < n -> Pv i ys σ H -> g (.int (lo + i)) σ H fun σ2 H2 => tc σ2 H2 fun b H3 => if b = true then te σ2 H3 fun v H4 => Pv (i + 1) (ys ++ [v]) σ2 H4 else Pv (i + 1) ys σ2 H3)
    (hd : ∀ ys σ H, Pv n ys σ H -> ∀ D, H D = none -> Q (.ref D) (upd H D (.lst ys))) :
    ∃ W : Nat -> Nat -> List V -> St -> Hp -> Prop, (∃ m, W 0 m [] σ H) /\ ∀ i m ys σ' H', W i m ys σ' H' ->
      ys.length < sizeLine /\ (((Itr lo n).stop i H' /\ ∀ D, H' D = none -> Q (.ref D) (upd H' D (.lst ys))) \/ ((Itr lo n).go i H' /\ ∃ N : List V -> St -> Hp -> Prop, (∀ zs σ2 H2, N zs σ2 H2 -> ∃ m', m' < m /\ W (i + 1) m' zs σ2 H2) /\ ∀ x H2, (Itr lo n).yld i H' x H2 -> g x σ' H2 fun σ2 H3 => tc σ2 H3 fun b H4 =>
        if b = true then te σ2 H4 fun v H5 => N (ys ++ [v]) σ2 H5 else N ys σ2 H4)) := by
  refine ⟨fun i m ys σ H => m = n - i /\ i <= n /\ Pv i ys σ H, ⟨n, by simp, Nat.zero_le _, h0⟩, ?_⟩
  rintro i m ys σ H ⟨rfl, hi, p⟩
  have ly := hl i ys σ H hi p
  refine ⟨by omega, ?_⟩
  by_cases hlt : i < n
  . refine .inr ⟨hlt, Pv (i + 1), fun zs σ' H' p' => ⟨n - (i + 1), by omega, rfl, hlt, p'⟩, fun x H' y => ?_⟩
    obtain ⟨e, y⟩ := y
    subst e y
    exact hs i ys σ _ hlt p
  . have e : i = n := by omega
    subst e
    exact .inl ⟨Nat.le_refl _, hd ys σ H p⟩
end L2
set_option Elab.async false
set_option linter.all false
set_option maxRecDepth 100000
set_option maxHeartbeats 4000000
namespace L2
open PySem PySem.Spec PyProof.Rows
section
variable {X : Cx}
theorem vals_bool_get {bs : List Bool} {its : List Value} (r : Vals (bs.map V.bl) its) {i : Nat} {v : Value} (h : its[i]? = some v) : ∃ b, bs[i]? = some b /\ v = .bool b := by
  have hi : i < its.length := (List.getElem?_eq_some_iff.mp h).1
  have hl := r.length
  rw [List.length_map] at hl
  obtain ⟨u, hu, ru⟩ := r.get (i := i) (x := V.bl bs[i]) (by rw [List.getElem?_map]; simp [show i < bs.length by omega])
  rw [h] at hu
  cases hu
  exact ⟨bs[i], by simp [show i < bs.length by omega], ru⟩
theorem map_at (bs : List Bool) : (List.range bs.length).map (fun i => bs.getD i false) = bs :=
  List.ext_getElem (by simp) fun i _ h => by simp [h]
theorem range_all {bs : List Bool} : (List.range bs.length).all (fun i => bs.getD i false) = bs.all id := by
  have e := congrArg (fun l => l.all id) (map_at bs)
  rw [List.all_map] at e; exact e
theorem truth_bools {bs : List Bool} {its : List Value} {A : Around} {P : Program} {w : World} (r : Vals (bs.map V.bl) its) : TruthOf P w A (fun i v => its.toArray[i]? = some v) (fun i => bs.getD i false) := by
  intro i v s Q E hv hq
  obtain ⟨b, hb, e⟩ := vals_bool_get r (by simpa using hv)
  subst e
  refine wpAny_truthy_bool ?_
  have e : bs.getD i false = b := by rw [List.getD_eq_getElem?_getD, hb]; rfl
  have hq' : Q (bs.getD i false) s := hq
  rw [e] at hq'
  exact hq'
theorem call_all (hc : X.calm = true) : CallR X (.builtin "all") (fun xs H Q => ∃ (p : Addr) (bs : List Bool), xs = [.ref p] /\ SqL X.K H p (bs.map V.bl) /\ Q (.bl (bs.all id)) H) := by
  intro pins s σ H xs us Q I r h
  obtain ⟨p, bs, rfl, hq, q⟩ := h
  obtain ⟨u, rfl, ru⟩ := vals1 r
  cases ru
  obtain ⟨its, rv, pl, hz⟩ := I.list hq
  have hlen := rv.length
  rw [List.length_map] at hlen
  have hh : X.A.in1.handled = none := I.ok.hd hc
  obtain ⟨o, ho, _⟩ := id pl.isList
  have hne : p ≠ s.heap.objs.size := Nat.ne_of_lt (Heap.lt_size ho)
  refine call_all_walk (wpAny_pyIter_list pl.isList ?_)
  refine ⟨s.heap.objs.size, _, _, its.toArray.size, _, _, fun i => bs.getD i false, rfl, Walks.list hh _ p hne its.toArray, ⟨⟨_, Heap.get?_push_size _ rfl, rfl, rfl⟩, pl.isList.at fun o e => Heap.get?_push_of_some _ e⟩, truth_bools rv, fun h' tk hk => ?_⟩
  refine ⟨.bl (bs.all id), H, I.kept (t' := tk) fun b o e => hk b o ?_ (Heap.get?_push_of_some _ e), ?_, q⟩
  . intro hb
    have e' : b = s.heap.objs.size := by simpa using hb
    exact absurd (Heap.lt_size e) (by rw [e']; exact Nat.lt_irrefl _)
  . rw [List.size_toArray, <- hlen, range_all]; rfl
theorem call_isinst : CallR X (.builtin "isinstance") (fun xs H Q => ∃ x c cv t b, xs = [x, c] /\ TyOf X.K H x t /\ (∀ u, RelV c u -> u = cv) /\ PySem.W.kitOne X.K t cv = some b /\ Q (.bl b) H) := by
  intro pins s σ H xs us Q I r h
  obtain ⟨x, c, cv, t, b, rfl, ty, hc, hk, q⟩ := h
  obtain ⟨u, w', rfl, rx, rc⟩ := vals2 r
  rw [hc _ rc]
  exact isinst_ok I rx ty hk fun tk => ⟨.bl b, H, I.tok tk, rfl, q⟩
def EqD (K : PySem.W.Frag) (H : Hp) : Nat -> V -> V -> Bool -> Prop
  | 0, x, y, b => flatV x = true /\ flatV y = true /\ b = eqV x y
  | n + 1, x, y, b => (flatV x = true /\ flatV y = true /\ b = eqV x y) \/ ∃ a c xs ys, x = .ref a /\ y = .ref c /\ ((SqL K H a xs /\ SqL K H c ys) \/ (SqT K H a xs /\ SqT K H c ys)) /\ 
      ∃ e : Nat -> Bool, (∀ i x y, xs[i]? = some x -> ys[i]? = some y -> EqD K H n x y (e i)) /\ b = (decide (xs.length = ys.length) && (List.range (min xs.length ys.length)).all e)
theorem in1_units (A : Around) : A.in1.units = A.units + 1 := rfl
theorem eqV_self {x : V} (h : flatV x = true) : eqV x x = true := by
  cases x <;> first | rfl | (simp [eqV]; done) | exact absurd (show false = true from h) Bool.false_ne_true
theorem EqD.self {pins : List (Addr × Obj)} {s : Shared} {σ : St} {H : Hp} (I : Inv X pins σ H s) : ∀ (n : Nat) {x : V} {b : Bool}, EqD X.K H n x x b -> b = true := by
  intro n
  induction n with
  | zero =>
    rintro x b ⟨fx, _, rfl⟩
    exact eqV_self fx
  | succ n ih =>
    rintro x b (⟨fx, _, rfl⟩ | ⟨a, c, xs, ys, rfl, e2, hq, e, he, rfl⟩)
    . exact eqV_self fx
    . cases e2
      have exy : xs = ys := by
        rcases hq with ⟨h1, h2⟩ | ⟨h1, h2⟩
        . exact I.list_inj h1 h2
        . exact I.tuple_inj h1 h2
      subst exy
      simp only [decide_true, Bool.true_and, Nat.min_self, List.all_eq_true, List.mem_range]
      intro i hi
      exact ih (he i xs[i] xs[i] (by simp [hi]) (by simp [hi]))
theorem all_and {n m : Nat} {e : Nat -> Bool} : ((List.range (min n m)).all e && n == m) = (decide (n = m) && (List.range (min n m)).all e) := by
  rw [Bool.and_comm]
  congr 1
theorem EqD.at {pins : List (Addr × Obj)} {s : Shared} {σ : St} {H : Hp} (I : Inv X pins σ H s) : ∀ (n : Nat) (A : Around) {x y : V} {u v : Value} {b : Bool}, A.units + n < cLine -> RelV x u -> RelV y v -> EqD X.K H n x y b ->
    SeqAt.EqAt A s u v b /\ ∀ a c, x = .ref a -> y = .ref c -> SeqAt.RcAt A s u v b := by
  intro n
  induction n with
  | zero =>
    intro A x y u v b hu rx ry h
    obtain ⟨fx, fy, rfl⟩ := h
    refine ⟨eqAt_V rx ry fx fy, ?_⟩
    rintro a c rfl rfl
    exact absurd (show false = true from fx) Bool.false_ne_true
  | succ n ih =>
    intro A x y u v b hu rx ry h
    have hself := h
    rcases h with ⟨fx, fy, rfl⟩ | ⟨a, c, xs, ys, rfl, rfl, hq, e, he, rfl⟩
    . refine ⟨eqAt_V rx ry fx fy, ?_⟩
      rintro a c rfl rfl
      exact absurd (show false = true from fx) Bool.false_ne_true
    . cases rx
      cases ry
      have key : ∀ (its its2 : List Value), Vals xs its -> Vals ys its2 -> ∀ j (h1 : j < its.toArray.size) (h2 : j < its2.toArray.size), SeqAt.EqAt A.in1 s its.toArray[j] its2.toArray[j] (e j) := fun its its2 r1 r2 j h1 h2 => by
        have l1 := r1.length
        have l2 := r2.length
        rw [List.size_toArray] at h1 h2
        obtain ⟨u1, g1, q1⟩ := r1.get (i := j) (x := xs[j]'(by omega)) (by simp [show j < xs.length by omega])
        obtain ⟨u2, g2, q2⟩ := r2.get (i := j) (x := ys[j]'(by omega)) (by simp [show j < ys.length by omega])
        have k1 : its.toArray[j]'(by rw [List.size_toArray]; exact h1) = u1 := by
          have := (List.getElem?_eq_some_iff.mp g1).2
          simpa using this
        have k2 : its2.toArray[j]'(by rw [List.size_toArray]; exact h2) = u2 := by
          have := (List.getElem?_eq_some_iff.mp g2).2
          simpa using this
        rw [k1, k2]
        exact (ih A.in1 (by rw [in1_units]; omega) q1 q2 (he j _ _ (by simp [show j < xs.length by omega]) (by simp [show j < ys.length by omega]))).1
      have rc : SeqAt.RcAt A s (.ref a) (.ref c) (decide (xs.length = ys.length) && (List.range (min xs.length ys.length)).all e) := by
        rcases hq with ⟨h1, h2⟩ | ⟨h1, h2⟩
        . obtain ⟨its, r1, p1, _⟩ := I.list h1
          obtain ⟨its2, r2, p2, _⟩ := I.list h2
          have l1 := r1.length
          have l2 := r2.length
          by_cases hl : xs.length = ys.length
          . have := SeqAt.RcAt.lists (e := e) p1.isList p2.isList (by rw [List.size_toArray, List.size_toArray]; omega) (by omega) (key its its2 r1 r2)
            rw [List.size_toArray, <- l1] at this
            rw [decide_eq_true hl, Bool.true_and, <- hl, Nat.min_self]
            exact this
          . rw [decide_eq_false hl, Bool.false_and]
            exact SeqAt.RcAt.lists_lengths p1.isList p2.isList (by rw [List.size_toArray, List.size_toArray]; simp; omega) (by omega)
        . obtain ⟨its, r1, p1, _⟩ := I.tuple h1
          obtain ⟨its2, r2, p2, _⟩ := I.tuple h2
          have l1 := r1.length
          have l2 := r2.length
          have := SeqAt.RcAt.tuples (e := e) (show s.heap.IsTuple a its.toArray from p1) (show s.heap.IsTuple c its2.toArray from p2) (by omega) (key its its2 r1 r2)
          rw [List.size_toArray, List.size_toArray, <- l1, <- l2, all_and] at this
          exact this
      refine ⟨?_, fun a' c' _ _ => rc⟩
      by_cases hac : a = c
      . subst hac
        rw [EqD.self I (n + 1) hself]
        exact SeqAt.EqAt.same _
      . exact SeqAt.EqAt.of_refs hac rc
theorem EqD.flat {K : PySem.W.Frag} {H : Hp} {a c : Addr} {xs ys : List V} (hq : (SqL K H a xs /\ SqL K H c ys) \/ (SqT K H a xs /\ SqT K H c ys)) (fx : ∀ x ∈ xs, flatV x = true) (fy : ∀ y ∈ ys, flatV y = true) (hi : ∀ x ∈ xs, ∀ y ∈ ys, eqV x y = decide (x = y)) (n : Nat) :
    EqD K H (n + 1) (.ref a) (.ref c) (decide (xs = ys)) := by
  have base : ∀ m i x y, xs[i]? = some x -> ys[i]? = some y -> EqD K H m x y (decide (x = y)) := fun m i x y h1 h2 => by
    have m1 := List.mem_of_getElem? h1
    have m2 := List.mem_of_getElem? h2
    cases m with
    | zero => exact ⟨fx _ m1, fy _ m2, (hi _ m1 _ m2).symm⟩
    | succ m => exact .inl ⟨fx _ m1, fy _ m2, (hi _ m1 _ m2).symm⟩
  refine .inr ⟨a, c, xs, ys, rfl, rfl, hq, fun i => match xs[i]?, ys[i]? with | some x, some y => decide (x = y) | _, _ => true, fun i x y h1 h2 => ?_, ?_⟩
  . simp only [h1, h2]
    exact base n i x y h1 h2
  . rw [Bool.eq_iff_iff]
    simp only [decide_eq_true_eq, Bool.and_eq_true, List.all_eq_true, List.mem_range]
    constructor
    . rintro rfl
      refine ⟨rfl, fun i hi => ?_⟩
      have hi : i < xs.length := by omega
      simp [hi]
    . rintro ⟨hl, h⟩
      refine List.ext_getElem? fun i => ?_
      by_cases hi : i < xs.length
      . have := h i (by omega)
        simp [hi, show i < ys.length by omega] at this
        simp [hi, show i < ys.length by omega, this]
      . rw [List.getElem?_eq_none (by omega), List.getElem?_eq_none (by omega)]
end
end L2
namespace L2
open PySem PySem.Spec PyProof.Rows
def blkOk (outer : List (Str × NameKind)) (sc : Scope) : Bool :=
  sc.kind == .function && sc.names.all (fun y => y.2 != .cell && (y.2 != .local || sc.names.lookup y.1 == some .local) && (y.2 != .free || outer.lookup y.1 == some .cell || outer.lookup y.1 == some .free))
theorem blk_mk {X : Cx} {sc : Scope} (h : blkOk X.env.scope.names sc = true) : BlkSc X sc := by
  unfold blkOk at h
  rw [Bool.and_eq_true, List.all_eq_true] at h
  obtain ⟨h1, h2⟩ := h
  refine ⟨by simpa using h1, fun y hy z => ?_, fun y hy z => ?_, fun y hy z => ?_⟩
  . have := h2 y hy
    simp only [Bool.and_eq_true] at this
    have := this.1.1
    rw [z] at this
    exact absurd this (by decide)
  . have := h2 y hy
    simp only [Bool.and_eq_true] at this
    have := this.1.2
    rw [z] at this
    simpa using this
  . have := h2 y hy
    simp only [Bool.and_eq_true] at this
    have := this.2
    rw [z] at this
    have t : (X.env.scope.names.lookup y.1 == some .cell || X.env.scope.names.lookup y.1 == some .free) = true := by simpa using this
    rw [Bool.or_eq_true] at t
    rcases t with t | t
    . exact .inl (by show X.env.scope.names.lookup y.1 = some .cell; simpa using t)
    . exact .inr (by show X.env.scope.names.lookup y.1 = some .free; simpa using t)
end L2
set_option Elab.async false
set_option linter.all false
set_option maxRecDepth 100000
set_option maxHeartbeats 4000000
namespace L2
open PySem PySem.Spec PyProof.Rows
section
variable {t u : TS} {te ta tb tc' : TE} {tt tu : TT} {A B : TA} {D : Ends} {σ : St} {H : Hp} {Q : VK} {R : Bool -> Hp -> Prop} {S : List V -> Hp -> Prop} {i : Nat} {v : V} {g : TG} {r r' : R2} {K : PySem.W.Frag} {wi : TI} {cp : Caps}
theorem r_seq : tSeq t u D σ H = t { D with nx := u D } σ H := rfl
theorem r_next : tNext D σ H = D.nx σ H := rfl
theorem r_asg : tAsg te g D σ H = te σ H fun x H1 => g x σ H1 D.nx := rfl
theorem r_gname {N : St -> Hp -> Prop} : gName i v σ H N = N (σ.set i (some v)) H := rfl
theorem r_var : tVar i σ H Q = ∃ v, σ[i]? = some (some v) /\ Q v H := rfl
theorem r_c : tC v σ H Q = Q v H := rfl
theorem r_op : tOp r ta tb σ H Q = ta σ H fun x H1 => tb σ H1 fun y H2 => r x y H2 Q := rfl
theorem r_un {f : V -> Hp -> VK -> Prop} : tUn f ta σ H Q = ta σ H fun x H1 => f x H1 Q := rfl
theorem r_I {C : Int -> Int -> Prop} {f : Int -> Int -> V} {x y : V} : rI C f x y H Q = ∃ i j, x = .int i /\ y = .int j /\ C i j /\ Q (f i j) H := rfl
theorem r_I0 {f : Int -> Int -> V} {x y : V} : rI0 f x y H Q = ∃ i j, x = .int i /\ y = .int j /\ Q (f i j) H := rfl
theorem r_U {f : Int -> V} {x : V} : rU f x H Q = ∃ i, x = .int i /\ Q (f i) H := rfl
theorem r_call {sp : Sp} {dvs : List V} {E : XK} : tCall sp dvs E A σ H Q = A σ H fun vs H1 => sp (vs ++ dvs) H1 Q E := rfl
theorem r_cons : tCons te A σ H S = te σ H fun x H1 => A σ H1 fun xs H2 => S (x :: xs) H2 := rfl
theorem r_nil : tNil σ H S = S [] H := rfl
theorem r_ret : tRet te D σ H = te σ H D.rt := rfl
theorem r_drop : tDrop te D σ H = te σ H fun _ H1 => D.nx σ H1 := rfl
theorem r_if : tIfS tt t u D σ H = tt σ H fun b H1 => if b = true then t D σ H1 else u D σ H1 := rfl
theorem r_B : tB te σ H R = te σ H fun x H1 => ∃ c, x = .bl c /\ R c H1 := rfl
theorem r_test : tTest te σ H R = te σ H fun x H1 => ∃ c, x = .bl c /\ R c H1 := rfl
theorem r_or : tOr tt tu σ H R = tt σ H fun c H1 => if c = true then R true H1 else tu σ H1 R := rfl
theorem r_not : tNot tt σ H R = tt σ H fun c H1 => R (!c) H1 := rfl
theorem r_andV : tAndV ta tb σ H Q = ta σ H fun x H1 => ∃ c, x = .bl c /\ if c = true then tb σ H1 Q else Q (.bl false) H1 := rfl
theorem r_notV : tNotV ta σ H Q = ta σ H fun x H1 => ∃ c, x = .bl c /\ Q (.bl (!c)) H1 := rfl
theorem r_chain : tChain r r' ta tb tc' σ H Q = ta σ H fun x H1 => tb σ H1 fun y H2 => r x y H2 fun z H3 => ∃ k, z = .bl k /\ (if k = true then tc' σ H3 fun w' H4 => r' y w' H4 Q else Q (.bl false) H3) := rfl
theorem r_CB {f : List V -> Hp -> VK -> Prop} : tCB f A σ H Q = A σ H fun vs H1 => f vs H1 Q := rfl
theorem r_lst : tLst A σ H Q = A σ H fun xs H1 => xs.length <= sizeLine /\ ∀ p, H1 p = none -> Q (.ref p) (upd H1 p (.lst xs)) := rfl
theorem r_tup : tTup A σ H Q = A σ H fun xs H1 => xs.length <= sizeLine /\ ∀ p, H1 p = none -> Q (.ref p) (upd H1 p (.tup xs)) := rfl
theorem r_ixL {x y : V} : rIxL K x y H Q = ∃ p xs i v, x = .ref p /\ y = .int i /\ SqL K H p xs /\ atI xs i = some v /\ Q v H := rfl
theorem r_ixT {x y : V} : rIxT K x y H Q = ∃ p xs i v, x = .ref p /\ y = .int i /\ SqT K H p xs /\ atI xs i = some v /\ Q v H := rfl
theorem r_BM {T : String} {f : V -> List V -> Hp -> VK -> Prop} : tBM K T f te A σ H Q = te σ H fun x H1 => tyV K T x H1 /\ A σ H1 fun xs H2 => f x xs H2 Q := rfl
theorem r_BM0 {T : String} {f : V -> List V -> Hp -> VK -> Prop} : tBM0 K T f te σ H Q = te σ H fun x H1 => tyV K T x H1 /\ f x [] H1 Q := rfl
theorem r_append {x : V} {vs : List V} : rAppend x vs H Q = ∃ l xs y, x = .ref l /\ vs = [y] /\ H l = some (.lst xs) /\ xs.length < sizeLine /\ Q .non (upd H l (.lst (xs ++ [y]))) := rfl
theorem r_gsub {to ti : TE} {ts : TSet} {N : St -> Hp -> Prop} : gSub to ti ts v σ H N = to σ H fun o H1 => ti σ H1 fun i H2 => ts o i v H2 fun H3 => N σ H3 := rfl
theorem r_setL {o k : V} {N : Hp -> Prop} : rSetL o k v H N = ∃ p xs m j, o = .ref p /\ k = .int m /\ H p = some (.lst xs) /\ ixN xs.length m = some j /\ N (upd H p (.lst (xs.set j v))) := rfl
theorem r_Eq {x y : V} : rEq x y H Q = (scal x y = true /\ Q (.bl (decide (x = y))) H) := rfl
theorem r_Ne {x y : V} : rNe x y H Q = (scal x y = true /\ Q (.bl (!decide (x = y))) H) := rfl
theorem r_iTup {Z : It -> Hp -> Prop} : iTup K te σ H Z = te σ H fun x H1 => ∃ a, x = .ref a /\ (∃ xs, SqT K H1 a xs) /\ Z (Itt K a) H1 := rfl
theorem r_iRng1 {Z : It -> Hp -> Prop} : iRng1 A σ H Z = A σ H fun vs H1 => ∃ j : Int, vs = [.int j] /\ -(2 ^ 62) <= j /\ j < 2 ^ 62 /\ Z (Itr 0 j.toNat) H1 := rfl
theorem r_true : tTrue σ H R = R true H := rfl
end
theorem Same.new {H : Hp} {p : Addr} {o : HO} (h : H p = none) : Same H (upd H p o) := fun b u e => by rw [upd_ne (ne_of_none e h)]; exact e
theorem Same.newT {H H' : Hp} {p : Addr} {o : HO} (s : Same H H') (h : H' p = none) : Same H (upd H' p o) := s.trans (Same.new h)
theorem Same.over {H H' : Hp} {p : Addr} {o : HO} (s : Same H H') (h : H p = none) : Same H (upd H' p o) := fun b u e => by rw [upd_ne (ne_of_none e h)]; exact s b u e
theorem none_of_upd {H : Hp} {p D : Addr} {o : HO} (h : upd H p o D = none) : H D = none /\ D ≠ p := by
  by_cases e : D = p
  . subst e; rw [upd_same] at h; cases h
  . rw [upd_ne e] at h; exact ⟨h, e⟩
theorem Same.seqT {K : PySem.W.Frag} {H H' : Hp} {a : Addr} {xs : List V} (e : Same H H') (h : SqT K H a xs) : SqT K H' a xs := by
  rcases h with (h | ⟨o, h⟩) | h
  . exact .inl (.inl (e _ _ h))
  . exact .inl (.inr ⟨o, e _ _ h⟩)
  . exact .inr h
theorem hu9 {k : Nat} {A : Around} (hr : Room k A) : A.units + 8 < cLine := by have := hr.units; omega
section
variable {K : PySem.W.Frag} {wi : TI} {cp : Caps} {g : TG} {tc : TT} {te : TE} {σ : St} {H : Hp} {Q : VK}
theorem r_cxK {CX : CXT} {P : Program} {w : World} {mg : Str -> Option Value} {base : Heap} {N : List Str} {qual : Str} {scope : Scope} {f : Addr} {cd : Value} {A : Around} {outer : List Env} {s : Shared} {E : XK} : (cxOf CX P w K mg base N qual scope f cd A outer s H E).K = K := rfl
def CompW (J : It) (cp : Caps) (g : TG) (tc : TT) (te : TE) (σ : St) (H1 : Hp) (Q : VK) : Prop := ∃ W : Nat -> Nat -> List V -> St -> Hp -> Prop, (∃ m, W 0 m [] (cp.st σ) H1) /\ ∀ i m ys σ' H', W i m ys σ' H' ->
  ys.length < sizeLine /\ ((J.stop i H' /\ ∀ D, H' D = none -> Q (.ref D) (upd H' D (.lst ys))) \/ (J.go i H' /\ ∃ N : List V -> St -> Hp -> Prop, (∀ zs σ2 H2, N zs σ2 H2 -> ∃ m', m' < m /\ W (i + 1) m' zs σ2 H2) /\ ∀ x H2, J.yld i H' x H2 -> g x σ' H2 fun σ2 H3 => tc σ2 H3 fun b H4 =>
    if b = true then te σ2 H4 fun v H5 => N (ys ++ [v]) σ2 H5 else N ys σ2 H4))
theorem r_comp : tComp wi cp g tc te σ H Q = wi σ H fun J H1 => CompW J cp g tc te σ H1 Q := rfl
def ForW (J : It) (g : TG) (tb : TS) (D : Ends) (σ : St) (H1 : Hp) : Prop := ∃ W : Nat -> Nat -> St -> Hp -> Prop, (∃ m, W 0 m σ H1) /\ ∀ i m σ H, W i m σ H ->
  (J.stop i H /\ D.nx σ H) \/ (J.go i H /\ ∃ N : St -> Hp -> Prop, (∀ σ' H', N σ' H' -> ∃ m', m' < m /\ W (i + 1) m' σ' H') /\ ∀ x H', J.yld i H x H' -> g x σ H' fun σ2 H2 => tb { D with nx := N, ct := N, bk := D.nx } σ2 H2)
theorem r_for {tb : TS} {D : Ends} : tFor wi g tb D σ H = wi σ H fun J H1 => ForW J g tb D σ H1 := rfl
theorem forL {a : Addr} {xs : List V} {g : TG} {tb : TS} {D : Ends} {σ : St} {H : Hp} (Pv : Nat -> St -> Hp -> Prop) (h0 : Pv 0 σ H) (hl : ∀ i σ H, i <= xs.length -> Pv i σ H -> SqL K H a xs)
    (hs : ∀ i x σ H, xs[i]? = some x -> Pv i σ H -> g x σ H fun σ2 H2 => tb { D with nx := Pv (i + 1), ct := Pv (i + 1), bk := D.nx } σ2 H2) (hd : ∀ σ H, Pv xs.length σ H -> D.nx σ H) : ForW (Itl K a) g tb D σ H := for_list Pv h0 hl hs hd
theorem forT {a : Addr} {xs : List V} {g : TG} {tb : TS} {D : Ends} {σ : St} {H : Hp} (Pv : Nat -> St -> Hp -> Prop) (h0 : Pv 0 σ H) (hl : ∀ i σ H, i <= xs.length -> Pv i σ H -> SqT K H a xs)
    (hs : ∀ i x σ H, xs[i]? = some x -> Pv i σ H -> g x σ H fun σ2 H2 => tb { D with nx := Pv (i + 1), ct := Pv (i + 1), bk := D.nx } σ2 H2) (hd : ∀ σ H, Pv xs.length σ H -> D.nx σ H) : ForW (Itt K a) g tb D σ H := for_tup Pv h0 hl hs hd
theorem forR {lo : Int} {n : Nat} {g : TG} {tb : TS} {D : Ends} {σ : St} {H : Hp} (Pv : Nat -> St -> Hp -> Prop) (h0 : Pv 0 σ H)
    (hs : ∀ i σ H, i < n -> Pv i σ H -> g (.int (lo + i)) σ H fun σ2 H2 => tb { D with nx := Pv (i + 1), ct := Pv (i + 1), bk := D.nx } σ2 H2) (hd : ∀ σ H, Pv n σ H -> D.nx σ H) : ForW (Itr lo n) g tb D σ H := for_range Pv h0 hs hd
theorem compL {a : Addr} {xs : List V} (Pv : Nat -> List V -> St -> Hp -> Prop) (h0 : Pv 0 [] (cp.st σ) H) (hz : xs.length < sizeLine)
    (hl : ∀ i ys σ H, i <= xs.length -> Pv i ys σ H -> SqL K H a xs /\ ys.length <= i)
    (hs : ∀ i x ys σ H, xs[i]? = some x -> Pv i ys σ H -> g x σ H fun σ2 H2 => tc σ2 H2 fun b H3 => if b = true then te σ2 H3 fun v H4 => Pv (i + 1) (ys ++ [v]) σ2 H4 else Pv (i + 1) ys σ2 H3)
    (hd : ∀ ys σ H, Pv xs.length ys σ H -> ∀ D, H D = none -> Q (.ref D) (upd H D (.lst ys))) : CompW (Itl K a) cp g tc te σ H Q := comp_list Pv h0 hz hl hs hd
theorem compT {a : Addr} {xs : List V} (Pv : Nat -> List V -> St -> Hp -> Prop) (h0 : Pv 0 [] (cp.st σ) H) (hz : xs.length < sizeLine)
    (hl : ∀ i ys σ H, i <= xs.length -> Pv i ys σ H -> SqT K H a xs /\ ys.length <= i)
    (hs : ∀ i x ys σ H, xs[i]? = some x -> Pv i ys σ H -> g x σ H fun σ2 H2 => tc σ2 H2 fun b H3 => if b = true then te σ2 H3 fun v H4 => Pv (i + 1) (ys ++ [v]) σ2 H4 else Pv (i + 1) ys σ2 H3)
    (hd : ∀ ys σ H, Pv xs.length ys σ H -> ∀ D, H D = none -> Q (.ref D) (upd H D (.lst ys))) : CompW (Itt K a) cp g tc te σ H Q := comp_tup Pv h0 hz hl hs hd
theorem compR {lo : Int} {n : Nat} (Pv : Nat -> List V -> St -> Hp -> Prop) (h0 : Pv 0 [] (cp.st σ) H) (hz : n < sizeLine)
    (hl : ∀ i ys σ H, i <= n -> Pv i ys σ H -> ys.length <= i)
    (hs : ∀ i ys σ H, i < n -> Pv i ys σ H -> g (.int (lo + i)) σ H fun σ2 H2 => tc σ2 H2 fun b H3 => if b = true then te σ2 H3 fun v H4 => Pv (i + 1) (ys ++ [v]) σ2 H4 else Pv (i + 1) ys σ2 H3)
    (hd : ∀ ys σ H, Pv n ys σ H -> ∀ D, H D = none -> Q (.ref D) (upd H D (.lst ys))) : CompW (Itr lo n) cp g tc te σ H Q := comp_range Pv h0 hz hl hs hd
theorem compMapT {a : Addr} {xs : List V} {σ' : St} (f : V -> V) (e : cp.st σ = none :: σ') (hl : SqT K H a xs) (hz : xs.length < sizeLine) (hs : ∀ x ∈ xs, ∀ R : VK, R (f x) H -> te (some x :: σ') H R) (hd : ∀ D, H D = none -> Q (.ref D) (upd H D (.lst (xs.map f)))) :
    CompW (Itt K a) cp (gName 0) tTrue te σ H Q := by
  refine compT (xs := xs) (fun i ys σ2 H2 => H2 = H /\ ys = (xs.take i).map f /\ ∃ o, σ2 = o :: σ') ⟨rfl, by simp, none, e⟩ hz (fun i ys σ2 H2 hi h => ?_) (fun i x ys σ2 H2 hx h => ?_) (fun ys σ2 H2 h => ?_)
  . obtain ⟨rfl, rfl, _⟩ := h
    exact ⟨hl, by rw [List.length_map, List.length_take]; omega⟩
  . obtain ⟨rfl, rfl, o, rfl⟩ := h
    refine hs x (List.mem_of_getElem? hx) _ ⟨rfl, ?_, some x, rfl⟩
    rw [List.take_add_one, hx]; simp
  . obtain ⟨rfl, rfl, _⟩ := h
    rw [List.take_length]
    exact hd
theorem compMapL {a : Addr} {xs : List V} {σ' : St} (f : V -> V) (e : cp.st σ = none :: σ') (hl : SqL K H a xs) (hz : xs.length < sizeLine) (hs : ∀ x ∈ xs, ∀ R : VK, R (f x) H -> te (some x :: σ') H R) (hd : ∀ D, H D = none -> Q (.ref D) (upd H D (.lst (xs.map f)))) :
    CompW (Itl K a) cp (gName 0) tTrue te σ H Q := by
  refine compL (xs := xs) (fun i ys σ2 H2 => H2 = H /\ ys = (xs.take i).map f /\ ∃ o, σ2 = o :: σ') ⟨rfl, by simp, none, e⟩ hz (fun i ys σ2 H2 hi h => ?_) (fun i x ys σ2 H2 hx h => ?_) (fun ys σ2 H2 h => ?_)
  . obtain ⟨rfl, rfl, _⟩ := h
    exact ⟨hl, by rw [List.length_map, List.length_take]; omega⟩
  . obtain ⟨rfl, rfl, o, rfl⟩ := h
    refine hs x (List.mem_of_getElem? hx) _ ⟨rfl, ?_, some x, rfl⟩
    rw [List.take_add_one, hx]; simp
  . obtain ⟨rfl, rfl, _⟩ := h
    rw [List.take_length]
    exact hd
end
def tCut (t u : TS) : TS := fun D σ H => ∃ R : St -> Hp -> Prop, t { D with nx := R } σ H /\ ∀ σ' H', R σ' H' -> u D σ' H'
theorem pss_cut {X : Cx} {st : Stmt} {rest : List Stmt} {t u : TS} (h1 : PS X st t) (h2 : PSs X rest u) : PSs X (st :: rest) (tCut t u) := by
  intro pins s σ H D I h
  obtain ⟨R, ha, hb⟩ := h
  refine wpAny_execs_cons (thn (h1 pins s σ H { D with nx := R } I ha) fun f s1 q => ?_)
  cases f with
  | next =>
    obtain ⟨σ', H', I', q⟩ := q
    exact h2 pins s1 σ' H' D I' (hb σ' H' q)
  | ret v => exact q
  | brk => exact q
  | cont => exact q
theorem line1000 : 1000000 < sizeLine := by rw [sizeLine_eq]; decide
theorem mem_mapI {ns : List Int} {x : V} (h : x ∈ ns.map V.int) : ∃ n, n ∈ ns /\ x = .int n := by
  obtain ⟨n, hn, e⟩ := List.mem_map.mp h
  exact ⟨n, hn, e.symm⟩
theorem ixN_of {n : Nat} {i : Int} (h0 : 0 <= i) (h1 : i < n) : ixN n i = some i.toNat := by
  unfold ixN; rw [if_pos h0, if_pos h1]
theorem atI_of {α : Type} {xs : List α} {i : Int} {v : α} (h0 : 0 <= i) (h : xs[i.toNat]? = some v) : atI xs i = some v := by
  have := atI_nat h
  rwa [show ((i.toNat : Nat) : Int) = i by omega] at this
theorem kit_self {K : PySem.W.Frag} {t : Value} : PySem.W.kitOne K t t = some true := by unfold PySem.W.kitOne; rw [if_pos (by simp)]
theorem kit_int_bool {K : PySem.W.Frag} : PySem.W.kitOne K (.type "int") (.type "bool") = some false := by
  first | rfl | decide +kernel | (unfold PySem.W.kitOne; kernel_rfl)
theorem rel_ty {n : String} : ∀ u, RelV (V.ty n) u -> u = .type n := fun _ h => h
theorem rel_ref {a : Addr} : ∀ u, RelV (V.ref a) u -> u = .ref a := fun _ h => h
end L2
set_option Elab.async false
set_option linter.all false
set_option maxRecDepth 100000
set_option maxHeartbeats 4000000
namespace L2
open PySem PySem.W PySem.Spec PySem.Calls PyProof.Rows
section
variable {prog : Program} {w : World} {A : Around} {E : Value -> Shared -> Prop} {s : Shared} {K : Frag} {x D : Addr} {ox : Obj}
structure ExcCls (K : Frag) (D : Addr) : Prop where
  ga : findIn K (.ref D) "__getattribute__" = some (some (.builtin "BaseException.__getattribute__"))
  hk : findIn K (.ref D) "__getattr__" = some none
  cl : (clsIn K D).isSome = true
  ca : findIn K (.ref D) "__class__" = some (some (.builtin "object.__class__"))
  gs : specialIn K (.builtin "object.__class__") "__get__" = some (some (.builtin "getset_descriptor.__get__"))
  tk : takesIn K (.builtin "object.__class__") = some true
  mo : mroIn K D (.type "object") = some true
  mb : mroIn K D (.type "BaseException") = some true
def ExcAt (x D : Addr) (h : Heap) : Prop := ∃ ox, h.get? x = some ox /\ ox.cls = .ref D
theorem ExcAt.type {M : Model} {h : Heap} (I : ExcAt x D h) : Looks M h (typeOf (.ref x)) (.ref D) := by
  obtain ⟨ox, h1, h2⟩ := I
  exact h2 ▸ (Looks.ld h1).andThen .now
theorem exc_find {M : Model} {h : Heap} (X : K.In h) (C : ExcCls K D) : Looks M h (Builtin.ObjectAttr.find (.ref x) (.ref D) "__class__") (.bind (.builtin "getset_descriptor.__get__") (.builtin "object.__class__")) :=
  (looks_findIn X C.ca).andThen ((show Looks M h (Builtin.ObjectAttr.getOf (some (.builtin "object.__class__"))) _ from looks_specialIn X C.gs).andThen
    ((show Looks M h (Builtin.ObjectAttr.dataDescriptor? (some (.builtin "object.__class__")) (some (.builtin "getset_descriptor.__get__"))) (some (.builtin "getset_descriptor.__get__", .builtin "object.__class__")) from (looks_takesIn X C.tk).andThen .now).andThen (Looks.tag .now)))
open Builtin Builtin.ObjectAttr Builtin.Getset_descriptor in
theorem exc_get {R : Result -> Shared -> Prop} {tp : Value} (X : K.In s.heap) (I : ExcAt x D s.heap) (hm : mroIn K D (.type "object") = some true) (h : R (.ok (.ret (.ref D))) s) : codeAny (model prog w) A (.call (.builtin "getset_descriptor.__get__") ⟨[.builtin "object.__class__", .ref x, tp], []⟩) R s := by
  have l0 := I.type (M := model prog w)
  have l1 := looks_mroIn (M := model prog w) X hm
  obtain ⟨_, _, _, _, _⟩ := s
  have sg := KF.slot_gs
  refine codeAny_call_builtin sg.plain KF.entry_gs (sg.check _ _ _ _ _ _ _ _ KF.type_class (KF.args_gs _ _ _) ?_)
  unfold Builtin.«getset_descriptor.__get__» descrGet
  rw [dga_obj]
  unfold descrGetter descrCheckInstance isInstance descrNameAndClass
  refine wpAny_bind (wpAny_pure ?_)
  simp only [KF.owner_class]
  repeat lk
  refine ⟨Code.quiet_builtin _ (by decide +kernel), codeAny_builtin KF.entry_class ?_⟩
  unfold Builtin.«object.__class__» shownTypeOf
  repeat lk
  exact h
theorem exc_check {M : Model} {nameV : Value} {Q : Unit -> Shared -> Prop} (X : K.In s.heap) (I : ExcAt x D s.heap) (C : ExcCls K D) (hq : Q () s) : wpAny M A (checkBuiltinCall "BaseException.__getattribute__" ⟨[.ref x, nameV], []⟩) Q E s := by
  have a1 := F.args_bexc_ga (.ref x) nameV
  have l0 := I.type (M := M)
  have l1 := looks_mroIn (M := M) X C.mb
  obtain ⟨_, _, _, _, _⟩ := s
  simp only [checkBuiltinCall, show builtinKind "BaseException.__getattribute__" = some .slot by decide +kernel, show splitId "BaseException.__getattribute__" = some ("BaseException", "__getattribute__") by decide +kernel, isInstance]
  repeat (first | lk | wp_step)
  exact hq
theorem exc_entry {tk : Tok} {Q : Fin -> Shared -> Prop} (X : K.In s.heap) (I : ExcAt x D s.heap) (C : ExcCls K D) (hq : Q (.done (.ret (.ref D))) s) : wpAny (model prog w) A (Builtin.«object.__getattribute__» ⟨[.ref x, .str "__class__" tk], []⟩) Q E s := by
  obtain ⟨hh, g, d, t, os⟩ := s
  have L0 := I.type (M := model prog w)
  have L1 := exc_find (M := model prog w) (x := x) X C
  unfold Builtin.«object.__getattribute__»
  refine wpAny_bind (wpAny_pure ?_)
  refine wpAny_bind (wpAny_pure ?_)
  refine wpAny_bind (L0.at ?_)
  refine wpAny_bind (L1.at ?_)
  show wpAny _ _ (Builtin.ObjectAttr.bindTo _ _ _ _) _ _ _
  unfold Builtin.ObjectAttr.bindTo
  dsimp only
  refine wpAny_bind (wpAny_holding (wpAny_call (exc_get (K := K) (s := ⟨hh, g, d, t, os⟩) X I C.mo ?_)))
  exact wpAny_pure hq
theorem exc_class {Q : Option Value -> Shared -> Prop} (X : K.In s.heap) (I : ExcAt x D s.heap) (C : ExcCls K D) (h : Q (some (.ref D)) { s with toks := s.toks + 1 }) : wpAny (model prog w) A (getAttr? (.ref x) "__class__") Q E s := by
  obtain ⟨hh, g, d, t, os⟩ := s
  have L0 := I.type (M := model prog w)
  have L1 := looks_findIn (M := model prog w) X C.ga
  have L2 := looks_findIn (M := model prog w) X C.hk
  unfold getAttr? getAttrBy? getAttrBy
  refine wpAny_bind (wpAny_mkText (wpAny_bind (wpAny_attempt (wpAny_holding (wpAny_bind (L0.at (wpAny_bind (L1.at ?_))))))))
  show wpAny _ _ (getAttrByItsOwn _ _ _ _ _ _) _ _ _
  unfold getAttrByItsOwn hookBefore
  refine wpAny_bind ?_
  rw [if_pos (by rfl)]
  refine L2.at (wpAny_bind (wpAny_attempt (wpAny_holding ?_)))
  unfold callGetattribute
  rw [if_neg (by decide)]
  unfold boundAndCalled
  have f3 := PySem.F.attr_ValueError.ga.bind (.ref x)
  refine wpAny_bind (wpAny_of_eq f3 ?_)
  refine wpAny_call (codeAny_call_builtin PySem.F.attr_ValueError.ga.plain F.entry_bexc_ga (exc_check (K := K) (s := ⟨hh, g, d, t + 1, os⟩) X I C (exc_entry (K := K) (s := ⟨hh, g, d, t + 1, os⟩) X I C ?_)))
  exact wpAny_pure (wpAny_pure h)
theorem kitx_exc (C : ExcCls K D) : KitX K (.ref x) (.ref D) (ExcAt x D) := by
  have cl := C.cl
  unfold clsIn at cl
  refine ⟨fun _ _ _ I => I.type, fun _ _ X _ => ?_, fun h tp dd its n sl X htp => ?_, fun X I k => exc_class X I C k⟩
  . split at cl
    . rename_i ho
      intro A' Q' E' s' k q
      exact wpAny_bind (wpAny_loadPart (k _ _ (X _ _ ho)) (wpAny_pure q))
    . cases cl
  . split at cl
    . rename_i ho
      cases hb : (Value.ref D == Value.ref tp) with
      | false => rfl
      | true =>
        obtain rfl : D = tp := Value.ref.inj (beq_iff_eq.mp hb)
        cases (X _ _ ho).symm.trans htp
    . cases cl
end
section
variable {P : Program} {w : World}
theorem ObjOk.there {H : Hp} {h : Heap} {a : Addr} {o : HO} (x : ObjOk P w H h a o) : ∃ ob, h.get? a = some ob := by
  induction o with
  | lst xs => obtain ⟨_, _, _, _, e⟩ := x; exact ⟨_, e⟩
  | tup xs => obtain ⟨_, _, _, ob, e, _⟩ := x; exact ⟨_, e⟩
  | dK kvs => obtain ⟨_, _, _, _, o, _, _, e, _⟩ := x; exact ⟨_, e⟩
  | dT kvs => obtain ⟨_, _, _, _, o, _, _, e, _⟩ := x; exact ⟨_, e⟩
  | set S n => obtain ⟨o, _, _, _, e, _⟩ := x; exact ⟨_, e⟩
  | ins C dx fs => obtain ⟨_, _, _, e, _⟩ := x; exact ⟨_, e⟩
  | own y => obtain ⟨_, e⟩ := x; exact ⟨_, e⟩
  | xd fs => obtain ⟨_, ⟨_, _, _, e, _⟩, _⟩ := x; exact ⟨_, e⟩
  | rng lo hi => obtain ⟨_, _, _, e⟩ := x; exact ⟨_, e⟩
  | frz ob u ih => obtain ⟨e, _⟩ := x; exact ⟨_, e⟩
  | tbl ps => exact ⟨_, (show h.get? a = some _ from x)⟩
  | met f y => exact ⟨_, (show h.get? a = some _ from x)⟩
  | ext φ => obtain ⟨_, ⟨_, e⟩, _⟩ := x; exact ⟨_, e⟩
structure Fly (P : Program) (w : World) (fs : List Addr) (H1 H' : Hp) (h1 g B : Heap) : Prop where
  un : Un fs [] H1 H' h1 g
  hok : HOk P w H' g
  cov : ∀ b o, g.get? b = some o -> (H' b ≠ none \/ ∃ o', h1.get? b = some o') -> b ∉ fs -> B.get? b = some o
theorem Fly.move {fs : List Addr} {H1 H' : Hp} {h1 g B h2 : Heap} (x : Fly P w fs H1 H' h1 g B) (frees : ∀ b ∈ fs, H' b = none) (st : B.StaysIn h2) (up : ∀ b ∈ fs, ∀ o, g.get? b = some o -> ∃ sl, h2.get? b = some { o with slots := sl }) : Fly P w fs H1 H' h1 h2 B := by
  have keep : ∀ b o, g.get? b = some o -> (H' b ≠ none \/ ∃ o', h1.get? b = some o') -> b ∉ fs -> h2.get? b = some o := fun b o e h n => st b o (x.cov b o e h n)
  have nfs : ∀ b u, H' b = some u -> b ∉ fs := fun b u e z => by rw [frees b z] at e; cases e
  refine ⟨⟨fun b o e n hb hx => ?_, fun b o e n hb hx => ?_, fun b o e n hx => x.un.free b o e n hx, fun b o e hx => ?_, x.un.tups, x.un.frzs, x.un.tbls⟩, fun b u e => ?_, fun b o e h n => ?_⟩
  . exact keep b o (x.un.keep b o e n hb hx) (.inr ⟨o, e⟩) hb
  . obtain ⟨sl, e1⟩ := x.un.slot b o e n hb hx
    obtain ⟨sl', e2⟩ := up b hb _ e1
    exact ⟨sl', e2⟩
  . obtain ⟨o', e1⟩ := x.un.there b o e hx
    by_cases hb : b ∈ fs
    . obtain ⟨sl', e2⟩ := up b hb _ e1
      exact ⟨_, e2⟩
    . exact ⟨o', keep b o' e1 (.inr ⟨o, e⟩) hb⟩
  . refine (x.hok b u e).stay (fun c v hc q => ?_) (fun _ q => q) fun _ _ q => q
    rcases hc with rfl | hc
    . exact keep c v q (.inl (by rw [e]; simp)) (nfs c u e)
    . exact keep c v q (.inl (by rw [hc]; simp)) (nfs c _ hc)
  . -- B has it still
    have ⟨o1, e1⟩ : ∃ o1, g.get? b = some o1 := by
      rcases h with h | ⟨o', h⟩
      . cases q : H' b with
        | none => exact absurd q h
        | some u => exact (x.hok b u q).there
      . exact x.un.there b o' h (by simp)
    have e2 := x.cov b o1 e1 h n
    have e3 := st b o1 e2
    rw [e] at e3
    cases e3
    exact e2
def CXe (P : Program) (w : World) : CXT := fun outer H s E e s' => ∃ (ea : Addr) (cls a0 : Value) (H' : Hp) (B : Heap), e = .ref ea /\ s'.os = s.os /\ AllBare s'.gens /\ Fly P w (frs outer) H H' s.heap s'.heap B /\ Heap.FlyingW B outer ea cls a0 s'.heap /\ E cls none H'
theorem fly_frees {X : Cx} {pins : List (Addr × Obj)} {σ : St} {H1 H' : Hp} {s1 : Shared} {g B : Heap} (I : Inv X pins σ H1 s1) (x : Fly P w (frs X.stack) H1 H' s1.heap g B) : ∀ b ∈ frs X.stack, H' b = none := fun b hb => by
  obtain ⟨_, o, ho, _⟩ := I.stack.mem hb
  exact x.un.free b o ho (I.stkFree b hb) (by simp)
theorem passE {K : PySem.W.Frag} {mg : Str -> Option Value} {base : Heap} {N : List Str} {qual : Str} {scope : Scope} {f : Addr} {cd : Value} {A : Around} {outer : List Env} {s : Shared} {H : Hp} {E E' : XK} (hE : ∀ c d H', E' c d H' -> E c d H') :
    Passes (CXe P w) (cxOf (CXe P w) P w K mg base N qual scope f cd A outer s H E) E' := by
  intro pins σ H1 s1 e s' I hc
  obtain ⟨ea, cls, a0, H', B, rfl, os, bare, fl, fw, q⟩ := hc
  have fr : (cxOf (CXe P w) P w K mg base N qual scope f cd A outer s H E).A.frames = some (envOfC qual scope s.heap.objs.size f cd :: outer) := I.ok.frames
  refine wpAny_leaves_onW fr rfl fw fun h' fw' ups => ?_
  have fl2 := fl.move (fly_frees I fl) fw'.1 (fun b hb o e => by
    obtain ⟨_, o', ho', nf⟩ := fw.2.2.1.mem hb
    rw [e] at ho'; cases ho'
    exact ups b o e nf)
  have I2 : Inv (cxOf (CXe P w) P w K mg base N qual scope f cd A outer s H E) pins σ H' { s' with heap := h' } := I.call' (s' := { s' with heap := h' }) os fl2.un fl2.hok bare (fun b hb => by cases hb)
  refine ⟨ea, cls, a0, H', B, rfl, I2.os, I2.bare, ⟨I2.base, I2.hok, fun b o e h n => fl2.cov b o e ?_ (fun z => ?_)⟩, fw', hE _ _ _ q⟩
  . rcases h with h | ⟨o', h⟩
    . exact .inl h
    . obtain ⟨o2, e2⟩ := I.base.there b o' h (by show b ∉ ([] : List Addr); simp)
      exact .inr ⟨o2, e2⟩
  . rcases List.mem_cons.mp (I.stkSub b z) with e' | e'
    . rcases h with h | ⟨o', h⟩
      . exact h (by rw [e']; exact I2.free)
      . have := Heap.lt_size h
        rw [e'] at this
        exact absurd (Nat.lt_of_lt_of_le this I.ok.above) (Nat.lt_irrefl _)
    . exact n e'
theorem raiseE {K : PySem.W.Frag} {mg : Str -> Option Value} {base : Heap} {N : List Str} {qual : Str} {scope : Scope} {f : Addr} {cd : Value} {A : Around} {outer : List Env} {s : Shared} {H : Hp} {E : XK}
    {pins : List (Addr × Obj)} {σ : St} {H1 : Hp} {s1 : Shared} {h' : Heap} {ea : Addr} {cls : Value} {vs : List Value}
    (I : Inv (cxOf (CXe P w) P w K mg base N qual scope f cd A outer s H E) pins σ H1 s1) (hx : Heap.MadeExcOf s1.heap h' ea cls vs) (q : E cls none H1) :
    (cxOf (CXe P w) P w K mg base N qual scope f cd A outer s H E).xe (.ref ea) { s1 with heap := h' } := by
  have fr : (cxOf (CXe P w) P w K mg base N qual scope f cd A outer s H E).A.frames = some (envOfC qual scope s.heap.objs.size f cd :: outer) := I.ok.frames
  have hin : ∀ env ∈ (envOfC qual scope s.heap.objs.size f cd :: outer), ∀ b, env.frame = some b -> b ∈ frs (envOfC qual scope s.heap.objs.size f cd :: outer) := fun env he b hb => List.mem_filterMap.mpr ⟨env, he, hb⟩
  have stk := I.stack
  have fl : Fly P w (frs (envOfC qual scope s.heap.objs.size f cd :: outer)) H1 H1 s1.heap s1.heap (PySem.W.hideAll s1.heap (frs (envOfC qual scope s.heap.objs.size f cd :: outer))) := ⟨Un.refl, I.hok, fun b o e _ n => PySem.W.hideAll_get _ e n⟩
  refine wpAny_leaves_madeW (base := PySem.W.hideAll s1.heap (frs (envOfC qual scope s.heap.objs.size f cd :: outer))) (h := s1.heap) fr rfl (fun b o q => PySem.W.of_hideAll _ q) ?_ hx fun h'' t fw' ht hnt ups => ?_
  . exact PySem.W.funFrames_hide stk hin
  . have fl2 := fl.move (fly_frees (X := cxOf (CXe P w) P w K mg base N qual scope f cd A outer s H E) I fl) fw'.1 (fun b hb o e => by
      obtain ⟨_, o', ho', nf⟩ := stk.mem hb
      rw [e] at ho'; cases ho'
      exact ups b o (hx.keeps b o e) nf)
    have I2 : Inv (cxOf (CXe P w) P w K mg base N qual scope f cd A outer s H E) pins σ H1 { s1 with heap := h'' } := I.call' (s' := { s1 with heap := h'' }) rfl fl2.un fl2.hok I.bare (fun b hb => by cases hb)
    refine ⟨ea, cls, .ref t, H1, _, rfl, I2.os, I2.bare, ⟨I2.base, I2.hok, fun b o e h n => fl2.cov b o e ?_ (fun z => ?_)⟩, fw', q⟩
    . rcases h with h | ⟨o', h⟩
      . exact .inl h
      . obtain ⟨o2, e2⟩ := I.base.there b o' h (by show b ∉ ([] : List Addr); simp)
        exact .inr ⟨o2, e2⟩
    . rcases List.mem_cons.mp (I.stkSub b z) with e' | e'
      . rcases h with h | ⟨o', h⟩
        . exact h (by rw [e']; exact I2.free)
        . have := Heap.lt_size h
          rw [e'] at this
          exact absurd (Nat.lt_of_lt_of_le this I.ok.above) (Nat.lt_irrefl _)
      . exact n e'
end
theorem exc_obj {K : Frag} {h : Heap} {C : Addr} {bmB : List Value} {newId : String} (X : K.In h) (q : excIn K C bmB newId = true) :
    ∃ bm N nm q bs hdct sn sub ab col dd k0 k1 k2 k3 k5 mN, h.get? C = some (excClassObj nm q C N bs bm hdct sn sub ab col dd k0 k1 k2 k3 k5 newId) /\ h.Ns N mN /\ mN "__init__" = none /\ OwnTail h bmB bm := by
  delta excIn at q
  split at q
  case h_2 => cases q
  rename_i d0 c0 s0 hl
  split at q
  case h_2 => cases q
  rename_i B tl a0 a1 a2 a3 id0 a5 em es
  have g := X C _ hl
  repeat rw [Bool.and_eq_true] at q
  rcases q with ⟨⟨⟨⟨⟨e1, e2⟩, e3⟩, e4⟩, e5⟩, e6⟩
  cases eq_of_beq e1
  cases eq_of_beq e2
  rcases s0 with ⟨l0⟩
  cases es
  rcases c0 with ⟨f0, f1, f2, f3, f4, f5, f6, f7, f8, f9, f10⟩
  cases em
  cases f10
  . exact ⟨tl, f3, f0, f4, f1, f5, f6, f7, f8, f9, d0, a0, a1, a2, a3, a5, h.nsMap f3, g, .of_isNs (isNs_of_in X e5), nsMap_none_of_in X e5 (eq_of_beq e6), tail_of_in X e4⟩
  . cases e3
def bmV : List Value := [.type "ValueError", .type "Exception", .type "BaseException", .type "object"]
section
variable {P : Program} {w : World} {K : PySem.W.Frag} {mg : Str -> Option Value} {base : Heap} {N : List Str} {qual : Str} {scope : Scope} {f : Addr} {cd : Value} {A : Around} {outer : List Env} {s : Shared} {H : Hp} {E : XK}
def tRaise (C : Addr) (E : XK) (ta : TA) : TS := fun _ σ H => ta σ H fun vs H1 => vs.length <= sizeLine /\ E (.ref C) none H1
theorem ps_raise {x : Str} {C : Addr} {newId : String} {np cpos pos : Pos} {e₀ : Expr} {rest : List Expr} {ta : TA} (hm : mg x = some (.ref C)) (hx : excIn K C bmV newId = true) (hg : Gl (cxOf (CXe P w) P w K mg base N qual scope f cd A outer s H E) x)
    (hn : newId = "ValueError.__new__") (ha : PA (cxOf (CXe P w) P w K mg base N qual scope f cd A outer s H E) (e₀ :: rest) ta)
    (he : starEach (e₀ :: rest) (cxOf (CXe P w) P w K mg base N qual scope f cd A outer s H E).env = (false, eval e₀ (cxOf (CXe P w) P w K mg base N qual scope f cd A outer s H E).env) :: starEach rest (cxOf (CXe P w) P w K mg base N qual scope f cd A outer s H E).env := by rfl)
    (hplain : (backTo cpos (starEach rest (cxOf (CXe P w) P w K mg base N qual scope f cd A outer s H E).env)).any (·.1) = false := by rfl) (hd : (x == ("__debug__" : Str)) = false := by decide) :
    PS (cxOf (CXe P w) P w K mg base N qual scope f cd A outer s H E) (.Raise (some (.Call (.Name x np) (e₀ :: rest) [] cpos)) none pos) (tRaise C E ta) := by
  intro pins s1 σ H1 D I h
  subst hn
  obtain ⟨bm, Nc, nm, q, bs, hdct, sn, sub, ab, col, dd, k0, k1, k2, k3, k5, mN, hC, hN, hni, T⟩ := exc_obj I.mod.kin hx
  refine wpAny_Raise_call_subU (C := C) (nm := nm) (q := q) (N := Nc) (bs := bs) (bm := bm) (hdct := hdct) (sn := sn) (sub := sub) (ab := ab) (col := col) (dd := dd) (k0 := k0) (k1 := k1) (k2 := k2) (k3 := k3) (k5 := k5)
    PySem.F.excBase_ValueError (bmB := bmV) (by decide +kernel) PySem.F.excBase_ValueError (mN := mN) (T.hasType PySem.F.excBase_ValueError.hasBase) (I.ok.hd rfl) (by rw [he]; show (false || (backTo cpos (starEach rest _)).any (·.1)) = false; rw [hplain]; rfl) hni (ld_glob I hg hm ⟨rfl, ?_⟩ hd)
  have hA := ha cpos pins s1 σ H1 _ I h
  rw [he] at hA ⊢
  refine Calls.evalArgs_plain (thn hA fun us s2 ⟨vs, H2, I2, r2, hz, q2⟩ => ⟨rfl, by rw [<- r2.length]; exact hz, I2.bk _ _ hC, hN.keeps I2.bk, T.keeps I2.bk, fun h' e hm => raiseE I2 hm q2⟩)
end
end L2
set_option Elab.async false
set_option linter.all false
set_option maxRecDepth 100000
set_option maxHeartbeats 4000000
namespace L2
open PySem PySem.Spec PyProof.Rows
abbrev Cx.body (X : Cx) (xe : Value -> Shared -> Prop) (pn : List (Addr × Obj)) : Cx := { X with xe := xe, pn := pn }
abbrev Cx.suite (X : Cx) (ea : Addr) (pn : List (Addr × Obj)) : Cx := { X with A := X.A.mark (some (.ref ea)), calm := false, xe := fun _ _ => False, pn := pn }
section
variable {X : Cx} {pins pins' : List (Addr × Obj)} {σ : St} {H : Hp} {s : Shared} {xe xe' : Value -> Shared -> Prop} {ea : Addr}
theorem Inv.toBody (I : Inv X pins σ H s) : Inv (X.body xe (X.pn ++ pins)) [] σ H s :=
  ⟨⟨I.ok.mod, I.ok.kind, I.ok.glob, I.ok.blt, I.ok.above, I.ok.inj, I.ok.has, I.ok.cab, I.ok.hd, I.ok.frames, I.ok.stk, I.ok.exf, I.ok.bs, I.ok.bsz, I.ok.noex, I.ok.exfs, I.ok.funs, I.ok.frf⟩, I.os, I.bare, I.base, I.loc, I.cell, I.free, I.freeC, fun p hp => I.pin p (by simpa using hp), I.hok, I.len⟩
theorem Inv.ofBody (I : Inv (X.body xe (X.pn ++ pins)) pins' σ H s) : Inv X pins σ H s :=
  ⟨⟨I.ok.mod, I.ok.kind, I.ok.glob, I.ok.blt, I.ok.above, I.ok.inj, I.ok.has, I.ok.cab, I.ok.hd, I.ok.frames, I.ok.stk, I.ok.exf, I.ok.bs, I.ok.bsz, I.ok.noex, I.ok.exfs, I.ok.funs, I.ok.frf⟩, I.os, I.bare, I.base, I.loc, I.cell, I.free, I.freeC, fun p hp => I.pin p (List.mem_append_left _ hp), I.hok, I.len⟩
theorem Inv.reBody {pn : List (Addr × Obj)} (I : Inv (X.body xe pn) pins' σ H s) : Inv (X.body xe' pn) pins' σ H s :=
  ⟨⟨I.ok.mod, I.ok.kind, I.ok.glob, I.ok.blt, I.ok.above, I.ok.inj, I.ok.has, I.ok.cab, I.ok.hd, I.ok.frames, I.ok.stk, I.ok.exf, I.ok.bs, I.ok.bsz, I.ok.noex, I.ok.exfs, I.ok.funs, I.ok.frf⟩, I.os, I.bare, I.base, I.loc, I.cell, I.free, I.freeC, I.pin, I.hok, I.len⟩
theorem Inv.toSuite (I : Inv X pins σ H s) : Inv (X.suite ea (X.pn ++ pins)) [] σ H s :=
  ⟨⟨I.ok.mod, I.ok.kind, I.ok.glob, I.ok.blt, I.ok.above, I.ok.inj, I.ok.has, I.ok.cab, fun z => absurd (show false = true from z) Bool.false_ne_true, I.ok.frames, I.ok.stk, I.ok.exf, I.ok.bs, I.ok.bsz, I.ok.noex, I.ok.exfs, I.ok.funs, I.ok.frf⟩, I.os, I.bare, I.base, I.loc, I.cell, I.free, I.freeC, fun p hp => I.pin p (by simpa using hp), I.hok, I.len⟩
theorem Inv.ofSuite (hd : X.calm = true -> X.A.handled = none) (I : Inv (X.suite ea (X.pn ++ pins)) pins' σ H s) : Inv X pins σ H s :=
  ⟨⟨I.ok.mod, I.ok.kind, I.ok.glob, I.ok.blt, I.ok.above, I.ok.inj, I.ok.has, I.ok.cab, hd, I.ok.frames, I.ok.stk, I.ok.exf, I.ok.bs, I.ok.bsz, I.ok.noex, I.ok.exfs, I.ok.funs, I.ok.frf⟩, I.os, I.bare, I.base, I.loc, I.cell, I.free, I.freeC, fun p hp => I.pin p (List.mem_append_left _ hp), I.hok, I.len⟩
theorem Inv.forget {i : Nat} {n : Str} {m : Str -> Option Value} {v : Option Value} {h' : Heap} {t' : Nat} (I : Inv X pins σ H s) (hN : X.N.Nodup) (hi : X.N[i]? = some n) (hx : X.env.scope.names.lookup n = some .local)
    (hl : ∀ (i : Nat) (x : Str) (v : V), X.N[i]? = some x -> σ[i]? = some (some v) -> Vis X.env.scope x -> ∃ u, RelV v u /\ Look X.env s.heap m x u) (hn : s.heap.Ns X.env.locals m)
    (hn' : h'.Ns X.env.locals (fun x => if x = n then v else m x)) (hs : Heap.SameBut X.env.locals s.heap h') : Inv X pins (σ.set i none) H { s with heap := h', toks := t' } := by
  have cne := I.cne
  obtain ⟨oL, _, _, hoL, _⟩ := id hn
  have tracked : HOk X.prog X.w H h' := fun b ob e => by
    refine (I.hok b ob e).stay (fun c w' hc q => (hs.2 c ?_).trans q) (fun _ q => q) fun _ _ q => q
    rintro rfl
    rcases hc with rfl | hc
    . rw [I.free] at e; cases e
    . rw [I.free] at hc; cases hc
  refine ⟨I.ok, I.os, I.bare, ⟨fun b o e n hb hx => ?_, fun b o e n hb hx => ?_, I.base.free, fun b o e hx => ?_, I.base.tups, I.base.frzs, I.base.tbls⟩, ⟨_, hn', fun j y v' e1 e2 e3 => ?_⟩, fun y c e => ?_, I.free, I.freeC, fun p hp => ?_, tracked, by simpa using I.len⟩
  . exact (hs.2 b (Nat.ne_of_lt (Nat.lt_of_lt_of_le (Heap.lt_size e) I.ok.above))).trans (I.base.keep b o e n hb hx)
  . obtain ⟨sl, e1⟩ := I.base.slot b o e n hb hx
    exact ⟨sl, (hs.2 b (Nat.ne_of_lt (Nat.lt_of_lt_of_le (Heap.lt_size e) I.ok.above))).trans e1⟩
  . obtain ⟨o', e1⟩ := I.base.there b o e hx
    exact ⟨o', (hs.2 b (Nat.ne_of_lt (Nat.lt_of_lt_of_le (Heap.lt_size e) I.ok.above))).trans e1⟩
  . by_cases hj : j = i
    . subst hj
      have hlt : j < σ.length := by
        have := (List.getElem?_eq_some_iff.mp e2).1
        simpa using this
      rw [List.getElem?_set_self hlt] at e2
      cases e2
    . rw [List.getElem?_set_ne (Ne.symm hj)] at e2
      obtain ⟨u', r', q⟩ := hl j y v' e1 e2 e3
      refine ⟨u', r', ?_⟩
      rcases q with ⟨k, e⟩ | ⟨k, c, e, z⟩
      . refine .inl ⟨k, ?_⟩
        have : y ≠ n := fun e => hj (nodup_ix hN e1 (e ▸ hi))
        simp [this, e]
      . exact .inr ⟨k, c, e, z.sameBut hs (cne y c e)⟩
  . obtain ⟨w', z⟩ := I.cell y c e
    exact ⟨w', z.sameBut hs (cne y c e)⟩
  . obtain ⟨e, n, ne, nf, d⟩ := I.pin p hp
    exact ⟨(hs.2 p.1 ne).trans e, n, ne, nf, d⟩
end
def PassesAt (CX : CXT) (X : Cx) (σ : St) (E : XK) : Prop := ∀ (pins : List (Addr × Obj)) (H : Hp) (s : Shared) (e : Value) (s' : Shared), Inv X pins σ H s -> CX X.stack H s E e s' -> X.xe e s'
def tCallE (sp : Sp) (dvs : List V) (E : St -> XK) (t : TA) : TE := fun σ H Q => t σ H fun vs H1 => sp (vs ++ dvs) H1 Q (E σ)
section
variable {X : Cx} {CX : CXT} {k : Nat} {f C : Addr} {fd : FuncData} {ps : List Str} {sp : Sp} {dvs : List V} {ds : List Value} {E : St -> XK} {x : Str} {p pos : Pos} {e : Expr} {es : List Expr} {t : TA}
theorem run_fnE {pins : List (Addr × Obj)} {σ : St} {H : Hp} {s : Shared} {Q : VK} {us : List Value} {vs : List V} {E : XK} (F : FnOk X.prog X.w X.K X.mg X.base CX k f fd ps sp) (hr : Room k X.A) (hb : Binds X.K fd ps ds) (hd : Vals dvs ds) (hx : PassesAt CX X σ E)
    (I : Inv X pins σ H s) (r : Vals vs us) (h : sp (vs ++ dvs) H Q E) : wpAny (model X.prog X.w) X.A (call (.ref f) us) (EP X pins σ Q) X.xe s := by
  have r2 : Vals (vs ++ dvs) (us ++ ds) := r.append hd
  have hl : (us ++ ds).length = ps.length := by rw [<- r2.length]; exact F.len _ _ _ _ h
  refine wpAny_call (codeAny_mono (F.run X.A X.stack s H ⟨us, []⟩ (us ++ ds) (vs ++ dvs) Q E hr I.env0 (hb s us I.kIn hl) r2 h) fun r s' hq => ?_)
  cases r with
  | error e => exact hx pins H s e s' I hq
  | ok fl =>
    cases fl with
    | ret u => exact I.after hq
    | next => exact False.elim hq
    | brk => exact False.elim hq
    | cont => exact False.elim hq
theorem pe_callE (F : FnOk X.prog X.w X.K X.mg X.base CX k f fd ps sp) (hr : Room k X.A) (hg : Gl X x) (hm : X.mg x = some (.ref f)) (hk : PySem.W.keepIn X.K (.ref f) = true) (hb : Binds X.K fd ps ds) (hd : Vals dvs ds) (hx : ∀ σ, PassesAt CX X σ (E σ))
    (ha : PA X (e :: es) t) (hdb : (x == ("__debug__" : Str)) = false := by decide) (he : starEach (e :: es) X.env = (false, eval e X.env) :: starEach es X.env := by rfl) (hpl : (backTo pos (starEach es X.env)).any (·.1) = false := by rfl) :
    PE X (.Call (.Name x p) (e :: es) [] pos) (tCallE sp dvs E t) := by
  intro pins s σ H Q I h
  refine wpAny_Call_Name_kw (ld_glob I hg hm ?_ hdb)
  refine PySem.W.callWith_K (h₀ := X.base) I.ok.mod.kin hk (thn (ha pos pins s σ H _ I h) fun us s1 ⟨vs, H1, I1, r, q⟩ => ⟨I1.kIn, ?_⟩) he hpl
  exact run_fnE F hr hb hd (hx σ) I1 r q
end
def excO (ea C : Addr) : HO := .ext (ExcAt ea C)
def Ends.un (D : Ends) (i : Nat) : Ends := { nx := fun σ H => D.nx (σ.set i none) H, rt := D.rt, bk := fun σ H => D.bk (σ.set i none) H, ct := fun σ H => D.ct (σ.set i none) H }
def tTry (K : PySem.W.Frag) (Ca : Addr) (i : Nat) (E : St -> XK) (tb ts : TS) : TS := fun D σ H => tb D σ H /\ ∀ σ' cls H', E σ' cls none H' ->
  ∃ C, cls = .ref C /\ PySem.W.exmOne K (.ref C) (.ref Ca) = some true /\ ∀ ea, H' ea = none -> ts (D.un i) (σ'.set i (some (.ref ea))) (upd H' ea (excO ea C))
theorem ps_try {X : Cx} {body : List Stmt} {c n : Str} {Ca : Addr} {np hpos pos : Pos} {b₀ : Stmt} {suite : List Stmt} {i : Nat} {E : St -> XK} {tb ts : TS} (hN : X.N.Nodup) (hi : X.N[i]? = some n) (hn : X.env.scope.names.lookup n = some .local)
    (hg : Gl X c) (hm : X.mg c = some (.ref Ca)) (hst : X.stack = X.env :: X.outer) (hL : X.env.frame = some X.env.locals) (hex : X.ex = [])
    (hb : ∀ xe pn, (∀ σ, PassesAt (CXe X.prog X.w) (X.body xe pn) σ (E σ)) -> PSs (X.body xe pn) body tb) (hs : ∀ ea pn, PSs (X.suite ea pn) (b₀ :: suite) ts) (hd : (c == ("__debug__" : Str)) = false := by decide) :
    PS X (.Try body [.ExceptHandler (some (.Name c np)) (some n) (b₀ :: suite) hpos] [] [] pos) (tTry X.K Ca i E tb ts) := by
  intro pins s σ H D I h
  obtain ⟨hbody, hhand⟩ := h
  have hB := hb (fun e s' => ∃ pins' σ' H1 s1, Inv (X.body (fun _ _ => True) (X.pn ++ pins)) pins' σ' H1 s1 /\ CXe X.prog X.w X.stack H1 s1 (E σ') e s') (X.pn ++ pins) (fun σ pins' H s e s' I' hcx => ⟨pins', σ, H, s, I'.reBody, hcx⟩) [] s σ H D I.toBody hbody
  refine wpAny_Try_except (wpAny_mono hB (fun f s1 q => ?_) fun e s1 q => ?_)
  . cases f with
    | next => obtain ⟨σ1, H1, I1, q1⟩ := q; exact wpAny_execs_nil ⟨σ1, H1, I1.ofBody, q1⟩
    | brk => obtain ⟨σ1, H1, I1, q1⟩ := q; exact ⟨σ1, H1, I1.ofBody, q1⟩
    | cont => obtain ⟨σ1, H1, I1, q1⟩ := q; exact ⟨σ1, H1, I1.ofBody, q1⟩
    | ret v => obtain ⟨x1, σ1, H1, I1, r1, q1⟩ := q; exact ⟨x1, σ1, H1, I1.ofBody, r1, q1⟩
  . obtain ⟨pins', σ', H1, s2, I2, ea, cls, a0, H', B, rfl, os, bare, fl, fw, hE⟩ := q
    obtain ⟨C, rfl, hexm, hts⟩ := hhand σ' cls H' hE
    have I2' : Inv X pins σ' H1 s2 := I2.ofBody
    have fr : X.A.frames = some (X.env :: X.outer) := by rw [I.ok.frames, hst]
    have frees := fly_frees I2' fl
    have fw0 := fw
    rw [hst] at fw
    have invAt : ∀ h', Heap.FlyingW B (X.env :: X.outer) ea (.ref C) a0 h' -> s1.heap.UpToSlots h' -> Inv X pins σ' H' { s1 with heap := h' } := fun h' fw' ups => by
      have fl2 := fl.move frees fw'.1 (fun b hb o e => by
        obtain ⟨_, o', ho', nf⟩ := fw0.2.2.1.mem hb
        rw [e] at ho'; cases ho'
        exact ups b o e nf)
      exact I2'.call' (s' := { s1 with heap := h' }) os fl2.un fl2.hok bare (fun b hb => by cases hb)
    refine wpAny_looks_onW fr hL fw fun h4 held4 up4 => ?_
    refine wpAny_landsW held4 fun h5 fw5 up5 => ?_
    have I5 := invAt h5 fw5 (up4.trans up5)
    have I5m : Inv (X.suite ea (X.pn ++ pins)) [] σ' H' { s1 with heap := h5 } := I5.toSuite
    refine wpAny_handleBy_cons (codeAny_handlers_test (ld_glob (X := X.suite ea (X.pn ++ pins)) I5m hg hm ?_ hd)) (by intro q; cases q)
    have LT : PySem.W.Looks (model X.prog X.w) h5 (typeOf (.ref ea)) (.ref C) := by
      obtain ⟨ob, hob, hoc⟩ := fw5.there
      exact hoc ▸ (PySem.W.Looks.ld hob).andThen .now
    refine (PySem.W.exm_one (K := X.K) (M := model X.prog X.w) I5.kIn LT hexm) _ _ _ _ (fun b o e => e) ?_
    refine codeAny_handlers_suite_as ?_
    refine lands_againW fw5 fun h6 fw6 up6 => ?_
    have I6 := invAt h6 fw6 ((up4.trans up5).trans up6)
    -- the exception's object is not tracked yet
    have hne : H' ea = none := by
      cases q : H' ea with
      | none => rfl
      | some u =>
        have nfs : ea ∉ frs X.stack := fun z => by rw [frees ea z] at q; cases q
        obtain ⟨o, ho⟩ := (fl.hok ea u q).there
        have := fl.cov ea o ho (.inl (by rw [q]; simp)) nfs
        rw [fw.2.1] at this
        cases this
    have new : ObjOk X.prog X.w (upd H' ea (excO ea C)) h6 ea (excO ea C) := by
      obtain ⟨ob, hob, hoc⟩ := fw6.there
      refine ⟨⟨ob, hob, hoc⟩, ⟨ob, hob⟩, fun g1 g2 ⟨o1, e1, c1⟩ k => ⟨o1, k o1 e1, c1⟩⟩
    have hsz : s2.heap.get? ea = none := by
      cases q : s2.heap.get? ea with
      | none => rfl
      | some o =>
        by_cases z : ea ∈ frs X.stack
        . obtain ⟨_, o', ho', nf⟩ := fw0.2.2.1.mem z
          obtain ⟨oe, vs, hoe, _, hdt, _⟩ := fw.first
          rw [ho'] at hoe; cases hoe
          exact absurd hdt (nf vs)
        . obtain ⟨o', e'⟩ := fl.un.there ea o q (by simp)
          have := fl.cov ea o' e' (.inr ⟨o, q⟩) z
          rw [fw.2.1] at this
          cases this
    have I6t : Inv X pins σ' (upd H' ea (excO ea C)) { s1 with heap := h6 } := by
      refine ⟨I6.ok, I6.os, I6.bare, ?_, I6.loc, I6.cell, ?_, fun x c e => ?_, fun p hp => ?_, I6.hok.track hne new, I6.len⟩
      . -- newer than the entry
        have h0 : X.s₀.heap.get? ea = none := by
          cases q : X.s₀.heap.get? ea with
          | none => rfl
          | some o =>
            obtain ⟨o', e'⟩ := I2'.base.there ea o q (by rw [hex]; simp)
            rw [hsz] at e'; cases e'
        refine ⟨I6.base.keep, I6.base.slot, fun b o e n hx => ?_, I6.base.there, fun b xs q => ?_, fun b ob xs q => ?_, fun b ps q => ?_⟩
        . rw [upd_ne (fun z => by rw [z, h0] at e; cases e)]; exact I6.base.free b o e n hx
        . have := I6.base.tups b xs q; rw [upd_ne (ne_of_none this hne)]; exact this
        . have := I6.base.frzs b ob xs q; rw [upd_ne (ne_of_none this hne)]; exact this
        . obtain ⟨more, e⟩ := I6.base.tbls b ps q
          exact ⟨more, by rw [upd_ne (ne_of_none e hne)]; exact e⟩
      . rw [upd_ne (fun z => ?_)]
        . exact I6.free
        . have := I2'.lt
          obtain ⟨m, ⟨o, _, _, ho, _⟩, _⟩ := I2'.loc
          rw [z, hsz] at ho; cases ho
      . rw [upd_ne (fun z => ?_)]
        . exact I6.freeC x c e
        . obtain ⟨v, o, ho, _⟩ := I2'.cell x c e
          rw [z, hsz] at ho; cases ho
      . obtain ⟨e, n, r⟩ := I6.pin p hp
        refine ⟨e, ?_, r⟩
        rw [upd_ne (fun z => ?_)]
        . exact n
        . have := (I2'.pin p hp).1
          rw [z, hsz] at this; cases this
    have I6m : Inv (X.suite ea (X.pn ++ pins)) [] σ' (upd H' ea (excO ea C)) { s1 with heap := h6 } := I6t.toSuite
    refine store_ok (X := X.suite ea (X.pn ++ pins)) I6m hN hi (.inl hn) (v := .ref ea) rfl (fun s7 I7 => ?_) (.inr hn)
    refine wpAny_mono (hs ea (X.pn ++ pins) [] s7 _ _ (D.un i) I7 (hts ea hne)) (fun f s8 q8 => ?_) (fun _ _ z => False.elim z)
    have hcl : (X.env.scope.kind == .class || (X.env.scope.kind == .module && X.env.locals != X.env.globals)) = false := by rw [I.ok.kind]; rfl
    have goes : ∀ {σ8 : St} {H8 : Hp}, Inv (X.suite ea (X.pn ++ pins)) [] σ8 H8 s8 -> ∀ (R : Unit -> Shared -> Prop), (∀ s9, Inv X pins (σ8.set i none) H8 s9 -> R () s9) ->
        wpAny (model X.prog X.w) X.A (do bindName X.env n .none; unbindBehindTheSuite X.env n hpos) R X.xe s8 := fun {σ8 H8} I8 R hR => by
      have I8' : Inv X pins σ8 H8 s8 := I8.ofSuite I.ok.hd
      obtain ⟨m, hns, hl⟩ := I8'.loc
      exact wpAny_nameGoes_keeps hn hns hcl fun h9 v hn9 sb => hR _ (I8'.forget hN hi hn hl hns hn9 sb)
    cases f with
    | next => obtain ⟨σ8, H8, I8, q⟩ := q8; exact goes I8 _ fun s9 I9 => ⟨_, H8, I9, q⟩
    | brk => obtain ⟨σ8, H8, I8, q⟩ := q8; exact goes I8 _ fun s9 I9 => ⟨_, H8, I9, q⟩
    | cont => obtain ⟨σ8, H8, I8, q⟩ := q8; exact goes I8 _ fun s9 I9 => ⟨_, H8, I9, q⟩
    | ret v => obtain ⟨x8, σ8, H8, I8, r8, q⟩ := q8; exact goes I8 _ fun s9 I9 => ⟨x8, _, H8, I9, r8, q⟩
theorem call_isinstE {X : Cx} : CallR X (.builtin "isinstance") (fun xs H Q => ∃ ea C c cv b, xs = [.ref ea, c] /\ H ea = some (excO ea C) /\ ExcCls X.K C /\ (∀ u, RelV c u -> u = cv) /\ PySem.W.kitOne X.K (.ref C) cv = some b /\ Q (.bl b) H) := by
  intro pins s σ H xs us Q I r h
  obtain ⟨ea, C, c, cv, b, rfl, hea, hC, hc, hk, q⟩ := h
  obtain ⟨u, w', rfl, rx, rc⟩ := vals2 r
  rw [hc _ rc]
  cases rx
  obtain ⟨p, _, _⟩ := (show ObjOk X.prog X.w H s.heap ea (.ext (ExcAt ea C)) from I.hok ea _ hea)
  exact PySem.W.kia_one (kitx_exc hC) I.kIn p hk (fun z => nomatch z) fun tk => ⟨.bl b, H, I.tok tk, rfl, q⟩
end L2
set_option Elab.async false
set_option linter.all false
set_option maxRecDepth 100000
set_option maxHeartbeats 4000000
namespace HT
open PySem PySem.Spec PyProof.Rows
open PySem.AutoSeq1 (wpAny_loadPart')
section
open PySem.SeqAt PySem.MeetsSeq PySem.MeetsSeq2 PySem.MeetsSeq3
theorem int_rmul_tup (a : Int) (t : Tok) (l : Addr) (items : Array Value) (n : Nat) (dd : Option Addr) (sl : Array (Option Value)) :
    Meets (Builtin.«int.__rmul__» ⟨[.int a t, .ref l], []⟩) (fun _ R s => s.heap.get? l = some { cls := .type "tuple", dict := dd, data := .seq items n, slots := sl } /\ R (.ok (.ret Value.notImplemented)) s) :=
  .of_wp fun prog w A R s h => by obtain ⟨hp, g, d, tk, os⟩ := s; obtain ⟨hl, h⟩ := h; wp_walk using wpAny_loadPart' hl; exact ⟨_, rfl, h⟩
theorem noFill_tuple_mul : fillsNumberSlot (.type "tuple") "mul" = pure false := by
  first | exact fillsNumberSlot_false (by decide +kernel) | (unfold fillsNumberSlot; kernel_rfl) | kernel_rfl
theorem repeat_tuple : seqRepeat? (.type "tuple") = pure (some (.builtin "tuple.__mul__")) := by
  unfold seqRepeat?
  rw [PySem.seqSlot_of (T := "tuple") (name := "__mul__") (id := "tuple.__mul__") F.slot_tuple_mul.lookup (by decide +kernel), PySem.seqSlot_of (T := "tuple") (name := "__rmul__") (id := "tuple.__rmul__") F.slot_tuple_rmul.lookup (by decide +kernel)]
  rfl
theorem tup_mul_one (l : Addr) (items : Array Value) (n : Nat) (dd : Option Addr) (sl : Array (Option Value)) (u : Tok) :
    Meets (Builtin.«tuple.__mul__» ⟨[.ref l, .int 1 u], []⟩) (fun _ R s => s.heap.get? l = some { cls := .type "tuple", dict := dd, data := .seq items n, slots := sl } /\ R (.ok (.ret (Value.ref l))) s) :=
  .of_wp fun prog w A R s h => by
    obtain ⟨hp, g, d, tk, os⟩ := s; obtain ⟨hl, h⟩ := h
    have f1 := AutoSeq1.idx_int
    unfold Builtin.«tuple.__mul__»
    wp_walk using wpAny_loadPart' hl
    exact ⟨_, rfl, h⟩
theorem tup_mul_none (l : Addr) (items : Array Value) (n : Nat) (dd : Option Addr) (sl : Array (Option Value)) (x : Int) (u : Tok) (h0 : ¬ items.isEmpty = true) (h1 : x <= 0) (h2 : -(2 ^ 63) <= x) :
    Meets (Builtin.«tuple.__mul__» ⟨[.ref l, .int x u], []⟩) (fun _ R s => s.heap.get? l = some { cls := .type "tuple", dict := dd, data := .seq items n, slots := sl } /\ R (.ok (.ret (Value.ref s.heap.objs.size))) { s with heap := s.heap.push { cls := .type "tuple", data := .seq #[] } }) :=
  .of_wp fun prog w A R s h => by
    obtain ⟨hp, g, d, tk, os⟩ := s; obtain ⟨hl, h⟩ := h
    have f1 := AutoSeq1.idx_int
    have c1 : (decide (x < -(2 ^ 63 : Int)) || decide (x >= 2 ^ 63)) = false := by simp; omega
    have c2 : (items.isEmpty || x == 1) = false := by simp at h0 ⊢; exact ⟨h0, by omega⟩
    have c3 : (decide (x <= 0) || items.isEmpty) = true := by simp [h1]
    unfold Builtin.«tuple.__mul__»
    wp_walk using wpAny_loadPart' hl
    rw [if_neg (by rw [c1]; exact Bool.false_ne_true)]
    wp_walk using wpAny_loadPart' hl
    rw [if_neg (by rw [c2]; exact Bool.false_ne_true)]
    rw [if_pos c3]
    wp_walk using wpAny_loadPart' hl
    exact ⟨_, rfl, h⟩
theorem tup_mul_many (l : Addr) (items : Array Value) (n : Nat) (dd : Option Addr) (sl : Array (Option Value)) (x : Int) (u : Tok) (h0 : ¬ items.isEmpty = true) (h1 : 1 < x) (h2 : x < 2 ^ 63) (h3 : items.size * x.toNat <= sizeLine) :
    Meets (Builtin.«tuple.__mul__» ⟨[.ref l, .int x u], []⟩) (fun _ R s => s.heap.get? l = some { cls := .type "tuple", dict := dd, data := .seq items n, slots := sl } /\ R (.ok (.ret (Value.ref s.heap.objs.size))) { s with heap := s.heap.push { cls := .type "tuple", data := .seq ((List.replicate x.toNat items).foldl (· ++ ·) #[]) } }) :=
  .of_wp fun prog w A R s h => by
    obtain ⟨hp, g, d, tk, os⟩ := s; obtain ⟨hl, h⟩ := h
    have f1 := AutoSeq1.idx_int
    have hs : sizeLine = 16777216 := sizeLine_eq
    have c1 : (decide (x < -(2 ^ 63 : Int)) || decide (x >= 2 ^ 63)) = false := by simp; omega
    have c2 : (items.isEmpty || x == 1) = false := by simp at h0 ⊢; exact ⟨h0, by omega⟩
    have c3 : (decide (x <= 0) || items.isEmpty) = false := by simp at h0 ⊢; exact ⟨by omega, h0⟩
    obtain ⟨k, rfl⟩ : ∃ k : Nat, x = (k : Int) := ⟨x.toNat, by omega⟩
    have c4 : ¬ ((items.size : Int) * (k : Int) > (2 ^ 63 - 1) / 8) := by
      rw [Int.toNat_natCast] at h3
      have : ((items.size * k : Nat) : Int) = (items.size : Int) * (k : Int) := by push_cast; rfl
      omega
    have c5 : Builtin.Tuple.tupleTooMany ((items.size : Int) * (k : Int)) = false := by
      unfold Builtin.Tuple.tupleTooMany
      rw [Int.toNat_natCast] at h3
      have : ((items.size * k : Nat) : Int) = (items.size : Int) * (k : Int) := by push_cast; rfl
      simp
      omega
    unfold Builtin.«tuple.__mul__»
    wp_walk using wpAny_loadPart' hl
    rw [if_neg (by rw [c1]; exact Bool.false_ne_true)]
    wp_walk using wpAny_loadPart' hl
    rw [if_neg (by rw [c2]; exact Bool.false_ne_true)]
    rw [if_neg (by rw [c3]; exact Bool.false_ne_true), if_neg c4, if_neg (by rw [c5]; exact Bool.false_ne_true)]
    wp_walk using wpAny_loadPart' hl
    have hz : ¬ (List.foldl (fun x1 x2 => x1 ++ x2) #[] (List.replicate ((k : Int)).toNat items)).size > sizeLine := by
      have := L2.foldl_rep items.toList k []
      rw [List.nil_append] at this
      have e : items.toList.toArray = items := by simp
      rw [e] at this
      rw [Int.toNat_natCast, this, List.size_toArray, L2.len_rep]
      rw [Int.toNat_natCast] at h3
      rw [Array.length_toList, Nat.mul_comm]
      omega
    rw [if_neg hz]
    wp_walk using wpAny_loadPart' hl
    exact ⟨_, rfl, h⟩
end
end HT
namespace L2
open PySem PySem.Spec PyProof.Rows
section
variable {X : Cx}
def rRepT (K : PySem.W.Frag) : R2 := fun x y H Q => ∃ l k xs, x = .ref l /\ y = .int k /\ SqT K H l xs /\ xs ≠ [] /\ -(2 ^ 63) <= k /\ k < 2 ^ 63 /\ xs.length * k.toNat <= sizeLine /\
  (k = 1 -> Q (.ref l) H) /\ (k ≠ 1 -> ∀ p, H p = none -> Q (.ref p) (upd H p (.tup (List.replicate k.toNat xs).flatten)))
theorem op_repT : OpR X (binaryOp .Mult) (rRepT X.K) := by
  intro pins s σ H x y v u Q I rx ry h
  obtain ⟨l, k, xs, rfl, rfl, hq, hne, h1, h2, hz, q1, q2⟩ := h
  cases rx
  obtain ⟨t, rfl⟩ := ry
  obtain ⟨its, r, p1, _⟩ := I.tuple hq
  have hlen := r.length
  have hn' : ¬ its.toArray.isEmpty = true := by
    intro z
    have : its = [] := by simpa using z
    exact hne (r.nil_iff.mp this)
  obtain ⟨⟨cls, dd, data, sl⟩, ho, hc, n, hd⟩ := id p1
  simp only at hc hd
  subst hc hd
  refine wpAny_binaryOp_repeat_ref (T := "tuple") (U := "int") (by decide) ⟨_, ho, rfl⟩ (fun s' => typeIs_int s' k t) HT.noFill_tuple_mul F.fills_int_mul F.slot_int_rmul HT.repeat_tuple F.slot_int_index.lookup
    (call_meets F.slot_int_rmul (typeIs_int s k t) F.entry_int_rmul (F.args_int_rmul_2 _ _) (HT.int_rmul_tup k t l its.toArray n dd sl) ⟨ho, rfl, ⟨_, ho, rfl⟩, ?_⟩)
  by_cases k1 : k = 1
  . subst k1
    exact call_meets F.slot_tuple_mul ⟨_, ho, rfl⟩ F.entry_tuple_mul (F.args_tuple_mul_2 _ _) (HT.tup_mul_one l its.toArray n dd sl t) ⟨ho, ⟨.ref l, H, I, rfl, q1 rfl⟩⟩
  . have fin : ∀ (ys : List Value), Vals (List.replicate k.toNat xs).flatten ys -> EP X pins σ Q (.ref s.heap.objs.size) { s with heap := s.heap.push { cls := .type "tuple", data := .seq ys.toArray } } := fun ys rv =>
      ⟨.ref s.heap.objs.size, _, I.laid (t' := s.toks) (o := .tup (List.replicate k.toNat xs).flatten) (fun b ob q => Heap.get?_push_of_some _ q) (Nat.le_refl _) ⟨by rw [len_rep, Nat.mul_comm]; exact hz, _, rv, IsTup.new _ _⟩, rfl, q2 k1 _ (I.hok.fresh (Nat.le_refl _))⟩
    by_cases k0 : k <= 0
    . refine call_meets F.slot_tuple_mul ⟨_, ho, rfl⟩ F.entry_tuple_mul (F.args_tuple_mul_2 _ _) (HT.tup_mul_none l its.toArray n dd sl k t hn' k0 h1) ⟨ho, ?_⟩
      exact fin [] (by rw [show k.toNat = 0 by omega]; exact .nil)
    . refine call_meets F.slot_tuple_mul ⟨_, ho, rfl⟩ F.entry_tuple_mul (F.args_tuple_mul_2 _ _) (HT.tup_mul_many l its.toArray n dd sl k t hn' (by omega) h2 (by rw [List.size_toArray, <- hlen]; exact hz)) ⟨ho, ?_⟩
      have e := foldl_rep its k.toNat []
      rw [List.nil_append] at e
      have e' : List.foldl (fun x1 x2 => x1 ++ x2) #[] (List.replicate k.toNat its.toArray) = (List.replicate k.toNat its).flatten.toArray := e
      rw [e']
      exact fin _ (r.rep k.toNat)
end
section
variable {K : PySem.W.Frag} {H : Hp} {Q : VK}
theorem rRepT.of {l : Addr} {k : Int} {xs : List V} (hq : SqT K H l xs) (hne : xs ≠ []) (h1 : -(2 ^ 63) <= k) (h2 : k < 2 ^ 63) (hz : xs.length * k.toNat <= sizeLine) (h : ∀ p H', Same H H' -> SqT K H' p (List.replicate k.toNat xs).flatten -> Q (.ref p) H') : rRepT K (.ref l) (.int k) H Q := by
  refine ⟨l, k, xs, rfl, rfl, hq, hne, h1, h2, hz, fun e => ?_, fun _ p hp => h p _ (Same.new hp) (SqT.of upd_same)⟩
  subst e
  exact h l H (Same.refl _) (by simpa using hq)
end
inductive TyW (K : PySem.W.Frag) (H : Hp) : V -> Value -> Prop where
  | non : TyW K H .non (.type "NoneType")
  | bl (x : Bool) : TyW K H (.bl x) (.type "bool")
  | int (i : Int) : TyW K H (.int i) (.type "int")
  | str (x : Str) : TyW K H (.str x) (.type "str")
  | lst {a : Addr} {xs : List V} (e : SqL K H a xs) : TyW K H (.ref a) (.type "list")
  | tup {a : Addr} {xs : List V} (e : SqT K H a xs) : TyW K H (.ref a) (.type "tuple")
  | exc {a C : Addr} (e : H a = some (excO a C)) (c : ExcCls K C) : TyW K H (.ref a) (.ref C)
theorem call_isinstW {X : Cx} : CallR X (.builtin "isinstance") (fun xs H Q => ∃ x c cv t b, xs = [x, c] /\ TyW X.K H x t /\ (∀ u, RelV c u -> u = cv) /\ PySem.W.kitOne X.K t cv = some b /\ Q (.bl b) H) := by
  intro pins s σ H xs us Q I r h
  obtain ⟨x, c, cv, t, b, rfl, ty, hc, hk, q⟩ := h
  cases ty with
  | non => exact call_isinst pins s σ H _ us Q I r ⟨_, c, cv, _, b, rfl, .non, hc, hk, q⟩
  | bl y => exact call_isinst pins s σ H _ us Q I r ⟨_, c, cv, _, b, rfl, .bl y, hc, hk, q⟩
  | int y => exact call_isinst pins s σ H _ us Q I r ⟨_, c, cv, _, b, rfl, .int y, hc, hk, q⟩
  | str y => exact call_isinst pins s σ H _ us Q I r ⟨_, c, cv, _, b, rfl, .str y, hc, hk, q⟩
  | exc e hC => exact call_isinstE pins s σ H _ us Q I r ⟨_, _, c, cv, b, rfl, e, hC, hc, hk, q⟩
  | @lst a xs e =>
    obtain ⟨u, w', rfl, rx, rc⟩ := vals2 r
    rw [hc _ rc]
    cases rx
    obtain ⟨its, _, pl, _⟩ := I.list e
    obtain ⟨o, ho, hcl, _⟩ := pl.isList
    exact PySem.W.kia_one PySem.W.kitx_list I.kIn ⟨o, ho, hcl⟩ hk (fun z => nomatch z) fun tk => ⟨.bl b, H, I.tok tk, rfl, q⟩
  | @tup a xs e =>
    obtain ⟨u, w', rfl, rx, rc⟩ := vals2 r
    rw [hc _ rc]
    cases rx
    obtain ⟨its, _, ⟨o, ho, hcl, _⟩, _⟩ := I.tuple e
    exact PySem.W.kia_one PySem.W.kitx_tuple I.kIn ⟨o, ho, hcl⟩ hk (fun z => nomatch z) fun tk => ⟨.bl b, H, I.tok tk, rfl, q⟩
end L2
set_option Elab.async false
set_option linter.all false
set_option maxRecDepth 100000
set_option maxHeartbeats 4000000
namespace GW
def placeR (L : Int) : List Int -> Int
  | [] => 0
  | x :: r => placeR L r * L + x + 1
def place (L : Int) (w : List Int) : Int := placeR L w.reverse
def inW (L x : Int) : Bool := decide (0 <= x) && decide (x < L)
def isW (L : Int) (ws : List Int) : Bool := ws.all (inW L)
def many (L : Int) : Nat -> Int
  | 0 => 0
  | k + 1 => many L k * L + 1
end GW
set_option Elab.async false
set_option linter.all false
set_option maxRecDepth 100000
set_option maxHeartbeats 4000000
namespace PySem
section
variable {prog : Program} {w : World} {A : Around} {E : Value -> Shared -> Prop} {s : Shared}
variable {I r : Addr} {T : String} {n : Nat} {wr : Addr -> Prop} {J : Nat -> List Value -> Heap -> Prop} {Fn : List Value -> Heap -> Prop} {R : Result -> Shared -> Prop} {res : Value}
end
end PySem
set_option Elab.async false
set_option linter.all false
set_option maxRecDepth 100000
set_option maxHeartbeats 4000000
namespace PySem
open Sem (wp)
open AutoSeq1 (wpAny_loadPart')
namespace F
end F
section
variable {prog : Program} {w : World} {A : Around} {E : Value -> Shared -> Prop} {s : Shared}
end
end PySem
namespace L2
open PySem PySem.Spec PyProof.Rows
theorem boot_ValueError : bootBuiltins "ValueError" = some (.type "ValueError") := by decide +kernel
section
variable {P : Program} {w : World} {K : PySem.W.Frag} {mg : Str -> Option Value} {base : Heap}
theorem Fun.okE {x qual : Str} {st : Stmt} {f : Addr} {fd : FuncData} {N ps : List Str} {k : Nat} {sp : Sp} (F : Fun K x qual st f fd) (S : FnScope N ps (defScope st)) (len : ∀ vs H Q E, sp vs H Q E -> vs.length = ps.length)
    (hbody : ∀ (cdv : Value) (A : Around) (outer : List Env) (s : Shared) (H : Hp) (vs : List V) (Q : VK) (E : XK), Room k (A.deeper (envOfC qual (defScope st) s.heap.objs.size f cdv)) -> sp vs H Q E ->
      ∃ t, PSs (cxOf (CXe P w) P w K mg base N qual (defScope st) f cdv A outer s H E) (defBody st) t /\ t { nx := fun _ H' => Q .non H', rt := Q } (start N vs) H) : FnOk P w K mg base (CXe P w) (k + 1) f fd ps sp := by
  obtain ⟨oc, od, kV, doc, pm, an, cdv, ct, osl, rfl, lk, hcd⟩ := F.ex
  exact fn_of lk hcd S len fun A outer s H vs Q E hr hsp => hbody cdv A outer s H vs Q E hr hsp
theorem passNev {X : Cx} : Passes (CXe P w) X E0 := fun _ _ _ _ _ _ _ h => by
  obtain ⟨_, _, _, _, _, _, _, _, _, _, q⟩ := h
  exact q.elim
end
section
variable {te ta tb : TE} {A : TA} {D : Ends} {σ : St} {H : Hp} {Q : VK} {K : PySem.W.Frag} {tbd ts : TS}
theorem r_rep {x y : V} : rRep x y H Q = ∃ l k xs, x = .ref l /\ y = .int k /\ H l = some (.lst xs) /\ -(2 ^ 63) <= k /\ k < 2 ^ 63 /\ xs.length * k.toNat <= sizeLine /\ ∀ p, H p = none -> Q (.ref p) (upd H p (.lst (List.replicate k.toNat xs).flatten)) := rfl
theorem r_raise {C : Addr} {E : XK} : tRaise C E A D σ H = A σ H fun vs H1 => vs.length <= sizeLine /\ E (.ref C) none H1 := rfl
theorem r_callE {sp : Sp} {dvs : List V} {E : St -> XK} : tCallE sp dvs E A σ H Q = A σ H fun vs H1 => sp (vs ++ dvs) H1 Q (E σ) := rfl
theorem r_try {Ca : Addr} {i : Nat} {E : St -> XK} : tTry K Ca i E tbd ts D σ H = (tbd D σ H /\ ∀ σ' cls H', E σ' cls none H' ->
  ∃ C, cls = .ref C /\ PySem.W.exmOne K (.ref C) (.ref Ca) = some true /\ ∀ ea, H' ea = none -> ts (D.un i) (σ'.set i (some (.ref ea))) (upd H' ea (excO ea C))) := rfl
theorem r_unnx {i : Nat} : (Ends.un D i).nx σ H = D.nx (σ.set i none) H := rfl
theorem r_unrt {i : Nat} {v : V} : (Ends.un D i).rt v H = D.rt v H := rfl
end
section
variable {X : Cx} {tg : Expr}
end
end L2
namespace L2
open PySem PySem.Spec PyProof.Rows
theorem eqV_int (x y : Int) : eqV (.int x) (.int y) = decide (V.int x = V.int y) := by
  by_cases h : x = y
  . subst h; simp [eqV]
  . rw [decide_eq_false (fun z => h (by injection z))]; simp [eqV, h]
theorem EqD.ints {K : PySem.W.Frag} {H : Hp} {a c : Addr} {xs ys : List Int} (hq : (SqL K H a (xs.map V.int) /\ SqL K H c (ys.map V.int)) \/ (SqT K H a (xs.map V.int) /\ SqT K H c (ys.map V.int))) (n : Nat) : EqD K H (n + 1) (.ref a) (.ref c) (decide (xs = ys)) := by
  have := EqD.flat hq (fun x hx => by obtain ⟨_, _, rfl⟩ := mem_mapI hx; rfl) (fun x hx => by obtain ⟨_, _, rfl⟩ := mem_mapI hx; rfl) (fun x hx y hy => by obtain ⟨_, _, rfl⟩ := mem_mapI hx; obtain ⟨_, _, rfl⟩ := mem_mapI hy; exact eqV_int _ _) n
  have e : decide (xs.map V.int = ys.map V.int) = decide (xs = ys) := by
    rw [Bool.eq_iff_iff]
    simp only [decide_eq_true_eq]
    constructor
    . intro h
      exact (List.map_inj_right (fun a b h => by injection h)).mp h
    . intro h; rw [h]
  rw [e] at this
  exact this
end L2
namespace GW
end GW
namespace GW
end GW
namespace L2
open PySem PySem.Spec PyProof.Rows
def iSeq (K : PySem.W.Frag) (tl : TE) : TI := fun σ H R => tl σ H fun x H1 => ∃ a, x = .ref a /\ (((∃ xs, SqL K H1 a xs) /\ R (Itl K a) H1) \/ ((∃ xs, SqT K H1 a xs) /\ R (Itt K a) H1))
theorem r_iSeq {K : PySem.W.Frag} {te : TE} {σ : St} {H : Hp} {Z : It -> Hp -> Prop} : iSeq K te σ H Z = te σ H fun x H1 => ∃ a, x = .ref a /\ (((∃ xs, SqL K H1 a xs) /\ Z (Itl K a) H1) \/ ((∃ xs, SqT K H1 a xs) /\ Z (Itt K a) H1)) := rfl
theorem pi_seq {X : Cx} {tg l : Expr} {tl : TE} (hl : PE X l tl) : PI X tg l (iSeq X.K tl) := by
  intro pins s σ H R I h
  refine thn (hl pins s σ H _ I h) fun v s1 ⟨x, H1, I1, r1, q1⟩ => ?_
  obtain ⟨a, e, q⟩ := q1
  subst e
  cases r1
  rcases q with ⟨⟨xs, hq⟩, q⟩ | ⟨⟨xs, hq⟩, q⟩
  . obtain ⟨its, rv, p, hz⟩ := I1.list hq
    refine wpAny_pyIter_list p.isList ?_
    refine ⟨s1.heap.objs.size, [s1.heap.objs.size], _, _, H1, rfl, I1.kept (t' := s1.toks) fun b o e => Heap.get?_push_of_some _ e, turn_list a _, ⟨_, Heap.get?_push_size _ rfl, rfl, rfl⟩, fun b hb => ?_, q⟩
    have e : b = s1.heap.objs.size := by simpa using hb
    subst e
    exact I1.fpOk (Nat.le_refl _) (I1.hok.fresh (Nat.le_refl _))
  . obtain ⟨its, rv, p, hz⟩ := I1.tuple hq
    refine wpAny_pyIter_tuple (show s1.heap.IsTuple a its.toArray from p) ?_
    refine ⟨s1.heap.objs.size, [s1.heap.objs.size], _, _, H1, rfl, I1.kept (t' := s1.toks) fun b o e => Heap.get?_push_of_some _ e, turn_tuple a _, ⟨_, Heap.get?_push_size _ rfl, rfl, rfl⟩, fun b hb => ?_, q⟩
    have e : b = s1.heap.objs.size := by simpa using hb
    subst e
    exact I1.fpOk (Nat.le_refl _) (I1.hok.fresh (Nat.le_refl _))
end L2
namespace GW
end GW
namespace L2
open PySem PySem.Spec PyProof.Rows
end L2
namespace L2
open PySem PySem.Spec PyProof.Rows
theorem call_isinstK {X : Cx} {K : PySem.W.Frag} (hK : X.K = K) : CallR X (.builtin "isinstance") (fun xs H Q => ∃ x c cv t b, xs = [x, c] /\ TyW K H x t /\ (∀ u, RelV c u -> u = cv) /\ PySem.W.kitOne K t cv = some b /\ Q (.bl b) H) := by
  subst hK
  exact call_isinstW
end L2
namespace L2
open PySem PySem.Spec PyProof.Rows
section
variable {X : Cx} {K : PySem.W.Frag}
theorem ix_listK (h : X.K = K) : IxR X (rIxL K) := by subst h; exact ix_list
theorem call_list_ofK (h : X.K = K) : CallR X (.type "list") (fun xs H Q => ∃ p ys, xs = [.ref p] /\ (SqL K H p ys \/ SqT K H p ys) /\ ∀ l, H l = none -> Q (.ref l) (upd H l (.lst ys))) := by subst h; exact call_list_of
theorem call_tuple_ofK (h : X.K = K) : CallR X (.type "tuple") (fun xs H Q => ∃ p ys, xs = [.ref p] /\ ((SqL K H p ys /\ ∀ l, H l = none -> Q (.ref l) (upd H l (.tup ys))) \/ (SqT K H p ys /\ Q (.ref p) H))) := by subst h; exact call_tuple_of
end
end L2
set_option Elab.async false
set_option linter.all false
set_option maxRecDepth 100000
set_option maxHeartbeats 4000000
namespace GW
structure Wf (L : Int) (marks : List Int) (ways : List (List Int)) : Prop where
  l1 : 1 <= L
  l6 : L <= 6
  n1 : 1 <= marks.length
  n40 : marks.length <= 40
  len : ways.length = marks.length
  rows : ∀ row ∈ ways, (row.length : Int) = L /\ ∀ x ∈ row, 0 <= x /\ x < marks.length
  mks : ∀ m ∈ marks, 0 <= m /\ m <= 1000000000
end GW
namespace L2
open PySem PySem.Spec PyProof.Rows GW
def Rows (K : PySem.W.Frag) (H : Hp) (w : Addr) (ways : List (List Int)) : Prop := ∃ ts : List Addr, SqT K H w (ts.map V.ref) /\ ts.length = ways.length /\ ∀ (i : Nat) (t : Addr) (row : List Int), ts[i]? = some t -> ways[i]? = some row -> SqT K H t (row.map V.int)
theorem Rows.mono {K : PySem.W.Frag} {H H' : Hp} {w : Addr} {ways : List (List Int)} (h : Rows K H w ways) (e : Same H H') : Rows K H' w ways := by
  obtain ⟨ts, h1, h2, h3⟩ := h
  exact ⟨ts, e.seqT h1, h2, fun i t r a b => e.seqT (h3 i t r a b)⟩
theorem atI_int {ns : List Int} {i : Int} {v : Int} (h0 : 0 <= i) (h : ns[i.toNat]? = some v) : atI (ns.map V.int) i = some (V.int v) := atI_of h0 (by rw [List.getElem?_map, h]; rfl)
end L2
namespace L2
open PySem PySem.Spec PyProof.Rows GW
theorem seqT_off {K : PySem.W.Frag} {H : Hp} {p t : Addr} {xs ys zs : List V} (hp : H p = some (.lst zs)) (h : SqT K H t xs) : SqT K (upd H p (.lst ys)) t xs := by
  rcases h with (q | ⟨o, q⟩) | q
  . refine .inl (.inl ?_)
    rw [upd_ne (fun z => by rw [z, hp] at q; cases q)]; exact q
  . refine .inl (.inr ⟨o, ?_⟩)
    rw [upd_ne (fun z => by rw [z, hp] at q; cases q)]; exact q
  . exact .inr q
def TupsL (K : PySem.W.Frag) (H : Hp) (l : Addr) (ws : List (List Int)) : Prop := ∃ ts : List Addr, H l = some (.lst (ts.map V.ref)) /\ ts.length = ws.length /\ ∀ (i : Nat) (t : Addr) (w : List Int), ts[i]? = some t -> ws[i]? = some w -> SqT K H t (w.map V.int)
theorem TupsL.mono {K : PySem.W.Frag} {H H' : Hp} {l : Addr} {ws : List (List Int)} (h : TupsL K H l ws) (e : Same H H') : TupsL K H' l ws := by
  obtain ⟨ts, h1, h2, h3⟩ := h
  exact ⟨ts, e _ _ h1, h2, fun i t w a b => e.seqT (h3 i t w a b)⟩
theorem TupsL.off {K : PySem.W.Frag} {H : Hp} {l p : Addr} {ws : List (List Int)} {zs ys : List V} (h : TupsL K H l ws) (hp : H p = some (.lst zs)) (ne : l ≠ p) : TupsL K (upd H p (.lst ys)) l ws := by
  obtain ⟨ts, h1, h2, h3⟩ := h
  exact ⟨ts, by rw [upd_ne ne]; exact h1, h2, fun i t w a b => seqT_off hp (h3 i t w a b)⟩
theorem TupsL.push {K : PySem.W.Frag} {H : Hp} {l t : Addr} {ws : List (List Int)} {w : List Int} (h : TupsL K H l ws) (hw : SqT K H t (w.map V.int)) : ∃ xs, H l = some (.lst xs) /\ xs.length = ws.length /\ TupsL K (upd H l (.lst (xs ++ [V.ref t]))) l (ws ++ [w]) := by
  obtain ⟨ts, h1, h2, h3⟩ := h
  refine ⟨ts.map V.ref, h1, by rw [List.length_map, h2], ts ++ [t], by rw [upd_same, List.map_append]; rfl, by simp [h2], fun i t' w' a b => seqT_off h1 ?_⟩
  by_cases hi : i < ts.length
  . rw [List.getElem?_append_left hi] at a
    rw [List.getElem?_append_left (by omega)] at b
    exact h3 i t' w' a b
  . have ht := (List.getElem?_eq_some_iff.mp a).1
    rw [List.length_append, List.length_singleton] at ht
    have e : i = ts.length := by omega
    subst e
    rw [List.getElem?_append_right (Nat.le_refl _), Nat.sub_self] at a
    rw [List.getElem?_append_right (by omega), h2, Nat.sub_self] at b
    simp at a b
    subst a b
    exact hw
theorem TupsL.nil {K : PySem.W.Frag} {H : Hp} {l : Addr} (h : H l = some (.lst [])) : TupsL K H l [] := ⟨[], h, rfl, fun i t w a _ => by simp at a⟩
theorem TupsL.rows {K : PySem.W.Frag} {H : Hp} {l : Addr} {ws : List (List Int)} (h : TupsL K H l ws) : ∃ xs, H l = some (.lst xs) /\ ∀ t, H t = none -> Rows K (upd H t (.tup xs)) t ws := by
  obtain ⟨ts, h1, h2, h3⟩ := h
  exact ⟨_, h1, fun t ht => ⟨ts, SqT.of upd_same, h2, fun i t' w a b => (Same.new ht).seqT (h3 i t' w a b)⟩⟩
end L2
set_option Elab.async false
set_option linter.all false
set_option maxRecDepth 100000
set_option maxHeartbeats 4000000
namespace PySem
open Sem (wp)
open AutoSeq1 (wpAny_loadPart')
section
variable {prog : Program} {w : World} {A : Around} {E : Value -> Shared -> Prop} {s : Shared}
end
end PySem
namespace L2
open PySem PySem.Spec PyProof.Rows
section
variable {X : Cx} {pins : List (Addr × Obj)} {σ : St} {H : Hp} {s : Shared}
end
section
variable {td ty tv tx : TE} {D : Ends} {σ : St} {H : Hp} {Q : VK}
end
end L2
namespace HT
open PySem PySem.Spec PyProof.Rows
section
open PySem.SeqAt PySem.MeetsSeq PySem.MeetsSeq2 PySem.MeetsSeq3
open PySem.AutoSeq1 (wpAny_loadPart')
end
end HT
namespace L2
open PySem PySem.Spec PyProof.Rows
end L2
set_option Elab.async false
set_option linter.all false
set_option maxRecDepth 100000
set_option maxHeartbeats 4000000
namespace GW
end GW
namespace L2
open PySem PySem.Spec PyProof.Rows GW
end L2
namespace L2
end L2
namespace L2
open PySem PySem.Spec PyProof.Rows
def ups (n : Nat) : List Int := (List.range n).map fun i : Nat => (i : Int)
end L2
namespace L2
open PySem PySem.Spec PyProof.Rows
def rNeD (K : PySem.W.Frag) (n : Nat) : R2 := fun x y H Q => ∃ a c b, x = .ref a /\ y = .ref c /\ EqD K H n x y b /\ Q (.bl (!b)) H
theorem r_neD {K : PySem.W.Frag} {n : Nat} {x y : V} {H : Hp} {Q : VK} : rNeD K n x y H Q = ∃ a c b, x = .ref a /\ y = .ref c /\ EqD K H n x y b /\ Q (.bl (!b)) H := rfl
theorem op_neD {X : Cx} (n : Nat) (hu : X.A.units + n < cLine) : OpR X (compareOp .NotEq) (rNeD X.K n) := by
  intro pins s σ H x y v u Q I rx ry h
  obtain ⟨a, c, b, rfl, rfl, h, q⟩ := h
  cases rx
  cases ry
  cases n with
  | zero => exact absurd (show false = true from h.1) Bool.false_ne_true
  | succ n =>
    rcases h with ⟨fx, _⟩ | ⟨a', c', xs, ys, e1, e2, hq, e, he, rfl⟩
    . exact absurd (show false = true from fx) Bool.false_ne_true
    . cases e1
      cases e2
      have key : ∀ (its its2 : List Value), Vals xs its -> Vals ys its2 -> ∀ j (h1 : j < its.toArray.size) (h2 : j < its2.toArray.size), SeqAt.EqAt X.A.in1 s its.toArray[j] its2.toArray[j] (e j) := fun its its2 r1 r2 j h1 h2 => by
        have l1 := r1.length
        have l2 := r2.length
        rw [List.size_toArray] at h1 h2
        obtain ⟨u1, g1, q1⟩ := r1.get (i := j) (x := xs[j]'(by omega)) (by simp [show j < xs.length by omega])
        obtain ⟨u2, g2, q2⟩ := r2.get (i := j) (x := ys[j]'(by omega)) (by simp [show j < ys.length by omega])
        have k1 : its.toArray[j]'(by rw [List.size_toArray]; exact h1) = u1 := by
          have := (List.getElem?_eq_some_iff.mp g1).2
          simpa using this
        have k2 : its2.toArray[j]'(by rw [List.size_toArray]; exact h2) = u2 := by
          have := (List.getElem?_eq_some_iff.mp g2).2
          simpa using this
        rw [k1, k2]
        exact (EqD.at I n X.A.in1 (by rw [in1_units]; omega) q1 q2 (he j _ _ (by simp [show j < xs.length by omega]) (by simp [show j < ys.length by omega]))).1
      have fin : EP X pins σ Q (.bool (!(decide (xs.length = ys.length) && (List.range (min xs.length ys.length)).all e))) s := ⟨.bl _, H, I, rfl, q⟩
      rcases hq with ⟨h1, h2⟩ | ⟨h1, h2⟩
      . obtain ⟨its, r1, p1, _⟩ := I.list h1
        obtain ⟨its2, r2, p2, _⟩ := I.list h2
        have l1 := r1.length
        have l2 := r2.length
        by_cases hl : xs.length = ys.length
        . have := SeqAt.RcNeAt.lists (e := e) p1.isList p2.isList (by rw [List.size_toArray, List.size_toArray]; omega) (by omega) (key its its2 r1 r2)
          rw [List.size_toArray, <- l1] at this
          rw [decide_eq_true hl, Bool.true_and, <- hl, Nat.min_self] at fin
          exact this _ _ _ _ fin
        . have := SeqAt.RcNeAt.lists_lengths (A := X.A) p1.isList p2.isList (by rw [List.size_toArray, List.size_toArray]; simp; omega) (by omega)
          rw [decide_eq_false hl, Bool.false_and] at fin
          exact this _ _ _ _ fin
      . obtain ⟨its, r1, p1, _⟩ := I.tuple h1
        obtain ⟨its2, r2, p2, _⟩ := I.tuple h2
        have l1 := r1.length
        have l2 := r2.length
        have := SeqAt.RcNeAt.tuples (e := e) (show s.heap.IsTuple a its.toArray from p1) (show s.heap.IsTuple c its2.toArray from p2) (by omega) (key its its2 r1 r2)
        rw [List.size_toArray, List.size_toArray, <- l1, <- l2, all_and] at this
        exact this _ _ _ _ fin
end L2
namespace L2
open PySem PySem.Spec PyProof.Rows
end L2
namespace L2
open PySem PySem.Spec PyProof.Rows
end L2
namespace GW
end GW
namespace L2
end L2
namespace L2
open PySem GW
end L2
namespace GW
end GW
namespace L2
open PySem GW
end L2
namespace GW
end GW
set_option Elab.async false
set_option linter.all false
set_option maxRecDepth 100000
set_option maxHeartbeats 4000000
namespace L2
open PySem PySem.Spec PyProof.Rows
end L2
namespace HT
open PySem PyProof.Rows
section
open PySem.SeqAt
open PySem.AutoSeq1 (wpAny_loadPart')
open PySem.MeetsSeq PySem.MeetsSeq2 PySem.MeetsSeq3
end
end HT
namespace L2
open PySem PySem.Spec PyProof.Rows
end L2
namespace L2
end L2
namespace GW
end GW
set_option Elab.async false
set_option linter.all false
set_option maxRecDepth 100000
set_option maxHeartbeats 4000000
namespace L2
open PySem PySem.Spec PyProof.Rows
end L2
namespace L2
open PySem PySem.Spec PyProof.Rows
theorem r_pop {x : V} {vs : List V} {H : Hp} {Q : VK} : rPop x vs H Q = ∃ l xs y, x = .ref l /\ vs = [] /\ H l = some (.lst xs) /\ xs[xs.length - 1]? = some y /\ Q y (upd H l (.lst xs.dropLast)) := rfl
def rng (i j : Int) : List Int := (List.range (j - i).toNat).map fun k : Nat => i + (k : Int)
end L2
namespace GW
open L2
end GW
namespace GW
end GW
namespace GW
open L2
end GW
namespace L2
open PySem PySem.Spec PyProof.Rows GW
end L2
namespace L2
end L2
namespace L2
end L2
namespace L2
open PySem PySem.Spec PyProof.Rows GW
end L2
namespace GW
end GW
namespace GW
open L2
end GW
set_option Elab.async false
set_option linter.all false
set_option maxRecDepth 100000
set_option maxHeartbeats 4000000
namespace GW
open L2
end GW
set_option Elab.async false
set_option linter.all false
set_option maxRecDepth 100000
set_option maxHeartbeats 4000000
namespace PySem
open Sem (wp)
section
variable {prog : Program} {w : World} {A : Around} {E : Value -> Shared -> Prop} {s : Shared} {d it : Addr} {es : Array DictEntry} {i ep : Nat}
end
end PySem
namespace L2
open PySem PySem.Spec PyProof.Rows
section
variable {X : Cx} {pins : List (Addr × Obj)} {σ : St} {H : Hp} {s : Shared} {a : Addr}
end
end L2
namespace HT
open PySem PyProof.Rows
section
open PySem.SeqAt
open PySem.AutoSeq1 (wpAny_loadPart')
open PySem.MeetsSeq PySem.MeetsSeq2 PySem.MeetsSeq3
end
end HT
namespace L2
open PySem PySem.Spec PyProof.Rows
end L2
set_option Elab.async false
set_option linter.all false
set_option maxRecDepth 100000
set_option maxHeartbeats 4000000
namespace GB
open GW
variable {α : Type} [DecidableEq α]
def walkF (step : α -> Int -> α) (a : α) (ws : List Int) : α := ws.foldl step a
structure B (L : Int) (step : α -> Int -> α) (st : α) (ok : α -> Prop) (ents : List (α × List Int)) (i : Nat) (top : Int) : Prop where
  hd : ents[0]? = some (st, [])
  il : i <= ents.length
  sh : ∀ (j : Nat) (e : α × List Int), ents[j]? = some e -> e.2.length <= j
  nod : (ents.map (·.1)).Nodup
  rng : ∀ e ∈ ents, ok e.1
  wd : ∀ e ∈ ents, isW L e.2 = true /\ walkF step st e.2 = e.1
  inc : ∀ (j k : Nat) (a b : α × List Int), j < k -> ents[j]? = some a -> ents[k]? = some b -> place L a.2 < place L b.2
  bnd : ∀ e ∈ ents, place L e.2 < top
  don : ∀ j, j < i -> ∀ e, ents[j]? = some e -> ∀ x : Int, 0 <= x -> x < L -> ∃ e' ∈ ents, e'.1 = step e.1 x /\ place L e'.2 <= place L (e.2 ++ [x])
variable {L : Int} {step : α -> Int -> α} {st : α} {ok : α -> Prop} {ents : List (α × List Int)} {i : Nat} {top : Int}
end GB
namespace L2
open PySem PySem.Spec PyProof.Rows GW GB
end L2
namespace L2
end L2
namespace GB
open GW
end GB
set_option Elab.async false
set_option linter.all false
set_option maxRecDepth 100000
set_option maxHeartbeats 4000000
namespace GB
open GW
end GB
namespace L2
open GW
end L2
namespace L2
open PySem PySem.Spec PyProof.Rows GW
def LLs (H0 H : Hp) (xs : List V) (ws : List (List Int)) : Prop := ∃ ts : List Addr, xs = ts.map V.ref /\ ts.length = ws.length /\ ts.Nodup /\ (∀ (i : Nat) (t : Addr) (w : List Int), ts[i]? = some t -> ws[i]? = some w -> H t = some (.lst (w.map V.int))) /\ ∀ t ∈ ts, H0 t = none
theorem LLs.nil (H0 H : Hp) : LLs H0 H [] [] := ⟨[], rfl, rfl, List.nodup_nil, fun i t w h => by simp at h, fun t h => by simp at h⟩
theorem LLs.mono {H0 H H' : Hp} {xs : List V} {ws : List (List Int)} (h : LLs H0 H xs ws) (s : Same H H') : LLs H0 H' xs ws := by
  obtain ⟨ts, a, b, c, d, e⟩ := h
  exact ⟨ts, a, b, c, fun i t w h1 h2 => s _ _ (d i t w h1 h2), e⟩
theorem LLs.len {H0 H : Hp} {xs : List V} {ws : List (List Int)} (h : LLs H0 H xs ws) : xs.length = ws.length := by
  obtain ⟨ts, a, b, _⟩ := h
  rw [a, List.length_map, b]
theorem LLs.snoc {H0 H : Hp} {xs : List V} {ws : List (List Int)} {p : Addr} {w : List Int} (h : LLs H0 H xs ws) (h0 : H0 p = none) (hp : H p = none) : LLs H0 (upd H p (.lst (w.map V.int))) (xs ++ [.ref p]) (ws ++ [w]) := by
  obtain ⟨ts, a, b, c, d, e⟩ := h
  have hts : ∀ t ∈ ts, t ≠ p := fun t ht z => by
    obtain ⟨i, hi, ei⟩ := List.getElem_of_mem ht
    have := d i t ws[i] (by rw [List.getElem?_eq_getElem hi, ei]) (by simp [show i < ws.length by omega])
    rw [z, hp] at this; cases this
  refine ⟨ts ++ [p], by rw [a]; simp, by simp [b], ?_, fun i t v h1 h2 => ?_, fun t ht => ?_⟩
  . rw [List.nodup_append]
    refine ⟨c, by simp, fun x hx y hy => ?_⟩
    simp at hy; subst hy; exact hts x hx
  . by_cases hi : i < ts.length
    . rw [List.getElem?_append_left hi] at h1
      rw [List.getElem?_append_left (by omega)] at h2
      rw [upd_ne (hts t (List.mem_of_getElem? h1))]
      exact d i t v h1 h2
    . have := (List.getElem?_eq_some_iff.mp h1).1
      rw [List.length_append, List.length_singleton] at this
      have ei : i = ts.length := by omega
      subst ei
      rw [List.getElem?_append_right (Nat.le_refl _), Nat.sub_self] at h1
      rw [b, List.getElem?_append_right (Nat.le_refl _), Nat.sub_self] at h2
      simp at h1 h2
      subst h1 h2
      exact upd_same
  . rcases List.mem_append.mp ht with ht | ht
    . exact e t ht
    . rw [List.mem_singleton.mp ht]; exact h0
theorem Same.none {H H' : Hp} (s : Same H H') {p : Addr} (h : H' p = none) : H p = none := by
  cases e : H p with
  | none => rfl
  | some u => rw [s _ _ e] at h; cases h
end L2
namespace GW
end GW
namespace L2
open PySem GW
theorem LLs.off {H0 H : Hp} {xs : List V} {ws : List (List Int)} {p : Addr} {o u : HO} (h : LLs H0 H xs ws) (hp : H0 p = some u) : LLs H0 (upd H p o) xs ws := by
  obtain ⟨ts, a, b, c, d, e⟩ := h
  refine ⟨ts, a, b, c, fun i t w h1 h2 => ?_, e⟩
  rw [upd_ne (fun z => by have := e t (List.mem_of_getElem? h1); rw [z, hp] at this; cases this)]
  exact d i t w h1 h2
end L2
set_option Elab.async false
set_option linter.all false
set_option maxRecDepth 100000
set_option maxHeartbeats 4000000
namespace L2
open PySem PySem.Spec PyProof.Rows
section
variable {X : Cx} {pins : List (Addr × Obj)} {σ : St} {H : Hp} {s : Shared} {sc : Scope} {fp : List Addr}
end
section
variable {X : Cx} {tg iter elt : Expr} {ifs : List Expr} {sc : Scope} {pos : Pos} {wi : TI} {cp : Caps} {g : TG} {tc : TT} {te : TE}
end
end L2
namespace L2
open PySem PySem.Spec PyProof.Rows GW GB
end L2
namespace GB
open GW
end GB
set_option Elab.async false
set_option linter.all false
set_option maxRecDepth 100000
set_option maxHeartbeats 4000000
namespace L2
open PySem PySem.Spec PyProof.Rows GW
end L2
namespace L2
open PySem PySem.Spec PyProof.Rows GW
end L2
namespace GW
def ins (s : List (List Int)) (w : List Int) : List (List Int) := if w ∈ s then s else s ++ [w]
end GW
namespace L2
open PySem PySem.Spec PyProof.Rows GW
def wkey (w : List Int) : List Key := w.map Sum.inl
end L2
set_option Elab.async false
set_option linter.all false
set_option maxRecDepth 100000
set_option maxHeartbeats 4000000
namespace L2
open PySem PySem.Spec PyProof.Rows
section
variable {M : Model} {A : Around} {E : Value -> Shared -> Prop} {s : Shared}
end
section
variable {X : Cx} {N : List Str} {sc : Scope} {C : Addr} {s₀ : Shared} {H₀ : Hp} {ex : List Addr} {xe : Value -> Shared -> Prop} {pins : List (Addr × Obj)} {σ : St} {H : Hp} {s : Shared}
end
section
variable {X : Cx} {tg iter elt : Expr} {ifs : List Expr} {sc : Scope} {pos : Pos} {wi : TI} {cp : Caps} {g : TG} {tc : TT} {te : TE}
end
end L2
set_option Elab.async false
set_option linter.all false
set_option maxRecDepth 100000
set_option maxHeartbeats 4000000
namespace PySem.W
open PySem PySem.Calls PyProof.Rows PyProof.V PySem.Spec
section
variable {prog : Program} {w : World} {A : Around} {E : Value -> Shared -> Prop} {s : Shared}
end
section
variable {prog : Program} {w : World} {A : Around} {E : Value -> Shared -> Prop} {s : Shared} {r d : Addr} {es : Array DictEntry} {ep : Nat} {od : Obj}
end
end PySem.W
set_option Elab.async false
set_option linter.all false
set_option maxRecDepth 100000
set_option maxHeartbeats 4000000
namespace L2
open PySem PySem.Spec PyProof.Rows
end L2
set_option Elab.async false
set_option linter.all false
set_option maxRecDepth 100000
set_option maxHeartbeats 4000000
namespace L2
open PySem PySem.Spec PyProof.Rows
theorem pe_gc {X : Cx} {x : Str} {n : Int} {pos : Pos} (hg : Gl X x) (hm : ∃ t, X.mg x = some (.int n t)) (hd : (x == ("__debug__" : Str)) = false := by decide) : PE X (.Name x pos) (tC (.int n)) := by
  obtain ⟨t, hm⟩ := hm
  exact pe_glob hg hm ⟨_, rfl⟩ hd
section
variable {K : PySem.W.Frag} {ta tv td ty tx : TE} {t : TA} {f m : Str} {σ : St} {H : Hp} {Q : VK} {D : Ends} {C : Addr} {sp : Sp} {dvs : List V} {E : XK}
end
def ents (es : List (List Int × Int)) : List (List Key × V) := es.map fun e => (wkey e.1, V.int e.2)
end L2
set_option Elab.async false
set_option linter.all false
set_option maxRecDepth 100000
set_option maxHeartbeats 4000000
namespace L2
open PySem PySem.Spec PyProof.Rows
end L2
set_option Elab.async false
set_option linter.all false
set_option maxRecDepth 100000
set_option maxHeartbeats 4000000
namespace L2
open PySem PySem.W PySem.Spec PySem.Calls PyProof.Rows
def tTryN (K : PySem.W.Frag) (Ca : Addr) (E : St -> XK) (tb ts : TS) : TS := fun D σ H => tb D σ H /\ ∀ σ' cls H', E σ' cls none H' -> ∃ C, cls = .ref C /\ PySem.W.exmOne K (.ref C) (.ref Ca) = some true /\ ts D σ' H'
theorem r_tryN {K : PySem.W.Frag} {Ca : Addr} {E : St -> XK} {tb ts : TS} {D : Ends} {σ : St} {H : Hp} : tTryN K Ca E tb ts D σ H = (tb D σ H /\ ∀ σ' cls H', E σ' cls none H' -> ∃ C, cls = .ref C /\ PySem.W.exmOne K (.ref C) (.ref Ca) = some true /\ ts D σ' H') := rfl
theorem ps_tryN {X : Cx} {body : List Stmt} {c : Str} {Ca : Addr} {np hpos pos : Pos} {b₀ : Stmt} {suite : List Stmt} {E : St -> XK} {tb ts : TS} (hg : Gl X c) (hm : X.mg c = some (.ref Ca)) (hst : X.stack = X.env :: X.outer) (hL : X.env.frame = some X.env.locals) (hex : X.ex = [])
    (hb : ∀ xe pn, (∀ σ, PassesAt (CXe X.prog X.w) (X.body xe pn) σ (E σ)) -> PSs (X.body xe pn) body tb) (hs : ∀ ea pn, PSs (X.suite ea pn) (b₀ :: suite) ts) (hd : (c == ("__debug__" : Str)) = false := by decide) :
    PS X (.Try body [.ExceptHandler (some (.Name c np)) none (b₀ :: suite) hpos] [] [] pos) (tTryN X.K Ca E tb ts) := by
  intro pins s σ H D I h
  obtain ⟨hbody, hhand⟩ := h
  have hB := hb (fun e s' => ∃ pins' σ' H1 s1, Inv (X.body (fun _ _ => True) (X.pn ++ pins)) pins' σ' H1 s1 /\ CXe X.prog X.w X.stack H1 s1 (E σ') e s') (X.pn ++ pins) (fun σ pins' H s e s' I' hcx => ⟨pins', σ, H, s, I'.reBody, hcx⟩) [] s σ H D I.toBody hbody
  refine wpAny_Try_except (wpAny_mono hB (fun f s1 q => ?_) fun e s1 q => ?_)
  . cases f with
    | next => obtain ⟨σ1, H1, I1, q1⟩ := q; exact wpAny_execs_nil ⟨σ1, H1, I1.ofBody, q1⟩
    | brk => obtain ⟨σ1, H1, I1, q1⟩ := q; exact ⟨σ1, H1, I1.ofBody, q1⟩
    | cont => obtain ⟨σ1, H1, I1, q1⟩ := q; exact ⟨σ1, H1, I1.ofBody, q1⟩
    | ret v => obtain ⟨x1, σ1, H1, I1, r1, q1⟩ := q; exact ⟨x1, σ1, H1, I1.ofBody, r1, q1⟩
  . obtain ⟨pins', σ', H1, s2, I2, ea, cls, a0, H', B, rfl, os, bare, fl, fw, hE⟩ := q
    obtain ⟨C, rfl, hexm, hts⟩ := hhand σ' cls H' hE
    have I2' : Inv X pins σ' H1 s2 := I2.ofBody
    have fr : X.A.frames = some (X.env :: X.outer) := by rw [I.ok.frames, hst]
    have frees := fly_frees I2' fl
    have fw0 := fw
    rw [hst] at fw
    have invAt : ∀ h', Heap.FlyingW B (X.env :: X.outer) ea (.ref C) a0 h' -> s1.heap.UpToSlots h' -> Inv X pins σ' H' { s1 with heap := h' } := fun h' fw' ups => by
      have fl2 := fl.move frees fw'.1 (fun b hb o e => by
        obtain ⟨_, o', ho', nf⟩ := fw0.2.2.1.mem hb
        rw [e] at ho'; cases ho'
        exact ups b o e nf)
      exact I2'.call' (s' := { s1 with heap := h' }) os fl2.un fl2.hok bare (fun b hb => by cases hb)
    refine wpAny_looks_onW fr hL fw fun h4 held4 up4 => ?_
    refine wpAny_landsW held4 fun h5 fw5 up5 => ?_
    have I5 := invAt h5 fw5 (up4.trans up5)
    have I5m : Inv (X.suite ea (X.pn ++ pins)) [] σ' H' { s1 with heap := h5 } := I5.toSuite
    refine wpAny_handleBy_cons (codeAny_handlers_test (ld_glob (X := X.suite ea (X.pn ++ pins)) I5m hg hm ?_ hd)) (by intro q; cases q)
    have LT : PySem.W.Looks (model X.prog X.w) h5 (typeOf (.ref ea)) (.ref C) := by
      obtain ⟨ob, hob, hoc⟩ := fw5.there
      exact hoc ▸ (PySem.W.Looks.ld hob).andThen .now
    refine (PySem.W.exm_one (K := X.K) (M := model X.prog X.w) I5.kIn LT hexm) _ _ _ _ (fun b o e => e) ?_
    refine codeAny_handlers_suite ?_
    refine lands_againW fw5 fun h6 fw6 up6 => ?_
    have I6 := invAt h6 fw6 ((up4.trans up5).trans up6)
    refine wpAny_mono (hs ea (X.pn ++ pins) [] _ _ _ D I6.toSuite hts) (fun f s8 q8 => ?_) (fun _ _ z => False.elim z)
    cases f with
    | next => obtain ⟨σ8, H8, I8, q⟩ := q8; exact ⟨σ8, H8, I8.ofSuite I.ok.hd, q⟩
    | brk => obtain ⟨σ8, H8, I8, q⟩ := q8; exact ⟨σ8, H8, I8.ofSuite I.ok.hd, q⟩
    | cont => obtain ⟨σ8, H8, I8, q⟩ := q8; exact ⟨σ8, H8, I8.ofSuite I.ok.hd, q⟩
    | ret v => obtain ⟨x8, σ8, H8, I8, r8, q⟩ := q8; exact ⟨x8, σ8, H8, I8.ofSuite I.ok.hd, r8, q⟩
end L2
set_option linter.all false
namespace PrimeO
end PrimeO
set_option Elab.async false
set_option linter.all false
set_option maxRecDepth 100000
set_option maxHeartbeats 4000000
namespace L2
open PySem PySem.Spec PyProof.Rows
section
variable {X : Cx} {CX CX' : CXT} {k k' : Nat} {f f' : Addr} {fd fd' : FuncData} {ps ps' : List Str} {sp sp' : Sp} {dvs dvs' : List V} {ds ds' : List Value} {x : Str} {p pos : Pos} {e : Expr} {es : List Expr} {t : TA}
end
end L2
set_option Elab.async false
set_option linter.all false
set_option maxRecDepth 100000
set_option maxHeartbeats 4000000
namespace PySem
open Sem (wp)
open PySem.F
section
variable {prog : Program} {w : World} {A : Around} {E : Value -> Shared -> Prop} {s : Shared}
end
section
variable {prog : Program} {w : World} {A : Around} {E : Value -> Shared -> Prop} {s : Shared}
end
end PySem
set_option Elab.async false
set_option linter.all false
set_option maxRecDepth 100000
set_option maxHeartbeats 4000000
namespace L2
open PySem PySem.Spec PyProof.Rows GW
def SqB (K : PySem.W.Frag) (H : Hp) (t : Bool) (a : Addr) (xs : List V) : Prop := match t with | false => SqL K H a xs | true => SqT K H a xs
theorem SqB.mono {K : PySem.W.Frag} {H H' : Hp} {t : Bool} {a : Addr} {xs : List V} (h : SqB K H t a xs) (s : Same H H') : SqB K H' t a xs := by
  cases t
  . exact s.seq h
  . exact s.seqT h
theorem SqB.or {K : PySem.W.Frag} {H : Hp} {t : Bool} {a : Addr} {xs : List V} (h : SqB K H t a xs) : SqL K H a xs \/ SqT K H a xs := by
  cases t
  . exact .inl h
  . exact .inr h
theorem compMapB {K : PySem.W.Frag} {cp : Caps} {te : TE} {Q : VK} {σ : St} {H : Hp} {t : Bool} {a : Addr} {xs : List V} {σ' : St} (f : V -> V) (e : cp.st σ = none :: σ') (hl : SqB K H t a xs) (hz : xs.length < sizeLine) (hs : ∀ x ∈ xs, ∀ R : VK, R (f x) H -> te (some x :: σ') H R) (hd : ∀ D, H D = none -> Q (.ref D) (upd H D (.lst (xs.map f)))) :
    ((∃ xs, SqL K H a xs) /\ CompW (Itl K a) cp (gName 0) tTrue te σ H Q) \/ ((∃ xs, SqT K H a xs) /\ CompW (Itt K a) cp (gName 0) tTrue te σ H Q) := by
  cases t
  . exact .inl ⟨⟨_, hl⟩, compMapL f e hl hz hs hd⟩
  . exact .inr ⟨⟨_, hl⟩, compMapT f e hl hz hs hd⟩
end L2
set_option linter.all false
namespace Nest
def sl (row : List Int) (b i : Nat) : List Int := (row.take i).drop b
def outF (p e : Int) (s : List Int × Int) (x : Int) : List Int × Int := if x = e then (s.1, s.2 - 1) else (if s.2 = 0 then s.1 ++ [x] else s.1, if p <= x then s.2 + 1 else s.2)
def outS (p e : Int) (l : List Int) : List Int × Int := l.foldl (outF p e) ([], 0)
def outW (p e : Int) (l : List Int) : List Int := (outS p e l).1
def wd (p e : Int) (row : List Int) (i a : Nat) : List Int := outW p e (sl row (a + 1) i)
end Nest
set_option Elab.async false
set_option linter.all false
set_option maxRecDepth 100000
set_option maxHeartbeats 4000000
namespace L2
open PySem PySem.Spec PyProof.Rows GW
end L2
namespace HT
open PySem PySem.Spec PyProof.Rows L2
section
variable {prog : Program} {w : World} {A : Around} {E : Value -> Shared -> Prop} {s : Shared}
end
end HT
namespace L2
open PySem PySem.Spec PyProof.Rows GW
end L2
namespace Nest
end Nest
set_option Elab.async false
set_option linter.all false
set_option maxRecDepth 100000
set_option maxHeartbeats 4000000
namespace Mine
open PySem L2 GW GB
local macro_rules | `(tactic| walk_at "rd") => `(tactic| try simp only [↓r_seq, ↓r_next, ↓r_asg, ↓r_gname, ↓r_var, ↓r_c, ↓r_op, ↓r_un, ↓r_I, ↓r_I0, ↓r_U, ↓r_call, ↓r_cons, ↓r_nil, ↓r_ret, ↓r_drop, ↓r_if, ↓r_B, ↓r_test, ↓r_or, ↓r_not, ↓r_andV, ↓r_notV, ↓r_chain, ↓r_CB, ↓r_lst, ↓r_tup, ↓r_ixL, ↓r_ixT, ↓r_BM, ↓r_BM0, ↓r_append, ↓r_gsub, ↓r_setL, ↓r_Eq, ↓r_Ne, ↓r_iTup, ↓r_iRng1, ↓r_true, ↓r_comp, ↓r_for, ↓r_rep, ↓r_raise, ↓r_callE, ↓r_try, ↓r_unnx, ↓r_unrt, ↓r_neD, ↓r_pop, ↓r_iSeq, ↓r_tryN, r_cxK, L2.start, List.map_cons, List.map_nil, List.length_cons, List.length_nil, List.cons_append, List.nil_append, List.append_nil, List.replicate, List.getElem?_cons_zero, List.getElem?_cons_succ, List.set_cons_zero, List.set_cons_succ, Option.some.injEq, V.int.injEq, V.ref.injEq, V.bl.injEq, List.cons.injEq, and_true, true_and, and_assoc, exists_and_left, exists_eq_left', exists_eq_left, exists_eq_right, exists_eq, if_true, if_false, Bool.false_eq_true, decide_eq_true_eq, scal, Nat.reduceAdd, Nat.reduceSub, reduceCtorEq, Bool.not_true, Bool.not_false])
def top (i : Nat) : Stmt := PySem.Challenge.pw_guessroom_k52_says_made.main.body.getD i (.Pass ⟨0, 0, 0, 0⟩)
abbrev s_is_mark : Stmt := top 9
theorem sc_is_mark : FnScope ["number"] ["number"] (defScope s_is_mark) := ⟨rfl, rfl, rfl, by decide +kernel, rfl, by decide +kernel, by decide +kernel⟩
abbrev s_check_letters : Stmt := top 10
theorem sc_check_letters : FnScope ["letters"] ["letters"] (defScope s_check_letters) := ⟨rfl, rfl, rfl, by decide +kernel, rfl, by decide +kernel, by decide +kernel⟩
abbrev s_check_marks : Stmt := top 11
theorem sc_check_marks : FnScope ["marks"] ["marks"] (defScope s_check_marks) := ⟨rfl, rfl, rfl, by decide +kernel, rfl, by decide +kernel, by decide +kernel⟩
abbrev s_check_rooms : Stmt := top 12
theorem sc_check_rooms : FnScope ["rooms"] ["rooms"] (defScope s_check_rooms) := ⟨rfl, rfl, rfl, by decide +kernel, rfl, by decide +kernel, by decide +kernel⟩
abbrev s_check_ways : Stmt := top 13
theorem sc_check_ways : FnScope ["letters", "rooms", "ways", "row"] ["letters", "rooms", "ways"] (defScope s_check_ways) := ⟨rfl, rfl, rfl, by decide +kernel, rfl, by decide +kernel, by decide +kernel⟩
abbrev s_check_says : Stmt := top 15
theorem sc_check_says : FnScope ["letters", "says", "row"] ["letters", "says"] (defScope s_check_says) := ⟨rfl, rfl, rfl, by decide +kernel, rfl, by decide +kernel, by decide +kernel⟩
abbrev s_made_says : Stmt := top 16
theorem sc_made_says : FnScope ["letters", "says", "ways"] ["letters", "says", "ways"] (defScope s_made_says) := ⟨rfl, rfl, rfl, by decide +kernel, rfl, by decide +kernel, by decide +kernel⟩
abbrev s__law_cell : Stmt := top 18
theorem sc__law_cell : FnScope ["script", "k"] ["script", "k"] (defScope s__law_cell) := ⟨rfl, rfl, rfl, by decide +kernel, rfl, by decide +kernel, by decide +kernel⟩
abbrev s__law_whole : Stmt := top 19
theorem sc__law_whole : FnScope ["found"] ["found"] (defScope s__law_whole) := ⟨rfl, rfl, rfl, by decide +kernel, rfl, by decide +kernel, by decide +kernel⟩
abbrev s__law_big : Stmt := top 20
theorem sc__law_big : FnScope ["script", "k", "many"] ["script", "k"] (defScope s__law_big) := ⟨rfl, rfl, rfl, by decide +kernel, rfl, by decide +kernel, by decide +kernel⟩
abbrev s__law_mark : Stmt := top 21
theorem sc__law_mark : FnScope ["cell"] ["cell"] (defScope s__law_mark) := ⟨rfl, rfl, rfl, by decide +kernel, rfl, by decide +kernel, by decide +kernel⟩
abbrev s__law_says : Stmt := top 22
theorem sc__law_says : FnScope ["script", "at", "letters", "rooms", "says", "ways", "room", "base"] ["script", "at", "letters", "rooms"] (defScope s__law_says) := ⟨rfl, rfl, rfl, by decide +kernel, rfl, by decide +kernel, by decide +kernel⟩
abbrev s__law_rows_are : Stmt := top 23
theorem sc__law_rows_are : FnScope ["found", "due", "k", "c"] ["found", "due"] (defScope s__law_rows_are) := ⟨rfl, rfl, rfl, by decide +kernel, rfl, by decide +kernel, by decide +kernel⟩
abbrev s__law_house_is : Stmt := top 24
theorem sc__law_house_is : FnScope ["found", "due"] ["found", "due"] (defScope s__law_house_is) := ⟨rfl, rfl, rfl, by decide +kernel, rfl, by decide +kernel, by decide +kernel⟩
abbrev s__law_lists : Stmt := top 25
theorem sc__law_lists : FnScope ["house"] ["house"] (defScope s__law_lists) := ⟨rfl, rfl, rfl, by decide +kernel, rfl, by decide +kernel, by decide +kernel⟩
abbrev s__law_blank : Stmt := top 26
theorem sc__law_blank : FnScope ["letters", "rooms"] ["letters", "rooms"] (defScope s__law_blank) := ⟨rfl, rfl, rfl, by decide +kernel, rfl, by decide +kernel, by decide +kernel⟩
abbrev s__law_spoiled_shape : Stmt := top 27
theorem sc__law_spoiled_shape : FnScope ["pieces", "way", "cell", "row"] ["pieces", "way", "cell"] (defScope s__law_spoiled_shape) := ⟨rfl, rfl, rfl, by decide +kernel, rfl, by decide +kernel, by decide +kernel⟩
abbrev s__law_spoiled_number : Stmt := top 28
theorem sc__law_spoiled_number : FnScope ["pieces", "way", "cell", "row", "place", "far", "rooms"] ["pieces", "way", "cell"] (defScope s__law_spoiled_number) := ⟨rfl, rfl, rfl, by decide +kernel, rfl, by decide +kernel, by decide +kernel⟩
abbrev s__law_refused : Stmt := top 29
theorem sc__law_refused : FnScope ["pieces", "refused"] ["pieces"] (defScope s__law_refused) := ⟨rfl, rfl, rfl, by decide +kernel, rfl, by decide +kernel, by decide +kernel⟩
abbrev s__law_refused_by_any : Stmt := top 30
theorem sc__law_refused_by_any : FnScope ["pieces", "told", "e"] ["pieces"] (defScope s__law_refused_by_any) := ⟨rfl, rfl, rfl, by decide +kernel, rfl, by decide +kernel, by decide +kernel⟩
abbrev s__law_widest : Stmt := top 31
theorem sc__law_widest : FnScope ["letters", "row", "pieces"] ["letters"] (defScope s__law_widest) := ⟨rfl, rfl, rfl, by decide +kernel, rfl, by decide +kernel, by decide +kernel⟩
abbrev s_law : Stmt := top 32
theorem sc_law : FnScope ["script", "letters", "house", "pieces", "way", "cell"] ["script"] (defScope s_law) := ⟨rfl, rfl, rfl, by decide +kernel, rfl, by decide +kernel, by decide +kernel⟩
def c_check_marks_0 : Caps := [("mark", none)]
theorem nd_c_check_marks_0 : (Caps.names c_check_marks_0).Nodup := by decide +kernel
def c_check_ways_0 : Caps := [("goal", none), ("rooms", some 1)]
theorem nd_c_check_ways_0 : (Caps.names c_check_ways_0).Nodup := by decide +kernel
def c_made_says_0 : Caps := [("row", none)]
theorem nd_c_made_says_0 : (Caps.names c_made_says_0).Nodup := by decide +kernel
def c_made_says_2 : Caps := [("row", none)]
theorem nd_c_made_says_2 : (Caps.names c_made_says_2).Nodup := by decide +kernel
def c__law_says_0 : Caps := [("k", none), ("script", some 0), ("base", some 7)]
theorem nd_c__law_says_0 : (Caps.names c__law_says_0).Nodup := by decide +kernel
def c__law_says_2 : Caps := [("k", none), ("rooms", some 3), ("script", some 0), ("base", some 7), ("letters", some 2)]
theorem nd_c__law_says_2 : (Caps.names c__law_says_2).Nodup := by decide +kernel
def c__law_lists_0 : Caps := [("row", none)]
theorem nd_c__law_lists_0 : (Caps.names c__law_lists_0).Nodup := by decide +kernel
def c__law_lists_1 : Caps := [("row", none)]
theorem nd_c__law_lists_1 : (Caps.names c__law_lists_1).Nodup := by decide +kernel
def c__law_blank_0 : Caps := [("k", none), ("letters", some 0)]
theorem nd_c__law_blank_0 : (Caps.names c__law_blank_0).Nodup := by decide +kernel
def c__law_blank_1 : Caps := [("k", none), ("letters", some 0)]
theorem nd_c__law_blank_1 : (Caps.names c__law_blank_1).Nodup := by decide +kernel
structure Txt (mg : Str -> Option Value) : Prop where
  ValueError : mg "ValueError" = none
  all : mg "all" = none
  bool : mg "bool" = none
  int : mg "int" = none
  isinstance : mg "isinstance" = none
  len : mg "len" = none
  list : mg "list" = none
  max : mg "max" = none
  range : mg "range" = none
  tuple : mg "tuple" = none
structure Own (K : PySem.W.Frag) (mg : Str -> Option Value) : Prop where
  q_MOST_LETTERS : ∃ t, mg "MOST_LETTERS" = some (.int 6 t)
  q_MOST_MARK : ∃ t, mg "MOST_MARK" = some (.int 1000000000 t)
  q_MOST_ROOMS : ∃ t, mg "MOST_ROOMS" = some (.int 40 t)
structure Exs (K : PySem.W.Frag) (mg : Str -> Option Value) (C_AskError C_BadHouse C_BadWord C_BadMark : Addr) : Prop where
  m_AskError : mg "AskError" = some (.ref C_AskError)
  m_BadHouse : mg "BadHouse" = some (.ref C_BadHouse)
  m_BadWord : mg "BadWord" = some (.ref C_BadWord)
  m_BadMark : mg "BadMark" = some (.ref C_BadMark)
  x_BadHouse : PySem.W.excIn K C_BadHouse bmV "ValueError.__new__" = true
  c_BadHouse : ExcCls K C_BadHouse
  e_BadHouse : PySem.W.exmOne K (.ref C_BadHouse) (.ref C_AskError) = some true
  v_BadHouse : PySem.W.kitOne K (.ref C_BadHouse) (.type "ValueError") = some true
  ee_BadHouse : PySem.W.exmOne K (.ref C_BadHouse) (.ref C_BadHouse) = some true
  k_BadHouse_AskError : PySem.W.kitOne K (.ref C_BadHouse) (.ref C_AskError) = some true
  k_BadHouse_BadHouse : PySem.W.kitOne K (.ref C_BadHouse) (.ref C_BadHouse) = some true
  k_BadHouse_BadWord : PySem.W.kitOne K (.ref C_BadHouse) (.ref C_BadWord) = some false
  k_BadHouse_BadMark : PySem.W.kitOne K (.ref C_BadHouse) (.ref C_BadMark) = some false
section
variable {P : Program} {w : World} {K : PySem.W.Frag} {mg : Str -> Option Value} {base : Heap}
variable {C_AskError C_BadHouse C_BadWord C_BadMark : Addr}
def sp_is_mark : Sp := fun vs H Q _ => ∃ n : Int, vs = [.int n] /\ Q (.bl (decide (0 <= n) && decide (n <= 1000000000))) H
theorem ok_is_mark {f : Addr} {fd : FuncData} (F : Fun K "is_mark" "is_mark" s_is_mark f fd) (T : Txt mg)
    (W : Own K mg)
    (Z : Exs K mg C_AskError C_BadHouse C_BadWord C_BadMark)
    : FnOk P w K mg base CX0 1 f fd ["number"] (sp_is_mark) := by
  refine F.ok sc_is_mark (fun vs H Q E h => ?_) (fun cdv A outer s H vs Q E hr h => ?_)
  . obtain ⟨n, rfl, _⟩ := h; rfl
  . obtain ⟨n, rfl, k⟩ := h
    refine ⟨_, (pss_one (ps_ret (pe_chain op_le op_le pe_int (pv 0) (pe_gc rfl W.q_MOST_MARK)))), ?_⟩
    walk_at "rd"
    by_cases h0 : 0 <= n
    . simp only [h0, if_true]
      simpa [h0] using k
    . simp only [h0, if_false]
      simpa [h0] using k
theorem forB {K : PySem.W.Frag} {t : Bool} {a : Addr} {xs : List V} {g : TG} {tb : TS} {D : Ends} {σ : St} {H : Hp} (Pv : Nat -> St -> Hp -> Prop) (h0 : Pv 0 σ H) (hl : ∀ i σ H, i <= xs.length -> Pv i σ H -> SqB K H t a xs)
    (hs : ∀ i x σ H, xs[i]? = some x -> Pv i σ H -> g x σ H fun σ2 H2 => tb { D with nx := Pv (i + 1), ct := Pv (i + 1), bk := D.nx } σ2 H2) (hd : ∀ σ H, Pv xs.length σ H -> D.nx σ H) : ((∃ xs, SqL K H a xs) /\ ForW (Itl K a) g tb D σ H) \/ ((∃ xs, SqT K H a xs) /\ ForW (Itt K a) g tb D σ H) := by
  cases t
  . exact .inl ⟨⟨_, hl 0 σ H (Nat.zero_le _) h0⟩, forL Pv h0 hl hs hd⟩
  . exact .inr ⟨⟨_, hl 0 σ H (Nat.zero_le _) h0⟩, forT Pv h0 hl hs hd⟩
def RowsB (K : PySem.W.Frag) (H : Hp) (xs : List V) (ws : List (List Int)) : Prop := xs.length = ws.length /\ ∀ (i : Nat) (r : List Int), ws[i]? = some r -> ∃ (t : Bool) (a : Addr), xs[i]? = some (.ref a) /\ SqB K H t a (r.map V.int)
theorem RowsB.mono {K : PySem.W.Frag} {H H' : Hp} {xs : List V} {ws : List (List Int)} (h : RowsB K H xs ws) (s : Same H H') : RowsB K H' xs ws := by
  refine ⟨h.1, fun i r hi => ?_⟩
  obtain ⟨t, a, e, b⟩ := h.2 i r hi
  exact ⟨t, a, e, b.mono s⟩
theorem RowsB.at {K : PySem.W.Frag} {H : Hp} {xs : List V} {ws : List (List Int)} (h : RowsB K H xs ws) {i : Nat} {x : V} (hx : xs[i]? = some x) : ∃ (r : List Int) (t : Bool) (a : Addr), ws[i]? = some r /\ x = .ref a /\ SqB K H t a (r.map V.int) := by
  have hi : i < ws.length := by rw [<- h.1]; exact (List.getElem?_eq_some_iff.mp hx).1
  obtain ⟨t, a, e, b⟩ := h.2 i ws[i] (by simp [hi])
  rw [hx] at e
  exact ⟨ws[i], t, a, by simp [hi], Option.some.inj e, b⟩
def mkB (n : Int) : Bool := decide (0 <= n) && decide (n <= 1000000000)
def okM (ms : List Int) : Bool := ms.all mkB
def goB (n g : Int) : Bool := decide (0 <= g) && decide (g < n)
def okR (L n : Int) (r : List Int) : Bool := decide ((r.length : Int) = L) && r.all (goB n)
def sp_chl (BH : Addr) : Sp := fun vs H Q E => ∃ L : Int, vs = [.int L] /\ ((decide (1 <= L) && decide (L <= 6)) = true -> Q .non H) /\ ((decide (1 <= L) && decide (L <= 6)) = false -> E (.ref BH) none H)
theorem ok_check_letters {f : Addr} {fd : FuncData} (F : Fun K "check_letters" "check_letters" s_check_letters f fd) (T : Txt mg)
    (W : Own K mg)
    (Z : Exs K mg C_AskError C_BadHouse C_BadWord C_BadMark)
    : FnOk P w K mg base (CXe P w) 1 f fd ["letters"] (sp_chl C_BadHouse) := by
  refine F.okE sc_check_letters (fun vs H Q E h => ?_) (fun cdv A outer s H vs Q E hr h => ?_)
  . obtain ⟨L, rfl, _⟩ := h; rfl
  . obtain ⟨L, rfl, k, kE⟩ := h
    have hl := line1000
    refine ⟨_, (pss_one (ps_if (pt_not (pt_chain op_le op_le pe_int (pv 0) (pe_gc rfl W.q_MOST_LETTERS)))
      (pss_one (ps_raise Z.m_BadHouse Z.x_BadHouse rfl rfl (pa_cons pe_str pa_nil)))
      pss_nil)), ?_⟩
    walk_at "rd"
    by_cases h1 : 1 <= L
    . rw [if_pos h1]
      by_cases h6 : L <= 6
      . rw [if_neg (by simp [h6])]; exact k (by simp [h1, h6])
      . rw [if_pos (by simp [h6])]; exact ⟨by omega, kE (by simp [h6])⟩
    . rw [if_neg h1]; exact ⟨by omega, kE (by simp [h1])⟩
def sp_chr (BH : Addr) : Sp := fun vs H Q E => ∃ n : Nat, vs = [.int n] /\ ((decide (1 <= n) && decide (n <= 40)) = true -> Q .non H) /\ ((decide (1 <= n) && decide (n <= 40)) = false -> E (.ref BH) none H)
theorem ok_check_rooms {f : Addr} {fd : FuncData} (F : Fun K "check_rooms" "check_rooms" s_check_rooms f fd) (T : Txt mg)
    (W : Own K mg)
    (Z : Exs K mg C_AskError C_BadHouse C_BadWord C_BadMark)
    : FnOk P w K mg base (CXe P w) 1 f fd ["rooms"] (sp_chr C_BadHouse) := by
  refine F.okE sc_check_rooms (fun vs H Q E h => ?_) (fun cdv A outer s H vs Q E hr h => ?_)
  . obtain ⟨L, rfl, _⟩ := h; rfl
  . obtain ⟨L, rfl, k, kE⟩ := h
    have hl := line1000
    refine ⟨_, (pss_one (ps_if (pt_not (pt_chain op_le op_le pe_int (pv 0) (pe_gc rfl W.q_MOST_ROOMS)))
      (pss_one (ps_raise Z.m_BadHouse Z.x_BadHouse rfl rfl (pa_cons pe_str pa_nil)))
      pss_nil)), ?_⟩
    walk_at "rd"
    by_cases h1 : 1 <= L
    . rw [if_pos (by omega)]
      by_cases h6 : L <= 40
      . rw [if_neg (by simp; omega)]; exact k (by simp [h1, h6])
      . rw [if_pos (by simp; omega)]; exact ⟨by omega, kE (by simp [h6])⟩
    . rw [if_neg (by omega)]; exact ⟨by omega, kE (by simp [h1])⟩
def sp_chm (K : PySem.W.Frag) (BH : Addr) : Sp := fun vs H Q E => ∃ (t : Bool) (a : Addr) (ms : List Int), vs = [.ref a] /\ SqB K H t a (ms.map V.int) /\ ms.length <= 900 /\ (okM ms = true -> ∀ H', Same H H' -> Q .non H') /\ (okM ms = false -> ∀ H', Same H H' -> E (.ref BH) none H')
theorem ok_check_marks {f : Addr} {fd : FuncData} (F : Fun K "check_marks" "check_marks" s_check_marks f fd) (T : Txt mg)
    (W : Own K mg)
    (Z : Exs K mg C_AskError C_BadHouse C_BadWord C_BadMark)
    {f_is_mark : Addr} {fd_is_mark : FuncData} (g_is_mark : FnOk P w K mg base CX0 1 f_is_mark fd_is_mark ["number"] (sp_is_mark)) (F_is_mark : Fun K "is_mark" "is_mark" s_is_mark f_is_mark fd_is_mark) (b_is_mark : Binds K fd_is_mark ["number"] []) (m_is_mark : mg "is_mark" = some (.ref f_is_mark))
    : FnOk P w K mg base (CXe P w) 2 f fd ["marks"] (sp_chm K C_BadHouse) := by
  refine F.okE sc_check_marks (fun vs H Q E h => ?_) (fun cdv A outer s H vs Q E hr h => ?_)
  . obtain ⟨t, a, ms, rfl, _⟩ := h; rfl
  . obtain ⟨t, a, ms, rfl, ha, hz, k, kE⟩ := h
    have hl := line1000
    refine ⟨_, (pss_one (ps_if (pt_not (pt_val (pe_callB (call_all rfl) rfl T.all PyProof.Rows.boot_all (pa_cons (pe_comp rfl (blk_mk rfl) (cp := c_check_marks_0) True.intro (pi_seq (pv 0)) (fun _ _ _ _ => (pg_name (i := 0) nd_c_check_marks_0 rfl (Or.inl rfl))) (fun _ _ _ _ => pf_nil) (fun _ _ _ _ => (pe_call g_is_mark (hr.mono (by decide)) rfl m_is_mark F_is_mark.kp b_is_mark .nil pass0 (pa_cons (pv 0) pa_nil)))) pa_nil))))
      (pss_one (ps_raise Z.m_BadHouse Z.x_BadHouse rfl rfl (pa_cons pe_str pa_nil)))
      pss_nil)), ?_⟩
    walk_at "rd"
    refine compMapB (σ' := []) (fun x => match x with | .int n => .bl (mkB n) | _ => .non) rfl ha (by rw [List.length_map]; omega) (fun x hx R hR => ?_) (fun D hD => ?_)
    . obtain ⟨n, _, rfl⟩ := mem_mapI hx
      walk_at "rd"
      exact ⟨n, rfl, hR⟩
    . refine ⟨D, rfl, ms.map mkB, SqL.of ?_, ?_⟩
      . rw [upd_same, List.map_map, List.map_map]; rfl
      rw [List.all_map]
      cases hv : okM ms with
      | true =>
        rw [if_neg (by rw [show ms.all (id ∘ mkB) = true from hv]; decide)]
        exact k hv _ (Same.new hD)
      | false =>
        rw [if_pos (by rw [show ms.all (id ∘ mkB) = false from hv]; decide)]
        exact ⟨by omega, kE hv _ (Same.new hD)⟩
def sp_chw (K : PySem.W.Frag) (BH : Addr) : Sp := fun vs H Q E => ∃ (t : Bool) (a : Addr) (L : Int) (n : Nat) (xs : List V) (ws : List (List Int)), vs = [.int L, .int n, .ref a] /\ SqB K H t a xs /\ RowsB K H xs ws /\ (∀ r ∈ ws, r.length <= 900) /\ ((decide (ws.length = n) && ws.all (okR L n)) = true -> ∀ H', Same H H' -> Q .non H') /\ ((decide (ws.length = n) && ws.all (okR L n)) = false -> ∀ H', Same H H' -> E (.ref BH) none H')
theorem ok_check_ways {f : Addr} {fd : FuncData} (F : Fun K "check_ways" "check_ways" s_check_ways f fd) (T : Txt mg)
    (W : Own K mg)
    (Z : Exs K mg C_AskError C_BadHouse C_BadWord C_BadMark)
    : FnOk P w K mg base (CXe P w) 1 f fd ["letters", "rooms", "ways"] (sp_chw K C_BadHouse) := by
  refine F.okE sc_check_ways (fun vs H Q E h => ?_) (fun cdv A outer s H vs Q E hr h => ?_)
  . obtain ⟨t, a, L, n, xs, ws, rfl, _⟩ := h; rfl
  . obtain ⟨t, a, L, n, xs, ws, rfl, ha, hr, hz, k, kE⟩ := h
    have hl := line1000
    refine ⟨_, (pss_cons (ps_if (pt_cmpR op_ne (pe_callB call_len_seq (by rfl) T.len PySem.boot_len (pa_cons (pv 2) pa_nil)) (pv 1) (nomark _))
      (pss_one (ps_raise Z.m_BadHouse Z.x_BadHouse rfl rfl (pa_cons pe_str pa_nil)))
      pss_nil)
      (pss_one (ps_for PassesOwn.leaving rfl (pi_seq (pv 2)) (pg_name (i := 3) sc_check_ways.nd rfl (Or.inl rfl))
      (pss_cons (ps_if (pt_cmpR op_ne (pe_callB call_len_seq (by rfl) T.len PySem.boot_len (pa_cons (pv 3) pa_nil)) (pv 0) (nomark _))
      (pss_one (ps_raise Z.m_BadHouse Z.x_BadHouse rfl rfl (pa_cons pe_str pa_nil)))
      pss_nil)
      (pss_one (ps_if (pt_not (pt_val (pe_callB (call_all rfl) rfl T.all PyProof.Rows.boot_all (pa_cons (pe_comp rfl (blk_mk rfl) (cp := c_check_ways_0) ⟨⟨rfl, rfl⟩, True.intro⟩ (pi_seq (pv 3)) (fun _ _ _ _ => (pg_name (i := 0) nd_c_check_ways_0 rfl (Or.inl rfl))) (fun _ _ _ _ => pf_nil) (fun _ _ _ _ => (pe_chain op_le op_lt pe_int (pv 0) (pv 1)))) pa_nil))))
      (pss_one (ps_raise Z.m_BadHouse Z.x_BadHouse rfl rfl (pa_cons pe_str pa_nil)))
      pss_nil)))))), ?_⟩
    walk_at "rd"
    refine ⟨_, ha.or, ?_⟩
    rw [hr.1]
    by_cases hn : ws.length = n
    . rw [if_neg (by simp; omega)]
      rw [decide_eq_true hn, Bool.true_and] at k kE
      obtain ⟨Pv, hPv⟩ : ∃ Pv : Nat -> St -> Hp -> Prop, ∀ i σ' H', Pv i σ' H' ↔ (Same H H' /\ (ws.take i).all (okR L n) = true /\ ∃ o, σ' = [some (.int L), some (.int n), some (.ref a), o]) := ⟨_, fun _ _ _ => Iff.rfl⟩
      refine forB (t := t) (xs := xs) Pv ((hPv _ _ _).mpr ⟨Same.refl _, by simp, none, rfl⟩) (fun i σ' H' _ h' => ha.mono ((hPv _ _ _).mp h').1) (fun i x σ' H' hx h' => ?_) (fun σ' H' h' => ?_)
      . obtain ⟨s1, hall, o, rfl⟩ := (hPv _ _ _).mp h'
        obtain ⟨r, t', a', hri, rfl, hB⟩ := (hr.mono s1).at hx
        have hz' := hz r (List.mem_of_getElem? hri)
        have hbad : okR L n r = false -> ws.all (okR L n) = false := fun hb => by
          rw [List.all_eq_false]
          exact ⟨r, List.mem_of_getElem? hri, by rw [hb]; decide⟩
        walk_at "rd"
        refine ⟨_, hB.or, ?_⟩
        rw [List.length_map]
        by_cases hL : (r.length : Int) = L
        . rw [if_neg (by simp [hL])]
          refine compMapB (σ' := [some (.int n)]) (fun x => match x with | .int g => .bl (goB n g) | _ => .non) rfl hB (by rw [List.length_map]; omega) (fun x hx R hR => ?_) (fun D hD => ?_)
          . obtain ⟨g, _, rfl⟩ := mem_mapI hx
            walk_at "rd"
            by_cases h0 : 0 <= g
            . simp only [h0, if_true]
              simpa [goB, h0] using hR
            . simp only [h0, if_false]
              simpa [goB, h0] using hR
          . refine ⟨D, rfl, r.map (goB n), SqL.of ?_, ?_⟩
            . rw [upd_same, List.map_map, List.map_map]; rfl
            rw [List.all_map]
            have e1 : okR L n r = r.all (id ∘ goB n) := by unfold okR; rw [decide_eq_true hL, Bool.true_and]; rfl
            cases hv : okR L n r with
            | true =>
              rw [if_neg (by rw [<- e1, hv]; decide)]
              refine (hPv _ _ _).mpr ⟨s1.newT hD, ?_, _, rfl⟩
              rw [List.take_add_one, hri, List.all_append, hall]
              simp [hv]
            | false =>
              rw [if_pos (by rw [<- e1, hv]; decide)]
              exact ⟨by omega, kE (hbad hv) _ (s1.newT hD)⟩
        . rw [if_pos (by simp [hL])]
          exact ⟨by omega, kE (hbad (by unfold okR; rw [decide_eq_false hL]; rfl)) _ s1⟩
      . obtain ⟨s1, hall, o, rfl⟩ := (hPv _ _ _).mp h'
        rw [hr.1, List.take_length] at hall
        exact k hall _ s1
    . rw [if_pos (by simp; omega)]
      exact ⟨by omega, kE (by simp [hn]) _ (Same.refl _)⟩
theorem compB {K : PySem.W.Frag} {cp : Caps} {g : TG} {tc : TT} {te : TE} {Q : VK} {σ : St} {H : Hp} {t : Bool} {a : Addr} {xs : List V} (Pv : Nat -> List V -> St -> Hp -> Prop) (h0 : Pv 0 [] (cp.st σ) H) (hz : xs.length < sizeLine)
    (hl : ∀ i ys σ H, i <= xs.length -> Pv i ys σ H -> SqB K H t a xs /\ ys.length <= i) (hl0 : SqB K H t a xs)
    (hs : ∀ i x ys σ H, xs[i]? = some x -> Pv i ys σ H -> g x σ H fun σ2 H2 => tc σ2 H2 fun b H3 => if b = true then te σ2 H3 fun v H4 => Pv (i + 1) (ys ++ [v]) σ2 H4 else Pv (i + 1) ys σ2 H3)
    (hd : ∀ ys σ H, Pv xs.length ys σ H -> ∀ D, H D = none -> Q (.ref D) (upd H D (.lst ys))) : ((∃ xs, SqL K H a xs) /\ CompW (Itl K a) cp g tc te σ H Q) \/ ((∃ xs, SqT K H a xs) /\ CompW (Itt K a) cp g tc te σ H Q) := by
  cases t
  . exact .inl ⟨⟨_, hl0⟩, compL Pv h0 hz hl hs hd⟩
  . exact .inr ⟨⟨_, hl0⟩, compT Pv h0 hz hl hs hd⟩
def RowsT (K : PySem.W.Frag) (H : Hp) (zs : List V) (ws : List (List Int)) : Prop := zs.length = ws.length /\ ∀ (i : Nat) (r : List Int), ws[i]? = some r -> ∃ c, zs[i]? = some (.ref c) /\ SqT K H c (r.map V.int)
theorem RowsT.nil {K : PySem.W.Frag} {H : Hp} : RowsT K H [] [] := ⟨rfl, fun i r h => by simp at h⟩
theorem RowsT.mono {K : PySem.W.Frag} {H H' : Hp} {xs : List V} {ws : List (List Int)} (h : RowsT K H xs ws) (s : Same H H') : RowsT K H' xs ws := by
  refine ⟨h.1, fun i r hi => ?_⟩
  obtain ⟨a, e, b⟩ := h.2 i r hi
  exact ⟨a, e, s.seqT b⟩
theorem RowsT.snoc {K : PySem.W.Frag} {H : Hp} {xs : List V} {rws : List (List Int)} {t : Addr} {r : List Int} (h : RowsT K H xs rws) (ht : SqT K H t (r.map V.int)) : RowsT K H (xs ++ [.ref t]) (rws ++ [r]) := by
  refine ⟨by simp [h.1], fun i r' hi => ?_⟩
  by_cases hl : i < rws.length
  . rw [List.getElem?_append_left hl] at hi
    rw [List.getElem?_append_left (by rw [h.1]; exact hl)]
    exact h.2 i r' hi
  . have := (List.getElem?_eq_some_iff.mp hi).1
    rw [List.length_append, List.length_singleton] at this
    have e : i = rws.length := by omega
    subst e
    rw [List.getElem?_append_right (Nat.le_refl _), Nat.sub_self] at hi
    simp at hi
    subst hi
    exact ⟨t, by rw [<- h.1]; simp, ht⟩
theorem compTB {K : PySem.W.Frag} {cp : Caps} {σ : St} {H : Hp} {G : VK} {t : Bool} {b : Addr} {xs : List V} {ws : List (List Int)} (e : cp.st σ = [none]) (hb : SqB K H t b xs) (hR : RowsB K H xs ws) (hz : ws.length <= 900) (hG : ∀ (zs : List V) (H4 : Hp) (D : Addr), Same H H4 -> RowsT K H4 zs ws -> H4 D = none -> G (.ref D) (upd H4 D (.lst zs))) : ((∃ xs, SqL K H b xs) /\ CompW (Itl K b) cp (gName 0) tTrue (tCB (fun xs H Q => ∃ p, xs = [V.ref p] /\ ∃ x, (SqL K H p x /\ ∀ (l : Addr), H l = none -> Q (V.ref l) (upd H l (HO.tup x))) \/ SqT K H p x /\ Q (V.ref p) H) (tCons (tVar 0) tNil)) σ H G) \/ ((∃ xs, SqT K H b xs) /\ CompW (Itt K b) cp (gName 0) tTrue (tCB (fun xs H Q => ∃ p, xs = [V.ref p] /\ ∃ x, (SqL K H p x /\ ∀ (l : Addr), H l = none -> Q (V.ref l) (upd H l (HO.tup x))) \/ SqT K H p x /\ Q (V.ref p) H) (tCons (tVar 0) tNil)) σ H G) := by
  have hl := line1000
  refine compB (t := t) (xs := xs) (fun i zs σ' H' => Same H H' /\ RowsT K H' zs (ws.take i) /\ ∃ o, σ' = [o]) ⟨Same.refl _, RowsT.nil, none, e⟩ (by rw [hR.1]; omega) (fun i ys σ' H' hi h' => ⟨hb.mono h'.1, by rw [h'.2.1.1, List.length_take]; omega⟩) hb (fun i x zs σ' H' hx h' => ?_) (fun zs σ' H' h' D hD => ?_)
  . obtain ⟨s4, hT, o, rfl⟩ := h'
    obtain ⟨r, t', a', hri, rfl, hB⟩ := (hR.mono s4).at hx
    have et : ws.take (i + 1) = ws.take i ++ [r] := by rw [List.take_add_one, hri]; rfl
    walk_at "rd"
    cases t' with
    | false => exact ⟨_, .inl ⟨hB, fun l hl => ⟨s4.newT hl, by rw [et]; exact (hT.mono (Same.new hl)).snoc (SqT.of upd_same), _, rfl⟩⟩⟩
    | true => exact ⟨_, .inr ⟨hB, ⟨s4, by rw [et]; exact hT.snoc hB, _, rfl⟩⟩⟩
  . obtain ⟨s4, hT, o, rfl⟩ := h'
    rw [hR.1, List.take_length] at hT
    exact hG zs H' D s4 hT hD
def cell (ns : List Int) (k : Nat) : Int := ns.getD k 0
def sp_cell (K : PySem.W.Frag) : Sp := fun vs H Q _ => ∃ (a : Addr) (ns : List Int) (k : Nat), vs = [.ref a, .int k] /\ SqL K H a (ns.map V.int) /\ Q (.int (cell ns k)) H
theorem ok__law_cell {f : Addr} {fd : FuncData} (F : Fun K "_law_cell" "_law_cell" s__law_cell f fd) (T : Txt mg)
    (W : Own K mg)
    (Z : Exs K mg C_AskError C_BadHouse C_BadWord C_BadMark)
    : FnOk P w K mg base CX0 1 f fd ["script", "k"] (sp_cell K) := by
  refine F.ok sc__law_cell (fun vs H Q E h => ?_) (fun cdv A outer s H vs Q E hr h => ?_)
  . obtain ⟨a, ns, k, rfl, _⟩ := h; rfl
  . obtain ⟨a, ns, k, rfl, hs, q⟩ := h
    refine ⟨_, (pss_cons (ps_if (pt_cmpR op_lt (pv 1) (pe_callB call_len_seq (by rfl) T.len PySem.boot_len (pa_cons (pv 0) pa_nil)) (nomark _))
      (pss_one (ps_ret (pe_ix ix_list (pv 0) (pv 1) (fun _ _ => rfl))))
      pss_nil)
      (pss_one (ps_ret pe_int))), ?_⟩
    walk_at "rd"
    refine ⟨_, .inl hs, ?_⟩
    rw [List.length_map]
    refine ite2 (fun hk => ?_) (fun hk => ?_)
    . have hk' : k < ns.length := by simpa using hk
      refine ⟨_, hs, V.int (cell ns k), ?_, q⟩
      refine atI_nat ?_
      rw [List.getElem?_map]
      unfold cell
      rw [List.getD_eq_getElem?_getD]
      simp [hk']
    . have hk' : ¬ k < ns.length := by simpa using hk
      have : cell ns k = 0 := by
        unfold cell
        rw [List.getD_eq_getElem?_getD, List.getElem?_eq_none (by omega)]; rfl
      rw [<- this]
      exact q
def sp_whole : Sp := fun vs H Q _ => ∃ n : Int, vs = [.int n] /\ Q (.bl true) H
theorem ok__law_whole {f : Addr} {fd : FuncData} (F : Fun K "_law_whole" "_law_whole" s__law_whole f fd) (T : Txt mg)
    (W : Own K mg)
    (Z : Exs K mg C_AskError C_BadHouse C_BadWord C_BadMark)
    : FnOk P w K mg base CX0 1 f fd ["found"] (sp_whole) := by
  refine F.ok sc__law_whole (fun vs H Q E h => ?_) (fun cdv A outer s H vs Q E hr h => ?_)
  . obtain ⟨n, rfl, _⟩ := h; rfl
  . obtain ⟨n, rfl, q⟩ := h
    refine ⟨_, (pss_one (ps_ret (pe_and (pe_callB call_isinstW rfl T.isinstance PyProof.Rows.boot_isinstance (pa_cons (pv 0) (pa_cons (pe_bltn (v := .ty "int") rfl T.int PyProof.Rows.boot_int rfl) pa_nil))) (pe_one (pe_not (pe_callB call_isinstW rfl T.isinstance PyProof.Rows.boot_isinstance (pa_cons (pv 0) (pa_cons (pe_bltn (v := .ty "bool") rfl T.bool PyProof.Rows.boot_bool rfl) pa_nil)))))))), ?_⟩
    walk_at "rd"
    refine ⟨_, _, .int _, rel_ty, _, kit_self, ?_⟩
    rw [if_pos rfl]
    refine ⟨_, _, .int _, rel_ty, _, kit_int_bool, ?_⟩
    exact q
def sp_big (K : PySem.W.Frag) : Sp := fun vs H Q _ => ∃ (a : Addr) (ns : List Int) (k : Int), vs = [.ref a, .int k] /\ SqL K H a (ns.map V.int) /\ ns.length <= 63 /\ 0 <= k /\ k <= 100000 /\ ∀ x, Q (.int x) H
theorem ok__law_big {f : Addr} {fd : FuncData} (F : Fun K "_law_big" "_law_big" s__law_big f fd) (T : Txt mg)
    (W : Own K mg)
    (Z : Exs K mg C_AskError C_BadHouse C_BadWord C_BadMark)
    {f__law_cell : Addr} {fd__law_cell : FuncData} (g__law_cell : FnOk P w K mg base CX0 1 f__law_cell fd__law_cell ["script", "k"] (sp_cell K)) (F__law_cell : Fun K "_law_cell" "_law_cell" s__law_cell f__law_cell fd__law_cell) (b__law_cell : Binds K fd__law_cell ["script", "k"] []) (m__law_cell : mg "_law_cell" = some (.ref f__law_cell))
    : FnOk P w K mg base CX0 2 f fd ["script", "k"] (sp_big K) := by
  refine F.ok sc__law_big (fun vs H Q E h => ?_) (fun cdv A outer s H vs Q E hr h => ?_)
  . obtain ⟨a, ns, k, rfl, _⟩ := h; rfl
  . obtain ⟨a, ns, k, rfl, hs, hz, k0, k1, q⟩ := h
    refine ⟨_, (pss_cons (ps_if (pt_cmpR op_lt (pv 1) (pe_callB call_len_seq (by rfl) T.len PySem.boot_len (pa_cons (pv 0) pa_nil)) (nomark _))
      (pss_one (ps_ret (pe_ix ix_list (pv 0) (pv 1) (fun _ _ => rfl))))
      pss_nil)
      (pss_cons (ps_set (i := 2) sc__law_big.nd rfl (Or.inl rfl) (pe_callB (call_max2 rfl) rfl T.max PyProof.Rows.boot_max (pa_cons pe_int (pa_cons (pe_callB call_len_seq (by rfl) T.len PySem.boot_len (pa_cons (pv 0) pa_nil)) pa_nil))))
      (pss_one (ps_ret (pe_op op_mod (pe_op op_add (pe_op op_add (pe_op op_mul (pe_op op_mod (pe_call g__law_cell (hr.mono (by decide)) rfl m__law_cell F__law_cell.kp b__law_cell .nil pass0 (pa_cons (pv 0) (pa_cons (pe_op op_mod (pv 1) (pv 2)) pa_nil))) pe_int) pe_int) (pe_op op_mul (pe_op op_mul (pv 1) (pv 1)) pe_int)) (pe_op op_mul pe_int (pv 1))) pe_int))))), ?_⟩
    walk_at "rd"
    refine ⟨_, .inl hs, ?_⟩
    rw [List.length_map]
    refine ite2 (fun hk => ?_) (fun hk => ?_)
    . have hk' : k.toNat < ns.length := by omega
      exact ⟨_, hs, _, atI_int k0 (v := ns[k.toNat]) (by simp [hk']), q _⟩
    . have hm : (0 : Int) < if ((ns.map V.int).length : Int) > 1 then ((ns.map V.int).length : Int) else 1 := by split <;> omega
      have r0 := Int.emod_nonneg k (show (if ((ns.map V.int).length : Int) > 1 then ((ns.map V.int).length : Int) else 1) ≠ 0 by omega)
      refine ⟨_, .inl hs, hm, a, ns, (k % if ((ns.map V.int).length : Int) > 1 then ((ns.map V.int).length : Int) else 1).toNat, by rw [Int.toNat_of_nonneg r0], hs, _, rfl, by decide, .inr ⟨by decide, by decide⟩, .inl ⟨by omega, by omega⟩, .inr ⟨by decide, by decide⟩, .inl ⟨by decide, by decide⟩, by decide, q _⟩
def sp_mark53 : Sp := fun vs H Q _ => ∃ c : Int, vs = [.int c] /\ ∀ x, 0 <= x -> x <= 1000000000 -> Q (.int x) H
theorem ok__law_mark {f : Addr} {fd : FuncData} (F : Fun K "_law_mark" "_law_mark" s__law_mark f fd) (T : Txt mg)
    (W : Own K mg)
    (Z : Exs K mg C_AskError C_BadHouse C_BadWord C_BadMark)
    : FnOk P w K mg base CX0 1 f fd ["cell"] (sp_mark53) := by
  refine F.ok sc__law_mark (fun vs H Q E h => ?_) (fun cdv A outer s H vs Q E hr h => ?_)
  . obtain ⟨c, rfl, _⟩ := h; rfl
  . obtain ⟨c, rfl, k⟩ := h
    refine ⟨_, (pss_cons (ps_if (pt_cmpR op_eq (pe_op op_mod (pv 0) pe_int) pe_int (nomark _))
      (pss_one (ps_ret pe_int))
      pss_nil)
      (pss_cons (ps_if (pt_cmpR op_eq (pe_op op_mod (pv 0) pe_int) pe_int (nomark _))
      (pss_one (ps_ret (pe_op op_mod (pe_op op_fdiv (pv 0) pe_int) pe_int)))
      pss_nil)
      (pss_one (ps_ret (pe_op op_mod (pe_op op_fdiv (pv 0) pe_int) pe_int))))), ?_⟩
    walk_at "rd"
    have a0 := Int.emod_nonneg (c / 4) (show (1000000001 : Int) ≠ 0 by decide)
    have a1 := Int.emod_lt_of_pos (c / 4) (show (0 : Int) < 1000000001 by decide)
    have b0 := Int.emod_nonneg (c / 4) (show (2 : Int) ≠ 0 by decide)
    have b1 := Int.emod_lt_of_pos (c / 4) (show (0 : Int) < 2 by decide)
    exact ⟨by decide, ite2 (fun _ => k _ (by omega) (by omega)) (fun _ => ⟨by decide, ite2 (fun _ => ⟨⟨by decide, by decide⟩, by decide, k _ a0 (by omega)⟩) (fun _ => ⟨⟨by decide, by decide⟩, by decide, k _ b0 (by omega)⟩)⟩)⟩
def SaysH (K : PySem.W.Frag) (H : Hp) (h : Addr) (L : Int) (says ways : List (List Int)) : Prop := ∃ m wv : Addr, SqT K H h [.int L, .ref m, .ref wv] /\ Rows K H m says /\ Rows K H wv ways
theorem SaysH.mono {K : PySem.W.Frag} {H H' : Hp} {h : Addr} {L : Int} {says ways : List (List Int)} (x : SaysH K H h L says ways) (e : Same H H') : SaysH K H' h L says ways := by
  obtain ⟨m, wv, h1, h2, h3⟩ := x
  exact ⟨m, wv, e.seqT h1, h2.mono e, h3.mono e⟩
structure WfS (L : Int) (says ways : List (List Int)) : Prop where
  wf : Wf L (List.replicate says.length 0) ways
  sr : ∀ row ∈ says, (row.length : Int) = L
def sp_says53 (K : PySem.W.Frag) : Sp := fun vs H Q _ => ∃ (a : Addr) (ns : List Int) (c : Int) (L n : Nat), vs = [.ref a, .int c, .int L, .int n] /\ SqL K H a (ns.map V.int) /\ ns.length <= 63 /\ 0 <= c /\ c <= 1000 /\ 1 <= L /\ L <= 6 /\ 1 <= n /\ n <= 40 /\ ∀ h says ways H', Same H H' -> SaysH K H' h L says ways -> WfS L says ways -> says.length = n -> (∀ row ∈ says, ∀ x ∈ row, 0 <= x /\ x <= 1000000000) -> Q (.ref h) H'
theorem ok__law_says {f : Addr} {fd : FuncData} (F : Fun K "_law_says" "_law_says" s__law_says f fd) (T : Txt mg)
    (W : Own K mg)
    (Z : Exs K mg C_AskError C_BadHouse C_BadWord C_BadMark)
    {f__law_big : Addr} {fd__law_big : FuncData} (g__law_big : FnOk P w K mg base CX0 2 f__law_big fd__law_big ["script", "k"] (sp_big K)) (F__law_big : Fun K "_law_big" "_law_big" s__law_big f__law_big fd__law_big) (b__law_big : Binds K fd__law_big ["script", "k"] []) (m__law_big : mg "_law_big" = some (.ref f__law_big))
    {f__law_mark : Addr} {fd__law_mark : FuncData} (g__law_mark : FnOk P w K mg base CX0 1 f__law_mark fd__law_mark ["cell"] (sp_mark53)) (F__law_mark : Fun K "_law_mark" "_law_mark" s__law_mark f__law_mark fd__law_mark) (b__law_mark : Binds K fd__law_mark ["cell"] []) (m__law_mark : mg "_law_mark" = some (.ref f__law_mark))
    : FnOk P w K mg base CX0 3 f fd ["script", "at", "letters", "rooms"] (sp_says53 K) := by
  refine F.ok sc__law_says (fun vs H Q E h => ?_) (fun cdv A outer s H vs Q E hr h => ?_)
  . obtain ⟨a, ns, c, L, n, rfl, _⟩ := h; rfl
  . obtain ⟨a, ns, c, L, n, rfl, hs, hz, c0, c1, hL1, hL6, hn1, hn40, k⟩ := h
    have hl := line1000
    refine ⟨_, (pss_cons (ps_set (i := 4) sc__law_says.nd rfl (Or.inl rfl) (pe_lst pa_nil))
      (pss_cons (ps_set (i := 5) sc__law_says.nd rfl (Or.inl rfl) (pe_lst pa_nil))
      (pss_cons (ps_for PassesOwn.never rfl (pi_range1 rfl T.range (pa_cons (pv 3) pa_nil)) (pg_name (i := 6) sc__law_says.nd rfl (Or.inl rfl))
      (pss_cons (ps_set (i := 7) sc__law_says.nd rfl (Or.inr rfl) (pe_op op_add (pv 1) (pe_op op_mul (pe_op op_mul pe_int (pv 2)) (pv 6))))
      (pss_cons (ps_expr (pe_bm PySem.F.plainAttrs_list PySem.F.slot_list_append PySem.F.type_list_append mt_append (pv 4) (pa_cons (pe_callTy call_tuple_of rfl T.tuple PyProof.Rows.boot_tuple (pa_cons (pe_comp rfl (blk_mk rfl) (cp := c__law_says_0) ⟨⟨rfl, rfl⟩, ⟨⟨rfl, rfl⟩, True.intro⟩⟩ (pi_range1 rfl T.range (pa_cons (pv 2) pa_nil)) (fun _ _ _ _ => (pg_name (i := 0) nd_c__law_says_0 rfl (Or.inl rfl))) (fun _ _ _ _ => pf_nil) (fun _ _ _ _ => (pe_call g__law_mark (hr.mono (by decide)) rfl m__law_mark F__law_mark.kp b__law_mark .nil pass0 (pa_cons (pe_call g__law_big (hr.mono (by decide)) rfl m__law_big F__law_big.kp b__law_big .nil pass0 (pa_cons (pv 1) (pa_cons (pe_op op_add (pv 2) (pv 0)) pa_nil))) pa_nil)))) pa_nil)) pa_nil)))
      (pss_one (ps_expr (pe_bm PySem.F.plainAttrs_list PySem.F.slot_list_append PySem.F.type_list_append mt_append (pv 5) (pa_cons (pe_callTy call_tuple_of rfl T.tuple PyProof.Rows.boot_tuple (pa_cons (pe_comp rfl (blk_mk rfl) (cp := c__law_says_2) ⟨⟨rfl, rfl⟩, ⟨⟨rfl, rfl⟩, ⟨⟨rfl, rfl⟩, ⟨⟨rfl, rfl⟩, True.intro⟩⟩⟩⟩ (pi_range1 rfl T.range (pa_cons (pv 2) pa_nil)) (fun _ _ _ _ => (pg_name (i := 0) nd_c__law_says_2 rfl (Or.inl rfl))) (fun _ _ _ _ => pf_nil) (fun _ _ _ _ => (pe_op op_mod (pe_call g__law_big (hr.mono (by decide)) rfl m__law_big F__law_big.kp b__law_big .nil pass0 (pa_cons (pv 2) (pa_cons (pe_op op_add (pe_op op_add (pv 3) (pv 4)) (pv 0)) pa_nil))) (pv 1)))) pa_nil)) pa_nil)))))))
      (pss_one (ps_ret (pe_tup (pa_cons (pv 2) (pa_cons (pe_callTy call_tuple_of rfl T.tuple PyProof.Rows.boot_tuple (pa_cons (pv 4) pa_nil)) (pa_cons (pe_callTy call_tuple_of rfl T.tuple PyProof.Rows.boot_tuple (pa_cons (pv 5) pa_nil)) pa_nil))))))))), ?_⟩
    walk_at "rd"
    refine ⟨by omega, fun ps hps => ⟨by omega, fun pw hpw => ⟨by omega, by omega, ?_⟩⟩⟩
    rw [Int.toNat_natCast]
    have hpp : pw ≠ ps := (none_of_upd hpw).2
    have hpw0 : H pw = none := (none_of_upd hpw).1
    obtain ⟨Pv, hPv⟩ : ∃ Pv : Nat -> St -> Hp -> Prop, ∀ i σ' H', Pv i σ' H' ↔ (∃ (says ways : List (List Int)) (o o' : Option V), Same H H' /\ TupsL K H' ps says /\ TupsL K H' pw ways /\ says.length = i /\ ways.length = i /\ (∀ row ∈ says, row.length = L /\ ∀ x ∈ row, 0 <= x /\ x <= 1000000000) /\ (∀ row ∈ ways, row.length = L /\ ∀ x ∈ row, 0 <= x /\ x < (n : Int)) /\ σ' = [some (.ref a), some (.int c), some (.int L), some (.int n), some (.ref ps), some (.ref pw), o, o']) := ⟨_, fun _ _ _ => Iff.rfl⟩
    refine forR Pv ((hPv _ _ _).mpr ⟨[], [], none, none, (Same.new hps).newT hpw, TupsL.nil ((Same.new hpw) _ _ upd_same), TupsL.nil upd_same, rfl, rfl, by simp, by simp, rfl⟩) (fun i σ2 H2 hi h2 => ?_) (fun σ2 H2 h2 => ?_)
    . obtain ⟨says, ways, o, o', s2, hS, hW, hsl, hwl, hsr, hwr, rfl⟩ := (hPv _ _ _).mp h2
      obtain ⟨ts, ht1, _⟩ := id hS
      obtain ⟨us, hu1, _⟩ := id hW
      rw [Int.zero_add]
      walk_at "rd"
      have hb : 0 <= (L : Int) * (i : Int) /\ (L : Int) * (i : Int) <= 240 := by
        have h1 : L * i <= 6 * 40 := Nat.mul_le_mul (by omega) (by omega)
        have h2 : (L : Int) * (i : Int) = ((L * i : Nat) : Int) := by rw [Int.natCast_mul]
        omega
      have hcc : 0 <= c + 2 * (L : Int) * (i : Int) /\ c + 2 * (L : Int) * (i : Int) <= 2000 := by
        rw [Int.mul_assoc]; omega
      refine ⟨.inl ⟨by decide, by decide⟩, .inr ⟨by omega, by omega⟩, .inl ⟨rfl, _, SqL.of ht1⟩, by omega, by omega, ?_⟩
      generalize c + 2 * (L : Int) * (i : Int) = bs at hcc ⊢
      rw [Int.toNat_natCast]
      obtain ⟨Pm, hPm⟩ : ∃ Pc : Nat -> List V -> St -> Hp -> Prop, ∀ j ys σ4 H4, Pc j ys σ4 H4 ↔ (H4 = H2 /\ ∃ (row : List Int) (o : Option V), ys = row.map V.int /\ row.length = j /\ (∀ x ∈ row, 0 <= x /\ x <= 1000000000) /\ σ4 = [o, some (.ref a), some (.int bs)]) := ⟨_, fun _ _ _ _ => Iff.rfl⟩
      refine compR Pm ((hPm _ _ _ _).mpr ⟨rfl, [], none, rfl, rfl, (fun x hx => by cases hx), rfl⟩) (by omega) (fun j ys σ4 H4 _ h4 => ?_) (fun j ys σ4 H4 hj h4 => ?_) (fun ys σ4 H4 h4 D hD => ?_)
      . obtain ⟨_, row, o, rfl, hrl, _⟩ := (hPm _ _ _ _).mp h4
        rw [List.length_map]; omega
      . obtain ⟨rfl, row, o, rfl, hrl, hrr, rfl⟩ := (hPm _ _ _ _).mp h4
        rw [Int.zero_add]
        walk_at "rd"
        refine ⟨a, ns, bs + j, rfl, s2.seq hs, hz, by omega, by omega, fun x => ⟨x, rfl, fun y y0 y1 => (hPm _ _ _ _).mpr ⟨rfl, row ++ [y], _, by simp, by simp [hrl], fun z hz' => ?_, rfl⟩⟩⟩
        rcases List.mem_append.mp hz' with h | h
        . exact hrr z h
        . rw [List.mem_singleton.mp h]; exact ⟨y0, y1⟩
      obtain ⟨rfl, srow, o1, rfl, hsrl, hsrr, rfl⟩ := (hPm _ _ _ _).mp h4
      refine ⟨D, rfl, _, .inl ⟨SqL.of upd_same, fun t ht => ?_⟩⟩
      have sDt := (Same.new hD (o := .lst (srow.map V.int))).newT ht (o := .tup (srow.map V.int))
      obtain ⟨xs, e1, e2, e3⟩ := (hS.mono sDt).push (w := srow) (t := t) (SqT.of upd_same)
      have hWt := (hW.mono sDt).off e1 (ys := xs ++ [V.ref t]) hpp
      have s5 : Same H (upd (upd (upd H4 D (.lst (srow.map V.int))) t (.tup (srow.map V.int))) ps (.lst (xs ++ [V.ref t]))) := (s2.trans sDt).over hps
      refine ⟨xs, e1, by omega, ?_⟩
      generalize upd (upd (upd H4 D (.lst (srow.map V.int))) t (.tup (srow.map V.int))) ps (.lst (xs ++ [V.ref t])) = H5 at e3 hWt s5 ⊢
      obtain ⟨us, hu1, _⟩ := id hWt
      refine ⟨.inl ⟨rfl, _, SqL.of hu1⟩, by omega, by omega, ?_⟩
      obtain ⟨Pc, hPc⟩ : ∃ Pc : Nat -> List V -> St -> Hp -> Prop, ∀ j ys σ4 H6, Pc j ys σ4 H6 ↔ (H6 = H5 /\ ∃ (row : List Int) (o : Option V), ys = row.map V.int /\ row.length = j /\ (∀ x ∈ row, 0 <= x /\ x < (n : Int)) /\ σ4 = [o, some (.int n), some (.ref a), some (.int bs), some (.int L)]) := ⟨_, fun _ _ _ _ => Iff.rfl⟩
      refine compR Pc ((hPc _ _ _ _).mpr ⟨rfl, [], none, rfl, rfl, (fun x hx => by cases hx), rfl⟩) (by omega) (fun j ys σ4 H6 _ h6 => ?_) (fun j ys σ4 H6 hj h6 => ?_) (fun ys σ4 H6 h6 D2 hD2 => ?_)
      . obtain ⟨_, row, o, rfl, hrl, _⟩ := (hPc _ _ _ _).mp h6
        rw [List.length_map]; omega
      . obtain ⟨rfl, row, o, rfl, hrl, hrr, rfl⟩ := (hPc _ _ _ _).mp h6
        rw [Int.zero_add]
        walk_at "rd"
        refine ⟨a, ns, bs + L + j, rfl, s5.seq hs, hz, by omega, by omega, fun x => ⟨x, rfl, by omega, (hPc _ _ _ _).mpr ⟨rfl, row ++ [x % n], _, by simp, by simp [hrl], fun z hz' => ?_, rfl⟩⟩⟩
        rcases List.mem_append.mp hz' with h | h
        . exact hrr z h
        . rw [List.mem_singleton.mp h]; exact ⟨Int.emod_nonneg _ (by omega), Int.emod_lt_of_pos _ (by omega)⟩
      obtain ⟨rfl, wrow, o2, rfl, hwrl, hwrr, rfl⟩ := (hPc _ _ _ _).mp h6
      refine ⟨D2, rfl, _, .inl ⟨SqL.of upd_same, fun t2 ht2 => ?_⟩⟩
      have sDt2 := (Same.new hD2 (o := .lst (wrow.map V.int))).newT ht2 (o := .tup (wrow.map V.int))
      obtain ⟨ys2, f1, f2, f3⟩ := (hWt.mono sDt2).push (w := wrow) (t := t2) (SqT.of upd_same)
      have hSt := (e3.mono sDt2).off f1 (ys := ys2 ++ [V.ref t2]) (Ne.symm hpp)
      refine ⟨ys2, f1, by omega, (hPv _ _ _).mpr ⟨says ++ [srow], ways ++ [wrow], _, _, (s5.trans sDt2).over hpw0, hSt, f3, by simp [hsl], by simp [hwl], fun r hr => ?_, fun r hr => ?_, rfl⟩⟩
      . rcases List.mem_append.mp hr with h | h
        . exact hsr r h
        . rw [List.mem_singleton.mp h]; exact ⟨hsrl, hsrr⟩
      . rcases List.mem_append.mp hr with h | h
        . exact hwr r h
        . rw [List.mem_singleton.mp h]; exact ⟨hwrl, hwrr⟩
    . obtain ⟨says, ways, o, o', s2, hS, hW, hsl, hwl, hsr, hwr, rfl⟩ := (hPv _ _ _).mp h2
      walk_at "rd"
      obtain ⟨xs, hx1, hrs⟩ := hS.rows
      refine ⟨xs, .inl ⟨SqL.of hx1, fun t1 ht1 => ?_⟩⟩
      obtain ⟨ys, hy1, hrw⟩ := (hW.mono (Same.new ht1 (o := .tup xs))).rows
      refine ⟨ys, .inl ⟨SqL.of hy1, fun t2 ht2 => ⟨by omega, fun hh hhh => ?_⟩⟩⟩
      exact k hh says ways _ (((s2.newT ht1).newT ht2).newT hhh) ⟨t1, t2, SqT.of upd_same, (hrs t1 ht1).mono ((Same.new ht2).newT hhh), (hrw t2 ht2).mono (Same.new hhh)⟩
        ⟨⟨by omega, by omega, by rw [List.length_replicate]; omega, by rw [List.length_replicate]; omega, by rw [List.length_replicate]; omega, fun row hr => ⟨by have := (hwr row hr).1; omega, fun x hx => by rw [List.length_replicate]; have := (hwr row hr).2 x hx; omega⟩, fun m hm => by rw [List.eq_of_mem_replicate hm]; omega⟩, fun row hr => by have := (hsr row hr).1; omega⟩ hsl fun row hr => (hsr row hr).2
def okSR (L : Int) (r : List Int) : Bool := decide ((r.length : Int) = L) && okM r
def okS (L : Int) (ss ws : List (List Int)) : Bool := (decide (1 <= L) && decide (L <= 6)) && ((decide (1 <= ss.length) && decide (ss.length <= 40)) && (ss.all (okSR L) && (decide (ws.length = ss.length) && ws.all (okR L ss.length))))
def sp_chs (K : PySem.W.Frag) (BH : Addr) : Sp := fun vs H Q E => ∃ (t : Bool) (a : Addr) (L : Int) (xs : List V) (ws : List (List Int)), vs = [.int L, .ref a] /\ SqB K H t a xs /\ RowsB K H xs ws /\ (∀ r ∈ ws, r.length <= 900) /\ (ws.all (okSR L) = true -> ∀ H', Same H H' -> Q .non H') /\ (ws.all (okSR L) = false -> ∀ H', Same H H' -> E (.ref BH) none H')
theorem ok_check_says {f : Addr} {fd : FuncData} (F : Fun K "check_says" "check_says" s_check_says f fd) (T : Txt mg)
    (W : Own K mg)
    (Z : Exs K mg C_AskError C_BadHouse C_BadWord C_BadMark)
    {f_check_marks : Addr} {fd_check_marks : FuncData} (g_check_marks : FnOk P w K mg base (CXe P w) 2 f_check_marks fd_check_marks ["marks"] (sp_chm K C_BadHouse)) (F_check_marks : Fun K "check_marks" "check_marks" s_check_marks f_check_marks fd_check_marks) (b_check_marks : Binds K fd_check_marks ["marks"] []) (m_check_marks : mg "check_marks" = some (.ref f_check_marks))
    : FnOk P w K mg base (CXe P w) 3 f fd ["letters", "says"] (sp_chs K C_BadHouse) := by
  refine F.okE sc_check_says (fun vs H Q E h => ?_) (fun cdv A outer s H vs Q E hr h => ?_)
  . obtain ⟨t, a, L, xs, ws, rfl, _⟩ := h; rfl
  . obtain ⟨t, a, L, xs, ws, rfl, ha, hR, hz, k, kE⟩ := h
    have hl := line1000
    refine ⟨_, (pss_one (ps_for PassesOwn.leaving rfl (pi_seq (pv 1)) (pg_name (i := 2) sc_check_says.nd rfl (Or.inl rfl))
      (pss_cons (ps_if (pt_cmpR op_ne (pe_callB call_len_seq (by rfl) T.len PySem.boot_len (pa_cons (pv 2) pa_nil)) (pv 0) (nomark _))
      (pss_one (ps_raise Z.m_BadHouse Z.x_BadHouse rfl rfl (pa_cons pe_str pa_nil)))
      pss_nil)
      (pss_one (ps_expr (pe_call g_check_marks (hr.mono (by decide)) rfl m_check_marks F_check_marks.kp b_check_marks .nil (passE fun _ _ _ h => h) (pa_cons (pv 2) pa_nil))))))), ?_⟩
    walk_at "rd"
    obtain ⟨Pv, hPv⟩ : ∃ Pv : Nat -> St -> Hp -> Prop, ∀ i σ' H', Pv i σ' H' ↔ (Same H H' /\ (ws.take i).all (okSR L) = true /\ ∃ o, σ' = [some (.int L), some (.ref a), o]) := ⟨_, fun _ _ _ => Iff.rfl⟩
    refine forB (t := t) (xs := xs) Pv ((hPv _ _ _).mpr ⟨Same.refl _, by simp, none, rfl⟩) (fun i σ' H' _ h' => ha.mono ((hPv _ _ _).mp h').1) (fun i x σ' H' hx h' => ?_) (fun σ' H' h' => ?_)
    . obtain ⟨s1, hall, o, rfl⟩ := (hPv _ _ _).mp h'
      obtain ⟨r, t', a', hri, rfl, hB⟩ := (hR.mono s1).at hx
      have hz' := hz r (List.mem_of_getElem? hri)
      have hbad : okSR L r = false -> ws.all (okSR L) = false := fun hb => by
        rw [List.all_eq_false]
        exact ⟨r, List.mem_of_getElem? hri, by rw [hb]; decide⟩
      walk_at "rd"
      refine ⟨_, hB.or, ?_⟩
      rw [List.length_map]
      by_cases hL : (r.length : Int) = L
      . rw [if_neg (by simp [hL])]
        have e1 : okSR L r = okM r := by unfold okSR; rw [decide_eq_true hL, Bool.true_and]
        refine ⟨t', a', r, rfl, hB, hz', fun hv H2 s2 => (hPv _ _ _).mpr ⟨s1.trans s2, ?_, _, rfl⟩, fun hv H2 s2 => kE (hbad (by rw [e1]; exact hv)) _ (s1.trans s2)⟩
        rw [List.take_add_one, hri, List.all_append, hall]
        simp [e1, hv]
      . rw [if_pos (by simp [hL])]
        exact ⟨by omega, kE (hbad (by unfold okSR; rw [decide_eq_false hL]; rfl)) _ s1⟩
    . obtain ⟨s1, hall, o, rfl⟩ := (hPv _ _ _).mp h'
      rw [hR.1, List.take_length] at hall
      exact k hall _ s1
def sp_mades (K : PySem.W.Frag) (BH : Addr) : Sp := fun vs H Q E => ∃ (t t2 : Bool) (a b : Addr) (L : Int) (xs ys : List V) (ss ws : List (List Int)), vs = [.int L, .ref a, .ref b] /\ SqB K H t a xs /\ RowsB K H xs ss /\ SqB K H t2 b ys /\ RowsB K H ys ws /\ ss.length <= 900 /\ ws.length <= 900 /\ (∀ r ∈ ss, r.length <= 900) /\ (∀ r ∈ ws, r.length <= 900) /\
  (okS L ss ws = true -> ∀ h m y us vs H', Same H H' -> H' h = some (.tup [.int L, .ref m, .ref y]) -> H' m = some (.tup us) -> RowsT K H' us ss -> H' y = some (.tup vs) -> RowsT K H' vs ws -> Q (.ref h) H') /\ (okS L ss ws = false -> ∀ H', Same H H' -> E (.ref BH) none H')
theorem ok_made_says {f : Addr} {fd : FuncData} (F : Fun K "made_says" "made_says" s_made_says f fd) (T : Txt mg)
    (W : Own K mg)
    (Z : Exs K mg C_AskError C_BadHouse C_BadWord C_BadMark)
    {f_check_letters : Addr} {fd_check_letters : FuncData} (g_check_letters : FnOk P w K mg base (CXe P w) 1 f_check_letters fd_check_letters ["letters"] (sp_chl C_BadHouse)) (F_check_letters : Fun K "check_letters" "check_letters" s_check_letters f_check_letters fd_check_letters) (b_check_letters : Binds K fd_check_letters ["letters"] []) (m_check_letters : mg "check_letters" = some (.ref f_check_letters))
    {f_check_rooms : Addr} {fd_check_rooms : FuncData} (g_check_rooms : FnOk P w K mg base (CXe P w) 1 f_check_rooms fd_check_rooms ["rooms"] (sp_chr C_BadHouse)) (F_check_rooms : Fun K "check_rooms" "check_rooms" s_check_rooms f_check_rooms fd_check_rooms) (b_check_rooms : Binds K fd_check_rooms ["rooms"] []) (m_check_rooms : mg "check_rooms" = some (.ref f_check_rooms))
    {f_check_ways : Addr} {fd_check_ways : FuncData} (g_check_ways : FnOk P w K mg base (CXe P w) 1 f_check_ways fd_check_ways ["letters", "rooms", "ways"] (sp_chw K C_BadHouse)) (F_check_ways : Fun K "check_ways" "check_ways" s_check_ways f_check_ways fd_check_ways) (b_check_ways : Binds K fd_check_ways ["letters", "rooms", "ways"] []) (m_check_ways : mg "check_ways" = some (.ref f_check_ways))
    {f_check_says : Addr} {fd_check_says : FuncData} (g_check_says : FnOk P w K mg base (CXe P w) 3 f_check_says fd_check_says ["letters", "says"] (sp_chs K C_BadHouse)) (F_check_says : Fun K "check_says" "check_says" s_check_says f_check_says fd_check_says) (b_check_says : Binds K fd_check_says ["letters", "says"] []) (m_check_says : mg "check_says" = some (.ref f_check_says))
    : FnOk P w K mg base (CXe P w) 4 f fd ["letters", "says", "ways"] (sp_mades K C_BadHouse) := by
  refine F.okE sc_made_says (fun vs H Q E h => ?_) (fun cdv A outer s H vs Q E hr h => ?_)
  . obtain ⟨t, t2, a, b, L, xs, ys, ss, ws, rfl, _⟩ := h; rfl
  . obtain ⟨t, t2, a, b, L, xs, ys, ss, ws, rfl, ha, hR, hb, hW, hz1, hz2, hz3, hz4, k, kE⟩ := h
    have hl := line1000
    refine ⟨_, (pss_cons (ps_expr (pe_call g_check_letters (hr.mono (by decide)) rfl m_check_letters F_check_letters.kp b_check_letters .nil (passE fun _ _ _ h => h) (pa_cons (pv 0) pa_nil)))
      (pss_cons (ps_expr (pe_call g_check_rooms (hr.mono (by decide)) rfl m_check_rooms F_check_rooms.kp b_check_rooms .nil (passE fun _ _ _ h => h) (pa_cons (pe_callB call_len_seq (by rfl) T.len PySem.boot_len (pa_cons (pv 1) pa_nil)) pa_nil)))
      (pss_cons (ps_expr (pe_call g_check_says (hr.mono (by decide)) rfl m_check_says F_check_says.kp b_check_says .nil (passE fun _ _ _ h => h) (pa_cons (pv 0) (pa_cons (pv 1) pa_nil))))
      (pss_cons (ps_expr (pe_call g_check_ways (hr.mono (by decide)) rfl m_check_ways F_check_ways.kp b_check_ways .nil (passE fun _ _ _ h => h) (pa_cons (pv 0) (pa_cons (pe_callB call_len_seq (by rfl) T.len PySem.boot_len (pa_cons (pv 1) pa_nil)) (pa_cons (pv 2) pa_nil)))))
      (pss_one (ps_ret (pe_tup (pa_cons (pv 0) (pa_cons (pe_callTy call_tuple_of rfl T.tuple PyProof.Rows.boot_tuple (pa_cons (pe_comp rfl (blk_mk rfl) (cp := c_made_says_2) True.intro (pi_seq (pv 1)) (fun _ _ _ _ => (pg_name (i := 0) nd_c_made_says_2 rfl (Or.inl rfl))) (fun _ _ _ _ => pf_nil) (fun _ _ _ _ => (pe_callTy (call_tuple_ofK (K := K) rfl) rfl T.tuple PyProof.Rows.boot_tuple (pa_cons (pv 0) pa_nil)))) pa_nil)) (pa_cons (pe_callTy call_tuple_of rfl T.tuple PyProof.Rows.boot_tuple (pa_cons (pe_comp rfl (blk_mk rfl) (cp := c_made_says_0) True.intro (pi_seq (pv 2)) (fun _ _ _ _ => (pg_name (i := 0) nd_c_made_says_0 rfl (Or.inl rfl))) (fun _ _ _ _ => pf_nil) (fun _ _ _ _ => (pe_callTy (call_tuple_ofK (K := K) rfl) rfl T.tuple PyProof.Rows.boot_tuple (pa_cons (pv 0) pa_nil)))) pa_nil)) pa_nil)))))))))), ?_⟩
    walk_at "rd"
    refine ⟨L, rfl, fun c1 => ⟨_, ha.or, ss.length, by rw [hR.1], fun c2 => ⟨t, a, L, xs, ss, rfl, ha, hR, hz3, fun c3 H1 s1 => ⟨_, (ha.mono s1).or, t2, b, L, ss.length, ys, ws, by rw [hR.1], hb.mono s1, hW.mono s1, hz4, fun c4 H2 s2 => ?_, fun c4 H2 s2 => kE (by unfold okS; rw [c1, c2, c3, c4]; rfl) H2 (s1.trans s2)⟩, fun c3 H1 s1 => kE (by unfold okS; rw [c1, c2, c3]; rfl) H1 s1⟩, fun c2 => kE (by unfold okS; rw [c1, c2]; rfl) H (Same.refl _)⟩, fun c1 => kE (by unfold okS; rw [c1]; rfl) H (Same.refl _)⟩
    have hok : okS L ss ws = true := by unfold okS; rw [c1, c2, c3, c4]; rfl
    have s12 := s1.trans s2
    clear kE
    refine compTB rfl (ha.mono s12) (hR.mono s12) hz1 fun us H3 D s3 hU hD => ⟨D, rfl, _, .inl ⟨SqL.of upd_same, fun m hm => ?_⟩⟩
    have s4 := (Same.new hD (o := .lst us)).newT hm (o := .tup us)
    have s14 := s12.trans (s3.trans s4)
    have hm4 : upd (upd H3 D (.lst us)) m (.tup us) m = some (.tup us) := upd_same
    have hU4 := hU.mono s4
    generalize upd (upd H3 D (.lst us)) m (.tup us) = H4 at s4 s14 hm4 hU4 ⊢
    refine compTB rfl (hb.mono s14) (hW.mono s14) hz2 fun zs H5 D' s5 hV hD' => ⟨D', rfl, _, .inl ⟨SqL.of upd_same, fun y hy => ⟨by omega, fun h hh => ?_⟩⟩⟩
    have s6 := ((Same.new hD' (o := .lst zs)).newT hy (o := .tup zs)).newT hh (o := .tup [.int L, .ref m, .ref y])
    exact k hok h m y us zs _ (s14.trans (s5.trans s6)) upd_same ((s5.trans s6) _ _ hm4) (hU4.mono (s5.trans s6)) (Same.new hh _ _ upd_same) (hV.mono s6)
theorem Rows.T {K : PySem.W.Frag} {H : Hp} {w : Addr} {ws : List (List Int)} (h : Rows K H w ws) : ∃ zs, SqT K H w zs /\ RowsT K H zs ws := by
  obtain ⟨ts, a, b, c⟩ := h
  refine ⟨_, a, by rw [List.length_map]; exact b, fun i r hi => ?_⟩
  have hl : i < ts.length := by rw [b]; exact (List.getElem?_eq_some_iff.mp hi).1
  exact ⟨ts[i], by simp [hl], c i _ r (by simp [hl]) hi⟩
def sp_rare (K : PySem.W.Frag) : Sp := fun vs H Q _ => ∃ (a b : Addr) (us zs : List V) (ws : List (List Int)), vs = [.ref a, .ref b] /\ SqT K H a us /\ RowsT K H us ws /\ SqT K H b zs /\ RowsT K H zs ws /\ ws.length <= 900 /\ (∀ r ∈ ws, r.length <= 900) /\ Q (.bl true) H
theorem ok__law_rows_are {f : Addr} {fd : FuncData} (F : Fun K "_law_rows_are" "_law_rows_are" s__law_rows_are f fd) (T : Txt mg)
    (W : Own K mg)
    (Z : Exs K mg C_AskError C_BadHouse C_BadWord C_BadMark)
    {f__law_whole : Addr} {fd__law_whole : FuncData} (g__law_whole : FnOk P w K mg base CX0 1 f__law_whole fd__law_whole ["found"] (sp_whole)) (F__law_whole : Fun K "_law_whole" "_law_whole" s__law_whole f__law_whole fd__law_whole) (b__law_whole : Binds K fd__law_whole ["found"] []) (m__law_whole : mg "_law_whole" = some (.ref f__law_whole))
    : FnOk P w K mg base CX0 2 f fd ["found", "due"] (sp_rare K) := by
  refine F.ok sc__law_rows_are (fun vs H Q E h => ?_) (fun cdv A outer s H vs Q E hr h => ?_)
  . obtain ⟨a, b, us, zs, ws, rfl, _⟩ := h; rfl
  . obtain ⟨a, b, us, zs, ws, rfl, ha, hU, hb, hZ, hz1, hz2, k⟩ := h
    have hl := line1000
    refine ⟨_, (pss_cons (ps_if (PW.pt (pw_or (pt_not (pt_val (pe_callB call_isinstW rfl T.isinstance PyProof.Rows.boot_isinstance (pa_cons (pv 0) (pa_cons (pe_bltn (v := .ty "tuple") rfl T.tuple PyProof.Rows.boot_tuple rfl) pa_nil))))) (pw_or1 (pt_cmpR op_ne (pe_callB call_len_seq (by rfl) T.len PySem.boot_len (pa_cons (pv 0) pa_nil)) (pe_callB call_len_seq (by rfl) T.len PySem.boot_len (pa_cons (pv 1) pa_nil)) (nomark _)))))
      (pss_one (ps_ret pe_bl))
      pss_nil)
      (pss_cons (ps_for PassesOwn.never rfl (pi_range1 rfl T.range (pa_cons (pe_callB call_len_seq (by rfl) T.len PySem.boot_len (pa_cons (pv 1) pa_nil)) pa_nil)) (pg_name (i := 2) sc__law_rows_are.nd rfl (Or.inl rfl))
      (pss_cons (ps_if (PW.pt (pw_or (pt_not (pt_val (pe_callB call_isinstW rfl T.isinstance PyProof.Rows.boot_isinstance (pa_cons (pe_ix ix_tup (pv 0) (pv 2) (fun _ _ => rfl)) (pa_cons (pe_bltn (v := .ty "tuple") rfl T.tuple PyProof.Rows.boot_tuple rfl) pa_nil))))) (pw_or1 (pt_cmpR op_ne (pe_callB call_len_seq (by rfl) T.len PySem.boot_len (pa_cons (pe_ix ix_tup (pv 0) (pv 2) (fun _ _ => rfl)) pa_nil)) (pe_callB call_len_seq (by rfl) T.len PySem.boot_len (pa_cons (pe_ix ix_tup (pv 1) (pv 2) (fun _ _ => rfl)) pa_nil)) (nomark _)))))
      (pss_one (ps_ret pe_bl))
      pss_nil)
      (pss_one (ps_for PassesOwn.never rfl (pi_range1 rfl T.range (pa_cons (pe_callB call_len_seq (by rfl) T.len PySem.boot_len (pa_cons (pe_ix ix_tup (pv 1) (pv 2) (fun _ _ => rfl)) pa_nil)) pa_nil)) (pg_name (i := 3) sc__law_rows_are.nd rfl (Or.inl rfl))
      (pss_one (ps_if (PW.pt (pw_or (pt_not (pt_val (pe_call g__law_whole (hr.mono (by decide)) rfl m__law_whole F__law_whole.kp b__law_whole .nil pass0 (pa_cons (pe_ix ix_tup (pe_ix ix_tup (pv 0) (pv 2) (fun _ _ => rfl)) (pv 3) (fun _ _ => rfl)) pa_nil)))) (pw_or1 (pt_cmpR op_ne (pe_ix ix_tup (pe_ix ix_tup (pv 0) (pv 2) (fun _ _ => rfl)) (pv 3) (fun _ _ => rfl)) (pe_ix ix_tup (pe_ix ix_tup (pv 1) (pv 2) (fun _ _ => rfl)) (pv 3) (fun _ _ => rfl)) (nomark _)))))
      (pss_one (ps_ret pe_bl))
      pss_nil))))))
      (pss_one (ps_ret pe_bl)))), ?_⟩
    walk_at "rd"
    refine ⟨_, _, .tup ha, rel_ty, _, kit_self, ?_⟩
    rw [if_neg (by decide)]
    refine ⟨_, .inr ha, _, .inr hb, ?_⟩
    rw [hU.1, hZ.1, if_neg (by simp)]
    refine ⟨_, .inr hb, by rw [hZ.1]; omega, by rw [hZ.1]; omega, ?_⟩
    rw [Int.toNat_natCast, hZ.1]
    obtain ⟨Pv, hPv⟩ : ∃ Pv : Nat -> St -> Hp -> Prop, ∀ i σ' H', Pv i σ' H' ↔ (H' = H /\ ∃ o1 o2, σ' = [some (.ref a), some (.ref b), o1, o2]) := ⟨_, fun _ _ _ => Iff.rfl⟩
    refine forR Pv ((hPv _ _ _).mpr ⟨rfl, none, none, rfl⟩) (fun i σ' H' hi h' => ?_) (fun σ' H' h' => ?_)
    . obtain ⟨rfl, o1, o2, rfl⟩ := (hPv _ _ _).mp h'
      rw [Int.zero_add]
      have hri : ws[i]? = some ws[i] := by simp [hi]
      obtain ⟨c, hc1, hc2⟩ := hU.2 i _ hri
      obtain ⟨d, hd1, hd2⟩ := hZ.2 i _ hri
      have hzi := hz2 _ (List.mem_of_getElem? hri)
      generalize ws[i] = r at hc2 hd2 hzi
      walk_at "rd"
      refine ⟨_, ha, _, atI_nat hc1, _, _, .tup hc2, rel_ty, _, kit_self, ?_⟩
      rw [if_neg (by decide)]
      refine ⟨_, ha, _, atI_nat hc1, c, rfl, _, .inr hc2, _, hb, _, atI_nat hd1, d, rfl, _, .inr hd2, ?_⟩
      rw [if_neg (by simp)]
      refine ⟨_, hb, _, atI_nat hd1, d, rfl, _, .inr hd2, by rw [List.length_map]; omega, by rw [List.length_map]; omega, ?_⟩
      rw [Int.toNat_natCast, List.length_map]
      obtain ⟨Pw, hPw⟩ : ∃ Pv : Nat -> St -> Hp -> Prop, ∀ j σ2 H2, Pv j σ2 H2 ↔ (H2 = H' /\ ∃ o2, σ2 = [some (.ref a), some (.ref b), some (.int i), o2]) := ⟨_, fun _ _ _ => Iff.rfl⟩
      refine forR Pw ((hPw _ _ _).mpr ⟨rfl, _, rfl⟩) (fun j σ2 H2 hj h2 => ?_) (fun σ2 H2 h2 => ?_)
      . obtain ⟨rfl, o2, rfl⟩ := (hPw _ _ _).mp h2
        rw [Int.zero_add]
        have hx : (r.map V.int)[j]? = some (V.int r[j]) := by simp [hj]
        walk_at "rd"
        refine ⟨_, ha, _, atI_nat hc1, c, rfl, _, hc2, _, atI_nat hx, r[j], rfl, _, rfl, ?_⟩
        rw [if_neg (by decide)]
        refine ⟨_, ha, _, atI_nat hc1, c, rfl, _, hc2, _, atI_nat hx, _, hb, _, atI_nat hd1, d, rfl, _, hd2, _, atI_nat hx, rfl, ?_⟩
        rw [if_neg (by simp)]
        exact (hPw _ _ _).mpr ⟨rfl, _, rfl⟩
      . obtain ⟨rfl, o2, rfl⟩ := (hPw _ _ _).mp h2
        exact (hPv _ _ _).mpr ⟨rfl, _, _, rfl⟩
    . obtain ⟨rfl, o1, o2, rfl⟩ := (hPv _ _ _).mp h'
      exact k
def sp_his (K : PySem.W.Frag) : Sp := fun vs H Q _ => ∃ (a b : Addr) (L : Int) (ss ws : List (List Int)), vs = [.ref a, .ref b] /\ SaysH K H a L ss ws /\ SaysH K H b L ss ws /\ ss.length <= 900 /\ ws.length <= 900 /\ (∀ r ∈ ss, r.length <= 900) /\ (∀ r ∈ ws, r.length <= 900) /\ Q (.bl true) H
theorem ok__law_house_is {f : Addr} {fd : FuncData} (F : Fun K "_law_house_is" "_law_house_is" s__law_house_is f fd) (T : Txt mg)
    (W : Own K mg)
    (Z : Exs K mg C_AskError C_BadHouse C_BadWord C_BadMark)
    {f__law_whole : Addr} {fd__law_whole : FuncData} (g__law_whole : FnOk P w K mg base CX0 1 f__law_whole fd__law_whole ["found"] (sp_whole)) (F__law_whole : Fun K "_law_whole" "_law_whole" s__law_whole f__law_whole fd__law_whole) (b__law_whole : Binds K fd__law_whole ["found"] []) (m__law_whole : mg "_law_whole" = some (.ref f__law_whole))
    {f__law_rows_are : Addr} {fd__law_rows_are : FuncData} (g__law_rows_are : FnOk P w K mg base CX0 2 f__law_rows_are fd__law_rows_are ["found", "due"] (sp_rare K)) (F__law_rows_are : Fun K "_law_rows_are" "_law_rows_are" s__law_rows_are f__law_rows_are fd__law_rows_are) (b__law_rows_are : Binds K fd__law_rows_are ["found", "due"] []) (m__law_rows_are : mg "_law_rows_are" = some (.ref f__law_rows_are))
    : FnOk P w K mg base CX0 3 f fd ["found", "due"] (sp_his K) := by
  refine F.ok sc__law_house_is (fun vs H Q E h => ?_) (fun cdv A outer s H vs Q E hr h => ?_)
  . obtain ⟨a, b, L, ss, ws, rfl, _⟩ := h; rfl
  . obtain ⟨a, b, L, ss, ws, rfl, ⟨m1, y1, h1, hm1, hy1⟩, ⟨m2, y2, h2, hm2, hy2⟩, hz1, hz2, hz3, hz4, k⟩ := h
    obtain ⟨us1, e1, t1⟩ := Rows.T hm1
    obtain ⟨us2, e2, t2⟩ := Rows.T hm2
    obtain ⟨vs1, e3, t3⟩ := Rows.T hy1
    obtain ⟨vs2, e4, t4⟩ := Rows.T hy2
    refine ⟨_, (pss_cons (ps_if (PW.pt (pw_or (pt_not (pt_val (pe_callB call_isinstW rfl T.isinstance PyProof.Rows.boot_isinstance (pa_cons (pv 0) (pa_cons (pe_bltn (v := .ty "tuple") rfl T.tuple PyProof.Rows.boot_tuple rfl) pa_nil))))) (pw_or1 (pt_cmpR op_ne (pe_callB call_len_seq (by rfl) T.len PySem.boot_len (pa_cons (pv 0) pa_nil)) pe_int (nomark _)))))
      (pss_one (ps_ret pe_bl))
      pss_nil)
      (pss_cons (ps_if (PW.pt (pw_or (pt_not (pt_val (pe_call g__law_whole (hr.mono (by decide)) rfl m__law_whole F__law_whole.kp b__law_whole .nil pass0 (pa_cons (pe_ix ix_tup (pv 0) pe_int (fun _ _ => rfl)) pa_nil)))) (pw_or1 (pt_cmpR op_ne (pe_ix ix_tup (pv 0) pe_int (fun _ _ => rfl)) (pe_ix ix_tup (pv 1) pe_int (fun _ _ => rfl)) (nomark _)))))
      (pss_one (ps_ret pe_bl))
      pss_nil)
      (pss_one (ps_ret (pe_and (pe_call g__law_rows_are (hr.mono (by decide)) rfl m__law_rows_are F__law_rows_are.kp b__law_rows_are .nil pass0 (pa_cons (pe_ix ix_tup (pv 0) pe_int (fun _ _ => rfl)) (pa_cons (pe_ix ix_tup (pv 1) pe_int (fun _ _ => rfl)) pa_nil))) (pe_one (pe_call g__law_rows_are (hr.mono (by decide)) rfl m__law_rows_are F__law_rows_are.kp b__law_rows_are .nil pass0 (pa_cons (pe_ix ix_tup (pv 0) pe_int (fun _ _ => rfl)) (pa_cons (pe_ix ix_tup (pv 1) pe_int (fun _ _ => rfl)) pa_nil))))))))), ?_⟩
    walk_at "rd"
    refine ⟨_, _, .tup h1, rel_ty, _, kit_self, ?_⟩
    rw [if_neg (by decide)]
    refine ⟨_, .inr h1, ?_⟩
    rw [if_neg (by simp)]
    refine ⟨_, h1, _, rfl, L, rfl, _, rfl, ?_⟩
    rw [if_neg (by decide)]
    refine ⟨_, h1, _, rfl, _, h2, _, rfl, rfl, ?_⟩
    rw [if_neg (by simp)]
    refine ⟨_, h1, _, rfl, _, h2, _, rfl, m1, m2, us1, us2, ss, rfl, e1, t1, e2, t2, hz1, hz3, ?_⟩
    refine ⟨true, rfl, ?_⟩
    rw [if_pos rfl]
    exact ⟨_, h1, _, rfl, _, h2, _, rfl, y1, y2, vs1, vs2, ws, rfl, e3, t3, e4, t4, hz2, hz4, k⟩
structure Pcs (B H : Hp) (p sa wa : Addr) (L : Int) (xs ys : List V) (ss ws : List (List Int)) : Prop where
  hp : H p = some (.lst [.int L, .ref sa, .ref wa])
  hs : H sa = some (.lst xs)
  hw : H wa = some (.lst ys)
  ll : LLs (upd (upd (upd B p (.lst [])) sa (.lst [])) wa (.lst [])) H (xs ++ ys) (ss ++ ws)
  xl : xs.length = ss.length
  n1 : p ≠ sa
  n2 : p ≠ wa
  n3 : sa ≠ wa
  bp : B p = none
  bs : B sa = none
  bw : B wa = none
theorem LLs.app {B H : Hp} {xs ys : List V} {ss ws : List (List Int)} {H1 : Hp} (h : LLs B H1 xs ss) (g : LLs H1 H ys ws) (s : Same H1 H) (sB : ∀ u, H1 u = none -> B u = none) : LLs B H (xs ++ ys) (ss ++ ws) := by
  obtain ⟨ts, a, b, c, d, e⟩ := h
  obtain ⟨ts', a', b', c', d', e'⟩ := g
  refine ⟨ts ++ ts', by rw [a, a']; simp, by simp [b, b'], ?_, fun i t w h1 h2 => ?_, fun t ht => ?_⟩
  . rw [List.nodup_append]
    refine ⟨c, c', fun x hx y hy z => ?_⟩
    obtain ⟨i, hi, ei⟩ := List.getElem_of_mem hx
    have h1 := d i x ss[i] (by rw [List.getElem?_eq_getElem hi, ei]) (by simp [show i < ss.length by omega])
    have h2 := e' y hy
    rw [<- z, h1] at h2
    cases h2
  . by_cases hi : i < ts.length
    . rw [List.getElem?_append_left hi] at h1
      rw [List.getElem?_append_left (by omega)] at h2
      exact s _ _ (d i t w h1 h2)
    . rw [List.getElem?_append_right (by omega)] at h1
      rw [List.getElem?_append_right (by omega), <- b] at h2
      exact d' _ t w h1 h2
  . rcases List.mem_append.mp ht with ht | ht
    . exact e t ht
    . exact sB t (e' t ht)
theorem LLs.reb {B G H : Hp} {xs : List V} {ss : List (List Int)} (h : LLs B H xs ss) (hG : ∀ u o, H u = some o -> B u = none -> G u = none) : LLs G H xs ss := by
  obtain ⟨ts, a, b, c, d, e⟩ := h
  refine ⟨ts, a, b, c, d, fun t ht => ?_⟩
  obtain ⟨i, hi, ei⟩ := List.getElem_of_mem ht
  exact hG t _ (d i t ss[i] (by rw [List.getElem?_eq_getElem hi, ei]) (by simp [show i < ss.length by omega])) (e t ht)
theorem Pcs.mk' {B H1 H2 : Hp} {p sa wa : Addr} {L : Int} {xs ys : List V} {ss ws : List (List Int)} (s1 : Same B H1) (h1 : LLs B H1 xs ss) (hsa : H1 sa = none) (s2 : Same (upd H1 sa (.lst xs)) H2) (h2 : LLs (upd H1 sa (.lst xs)) H2 ys ws) (hwa : H2 wa = none) (hp : upd H2 wa (.lst ys) p = none) : Pcs B (upd (upd H2 wa (.lst ys)) p (.lst [.int L, .ref sa, .ref wa])) p sa wa L xs ys ss ws := by
  have e1 := s2 _ _ (show upd H1 sa (.lst xs) sa = some (.lst xs) from upd_same)
  have n3 : sa ≠ wa := fun z => by rw [z, hwa] at e1; cases e1
  have sp := Same.new hp (o := .lst [.int L, .ref sa, .ref wa])
  have sw := Same.new hwa (o := .lst ys)
  have n2 : p ≠ wa := (none_of_upd hp).2
  have n1 : p ≠ sa := fun z => by have := (none_of_upd hp).1; rw [z, e1] at this; cases this
  have sA := Same.new hsa (o := .lst xs)
  have hp2 : H2 p = none := (none_of_upd hp).1
  have b1 : B sa = none := s1.none hsa
  have b2 : B wa = none := s1.none (sA.none (s2.none hwa))
  have b3 : B p = none := s1.none (sA.none (s2.none hp2))
  have L1 : LLs (upd B sa (.lst [])) (upd H1 sa (.lst xs)) xs ss := (LLs.reb (G := upd B sa (.lst [])) h1 fun u o hu hB => by rw [upd_ne (fun z => by rw [z, hsa] at hu; cases hu)]; exact hB).mono sA
  have L2 := LLs.app L1 h2 s2 (fun u hu => by rw [upd_ne (none_of_upd hu).2]; exact s1.none (none_of_upd hu).1)
  refine ⟨upd_same, sp _ _ (sw _ _ e1), sp _ _ upd_same, ?_, LLs.len h1, n1, n2, n3, b3, b1, b2⟩
  refine (LLs.reb (G := upd (upd (upd B p (.lst [])) sa (.lst [])) wa (.lst [])) L2 fun u o hu hB => ?_).mono (sw.trans sp)
  obtain ⟨hB1, hB2⟩ := none_of_upd hB
  rw [upd_ne (fun z => by rw [z, hwa] at hu; cases hu), upd_ne hB2, upd_ne (fun z => by rw [z, hp2] at hu; cases hu)]
  exact hB1
theorem compLT {K : PySem.W.Frag} {cp : Caps} {σ : St} {H : Hp} {G : VK} {b : Addr} {xs : List V} {ws : List (List Int)} {σ' : St} (e : cp.st σ = [none]) (hb : SqT K H b xs) (hR : RowsT K H xs ws) (hz : ws.length <= 900) (hG : ∀ (zs : List V) (H4 : Hp) (D : Addr), Same H H4 -> LLs H H4 zs ws -> H4 D = none -> G (.ref D) (upd H4 D (.lst zs))) : CompW (Itt K b) cp (gName 0) tTrue (tCB (fun xs H Q => ∃ p, xs = [V.ref p] /\ ∃ x, (SqL K H p x \/ SqT K H p x) /\ ∀ (l : Addr), H l = none -> Q (V.ref l) (upd H l (HO.lst x))) (tCons (tVar 0) tNil)) σ H G := by
  have hl := line1000
  refine compT (xs := xs) (fun i ys σ' H' => Same H H' /\ LLs H H' ys (ws.take i) /\ ∃ o, σ' = [o]) ⟨Same.refl _, LLs.nil _ _, none, e⟩ (by rw [hR.1]; omega) (fun i ys σ' H' hi h' => ⟨h'.1.seqT hb, by rw [LLs.len h'.2.1, List.length_take]; omega⟩) (fun i x ys σ' H' hx h' => ?_) (fun ys σ' H' h' D hD => ?_)
  . obtain ⟨s1, hLL, o, rfl⟩ := h'
    have hi : i < ws.length := by rw [<- hR.1]; exact (List.getElem?_eq_some_iff.mp hx).1
    have hri : ws[i]? = some ws[i] := by simp [hi]
    obtain ⟨d, hd1, hd2⟩ := (hR.mono s1).2 i _ hri
    rw [hx] at hd1
    cases hd1
    have et : ws.take (i + 1) = ws.take i ++ [ws[i]] := by rw [List.take_add_one, hri]; rfl
    walk_at "rd"
    exact ⟨_, .inr hd2, fun l hl' => ⟨s1.newT hl', by rw [et]; exact hLL.snoc (s1.none hl') hl', _, rfl⟩⟩
  . obtain ⟨s1, hLL, o, rfl⟩ := h'
    rw [hR.1, List.take_length] at hLL
    exact hG ys H' D s1 hLL hD
def sp_lists (K : PySem.W.Frag) : Sp := fun vs H Q _ => ∃ (h : Addr) (L : Int) (ss ws : List (List Int)), vs = [.ref h] /\ SaysH K H h L ss ws /\ ss.length <= 900 /\ ws.length <= 900 /\ ∀ p sa wa xs ys H', Same H H' -> Pcs H H' p sa wa L xs ys ss ws -> Q (.ref p) H'
theorem ok__law_lists {f : Addr} {fd : FuncData} (F : Fun K "_law_lists" "_law_lists" s__law_lists f fd) (T : Txt mg)
    (W : Own K mg)
    (Z : Exs K mg C_AskError C_BadHouse C_BadWord C_BadMark)
    : FnOk P w K mg base CX0 1 f fd ["house"] (sp_lists K) := by
  refine F.ok sc__law_lists (fun vs H Q E h => ?_) (fun cdv A outer s H vs Q E hr h => ?_)
  . obtain ⟨h, L, ss, ws, rfl, _⟩ := h; rfl
  . obtain ⟨h, L, ss, ws, rfl, ⟨m, y, h1, hm, hy⟩, hz1, hz2, k⟩ := h
    have hl := line1000
    obtain ⟨us, e1, t1⟩ := Rows.T hm
    obtain ⟨zs, e2, t2⟩ := Rows.T hy
    refine ⟨_, (pss_one (ps_ret (pe_lst (pa_cons (pe_ix ix_tup (pv 0) pe_int (fun _ _ => rfl)) (pa_cons (pe_comp rfl (blk_mk rfl) (cp := c__law_lists_1) True.intro (pi_tup (pe_ix ix_tup (pv 0) pe_int (fun _ _ => rfl))) (fun _ _ _ _ => (pg_name (i := 0) nd_c__law_lists_1 rfl (Or.inl rfl))) (fun _ _ _ _ => pf_nil) (fun _ _ _ _ => (pe_callTy (call_list_ofK (K := K) rfl) rfl T.list PyProof.Rows.boot_list (pa_cons (pv 0) pa_nil)))) (pa_cons (pe_comp rfl (blk_mk rfl) (cp := c__law_lists_0) True.intro (pi_tup (pe_ix ix_tup (pv 0) pe_int (fun _ _ => rfl))) (fun _ _ _ _ => (pg_name (i := 0) nd_c__law_lists_0 rfl (Or.inl rfl))) (fun _ _ _ _ => pf_nil) (fun _ _ _ _ => (pe_callTy (call_list_ofK (K := K) rfl) rfl T.list PyProof.Rows.boot_list (pa_cons (pv 0) pa_nil)))) pa_nil)))))), ?_⟩
    walk_at "rd"
    refine ⟨_, h1, _, rfl, _, h1, _, rfl, m, rfl, ⟨_, e1⟩, compLT (σ' := []) rfl e1 t1 hz1 fun xs H1 sa s1 l1 hsa => ?_⟩
    have sA := s1.newT hsa (o := .lst xs)
    refine ⟨_, sA.seqT h1, _, rfl, y, rfl, ⟨_, sA.seqT e2⟩, compLT (σ' := []) rfl (sA.seqT e2) (t2.mono sA) hz2 fun ys H2 wa s2 l2 hwa => ⟨by omega, fun p hp => ?_⟩⟩
    exact k p sa wa xs ys _ (((sA.trans s2).newT hwa).newT hp) (Pcs.mk' s1 l1 hsa s2 l2 hwa hp)
theorem flat_rep0 (d : Nat) (e : Int) : (List.replicate d [V.int e]).flatten = (List.replicate d e).map V.int := by
  induction d with
  | zero => rfl
  | succ d ih => rw [List.replicate_succ, List.flatten_cons, ih, List.replicate_succ]; rfl
def sp_blank (K : PySem.W.Frag) : Sp := fun vs H Q _ => ∃ (L n : Nat), vs = [.int L, .int n] /\ L <= 7 /\ n <= 41 /\ ∀ p sa wa xs ys H', Same H H' -> Pcs H H' p sa wa L xs ys (List.replicate n (List.replicate L 0)) (List.replicate n (List.replicate L 0)) -> Q (.ref p) H'
theorem ok__law_blank {f : Addr} {fd : FuncData} (F : Fun K "_law_blank" "_law_blank" s__law_blank f fd) (T : Txt mg)
    (W : Own K mg)
    (Z : Exs K mg C_AskError C_BadHouse C_BadWord C_BadMark)
    : FnOk P w K mg base CX0 1 f fd ["letters", "rooms"] (sp_blank K) := by
  refine F.ok sc__law_blank (fun vs H Q E h => ?_) (fun cdv A outer s H vs Q E hr h => ?_)
  . obtain ⟨L, n, rfl, _⟩ := h; rfl
  . obtain ⟨L, n, rfl, hL, hn, k⟩ := h
    have hl := line1000
    refine ⟨_, (pss_one (ps_ret (pe_lst (pa_cons (pv 0) (pa_cons (pe_comp rfl (blk_mk rfl) (cp := c__law_blank_1) ⟨⟨rfl, rfl⟩, True.intro⟩ (pi_range1 rfl T.range (pa_cons (pv 1) pa_nil)) (fun _ _ _ _ => (pg_name (i := 0) nd_c__law_blank_1 rfl (Or.inl rfl))) (fun _ _ _ _ => pf_nil) (fun _ _ _ _ => (pe_op op_rep (pe_lst (pa_cons pe_int pa_nil)) (pv 1)))) (pa_cons (pe_comp rfl (blk_mk rfl) (cp := c__law_blank_0) ⟨⟨rfl, rfl⟩, True.intro⟩ (pi_range1 rfl T.range (pa_cons (pv 1) pa_nil)) (fun _ _ _ _ => (pg_name (i := 0) nd_c__law_blank_0 rfl (Or.inl rfl))) (fun _ _ _ _ => pf_nil) (fun _ _ _ _ => (pe_op op_rep (pe_lst (pa_cons pe_int pa_nil)) (pv 1)))) pa_nil)))))), ?_⟩
    walk_at "rd"
    refine ⟨by omega, by omega, ?_⟩
    rw [Int.toNat_natCast]
    have comp : ∀ (H : Hp) (cp : Caps) (σ : St) (G : VK) (te : TE), cp.st σ = [none, some (.int L)] -> (∀ o H' R, (∀ p1, H' p1 = none -> ∀ p2, upd H' p1 (.lst [V.int 0]) p2 = none -> R (V.ref p2) (upd (upd H' p1 (.lst [V.int 0])) p2 (.lst ((List.replicate L (0 : Int)).map V.int)))) -> te [o, some (.int L)] H' R) -> (∀ (zs : List V) (H4 : Hp) (D : Addr), Same H H4 -> LLs H H4 zs (List.replicate n (List.replicate L 0)) -> H4 D = none -> G (.ref D) (upd H4 D (.lst zs))) -> CompW (Itr 0 n) cp (gName 0) tTrue te σ H G := by
      intro H cp σ G te hc hte hG
      refine compR (fun i ys σ' H' => Same H H' /\ LLs H H' ys (List.replicate i (List.replicate L 0)) /\ ∃ o, σ' = [o, some (.int L)]) ⟨Same.refl _, LLs.nil _ _, none, hc⟩ (by omega) (fun i ys σ' H' hi h' => by rw [LLs.len h'.2.1, List.length_replicate]; omega) (fun i ys σ' H' hi h' => ?_) (fun ys σ' H' h' D hD => ?_)
      . obtain ⟨s1, hLL, o, rfl⟩ := h'
        refine hte _ _ _ fun p1 hp1 p2 hp2 => ⟨(s1.newT hp1).newT hp2, ?_, _, rfl⟩
        rw [List.replicate_succ']
        exact (hLL.mono (Same.new hp1)).snoc ((s1.newT hp1).none hp2) hp2
      . obtain ⟨s1, hLL, o, rfl⟩ := h'
        exact hG ys H' D s1 hLL hD
    refine comp _ _ _ _ _ rfl ?_ ?_
    . intro o H' R hR
      walk_at "rd"
      refine ⟨by omega, fun p1 hp1 => ⟨_, upd_same, by omega, by omega, by simp; omega, fun p2 hp2 => ?_⟩⟩
      rw [Int.toNat_natCast, flat_rep0]
      exact hR p1 hp1 p2 hp2
    . intro xs H1 sa s1 l1 hsa
      refine ⟨by omega, by omega, comp _ _ _ _ _ rfl ?_ ?_⟩
      . intro o H' R hR
        walk_at "rd"
        refine ⟨by omega, fun p1 hp1 => ⟨_, upd_same, by omega, by omega, by simp; omega, fun p2 hp2 => ?_⟩⟩
        rw [Int.toNat_natCast, flat_rep0]
        exact hR p1 hp1 p2 hp2
      . intro ys H2 wa s2 l2 hwa
        refine ⟨by omega, fun p hp => ?_⟩
        exact k p sa wa xs ys _ ((((s1.newT hsa).trans s2).newT hwa).newT hp) (Pcs.mk' s1 l1 hsa s2 l2 hwa hp)
theorem LLs.atV {H0 H : Hp} {xs : List V} {ws : List (List Int)} (h : LLs H0 H xs ws) {i : Nat} {w : List Int} (hw : ws[i]? = some w) : ∃ t, xs[i]? = some (.ref t) /\ H t = some (.lst (w.map V.int)) /\ H0 t = none /\ ∀ v : List Int, LLs H0 (upd H t (.lst (v.map V.int))) xs (ws.set i v) := by
  obtain ⟨ts, a, b, c, d, e⟩ := h
  have hi : i < ts.length := by rw [b]; exact (List.getElem?_eq_some_iff.mp hw).1
  have ht : ts[i]? = some ts[i] := by simp [hi]
  refine ⟨ts[i], by rw [a, List.getElem?_map, ht]; rfl, d i _ w ht hw, e _ (List.getElem_mem hi), fun v' => ⟨ts, a, by rw [List.length_set]; exact b, c, fun k t v h1 h2 => ?_, e⟩⟩
  by_cases hk : k = i
  . subst hk
    rw [ht] at h1; cases h1
    rw [List.getElem?_set_self (by omega)] at h2; cases h2
    exact upd_same
  . have hne : t ≠ ts[i] := fun z => hk (by
      have hk' := (List.getElem?_eq_some_iff.mp h1).1
      refine (List.getElem_inj (h₀ := hk') (h₁ := hi) c).mp ?_
      rw [<- z]
      exact (List.getElem?_eq_some_iff.mp h1).2)
    rw [List.getElem?_set_ne (Ne.symm hk)] at h2
    rw [upd_ne hne]
    exact d k t v h1 h2
def RowsLs (H : Hp) (xs : List V) (ws : List (List Int)) : Prop := xs.length = ws.length /\ ∀ (i : Nat) (r : List Int), ws[i]? = some r -> ∃ a, xs[i]? = some (.ref a) /\ H a = some (.lst (r.map V.int))
theorem LLs.rows {H0 H : Hp} {xs : List V} {ws : List (List Int)} (h : LLs H0 H xs ws) : RowsLs H xs ws := ⟨LLs.len h, fun i r hi => by
  obtain ⟨t, a, b, _⟩ := LLs.atV h hi
  exact ⟨t, a, b⟩⟩
theorem RowsLs.B {K : PySem.W.Frag} {H : Hp} {xs : List V} {ws : List (List Int)} (h : RowsLs H xs ws) : RowsB K H xs ws := ⟨h.1, fun i r hi => by
  obtain ⟨a, e, b⟩ := h.2 i r hi
  exact ⟨false, a, e, SqL.of b⟩⟩
theorem RowsLs.mono {H H' : Hp} {xs : List V} {ws : List (List Int)} (h : RowsLs H xs ws) (s : Same H H') : RowsLs H' xs ws := ⟨h.1, fun i r hi => by
  obtain ⟨a, e, b⟩ := h.2 i r hi
  exact ⟨a, e, s _ _ b⟩⟩
def BadS (H : Hp) (p : Addr) : Prop := ∃ (sa wa : Addr) (L : Int) (xs ys : List V) (ss ws : List (List Int)), H p = some (.lst [.int L, .ref sa, .ref wa]) /\ H sa = some (.lst xs) /\ RowsLs H xs ss /\ H wa = some (.lst ys) /\ RowsLs H ys ws /\ ss.length <= 50 /\ ws.length <= 50 /\ (∀ r ∈ ss, r.length <= 50) /\ (∀ r ∈ ws, r.length <= 50) /\ okS L ss ws = false
structure OkS (L : Int) (ss ws : List (List Int)) : Prop where
  l1 : 1 <= L
  l6 : L <= 6
  n1 : 1 <= ss.length
  n40 : ss.length <= 40
  sr : ∀ r ∈ ss, (r.length : Int) = L /\ ∀ x ∈ r, 0 <= x /\ x <= 1000000000
  len : ws.length = ss.length
  wr : ∀ r ∈ ws, (r.length : Int) = L /\ ∀ g ∈ r, 0 <= g /\ g < ss.length
theorem okS_iff {L : Int} {ss ws : List (List Int)} : okS L ss ws = true ↔ OkS L ss ws := by
  unfold okS okSR okM okR mkB goB
  simp only [Bool.and_eq_true, decide_eq_true_eq, List.all_eq_true]
  exact ⟨fun ⟨⟨a, b⟩, ⟨c, d⟩, e, f, g⟩ => ⟨a, b, c, d, e, f, g⟩, fun ⟨a, b, c, d, e, f, g⟩ => ⟨⟨a, b⟩, ⟨c, d⟩, e, f, g⟩⟩
theorem okS_no {L : Int} {ss ws : List (List Int)} (h : ¬ OkS L ss ws) : okS L ss ws = false := by
  cases e : okS L ss ws with
  | false => rfl
  | true => exact absurd (okS_iff.mp e) h
theorem LLs.left {B H : Hp} {xs ys : List V} {ss ws : List (List Int)} (h : LLs B H (xs ++ ys) (ss ++ ws)) (e : xs.length = ss.length) : RowsLs H xs ss := ⟨e, fun i r hi => by
  have hl := (List.getElem?_eq_some_iff.mp hi).1
  obtain ⟨t, a, b⟩ := (LLs.rows h).2 i r (by rw [List.getElem?_append_left hl]; exact hi)
  rw [List.getElem?_append_left (by omega)] at a
  exact ⟨t, a, b⟩⟩
theorem LLs.right {B H : Hp} {xs ys : List V} {ss ws : List (List Int)} (h : LLs B H (xs ++ ys) (ss ++ ws)) (e : xs.length = ss.length) : RowsLs H ys ws := ⟨by have := LLs.len h; simp at this; omega, fun i r hi => by
  have hl := (List.getElem?_eq_some_iff.mp hi).1
  obtain ⟨t, a, b⟩ := (LLs.rows h).2 (ss.length + i) r (by rw [List.getElem?_append_right (by omega)]; simpa using hi)
  rw [List.getElem?_append_right (by omega), e] at a
  exact ⟨t, by simpa using a, b⟩⟩
theorem RowsLs.snoc {H : Hp} {xs : List V} {rws : List (List Int)} {t : Addr} {r : List Int} (h : RowsLs H xs rws) (ht : H t = some (.lst (r.map V.int))) : RowsLs H (xs ++ [.ref t]) (rws ++ [r]) := by
  refine ⟨by simp [h.1], fun i r' hi => ?_⟩
  by_cases hl : i < rws.length
  . rw [List.getElem?_append_left hl] at hi
    rw [List.getElem?_append_left (by rw [h.1]; exact hl)]
    exact h.2 i r' hi
  . have := (List.getElem?_eq_some_iff.mp hi).1
    rw [List.length_append, List.length_singleton] at this
    have e : i = rws.length := by omega
    subst e
    rw [List.getElem?_append_right (Nat.le_refl _), Nat.sub_self] at hi
    simp at hi
    subst hi
    exact ⟨t, by rw [<- h.1]; simp, ht⟩
theorem RowsLs.dropLast {H : Hp} {xs : List V} {ws : List (List Int)} (h : RowsLs H xs ws) : RowsLs H xs.dropLast ws.dropLast := ⟨by rw [List.length_dropLast, List.length_dropLast, h.1], fun i r hi => by
  rw [List.getElem?_dropLast] at hi ⊢
  rw [h.1]
  split at hi
  . rename_i hk
    rw [if_pos hk]; exact h.2 i r hi
  . cases hi⟩
theorem Pcs.bad {B H : Hp} {p sa wa : Addr} {L : Int} {xs ys : List V} {ss ws : List (List Int)} (h : Pcs B H p sa wa L xs ys ss ws) (h1 : ss.length <= 50) (h2 : ws.length <= 50) (h3 : ∀ r ∈ ss, r.length <= 50) (h4 : ∀ r ∈ ws, r.length <= 50) (h5 : okS L ss ws = false) : BadS H p := ⟨sa, wa, L, xs, ys, ss, ws, h.hp, h.hs, LLs.left h.ll h.xl, h.hw, LLs.right h.ll h.xl, h1, h2, h3, h4, h5⟩
def sp_shape (K : PySem.W.Frag) : Sp := fun vs H Q _ => ∃ (B : Hp) (p sa wa : Addr) (L c : Int) (k : Nat) (xs ys : List V) (ss ws : List (List Int)), vs = [.ref p, .int k, .int c] /\ Pcs B H p sa wa L xs ys ss ws /\ OkS L ss ws /\ (∀ u, H u = none -> B u = none) /\ k <= 8 /\ ∀ p' H', BadS H' p' -> Q (.ref p') H'
theorem ok__law_spoiled_shape {f : Addr} {fd : FuncData} (F : Fun K "_law_spoiled_shape" "_law_spoiled_shape" s__law_spoiled_shape f fd) (T : Txt mg)
    (W : Own K mg)
    (Z : Exs K mg C_AskError C_BadHouse C_BadWord C_BadMark)
    {f__law_blank : Addr} {fd__law_blank : FuncData} (g__law_blank : FnOk P w K mg base CX0 1 f__law_blank fd__law_blank ["letters", "rooms"] (sp_blank K)) (F__law_blank : Fun K "_law_blank" "_law_blank" s__law_blank f__law_blank fd__law_blank) (b__law_blank : Binds K fd__law_blank ["letters", "rooms"] []) (m__law_blank : mg "_law_blank" = some (.ref f__law_blank))
    : FnOk P w K mg base CX0 2 f fd ["pieces", "way", "cell"] (sp_shape K) := by
  refine F.ok sc__law_spoiled_shape (fun vs H Q E h => ?_) (fun cdv A outer s H vs Q E hr h => ?_)
  . obtain ⟨B, p, sa, wa, L, c, k, xs, ys, ss, ws, rfl, _⟩ := h; rfl
  . obtain ⟨B, p, sa, wa, L, c, k, xs, ys, ss, ws, rfl, hP, ok, hN, hk8, q⟩ := h
    have hl := line1000
    refine ⟨_, (pss_cons (ps_set (i := 3) sc__law_spoiled_shape.nd rfl (Or.inl rfl) (pe_op op_mod (pv 2) (pe_callB call_len_seq (by rfl) T.len PySem.boot_len (pa_cons (pe_ix ix_list (pv 0) pe_int (fun _ _ => rfl)) pa_nil))))
      (pss_cut (ps_if (pt_cmpR op_eq (pv 1) pe_int (nomark _))
      (pss_one (ps_asg (pe_op op_sub pe_int (pe_op op_mod (pe_op op_fdiv (pv 2) pe_int) pe_int)) (pg_sub (pv 0) pe_int set_list)))
      (pss_one (ps_if (pt_cmpR op_eq (pv 1) pe_int (nomark _))
      (pss_one (ps_ret (pe_call g__law_blank (hr.mono (by decide)) rfl m__law_blank F__law_blank.kp b__law_blank .nil pass0 (pa_cons pe_int (pa_cons (pe_op op_add pe_int (pe_op op_mod (pv 2) pe_int)) pa_nil)))))
      (pss_one (ps_if (pt_cmpR op_eq (pv 1) pe_int (nomark _))
      (pss_one (ps_ret (pe_call g__law_blank (hr.mono (by decide)) rfl m__law_blank F__law_blank.kp b__law_blank .nil pass0 (pa_cons (pe_ix ix_list (pv 0) pe_int (fun _ _ => rfl)) (pa_cons (pe_ix ix_list (pe_lst (pa_cons pe_int (pa_cons pe_int pa_nil))) (pe_op op_mod (pv 2) pe_int) (fun _ _ => rfl)) pa_nil)))))
      (pss_one (ps_if (pt_cmpR op_eq (pv 1) pe_int (nomark _))
      (pss_one (ps_expr (pe_bm PySem.F.plainAttrs_list PySem.F.slot_list_append PySem.F.type_list_append mt_append (pe_ix ix_list (pv 0) pe_int (fun _ _ => rfl)) (pa_cons (pe_callTy call_list_of rfl T.list PyProof.Rows.boot_list (pa_cons (pe_ix ix_list (pe_ix ix_list (pv 0) pe_int (fun _ _ => rfl)) (pv 3) (fun _ _ => rfl)) pa_nil)) pa_nil))))
      (pss_one (ps_if (pt_cmpR op_eq (pv 1) pe_int (nomark _))
      (pss_one (ps_expr (pe_bm0 PySem.F.plainAttrs_list PySem.F.slot_list_pop PySem.F.type_list_pop mt_pop (pe_ix ix_list (pv 0) pe_int (fun _ _ => rfl)))))
      (pss_one (ps_if (pt_cmpR op_eq (pv 1) pe_int (nomark _))
      (pss_one (ps_expr (pe_bm PySem.F.plainAttrs_list PySem.F.slot_list_append PySem.F.type_list_append mt_append (pe_ix ix_list (pe_ix ix_list (pv 0) pe_int (fun _ _ => rfl)) (pv 3) (fun _ _ => rfl)) (pa_cons pe_int pa_nil))))
      (pss_one (ps_if (pt_cmpR op_eq (pv 1) pe_int (nomark _))
      (pss_one (ps_expr (pe_bm0 PySem.F.plainAttrs_list PySem.F.slot_list_pop PySem.F.type_list_pop mt_pop (pe_ix ix_list (pe_ix ix_list (pv 0) pe_int (fun _ _ => rfl)) (pv 3) (fun _ _ => rfl)))))
      (pss_one (ps_if (pt_cmpR op_eq (pv 1) pe_int (nomark _))
      (pss_one (ps_expr (pe_bm PySem.F.plainAttrs_list PySem.F.slot_list_append PySem.F.type_list_append mt_append (pe_ix ix_list (pe_ix ix_list (pv 0) pe_int (fun _ _ => rfl)) (pv 3) (fun _ _ => rfl)) (pa_cons pe_int pa_nil))))
      (pss_one (ps_expr (pe_bm0 PySem.F.plainAttrs_list PySem.F.slot_list_pop PySem.F.type_list_pop mt_pop (pe_ix ix_list (pe_ix ix_list (pv 0) pe_int (fun _ _ => rfl)) (pv 3) (fun _ _ => rfl))))))))))))))))))))
      (pss_one (ps_ret (pv 0))))), ?_⟩
    have n1 := ok.n1
    have n40 := ok.n40
    have l1 := ok.l1
    have l6 := ok.l6
    have hlen := ok.len
    have R1 := LLs.left hP.ll hP.xl
    have R2 := LLs.right hP.ll hP.xl
    have hrs : ∀ r ∈ ss, r.length <= 50 := fun r hr' => by have := (ok.sr r hr').1; omega
    have hrw : ∀ r ∈ ws, r.length <= 50 := fun r hr' => by have := (ok.wr r hr').1; omega
    walk_at "rd"
    refine ⟨_, SqL.of hP.hp, _, rfl, sa, rfl, _, .inl (SqL.of hP.hs), ?_⟩
    rw [hP.xl]
    have e0 := Int.emod_nonneg c (show (ss.length : Int) ≠ 0 by omega)
    have e1 := Int.emod_lt_of_pos c (show (0 : Int) < ss.length by omega)
    refine ⟨by omega, ?_⟩
    obtain ⟨rw', hrw'⟩ : ∃ n : Nat, c % (ss.length : Int) = n := ⟨(c % (ss.length : Int)).toNat, by omega⟩
    rw [hrw']
    have hss : ss[rw']? = some ss[rw'] := by simp [show rw' < ss.length by omega]
    have hws : ws[rw']? = some ws[rw'] := by simp [show rw' < ws.length by omega]
    have gp : upd (upd (upd B p (.lst [])) sa (.lst [])) wa (.lst []) p = some (.lst []) := by rw [upd_ne hP.n2, upd_ne hP.n1]; exact upd_same
    have gs : upd (upd (upd B p (.lst [])) sa (.lst [])) wa (.lst []) sa = some (.lst []) := by rw [upd_ne hP.n3]; exact upd_same
    have gw : upd (upd (upd B p (.lst [])) sa (.lst [])) wa (.lst []) wa = some (.lst []) := upd_same
    have gn : ∀ u, H u = none -> upd (upd (upd B p (.lst [])) sa (.lst [])) wa (.lst []) u = none := fun u hu => by
      rw [upd_ne (fun z => by rw [z, hP.hw] at hu; cases hu), upd_ne (fun z => by rw [z, hP.hs] at hu; cases hu), upd_ne (fun z => by rw [z, hP.hp] at hu; cases hu)]
      exact hN u hu
    have LL := hP.ll
    generalize upd (upd (upd B p (.lst [])) sa (.lst [])) wa (.lst []) = G at gp gs gw gn LL
    obtain ⟨t1, a1, b1, c1, d1⟩ := LLs.atV LL (i := rw') (w := ss[rw']) (by rw [List.getElem?_append_left (by omega)]; exact hss)
    obtain ⟨t2, a2, b2, c2, d2⟩ := LLs.atV LL (i := ss.length + rw') (w := ws[rw']) (by rw [List.getElem?_append_right (by omega)]; simpa using hws)
    have xl := hP.xl
    rw [List.getElem?_append_left (by omega)] at a1
    rw [List.getElem?_append_right (by omega), xl, Nat.add_sub_cancel_left] at a2
    have r1l := (ok.sr _ (List.mem_of_getElem? hss)).1
    have r2l := (ok.wr _ (List.mem_of_getElem? hws)).1
    have ne : ∀ {t u : Addr}, G t = none -> G u = some (.lst []) -> u ≠ t := fun {t u} h1 h2 z => by rw [z, h1] at h2; cases h2
    have finS : ∀ v : List Int, v.length <= 50 -> (v.length : Int) ≠ L -> BadS (upd H t1 (.lst (v.map V.int))) p := fun v hv hb => by
      have := d1 v
      rw [List.set_append_left _ _ (by omega)] at this
      refine ⟨sa, wa, L, xs, ys, ss.set rw' v, ws, by rw [upd_ne (ne c1 gp)]; exact hP.hp, by rw [upd_ne (ne c1 gs)]; exact hP.hs, LLs.left this (by rw [List.length_set]; exact xl), by rw [upd_ne (ne c1 gw)]; exact hP.hw, LLs.right this (by rw [List.length_set]; exact xl), by rw [List.length_set]; omega, by omega, fun r hr' => ?_, hrw, okS_no fun z => hb (z.sr v (List.mem_iff_getElem?.mpr ⟨rw', by rw [List.getElem?_set_self (by omega)]⟩)).1⟩
      rcases List.mem_or_eq_of_mem_set hr' with hr' | rfl
      . exact hrs r hr'
      . exact hv
    have finW : ∀ v : List Int, v.length <= 50 -> (v.length : Int) ≠ L -> BadS (upd H t2 (.lst (v.map V.int))) p := fun v hv hb => by
      have := d2 v
      rw [List.set_append_right _ _ (by omega), Nat.add_sub_cancel_left] at this
      refine ⟨sa, wa, L, xs, ys, ss, ws.set rw' v, by rw [upd_ne (ne c2 gp)]; exact hP.hp, by rw [upd_ne (ne c2 gs)]; exact hP.hs, LLs.left this xl, by rw [upd_ne (ne c2 gw)]; exact hP.hw, LLs.right this xl, by omega, by rw [List.length_set]; omega, hrs, fun r hr' => ?_, okS_no fun z => hb (z.wr v (List.mem_iff_getElem?.mpr ⟨rw', by rw [List.getElem?_set_self (by omega)]⟩)).1⟩
      rcases List.mem_or_eq_of_mem_set hr' with hr' | rfl
      . exact hrw r hr'
      . exact hv
    obtain ⟨R, hR⟩ : ∃ R : St -> Hp -> Prop, ∀ σ' H', R σ' H' ↔ (BadS H' p /\ σ' = [some (.ref p), some (.int k), some (.int c), some (.int rw')]) := ⟨_, fun _ _ => Iff.rfl⟩
    refine ⟨R, ?_, fun σ1 H1 h1 => ?_⟩
    . walk_at "rd"
      refine ite2 (fun k0 => ?_) (fun k0 => ite2 (fun k1 => ?_) (fun k1 => ite2 (fun k2 => ?_) (fun k2 => ite2 (fun k3 => ?_) (fun k3 => ite2 (fun k4 => ?_) (fun k4 => ite2 (fun k5 => ?_) (fun k5 => ite2 (fun k6 => ?_) (fun k6 => ite2 (fun k7 => ?_) (fun k7 => ?_))))))))
      . have f0 := Int.emod_nonneg (c / 7) (show (5 : Int) ≠ 0 by decide)
        refine ⟨⟨by decide, by decide⟩, by decide, _, hP.hp, 0, rfl, (hR _ _).mpr ⟨⟨sa, wa, _, xs, ys, ss, ws, upd_same, by rw [upd_ne (Ne.symm hP.n1)]; exact hP.hs, LLs.left (LLs.off LL gp) xl, by rw [upd_ne (Ne.symm hP.n2)]; exact hP.hw, LLs.right (LLs.off LL gp) xl, by omega, by omega, hrs, hrw, okS_no fun z => ?_⟩, rfl⟩⟩
        have := z.l1
        omega
      . have f0 := Int.emod_nonneg c (show (5 : Int) ≠ 0 by decide)
        have f1 := Int.emod_lt_of_pos c (show (0 : Int) < 5 by decide)
        obtain ⟨n, hn⟩ : ∃ n : Nat, 1 + c % 5 = n := ⟨(1 + c % 5).toNat, by omega⟩
        rw [hn]
        refine ⟨by decide, 7, n, rfl, by omega, by omega, fun p' sa' wa' xs' ys' H' s' hP' => q p' H' (hP'.bad (by rw [List.length_replicate]; omega) (by rw [List.length_replicate]; omega) (fun r hr' => by rw [(List.mem_replicate.mp hr').2, List.length_replicate]; omega) (fun r hr' => by rw [(List.mem_replicate.mp hr').2, List.length_replicate]; omega) (okS_no fun z => ?_))⟩
        have := z.l6
        omega
      . obtain ⟨Ln, hLn⟩ : ∃ n : Nat, L = n := ⟨L.toNat, by omega⟩
        refine ⟨_, SqL.of hP.hp, _, rfl, by omega, fun p1 hp1 => ⟨by decide, _, SqL.of upd_same, ?_⟩⟩
        have key : ∀ n : Nat, n <= 41 -> (n < 1 \/ 40 < n) -> sp_blank K [V.int L, V.int n] (upd H p1 (.lst [V.int 0, V.int 41])) Q E0 := fun n hn hb => by
          refine ⟨Ln, n, by rw [hLn], by omega, hn, fun p' sa' wa' xs' ys' H' s' hP' => q p' H' (hP'.bad (by rw [List.length_replicate]; omega) (by rw [List.length_replicate]; omega) (fun r hr' => by rw [(List.mem_replicate.mp hr').2, List.length_replicate]; omega) (fun r hr' => by rw [(List.mem_replicate.mp hr').2, List.length_replicate]; omega) (okS_no fun z => ?_))⟩
          have h1 := z.n1
          have h2 := z.n40
          rw [List.length_replicate] at h1 h2
          omega
        have f0 := Int.emod_nonneg c (show (2 : Int) ≠ 0 by decide)
        have f1 := Int.emod_lt_of_pos c (show (0 : Int) < 2 by decide)
        have : c % 2 = 0 \/ c % 2 = 1 := by omega
        rcases this with z | z
        . rw [z]; exact ⟨V.int (0 : Nat), rfl, key 0 (by omega) (by omega)⟩
        . rw [z]; exact ⟨V.int (41 : Nat), rfl, key 41 (by omega) (by omega)⟩
      . refine ⟨_, SqL.of hP.hp, _, rfl, .inl ⟨rfl, _, SqL.of hP.hs⟩, _, SqL.of hP.hp, _, rfl, sa, rfl, _, SqL.of hP.hs, _, atI_nat a1, t1, rfl, _, .inl (SqL.of b1), fun l hl' => ⟨sa, rfl, _, Same.new hl' _ _ hP.hs, by omega, (hR _ _).mpr ⟨?_, rfl⟩⟩⟩
        have LL' := LLs.off (LL.mono (Same.new hl' (o := .lst (ss[rw'].map V.int)))) (o := .lst (xs ++ [V.ref l])) gs
        have hls : l ≠ sa := fun z => by rw [z, hP.hs] at hl'; cases hl'
        refine ⟨sa, wa, L, xs ++ [.ref l], ys, ss ++ [ss[rw']], ws, by rw [upd_ne hP.n1]; exact Same.new hl' _ _ hP.hp, upd_same, (LLs.left LL' xl).snoc (by rw [upd_ne hls]; exact upd_same), by rw [upd_ne (Ne.symm hP.n3)]; exact Same.new hl' _ _ hP.hw, LLs.right LL' xl, by simp; omega, by omega, fun r hr' => ?_, hrw, okS_no fun z => ?_⟩
        . rcases List.mem_append.mp hr' with hr' | hr'
          . exact hrs r hr'
          . rw [List.mem_singleton.mp hr']; omega
        . have := z.len
          rw [List.length_append, List.length_singleton] at this
          omega
      . have hlast : xs[xs.length - 1]? = some xs[xs.length - 1] := by simp [show xs.length - 1 < xs.length by omega]
        have LL' := LLs.off LL (o := .lst xs.dropLast) gs
        refine ⟨_, SqL.of hP.hp, _, rfl, .inl ⟨rfl, _, SqL.of hP.hs⟩, sa, rfl, _, hP.hs, _, hlast, (hR _ _).mpr ⟨⟨sa, wa, L, xs.dropLast, ys, ss.dropLast, ws, by rw [upd_ne hP.n1]; exact hP.hp, upd_same, (LLs.left LL' xl).dropLast, by rw [upd_ne (Ne.symm hP.n3)]; exact hP.hw, LLs.right LL' xl, by rw [List.length_dropLast]; omega, by omega, fun r hr' => hrs r ((List.dropLast_sublist ss).subset hr'), hrw, okS_no fun z => ?_⟩, rfl⟩⟩
        have := z.len
        rw [List.length_dropLast] at this
        omega
      . refine ⟨_, SqL.of hP.hp, _, rfl, sa, rfl, _, SqL.of hP.hs, _, atI_nat a1, .inl ⟨rfl, _, SqL.of b1⟩, t1, rfl, _, b1, by rw [List.length_map]; omega, (hR _ _).mpr ⟨?_, rfl⟩⟩
        have := finS (ss[rw'] ++ [0]) (by simp; omega) (by simp; omega)
        rw [List.map_append, List.map_singleton] at this
        exact this
      . refine ⟨_, SqL.of hP.hp, _, rfl, sa, rfl, _, SqL.of hP.hs, _, atI_nat a1, .inl ⟨rfl, _, SqL.of b1⟩, t1, rfl, _, b1, V.int ss[rw'][ss[rw'].length - 1], by rw [List.length_map]; simp, (hR _ _).mpr ⟨?_, rfl⟩⟩
        have := finS ss[rw'].dropLast (by rw [List.length_dropLast]; omega) (by rw [List.length_dropLast]; omega)
        rw [List.map_dropLast] at this
        exact this
      . refine ⟨_, SqL.of hP.hp, _, rfl, wa, rfl, _, SqL.of hP.hw, _, atI_nat a2, .inl ⟨rfl, _, SqL.of b2⟩, t2, rfl, _, b2, by rw [List.length_map]; omega, (hR _ _).mpr ⟨?_, rfl⟩⟩
        have := finW (ws[rw'] ++ [0]) (by simp; omega) (by simp; omega)
        rw [List.map_append, List.map_singleton] at this
        exact this
      . refine ⟨_, SqL.of hP.hp, _, rfl, wa, rfl, _, SqL.of hP.hw, _, atI_nat a2, .inl ⟨rfl, _, SqL.of b2⟩, t2, rfl, _, b2, V.int ws[rw'][ws[rw'].length - 1], by rw [List.length_map]; simp, (hR _ _).mpr ⟨?_, rfl⟩⟩
        have := finW ws[rw'].dropLast (by rw [List.length_dropLast]; omega) (by rw [List.length_dropLast]; omega)
        rw [List.map_dropLast] at this
        exact this
    . obtain ⟨hb, rfl⟩ := (hR _ _).mp h1
      walk_at "rd"
      exact q p _ hb
theorem Pcs.G0 {B H : Hp} {p sa wa : Addr} {L : Int} {xs ys : List V} {ss ws : List (List Int)} (hP : Pcs B H p sa wa L xs ys ss ws) : upd (upd (upd B p (.lst [])) sa (.lst [])) wa (.lst []) p = some (.lst []) /\ upd (upd (upd B p (.lst [])) sa (.lst [])) wa (.lst []) sa = some (.lst []) /\ upd (upd (upd B p (.lst [])) sa (.lst [])) wa (.lst []) wa = some (.lst []) :=
  ⟨by rw [upd_ne hP.n2, upd_ne hP.n1]; exact upd_same, by rw [upd_ne hP.n3]; exact upd_same, upd_same⟩
theorem Pcs.setS {B H : Hp} {p sa wa : Addr} {L : Int} {xs ys : List V} {ss ws : List (List Int)} (h : Pcs B H p sa wa L xs ys ss ws) {i : Nat} {r : List Int} (hi : ss[i]? = some r) (h1 : ss.length <= 50) (h2 : ws.length <= 50) (h3 : ∀ r ∈ ss, r.length <= 50) (h4 : ∀ r ∈ ws, r.length <= 50) : ∃ t, xs[i]? = some (.ref t) /\ H t = some (.lst (r.map V.int)) /\ ∀ H', Same H H' -> ∀ v : List Int, v.length <= 50 -> okS L (ss.set i v) ws = false -> BadS (upd H' t (.lst (v.map V.int))) p := by
  have hil := (List.getElem?_eq_some_iff.mp hi).1
  have xl := h.xl
  have hg : (ss ++ ws)[i]? = some r := by rw [List.getElem?_append_left hil]; exact hi
  obtain ⟨t, a, b, c, _⟩ := LLs.atV h.ll hg
  rw [List.getElem?_append_left (by omega)] at a
  refine ⟨t, a, b, fun H' s v hv hb => ?_⟩
  obtain ⟨t', a', b', c', d'⟩ := LLs.atV (h.ll.mono s) hg
  rw [List.getElem?_append_left (by omega), a] at a'
  cases a'
  obtain ⟨gp, gs, gw⟩ := Pcs.G0 h
  have ne : ∀ {u : Addr}, upd (upd (upd B p (.lst [])) sa (.lst [])) wa (.lst []) u = some (.lst []) -> u ≠ t := fun h2 z => by rw [z, c] at h2; cases h2
  have := d' v
  rw [List.set_append_left _ _ (by omega)] at this
  refine ⟨sa, wa, L, xs, ys, ss.set i v, ws, by rw [upd_ne (ne gp)]; exact s _ _ h.hp, by rw [upd_ne (ne gs)]; exact s _ _ h.hs, LLs.left this (by rw [List.length_set]; exact xl), by rw [upd_ne (ne gw)]; exact s _ _ h.hw, LLs.right this (by rw [List.length_set]; exact xl), by rw [List.length_set]; omega, by omega, fun r hr' => ?_, h4, hb⟩
  rcases List.mem_or_eq_of_mem_set hr' with hr' | rfl
  . exact h3 r hr'
  . exact hv
theorem Pcs.setW {B H : Hp} {p sa wa : Addr} {L : Int} {xs ys : List V} {ss ws : List (List Int)} (h : Pcs B H p sa wa L xs ys ss ws) {i : Nat} {r : List Int} (hi : ws[i]? = some r) (h1 : ss.length <= 50) (h2 : ws.length <= 50) (h3 : ∀ r ∈ ss, r.length <= 50) (h4 : ∀ r ∈ ws, r.length <= 50) : ∃ t, ys[i]? = some (.ref t) /\ H t = some (.lst (r.map V.int)) /\ ∀ H', Same H H' -> ∀ v : List Int, v.length <= 50 -> okS L ss (ws.set i v) = false -> BadS (upd H' t (.lst (v.map V.int))) p := by
  have hil := (List.getElem?_eq_some_iff.mp hi).1
  have xl := h.xl
  have hg : (ss ++ ws)[ss.length + i]? = some r := by rw [List.getElem?_append_right (by omega)]; simpa using hi
  obtain ⟨t, a, b, c, _⟩ := LLs.atV h.ll hg
  rw [List.getElem?_append_right (by omega), xl, Nat.add_sub_cancel_left] at a
  refine ⟨t, a, b, fun H' s v hv hb => ?_⟩
  obtain ⟨t', a', b', c', d'⟩ := LLs.atV (h.ll.mono s) hg
  rw [List.getElem?_append_right (by omega), xl, Nat.add_sub_cancel_left, a] at a'
  cases a'
  obtain ⟨gp, gs, gw⟩ := Pcs.G0 h
  have ne : ∀ {u : Addr}, upd (upd (upd B p (.lst [])) sa (.lst [])) wa (.lst []) u = some (.lst []) -> u ≠ t := fun h2 z => by rw [z, c] at h2; cases h2
  have := d' v
  rw [List.set_append_right _ _ (by omega), Nat.add_sub_cancel_left] at this
  refine ⟨sa, wa, L, xs, ys, ss, ws.set i v, by rw [upd_ne (ne gp)]; exact s _ _ h.hp, by rw [upd_ne (ne gs)]; exact s _ _ h.hs, LLs.left this xl, by rw [upd_ne (ne gw)]; exact s _ _ h.hw, LLs.right this xl, by omega, by rw [List.length_set]; omega, h3, fun r hr' => ?_, hb⟩
  rcases List.mem_or_eq_of_mem_set hr' with hr' | rfl
  . exact h4 r hr'
  . exact hv
def sp_snum (K : PySem.W.Frag) : Sp := fun vs H Q _ => ∃ (B : Hp) (p sa wa : Addr) (L c : Int) (k : Nat) (xs ys : List V) (ss ws : List (List Int)), vs = [.ref p, .int k, .int c] /\ Pcs B H p sa wa L xs ys ss ws /\ OkS L ss ws /\ ∀ p' H', BadS H' p' -> Q (.ref p') H'
theorem ok__law_spoiled_number {f : Addr} {fd : FuncData} (F : Fun K "_law_spoiled_number" "_law_spoiled_number" s__law_spoiled_number f fd) (T : Txt mg)
    (W : Own K mg)
    (Z : Exs K mg C_AskError C_BadHouse C_BadWord C_BadMark)
    : FnOk P w K mg base CX0 1 f fd ["pieces", "way", "cell"] (sp_snum K) := by
  refine F.ok sc__law_spoiled_number (fun vs H Q E h => ?_) (fun cdv A outer s H vs Q E hr h => ?_)
  . obtain ⟨B, p, sa, wa, L, c, k, xs, ys, ss, ws, rfl, _⟩ := h; rfl
  . obtain ⟨B, p, sa, wa, L, c, k, xs, ys, ss, ws, rfl, hP, ok, q⟩ := h
    have hl := line1000
    refine ⟨_, (pss_cons (ps_set (i := 3) sc__law_spoiled_number.nd rfl (Or.inl rfl) (pe_op op_mod (pv 2) (pe_callB call_len_seq (by rfl) T.len PySem.boot_len (pa_cons (pe_ix ix_list (pv 0) pe_int (fun _ _ => rfl)) pa_nil))))
      (pss_cons (ps_set (i := 4) sc__law_spoiled_number.nd rfl (Or.inl rfl) (pe_op op_mod (pe_op op_fdiv (pv 2) pe_int) (pe_ix ix_list (pv 0) pe_int (fun _ _ => rfl))))
      (pss_cons (ps_set (i := 5) sc__law_spoiled_number.nd rfl (Or.inl rfl) (pe_op op_mod (pe_op op_fdiv (pv 2) pe_int) (pe_op op_pow pe_int pe_int)))
      (pss_cut (ps_if (pt_cmpR op_eq (pv 1) pe_int (nomark _))
      (pss_one (ps_asg (pe_ix ix_list (pe_lst (pa_cons (pe_un un_neg pe_int) (pa_cons pe_int (pa_cons (pe_op op_sub (pe_un un_neg pe_int) (pv 5)) (pa_cons (pe_op op_add pe_int (pv 5)) pa_nil))))) (pe_op op_mod (pe_op op_fdiv (pv 2) pe_int) pe_int) (fun _ _ => rfl)) (pg_sub (pe_ix ix_list (pe_ix ix_list (pv 0) pe_int (fun _ _ => rfl)) (pv 3) (fun _ _ => rfl)) (pv 4) set_list)))
      (pss_cons (ps_set (i := 6) sc__law_spoiled_number.nd rfl (Or.inl rfl) (pe_callB call_len_seq (by rfl) T.len PySem.boot_len (pa_cons (pe_ix ix_list (pv 0) pe_int (fun _ _ => rfl)) pa_nil)))
      (pss_one (ps_asg (pe_ix ix_list (pe_lst (pa_cons (pe_un un_neg pe_int) (pa_cons (pv 6) (pa_cons (pe_op op_sub (pe_un un_neg pe_int) (pv 5)) (pa_cons (pe_op op_add (pv 6) (pv 5)) pa_nil))))) (pe_op op_mod (pe_op op_fdiv (pv 2) pe_int) pe_int) (fun _ _ => rfl)) (pg_sub (pe_ix ix_list (pe_ix ix_list (pv 0) pe_int (fun _ _ => rfl)) (pv 3) (fun _ _ => rfl)) (pv 4) set_list)))))
      (pss_one (ps_ret (pv 0))))))), ?_⟩
    have n1 := ok.n1
    have n40 := ok.n40
    have l1 := ok.l1
    have l6 := ok.l6
    have hlen := ok.len
    have hrs : ∀ r ∈ ss, r.length <= 50 := fun r hr' => by have := (ok.sr r hr').1; omega
    have hrw : ∀ r ∈ ws, r.length <= 50 := fun r hr' => by have := (ok.wr r hr').1; omega
    walk_at "rd"
    refine ⟨_, SqL.of hP.hp, _, rfl, sa, rfl, _, .inl (SqL.of hP.hs), ?_⟩
    rw [hP.xl]
    have e0 := Int.emod_nonneg c (show (ss.length : Int) ≠ 0 by omega)
    have e1 := Int.emod_lt_of_pos c (show (0 : Int) < ss.length by omega)
    refine ⟨by omega, ?_⟩
    obtain ⟨rw', hrw'⟩ : ∃ n : Nat, c % (ss.length : Int) = n := ⟨(c % (ss.length : Int)).toNat, by omega⟩
    rw [hrw']
    have hss : ss[rw']? = some ss[rw'] := by simp [show rw' < ss.length by omega]
    have hws : ws[rw']? = some ws[rw'] := by simp [show rw' < ws.length by omega]
    obtain ⟨t1, a1, b1, d1⟩ := Pcs.setS hP hss (by omega) (by omega) hrs hrw
    obtain ⟨t2, a2, b2, d2⟩ := Pcs.setW hP hws (by omega) (by omega) hrs hrw
    have r1l := (ok.sr _ (List.mem_of_getElem? hss)).1
    have r2l := (ok.wr _ (List.mem_of_getElem? hws)).1
    generalize ss[rw'] = r1 at *
    generalize ws[rw'] = r2 at *
    have e2 := Int.emod_nonneg (c / 7) (show L ≠ 0 by omega)
    have e3 := Int.emod_lt_of_pos (c / 7) (show (0 : Int) < L by omega)
    refine ⟨⟨by decide, by decide⟩, _, SqL.of hP.hp, _, rfl, _, rfl, by omega, ⟨by decide, by decide⟩, by unfold CPow; decide, by decide, ?_⟩
    obtain ⟨pl, hpl⟩ : ∃ n : Nat, c / 7 % L = n := ⟨(c / 7 % L).toNat, by omega⟩
    rw [hpl]
    have f0 := Int.emod_nonneg (c / 50) (show (10 : Int) ^ Int.toNat 9 ≠ 0 by decide)
    generalize c / 50 % 10 ^ Int.toNat 9 = far at f0 ⊢
    have c0 := Int.emod_nonneg (c / 3) (show (4 : Int) ≠ 0 by decide)
    have c1 := Int.emod_lt_of_pos (c / 3) (show (0 : Int) < 4 by decide)
    have cc : c / 3 % 4 = 0 \/ c / 3 % 4 = 1 \/ c / 3 % 4 = 2 \/ c / 3 % 4 = 3 := by omega
    obtain ⟨R, hR⟩ : ∃ R : St -> Hp -> Prop, ∀ σ' H', R σ' H' ↔ (BadS H' p /\ ∃ o, σ' = [some (.ref p), some (.int k), some (.int c), some (.int rw'), some (.int pl), some (.int far), o]) := ⟨_, fun _ _ => Iff.rfl⟩
    refine ⟨R, ?_, fun σ1 H1 h1 => ?_⟩
    . walk_at "rd"
      refine ite2 (fun k9 => ?_) (fun k9 => ?_)
      . obtain ⟨v, hv, hbad⟩ : ∃ v : Int, atI [V.int (-1), V.int 1000000001, V.int (-1 - far), V.int (1000000001 + far)] (c / 3 % 4) = some (V.int v) /\ ¬ (0 <= v /\ v <= 1000000000) := by
          rcases cc with z | z | z | z <;> rw [z] <;> exact ⟨_, rfl, by omega⟩
        refine ⟨by omega, fun p1 hp1 => ?_⟩
        have s1 := Same.new hp1 (o := .lst [V.int (-1), V.int 1000000001, V.int (-1 - far), V.int (1000000001 + far)])
        refine ⟨⟨by decide, by decide⟩, by decide, _, SqL.of upd_same, _, hv, _, SqL.of (s1 _ _ hP.hp), _, rfl, sa, rfl, _, SqL.of (s1 _ _ hP.hs), _, atI_nat a1, t1, rfl, _, s1 _ _ b1, pl, ?_, (hR _ _).mpr ⟨?_, _, rfl⟩⟩
        . rw [ixN_of (by omega) (by rw [List.length_map]; omega)]; simp
        . have := d1 _ s1 (r1.set pl v) (by rw [List.length_set]; omega) (okS_no fun z => hbad ((z.sr (r1.set pl v) (List.mem_iff_getElem?.mpr ⟨rw', by rw [List.getElem?_set_self (by omega)]⟩)).2 v (List.mem_iff_getElem?.mpr ⟨pl, by rw [List.getElem?_set_self (by omega)]⟩)))
          rw [List.map_set] at this
          exact this
      . have yl : ys.length = ws.length := (LLs.right hP.ll hP.xl).1
        refine ⟨_, SqL.of hP.hp, _, rfl, wa, rfl, _, .inl (SqL.of hP.hw), ?_⟩
        rw [yl]
        obtain ⟨v, hv, hbad⟩ : ∃ v : Int, atI [V.int (-1), V.int (ws.length : Int), V.int (-1 - far), V.int ((ws.length : Int) + far)] (c / 3 % 4) = some (V.int v) /\ ¬ (0 <= v /\ v < (ss.length : Int)) := by
          rcases cc with z | z | z | z <;> rw [z] <;> exact ⟨_, rfl, by omega⟩
        refine ⟨by omega, fun p1 hp1 => ?_⟩
        have s1 := Same.new hp1 (o := .lst [V.int (-1), V.int (ws.length : Int), V.int (-1 - far), V.int ((ws.length : Int) + far)])
        refine ⟨⟨by decide, by decide⟩, by decide, _, SqL.of upd_same, _, hv, _, SqL.of (s1 _ _ hP.hp), _, rfl, wa, rfl, _, SqL.of (s1 _ _ hP.hw), _, atI_nat a2, t2, rfl, _, s1 _ _ b2, pl, ?_, (hR _ _).mpr ⟨?_, _, rfl⟩⟩
        . rw [ixN_of (by omega) (by rw [List.length_map]; omega)]; simp
        . have := d2 _ s1 (r2.set pl v) (by rw [List.length_set]; omega) (okS_no fun z => hbad ((z.wr (r2.set pl v) (List.mem_iff_getElem?.mpr ⟨rw', by rw [List.getElem?_set_self (by omega)]⟩)).2 v (List.mem_iff_getElem?.mpr ⟨pl, by rw [List.getElem?_set_self (by omega)]⟩)))
          rw [List.map_set] at this
          exact this
    . obtain ⟨hb, o, rfl⟩ := (hR _ _).mp h1
      walk_at "rd"
      exact q p _ hb
def sp_ref52 (K : PySem.W.Frag) : Sp := fun vs H Q _ => ∃ a : Addr, vs = [.ref a] /\ BadS H a /\ ∀ H', Same H H' -> Q (.bl true) H'
theorem BadS.mono {H H' : Hp} {a : Addr} (h : BadS H a) (s : Same H H') : BadS H' a := by
  obtain ⟨sa, wa, L, xs, ys, ss, ws, a1, a2, a3, a4, a5, a6⟩ := h
  exact ⟨sa, wa, L, xs, ys, ss, ws, s _ _ a1, s _ _ a2, a3.mono s, s _ _ a4, a5.mono s, a6⟩
theorem ok__law_refused {f : Addr} {fd : FuncData} (F : Fun K "_law_refused" "_law_refused" s__law_refused f fd) (T : Txt mg)
    (W : Own K mg)
    (Z : Exs K mg C_AskError C_BadHouse C_BadWord C_BadMark)
    {f_made_says : Addr} {fd_made_says : FuncData} (g_made_says : FnOk P w K mg base (CXe P w) 4 f_made_says fd_made_says ["letters", "says", "ways"] (sp_mades K C_BadHouse)) (F_made_says : Fun K "made_says" "made_says" s_made_says f_made_says fd_made_says) (b_made_says : Binds K fd_made_says ["letters", "says", "ways"] []) (m_made_says : mg "made_says" = some (.ref f_made_says))
    : FnOk P w K mg base CX0 5 f fd ["pieces"] (sp_ref52 K) := by
  refine F.ok sc__law_refused (fun vs H Q E h => ?_) (fun cdv A outer s H vs Q E hr h => ?_)
  . obtain ⟨a, rfl, _⟩ := h; rfl
  . obtain ⟨a, rfl, ⟨sa, wa, L, xs, ys, ss, ws, hp, hs, hS, hw, hW, z1, z2, z3, z4, hbad⟩, k⟩ := h
    refine ⟨_, (pss_cons (ps_set (i := 1) sc__law_refused.nd rfl (Or.inl rfl) pe_bl)
      (pss_cut (ps_tryN (E := (fun σ cls _ H1 => cls = .ref C_BadHouse /\ Same H H1 /\ σ = [some (.ref a), some (.bl false)])) rfl Z.m_BadHouse rfl rfl rfl (fun xe pn hx => (pss_one (ps_expr (pe_callE g_made_says (hr.mono (by decide)) rfl m_made_says F_made_says.kp b_made_says .nil hx (pa_cons (pe_ix (ix_listK (K := K) rfl) (pv 0) pe_int (fun _ _ => rfl)) (pa_cons (pe_ix (ix_listK (K := K) rfl) (pv 0) pe_int (fun _ _ => rfl)) (pa_cons (pe_ix (ix_listK (K := K) rfl) (pv 0) pe_int (fun _ _ => rfl)) pa_nil)))))))
      (fun ea pn => (pss_one (ps_set (i := 1) sc__law_refused.nd rfl (Or.inl rfl) pe_bl))))
      (pss_one (ps_ret (pv 1))))), ?_⟩
    walk_at "rd"
    refine ⟨fun σ' H' => σ' = [some (.ref a), some (.bl true)] /\ Same H H', ?_, ?_⟩
    . walk_at "rd"
      refine ⟨⟨_, SqL.of hp, _, rfl, _, SqL.of hp, _, rfl, _, SqL.of hp, _, rfl, false, false, sa, wa, L, xs, ys, ss, ws, rfl, SqL.of hs, hS.B, SqL.of hw, hW.B, by omega, by omega, fun r hr' => by have := z3 r hr'; omega, fun r hr' => by have := z4 r hr'; omega, fun z => by (rw [hbad] at z; cases z), fun _ H1 s1 => ⟨rfl, s1⟩⟩, fun σ1 cls H1 h1 => ?_⟩
      obtain ⟨rfl, s1, rfl⟩ := h1
      exact ⟨C_BadHouse, rfl, Z.ee_BadHouse, rfl, s1⟩
    . rintro σ' H' ⟨rfl, s'⟩
      walk_at "rd"
      exact k _ s'
theorem ok__law_refused_by_any {f : Addr} {fd : FuncData} (F : Fun K "_law_refused_by_any" "_law_refused_by_any" s__law_refused_by_any f fd) (T : Txt mg)
    (W : Own K mg)
    (Z : Exs K mg C_AskError C_BadHouse C_BadWord C_BadMark)
    {f_made_says : Addr} {fd_made_says : FuncData} (g_made_says : FnOk P w K mg base (CXe P w) 4 f_made_says fd_made_says ["letters", "says", "ways"] (sp_mades K C_BadHouse)) (F_made_says : Fun K "made_says" "made_says" s_made_says f_made_says fd_made_says) (b_made_says : Binds K fd_made_says ["letters", "says", "ways"] []) (m_made_says : mg "made_says" = some (.ref f_made_says))
    : FnOk P w K mg base CX0 5 f fd ["pieces"] (sp_ref52 K) := by
  refine F.ok sc__law_refused_by_any (fun vs H Q E h => ?_) (fun cdv A outer s H vs Q E hr h => ?_)
  . obtain ⟨a, rfl, _⟩ := h; rfl
  . obtain ⟨a, rfl, ⟨sa, wa, L, xs, ys, ss, ws, hp, hs, hS, hw, hW, z1, z2, z3, z4, hbad⟩, k⟩ := h
    refine ⟨_, (pss_cons (ps_set (i := 1) sc__law_refused_by_any.nd rfl (Or.inl rfl) pe_bl)
      (pss_cut (ps_try (i := 2) (E := (fun σ cls _ H1 => cls = .ref C_BadHouse /\ Same H H1 /\ σ = [some (.ref a), some (.bl false), none])) sc__law_refused_by_any.nd rfl rfl rfl Z.m_AskError rfl rfl rfl (fun xe pn hx => (pss_one (ps_expr (pe_callE g_made_says (hr.mono (by decide)) rfl m_made_says F_made_says.kp b_made_says .nil hx (pa_cons (pe_ix (ix_listK (K := K) rfl) (pv 0) pe_int (fun _ _ => rfl)) (pa_cons (pe_ix (ix_listK (K := K) rfl) (pv 0) pe_int (fun _ _ => rfl)) (pa_cons (pe_ix (ix_listK (K := K) rfl) (pv 0) pe_int (fun _ _ => rfl)) pa_nil)))))))
      (fun ea pn => (pss_one (ps_set (i := 1) sc__law_refused_by_any.nd rfl (Or.inl rfl) (pe_and (pe_callB (call_isinstK (K := K) rfl) rfl T.isinstance PyProof.Rows.boot_isinstance (pa_cons (pv 2) (pa_cons (pe_bltn (v := .ty "ValueError") rfl T.ValueError L2.boot_ValueError rfl) pa_nil))) (pe_and (pe_not (pe_callB (call_isinstK (K := K) rfl) rfl T.isinstance PyProof.Rows.boot_isinstance (pa_cons (pv 2) (pa_cons (pe_glob (v := .ref C_BadWord) rfl Z.m_BadWord rfl) pa_nil)))) (pe_one (pe_not (pe_callB (call_isinstK (K := K) rfl) rfl T.isinstance PyProof.Rows.boot_isinstance (pa_cons (pv 2) (pa_cons (pe_glob (v := .ref C_BadMark) rfl Z.m_BadMark rfl) pa_nil)))))))))))
      (pss_one (ps_ret (pv 1))))), ?_⟩
    walk_at "rd"
    refine ⟨fun σ' H' => σ' = [some (.ref a), some (.bl true), none] /\ Same H H', ?_, ?_⟩
    . walk_at "rd"
      refine ⟨⟨_, SqL.of hp, _, rfl, _, SqL.of hp, _, rfl, _, SqL.of hp, _, rfl, false, false, sa, wa, L, xs, ys, ss, ws, rfl, SqL.of hs, hS.B, SqL.of hw, hW.B, by omega, by omega, fun r hr' => by have := z3 r hr'; omega, fun r hr' => by have := z4 r hr'; omega, fun z => by (rw [hbad] at z; cases z), fun _ H1 s1 => ⟨rfl, s1⟩⟩, fun σ1 cls H1 h1 => ?_⟩
      obtain ⟨rfl, s1, rfl⟩ := h1
      refine ⟨C_BadHouse, rfl, Z.e_BadHouse, fun ea hea => ?_⟩
      walk_at "rd"
      refine ⟨_, _, .exc upd_same Z.c_BadHouse, rel_ty, _, Z.v_BadHouse, ?_⟩
      rw [if_pos rfl]
      refine ⟨_, _, .exc upd_same Z.c_BadHouse, rel_ref, _, Z.k_BadHouse_BadWord, ?_⟩
      rw [if_pos (by decide)]
      exact ⟨_, _, .exc upd_same Z.c_BadHouse, rel_ref, _, Z.k_BadHouse_BadMark, rfl, s1.newT hea⟩
    . rintro σ' H' ⟨rfl, s'⟩
      walk_at "rd"
      exact k _ s'
theorem flat_repV (d : Nat) (v : V) : (List.replicate d [v]).flatten = List.replicate d v := by
  induction d with
  | zero => rfl
  | succ d ih => rw [List.replicate_succ, List.flatten_cons, ih, List.replicate_succ]; rfl
theorem RowsT.rep {K : PySem.W.Frag} {H : Hp} {t : Addr} {r : List Int} (h : SqT K H t (r.map V.int)) (n : Nat) : RowsT K H (List.replicate n (.ref t)) (List.replicate n r) := ⟨by simp, fun i r' hi => by
  rw [List.getElem?_replicate] at hi ⊢
  split at hi
  . rename_i hk
    cases hi
    exact ⟨t, by rw [if_pos hk], h⟩
  . cases hi⟩
theorem refs_of {zs : List V} (h : ∀ v ∈ zs, ∃ a, v = V.ref a) : ∃ ts : List Addr, zs = ts.map V.ref := by
  induction zs with
  | nil => exact ⟨[], rfl⟩
  | cons v zs ih =>
    obtain ⟨a, rfl⟩ := h v (by simp)
    obtain ⟨ts, rfl⟩ := ih (fun u hu => h u (by simp [hu]))
    exact ⟨a :: ts, rfl⟩
theorem RowsT.R {K : PySem.W.Frag} {H : Hp} {w : Addr} {zs : List V} {ws : List (List Int)} (h : RowsT K H zs ws) (hz : SqT K H w zs) : Rows K H w ws := by
  obtain ⟨ts, rfl⟩ := refs_of (zs := zs) (fun v hv => by
    obtain ⟨i, hi, rfl⟩ := List.getElem_of_mem hv
    have hi' : i < ws.length := by rw [<- h.1]; exact hi
    obtain ⟨a, e, _⟩ := h.2 i ws[i] (by simp [hi'])
    rw [List.getElem?_eq_getElem hi] at e
    exact ⟨a, Option.some.inj e⟩)
  refine ⟨ts, hz, by have := h.1; rwa [List.length_map] at this, fun i t row h1 h2 => ?_⟩
  obtain ⟨a, e, b⟩ := h.2 i row h2
  rw [List.getElem?_map, h1] at e
  cases e
  exact b
theorem RowsT.B {K : PySem.W.Frag} {H : Hp} {xs : List V} {ws : List (List Int)} (h : RowsT K H xs ws) : RowsB K H xs ws := ⟨h.1, fun i r hi => by
  obtain ⟨a, e, b⟩ := h.2 i r hi
  exact ⟨true, a, e, b⟩⟩
theorem RowsLs.eqn {K : PySem.W.Frag} {H : Hp} {xs ys : List V} {ws : List (List Int)} {a b : Addr} (h : RowsLs H xs ws) (g : RowsLs H ys ws) (ha : H a = some (.lst xs)) (hb : H b = some (.lst ys)) (n : Nat) : EqD K H (n + 2) (.ref a) (.ref b) true := by
  refine .inr ⟨a, b, xs, ys, rfl, rfl, .inl ⟨SqL.of ha, SqL.of hb⟩, fun _ => true, fun i x y hx hy => ?_, by simp [h.1, g.1]⟩
  have hi : i < ws.length := by rw [<- h.1]; exact (List.getElem?_eq_some_iff.mp hx).1
  obtain ⟨t, e1, t1⟩ := h.2 i ws[i] (by simp [hi])
  obtain ⟨v, f1, v1⟩ := g.2 i ws[i] (by simp [hi])
  rw [hx] at e1
  cases e1
  rw [hy] at f1
  cases f1
  have := EqD.ints (K := K) (H := H) (a := t) (c := v) (xs := ws[i]) (ys := ws[i]) (.inl ⟨SqL.of t1, SqL.of v1⟩) n
  rw [decide_eq_true rfl] at this
  exact this
theorem Pcs.mono {B H H' : Hp} {p sa wa : Addr} {L : Int} {xs ys : List V} {ss ws : List (List Int)} (h : Pcs B H p sa wa L xs ys ss ws) (s : Same H H') : Pcs B H' p sa wa L xs ys ss ws := ⟨s _ _ h.hp, s _ _ h.hs, s _ _ h.hw, h.ll.mono s, h.xl, h.n1, h.n2, h.n3, h.bp, h.bs, h.bw⟩
theorem Pcs.eq {K : PySem.W.Frag} {B B' H : Hp} {p sa wa p' sa' wa' : Addr} {L : Int} {xs ys xs' ys' : List V} {ss ws : List (List Int)} (h : Pcs B H p sa wa L xs ys ss ws) (g : Pcs B' H p' sa' wa' L xs' ys' ss ws) : EqD K H 8 (.ref p) (.ref p') true := by
  refine .inr ⟨p, p', _, _, rfl, rfl, .inl ⟨SqL.of h.hp, SqL.of g.hp⟩, fun _ => true, fun i x y hx hy => ?_, by simp⟩
  match i, hx, hy with
  | 0, hx, hy => cases hx; cases hy; exact .inl ⟨rfl, rfl, (eqV_self rfl).symm⟩
  | 1, hx, hy => cases hx; cases hy; exact RowsLs.eqn (LLs.left h.ll h.xl) (LLs.left g.ll g.xl) h.hs g.hs 5
  | 2, hx, hy => cases hx; cases hy; exact RowsLs.eqn (LLs.right h.ll h.xl) (LLs.right g.ll g.xl) h.hw g.hw 5
  | i + 3, hx, hy => cases hx
def sp_widest (K : PySem.W.Frag) : Sp := fun vs H Q _ => ∃ L : Nat, vs = [.int L] /\ 1 <= L /\ L <= 6 /\ ∀ H', Same H H' -> Q (.bl true) H'
theorem ok__law_widest {f : Addr} {fd : FuncData} (F : Fun K "_law_widest" "_law_widest" s__law_widest f fd) (T : Txt mg)
    (W : Own K mg)
    (Z : Exs K mg C_AskError C_BadHouse C_BadWord C_BadMark)
    {f_made_says : Addr} {fd_made_says : FuncData} (g_made_says : FnOk P w K mg base (CXe P w) 4 f_made_says fd_made_says ["letters", "says", "ways"] (sp_mades K C_BadHouse)) (F_made_says : Fun K "made_says" "made_says" s_made_says f_made_says fd_made_says) (b_made_says : Binds K fd_made_says ["letters", "says", "ways"] []) (m_made_says : mg "made_says" = some (.ref f_made_says))
    {f__law_house_is : Addr} {fd__law_house_is : FuncData} (g__law_house_is : FnOk P w K mg base CX0 3 f__law_house_is fd__law_house_is ["found", "due"] (sp_his K)) (F__law_house_is : Fun K "_law_house_is" "_law_house_is" s__law_house_is f__law_house_is fd__law_house_is) (b__law_house_is : Binds K fd__law_house_is ["found", "due"] []) (m__law_house_is : mg "_law_house_is" = some (.ref f__law_house_is))
    {f__law_blank : Addr} {fd__law_blank : FuncData} (g__law_blank : FnOk P w K mg base CX0 1 f__law_blank fd__law_blank ["letters", "rooms"] (sp_blank K)) (F__law_blank : Fun K "_law_blank" "_law_blank" s__law_blank f__law_blank fd__law_blank) (b__law_blank : Binds K fd__law_blank ["letters", "rooms"] []) (m__law_blank : mg "_law_blank" = some (.ref f__law_blank))
    : FnOk P w K mg base CX0 5 f fd ["letters"] (sp_widest K) := by
  refine F.ok sc__law_widest (fun vs H Q E h => ?_) (fun cdv A outer s H vs Q E hr h => ?_)
  . obtain ⟨L, rfl, _⟩ := h; rfl
  . obtain ⟨L, rfl, hL1, hL6, k⟩ := h
    have hl := line1000
    refine ⟨_, (pss_cons (ps_set (i := 1) sc__law_widest.nd rfl (Or.inl rfl) (pe_op op_repT (pe_tup (pa_cons pe_int pa_nil)) (pv 0)))
      (pss_cons (ps_set (i := 2) sc__law_widest.nd rfl (Or.inl rfl) (pe_call g__law_blank (hr.mono (by decide)) rfl m__law_blank F__law_blank.kp b__law_blank .nil pass0 (pa_cons (pv 0) (pa_cons pe_int pa_nil))))
      (pss_one (ps_ret (pe_call g__law_house_is (hr.mono (by decide)) rfl m__law_house_is F__law_house_is.kp b__law_house_is .nil pass0 (pa_cons (pe_call g_made_says (hr.mono (by decide)) rfl m_made_says F_made_says.kp b_made_says .nil (passNev (P := P) (w := w)) (pa_cons (pv 0) (pa_cons (pe_ix ix_list (pv 2) pe_int (fun _ _ => rfl)) (pa_cons (pe_ix ix_list (pv 2) pe_int (fun _ _ => rfl)) pa_nil)))) (pa_cons (pe_tup (pa_cons (pv 0) (pa_cons (pe_op op_repT (pe_tup (pa_cons (pv 1) pa_nil)) pe_int) (pa_cons (pe_op op_repT (pe_tup (pa_cons (pv 1) pa_nil)) pe_int) pa_nil)))) pa_nil))))))), ?_⟩
    walk_at "rd"
    refine ⟨by omega, fun p0 hp0 => rRepT.of (SqT.of upd_same) (by simp) (by omega) (by omega) (by simp; omega) fun r0 H1 s1 hr0 => ?_⟩
    rw [Int.toNat_natCast, flat_rep0] at hr0
    have hok : okS L (List.replicate 40 (List.replicate L 0)) (List.replicate 40 (List.replicate L 0)) = true := okS_iff.mpr ⟨by omega, by omega, by simp, by simp, fun r hr' => ?_, rfl, fun r hr' => ?_⟩
    case refine_1 =>
      rw [(List.mem_replicate.mp hr').2, List.length_replicate]
      exact ⟨rfl, fun x hx => by rw [(List.mem_replicate.mp hx).2]; omega⟩
    case refine_2 =>
      rw [(List.mem_replicate.mp hr').2, List.length_replicate]
      exact ⟨rfl, fun x hx => by rw [(List.mem_replicate.mp hx).2]; simp⟩
    have z3 : ∀ r ∈ List.replicate 40 (List.replicate L (0 : Int)), r.length <= 900 := fun r hr' => by rw [(List.mem_replicate.mp hr').2, List.length_replicate]; omega
    refine ⟨L, 40, rfl, by omega, by omega, fun p sa wa xs ys H2 s2 hP => ⟨p, rfl, _, SqL.of hP.hp, _, rfl, p, rfl, _, SqL.of hP.hp, _, rfl, false, false, sa, wa, L, xs, ys, _, _, rfl, SqL.of hP.hs, (LLs.left hP.ll hP.xl).B, SqL.of hP.hw, (LLs.right hP.ll hP.xl).B, by simp, by simp, z3, z3, fun _ h' m' y' us' vs' H3 s3 f1 f2 f3 f4 f5 => ⟨by omega, fun p1 hp1 => rRepT.of (SqT.of upd_same) (by simp) (by omega) (by omega) (by simp; omega) fun q1 H4 s4 hq1 => ⟨by omega, fun p2 hp2 => rRepT.of (SqT.of upd_same) (by simp) (by omega) (by omega) (by simp; omega) fun q2 H5 s5 hq2 => ⟨by omega, fun dd hdd => ?_⟩⟩⟩, fun z => by (rw [hok] at z; cases z)⟩⟩
    rw [show Int.toNat 40 = 40 from rfl, flat_repV] at hq1 hq2
    have s34 := (Same.new hp1 (o := .tup [V.ref r0])).trans s4
    have s45 := (Same.new hp2 (o := .tup [V.ref r0])).trans s5
    have s5d := Same.new hdd (o := .tup [V.int L, V.ref q1, V.ref q2])
    have s35 := (s34.trans s45).trans s5d
    have hr5 := ((s2.trans s3).trans s35).seqT hr0
    exact ⟨h', dd, L, _, _, rfl, ⟨m', y', s35.seqT (SqT.of f1), RowsT.R (f3.mono s35) (s35.seqT (SqT.of f2)), RowsT.R (f5.mono s35) (s35.seqT (SqT.of f4))⟩, ⟨q1, q2, SqT.of upd_same, RowsT.R (RowsT.rep hr5 40) ((s45.trans s5d).seqT hq1), RowsT.R (RowsT.rep hr5 40) (s5d.seqT hq2)⟩, by simp, by simp, z3, z3, k _ ((((Same.new hp0).trans s1).trans (s2.trans s3)).trans s35)⟩
def spLaw (K : PySem.W.Frag) : Sp := fun vs H Q _ => ∃ (a : Addr) (ns : List Int), vs = [.ref a] /\ SqL K H a (ns.map V.int) /\ ns.length <= 63 /\ ∀ H', Q (.bl true) H'
theorem ok_law {f : Addr} {fd : FuncData} (F : Fun K "law" "law" s_law f fd) (T : Txt mg)
    (W : Own K mg)
    (Z : Exs K mg C_AskError C_BadHouse C_BadWord C_BadMark)
    {f_made_says : Addr} {fd_made_says : FuncData} (g_made_says : FnOk P w K mg base (CXe P w) 4 f_made_says fd_made_says ["letters", "says", "ways"] (sp_mades K C_BadHouse)) (F_made_says : Fun K "made_says" "made_says" s_made_says f_made_says fd_made_says) (b_made_says : Binds K fd_made_says ["letters", "says", "ways"] []) (m_made_says : mg "made_says" = some (.ref f_made_says))
    {f__law_cell : Addr} {fd__law_cell : FuncData} (g__law_cell : FnOk P w K mg base CX0 1 f__law_cell fd__law_cell ["script", "k"] (sp_cell K)) (F__law_cell : Fun K "_law_cell" "_law_cell" s__law_cell f__law_cell fd__law_cell) (b__law_cell : Binds K fd__law_cell ["script", "k"] []) (m__law_cell : mg "_law_cell" = some (.ref f__law_cell))
    {f__law_says : Addr} {fd__law_says : FuncData} (g__law_says : FnOk P w K mg base CX0 3 f__law_says fd__law_says ["script", "at", "letters", "rooms"] (sp_says53 K)) (F__law_says : Fun K "_law_says" "_law_says" s__law_says f__law_says fd__law_says) (b__law_says : Binds K fd__law_says ["script", "at", "letters", "rooms"] []) (m__law_says : mg "_law_says" = some (.ref f__law_says))
    {f__law_house_is : Addr} {fd__law_house_is : FuncData} (g__law_house_is : FnOk P w K mg base CX0 3 f__law_house_is fd__law_house_is ["found", "due"] (sp_his K)) (F__law_house_is : Fun K "_law_house_is" "_law_house_is" s__law_house_is f__law_house_is fd__law_house_is) (b__law_house_is : Binds K fd__law_house_is ["found", "due"] []) (m__law_house_is : mg "_law_house_is" = some (.ref f__law_house_is))
    {f__law_lists : Addr} {fd__law_lists : FuncData} (g__law_lists : FnOk P w K mg base CX0 1 f__law_lists fd__law_lists ["house"] (sp_lists K)) (F__law_lists : Fun K "_law_lists" "_law_lists" s__law_lists f__law_lists fd__law_lists) (b__law_lists : Binds K fd__law_lists ["house"] []) (m__law_lists : mg "_law_lists" = some (.ref f__law_lists))
    {f__law_spoiled_shape : Addr} {fd__law_spoiled_shape : FuncData} (g__law_spoiled_shape : FnOk P w K mg base CX0 2 f__law_spoiled_shape fd__law_spoiled_shape ["pieces", "way", "cell"] (sp_shape K)) (F__law_spoiled_shape : Fun K "_law_spoiled_shape" "_law_spoiled_shape" s__law_spoiled_shape f__law_spoiled_shape fd__law_spoiled_shape) (b__law_spoiled_shape : Binds K fd__law_spoiled_shape ["pieces", "way", "cell"] []) (m__law_spoiled_shape : mg "_law_spoiled_shape" = some (.ref f__law_spoiled_shape))
    {f__law_spoiled_number : Addr} {fd__law_spoiled_number : FuncData} (g__law_spoiled_number : FnOk P w K mg base CX0 1 f__law_spoiled_number fd__law_spoiled_number ["pieces", "way", "cell"] (sp_snum K)) (F__law_spoiled_number : Fun K "_law_spoiled_number" "_law_spoiled_number" s__law_spoiled_number f__law_spoiled_number fd__law_spoiled_number) (b__law_spoiled_number : Binds K fd__law_spoiled_number ["pieces", "way", "cell"] []) (m__law_spoiled_number : mg "_law_spoiled_number" = some (.ref f__law_spoiled_number))
    {f__law_refused : Addr} {fd__law_refused : FuncData} (g__law_refused : FnOk P w K mg base CX0 5 f__law_refused fd__law_refused ["pieces"] (sp_ref52 K)) (F__law_refused : Fun K "_law_refused" "_law_refused" s__law_refused f__law_refused fd__law_refused) (b__law_refused : Binds K fd__law_refused ["pieces"] []) (m__law_refused : mg "_law_refused" = some (.ref f__law_refused))
    {f__law_refused_by_any : Addr} {fd__law_refused_by_any : FuncData} (g__law_refused_by_any : FnOk P w K mg base CX0 5 f__law_refused_by_any fd__law_refused_by_any ["pieces"] (sp_ref52 K)) (F__law_refused_by_any : Fun K "_law_refused_by_any" "_law_refused_by_any" s__law_refused_by_any f__law_refused_by_any fd__law_refused_by_any) (b__law_refused_by_any : Binds K fd__law_refused_by_any ["pieces"] []) (m__law_refused_by_any : mg "_law_refused_by_any" = some (.ref f__law_refused_by_any))
    {f__law_widest : Addr} {fd__law_widest : FuncData} (g__law_widest : FnOk P w K mg base CX0 5 f__law_widest fd__law_widest ["letters"] (sp_widest K)) (F__law_widest : Fun K "_law_widest" "_law_widest" s__law_widest f__law_widest fd__law_widest) (b__law_widest : Binds K fd__law_widest ["letters"] []) (m__law_widest : mg "_law_widest" = some (.ref f__law_widest))
    : FnOk P w K mg base CX0 6 f fd ["script"] (spLaw K) := by
  refine F.ok sc_law (fun vs H Q E h => ?_) (fun cdv A outer s H vs Q E hr h => ?_)
  . obtain ⟨a, ns, rfl, _⟩ := h; rfl
  . obtain ⟨a, ns, rfl, hs, hz, k⟩ := h
    have hl := line1000
    refine ⟨_, (pss_cons (ps_set (i := 1) sc_law.nd rfl (Or.inl rfl) (pe_op op_add pe_int (pe_op op_mod (pe_call g__law_cell (hr.mono (by decide)) rfl m__law_cell F__law_cell.kp b__law_cell .nil pass0 (pa_cons (pv 0) (pa_cons pe_int pa_nil))) pe_int)))
      (pss_cons (ps_set (i := 2) sc_law.nd rfl (Or.inl rfl) (pe_call g__law_says (hr.mono (by decide)) rfl m__law_says F__law_says.kp b__law_says .nil pass0 (pa_cons (pv 0) (pa_cons pe_int (pa_cons (pv 1) (pa_cons (pe_op op_add pe_int (pe_op op_mod (pe_call g__law_cell (hr.mono (by decide)) rfl m__law_cell F__law_cell.kp b__law_cell .nil pass0 (pa_cons (pv 0) (pa_cons pe_int pa_nil))) pe_int)) pa_nil))))))
      (pss_cons (ps_if (pt_not (pt_val (pe_call g__law_house_is (hr.mono (by decide)) rfl m__law_house_is F__law_house_is.kp b__law_house_is .nil pass0 (pa_cons (pe_call g_made_says (hr.mono (by decide)) rfl m_made_says F_made_says.kp b_made_says .nil (passNev (P := P) (w := w)) (pa_cons (pe_ix ix_tup (pv 2) pe_int (fun _ _ => rfl)) (pa_cons (pe_ix ix_tup (pv 2) pe_int (fun _ _ => rfl)) (pa_cons (pe_ix ix_tup (pv 2) pe_int (fun _ _ => rfl)) pa_nil)))) (pa_cons (pv 2) pa_nil)))))
      (pss_one (ps_ret pe_bl))
      pss_nil)
      (pss_cons (ps_set (i := 3) sc_law.nd rfl (Or.inl rfl) (pe_call g__law_lists (hr.mono (by decide)) rfl m__law_lists F__law_lists.kp b__law_lists .nil pass0 (pa_cons (pv 2) pa_nil)))
      (pss_cons (ps_if (PW.pt (pw_or (pt_not (pt_val (pe_call g__law_house_is (hr.mono (by decide)) rfl m__law_house_is F__law_house_is.kp b__law_house_is .nil pass0 (pa_cons (pe_call g_made_says (hr.mono (by decide)) rfl m_made_says F_made_says.kp b_made_says .nil (passNev (P := P) (w := w)) (pa_cons (pe_ix ix_list (pv 3) pe_int (fun _ _ => rfl)) (pa_cons (pe_ix ix_list (pv 3) pe_int (fun _ _ => rfl)) (pa_cons (pe_ix ix_list (pv 3) pe_int (fun _ _ => rfl)) pa_nil)))) (pa_cons (pv 2) pa_nil))))) (pw_or1 (pt_cmpR (op_neD 8 (hu9 hr)) (pv 3) (pe_call g__law_lists (hr.mono (by decide)) rfl m__law_lists F__law_lists.kp b__law_lists .nil pass0 (pa_cons (pv 2) pa_nil)) (nomark _)))))
      (pss_one (ps_ret pe_bl))
      pss_nil)
      (pss_cons (ps_if (pt_not (pt_val (pe_call g__law_widest (hr.mono (by decide)) rfl m__law_widest F__law_widest.kp b__law_widest .nil pass0 (pa_cons (pv 1) pa_nil))))
      (pss_one (ps_ret pe_bl))
      pss_nil)
      (pss_cons (ps_set (i := 4) sc_law.nd rfl (Or.inl rfl) (pe_op op_mod (pe_call g__law_cell (hr.mono (by decide)) rfl m__law_cell F__law_cell.kp b__law_cell .nil pass0 (pa_cons (pv 0) (pa_cons pe_int pa_nil))) pe_int))
      (pss_cons (ps_set (i := 5) sc_law.nd rfl (Or.inl rfl) (pe_op op_mod (pe_call g__law_cell (hr.mono (by decide)) rfl m__law_cell F__law_cell.kp b__law_cell .nil pass0 (pa_cons (pv 0) (pa_cons pe_int pa_nil))) (pe_op op_pow pe_int pe_int)))
      (pss_cut (ps_if (pt_cmpR op_lt (pv 4) pe_int (nomark _))
      (pss_one (ps_set (i := 3) sc_law.nd rfl (Or.inl rfl) (pe_call g__law_spoiled_shape (hr.mono (by decide)) rfl m__law_spoiled_shape F__law_spoiled_shape.kp b__law_spoiled_shape .nil pass0 (pa_cons (pv 3) (pa_cons (pv 4) (pa_cons (pv 5) pa_nil))))))
      (pss_one (ps_set (i := 3) sc_law.nd rfl (Or.inl rfl) (pe_call g__law_spoiled_number (hr.mono (by decide)) rfl m__law_spoiled_number F__law_spoiled_number.kp b__law_spoiled_number .nil pass0 (pa_cons (pv 3) (pa_cons (pv 4) (pa_cons (pv 5) pa_nil)))))))
      (pss_one (ps_ret (pe_and (pe_call g__law_refused (hr.mono (by decide)) rfl m__law_refused F__law_refused.kp b__law_refused .nil pass0 (pa_cons (pv 3) pa_nil)) (pe_one (pe_call g__law_refused_by_any (hr.mono (by decide)) rfl m__law_refused_by_any F__law_refused_by_any.kp b__law_refused_by_any .nil pass0 (pa_cons (pv 3) pa_nil))))))))))))))), ?_⟩
    walk_at "rd"
    refine ⟨a, ns, 0, rfl, hs, ?_⟩
    walk_at "rd"
    have a0 := Int.emod_nonneg (cell ns 0) (show (6 : Int) ≠ 0 by decide)
    have a1 := Int.emod_lt_of_pos (cell ns 0) (show (0 : Int) < 6 by decide)
    have b0 := Int.emod_nonneg (cell ns 1) (show (6 : Int) ≠ 0 by decide)
    have b1 := Int.emod_lt_of_pos (cell ns 1) (show (0 : Int) < 6 by decide)
    obtain ⟨L, hL, hL1, hL6⟩ : ∃ L : Nat, 1 + cell ns 0 % 6 = (L : Int) /\ 1 <= L /\ L <= 6 := ⟨(1 + cell ns 0 % 6).toNat, by omega, by omega, by omega⟩
    obtain ⟨n, hn, hn1, hn6⟩ : ∃ L : Nat, 1 + cell ns 1 % 6 = (L : Int) /\ 1 <= L /\ L <= 6 := ⟨(1 + cell ns 1 % 6).toNat, by omega, by omega, by omega⟩
    refine ⟨by decide, a, ns, 1, rfl, hs, _, rfl, by decide, ?_⟩
    rw [hL, hn]
    refine ⟨a, ns, 4, L, n, rfl, hs, hz, by omega, by omega, hL1, hL6, hn1, by omega, fun h says ways H1 s1 hh wf hsl hsm => ?_⟩
    have hwl : ways.length = says.length := by have := wf.wf.len; rwa [List.length_replicate] at this
    have ok : OkS L says ways := ⟨by omega, by omega, by omega, by omega, fun r hr' => ⟨wf.sr r hr', hsm r hr'⟩, hwl, fun r hr' => by have := wf.wf.rows r hr'; rwa [List.length_replicate] at this⟩
    have hok := okS_iff.mpr ok
    have z3 : ∀ r ∈ says, r.length <= 900 := fun r hr' => by have := (ok.sr r hr').1; omega
    have z4 : ∀ r ∈ ways, r.length <= 900 := fun r hr' => by have := (ok.wr r hr').1; omega
    obtain ⟨m, y, h1, hm, hy⟩ := id hh
    obtain ⟨us, e1, t1⟩ := Rows.T hm
    obtain ⟨vs, e2, t2⟩ := Rows.T hy
    refine ⟨h, rfl, _, h1, _, rfl, h, rfl, _, h1, _, rfl, h, rfl, _, h1, _, rfl, true, true, m, y, L, us, vs, says, ways, rfl, e1, RowsT.B t1, e2, RowsT.B t2, by omega, by omega, z3, z4, fun _ h' m' y' us' vs' H2 s2 f1 f2 f3 f4 f5 => ?_, fun z => by (rw [hok] at z; cases z)⟩
    refine ⟨h', h, L, says, ways, rfl, ⟨m', y', SqT.of f1, RowsT.R f3 (SqT.of f2), RowsT.R f5 (SqT.of f4)⟩, hh.mono s2, by omega, by omega, z3, z4, _, rfl, ?_⟩
    rw [if_neg (by decide)]
    refine ⟨h, L, says, ways, rfl, hh.mono s2, by omega, by omega, fun p sa wa xs ys H3 s3 hP => ?_⟩
    have s13 := s2.trans s3
    refine ⟨p, rfl, _, SqL.of hP.hp, _, rfl, p, rfl, _, SqL.of hP.hp, _, rfl, p, rfl, _, SqL.of hP.hp, _, rfl, false, false, sa, wa, L, xs, ys, says, ways, rfl, SqL.of hP.hs, (LLs.left hP.ll hP.xl).B, SqL.of hP.hw, (LLs.right hP.ll hP.xl).B, by omega, by omega, z3, z4, fun _ h2 m2 y2 us2 vs2 H4 s4 g1 g2 g3 g4 g5 => ?_, fun z => by (rw [hok] at z; cases z)⟩
    refine ⟨h2, h, L, says, ways, rfl, ⟨m2, y2, SqT.of g1, RowsT.R g3 (SqT.of g2), RowsT.R g5 (SqT.of g4)⟩, hh.mono (s13.trans s4), by omega, by omega, z3, z4, _, rfl, ?_⟩
    rw [if_neg (by decide)]
    refine ⟨h, L, says, ways, rfl, hh.mono (s13.trans s4), by omega, by omega, fun p2 sa2 wa2 xs2 ys2 H5 s5 hP2 => ⟨p, rfl, p2, rfl, _, Pcs.eq (hP.mono (s4.trans s5)) hP2, ?_⟩⟩
    rw [if_neg (by decide)]
    have s35 := s4.trans s5
    refine ⟨L, rfl, hL1, hL6, fun H6 s6 => ⟨_, rfl, ?_⟩⟩
    rw [if_neg (by decide)]
    have s36 := s35.trans s6
    have s06 := (s1.trans s13).trans s36
    have hP6 := hP.mono s36
    have hN : ∀ u, H6 u = none -> H2 u = none := fun u hu => (s3.trans s36).none hu
    refine ⟨a, ns, 2, rfl, s06.seq hs, _, rfl, by decide, a, ns, 3, rfl, s06.seq hs, (show CPow 10 18 from ⟨by omega, by omega, by decide⟩), _, rfl, by decide, ?_⟩
    have w0 := Int.emod_nonneg (cell ns 2) (show (11 : Int) ≠ 0 by decide)
    have w1 := Int.emod_lt_of_pos (cell ns 2) (show (0 : Int) < 11 by decide)
    obtain ⟨w', hw'⟩ : ∃ n : Nat, cell ns 2 % 11 = n := ⟨(cell ns 2 % 11).toNat, by omega⟩
    rw [hw']
    generalize cell ns 3 % 10 ^ Int.toNat 18 = c
    obtain ⟨R, hR⟩ : ∃ R : St -> Hp -> Prop, ∀ σ' H', R σ' H' ↔ (∃ p' : Addr, BadS H' p' /\ σ' = [some (.ref a), some (.int L), some (.ref h), some (.ref p'), some (.int w'), some (.int c)]) := ⟨_, fun _ _ => Iff.rfl⟩
    refine ⟨R, ?_, fun σ7 H7 h7 => ?_⟩
    . walk_at "rd"
      refine ite2 (fun e => ?_) (fun e => ?_)
      . exact ⟨H2, p, sa, wa, L, c, w', xs, ys, says, ways, rfl, hP6, ok, hN, by omega, fun p' H' hb => (hR _ _).mpr ⟨p', hb, rfl⟩⟩
      . exact ⟨H2, p, sa, wa, L, c, w', xs, ys, says, ways, rfl, hP6, ok, fun p' H' hb => (hR _ _).mpr ⟨p', hb, rfl⟩⟩
    . obtain ⟨p', hb, rfl⟩ := (hR _ _).mp h7
      walk_at "rd"
      refine ⟨p', rfl, hb, fun H8 s8 => ⟨true, rfl, ?_⟩⟩
      rw [if_pos rfl]
      exact ⟨p', rfl, hb.mono s8, fun H9 _ => k _⟩
end
theorem all_mk {l : PySem.W.OpenLaw} {w : World} {K : PySem.W.Frag} {h : Heap} {mg : Str -> Option Value} {fa f_is_mark f_check_letters f_check_marks f_check_rooms f_check_ways f_check_says f_made_says f__law_cell f__law_whole f__law_big f__law_mark f__law_says f__law_rows_are f__law_house_is f__law_lists f__law_blank f__law_spoiled_shape f__law_spoiled_number f__law_refused f__law_refused_by_any f__law_widest f_law : Addr} (X : K.In h) (G : h.Ns mainGlobals mg) (hfa : mg "law" = some (.ref fa))
    {C_AskError C_BadHouse C_BadWord C_BadMark : Addr}
    {od_is_mark an_is_mark : Option Addr} {sl_is_mark : Array (Option Value)} {oc_is_mark kV_is_mark dc_is_mark pm_is_mark cd_is_mark ct_is_mark : Value}
    {od_check_letters an_check_letters : Option Addr} {sl_check_letters : Array (Option Value)} {oc_check_letters kV_check_letters dc_check_letters pm_check_letters cd_check_letters ct_check_letters : Value}
    {od_check_marks an_check_marks : Option Addr} {sl_check_marks : Array (Option Value)} {oc_check_marks kV_check_marks dc_check_marks pm_check_marks cd_check_marks ct_check_marks : Value}
    {od_check_rooms an_check_rooms : Option Addr} {sl_check_rooms : Array (Option Value)} {oc_check_rooms kV_check_rooms dc_check_rooms pm_check_rooms cd_check_rooms ct_check_rooms : Value}
    {od_check_ways an_check_ways : Option Addr} {sl_check_ways : Array (Option Value)} {oc_check_ways kV_check_ways dc_check_ways pm_check_ways cd_check_ways ct_check_ways : Value}
    {od_check_says an_check_says : Option Addr} {sl_check_says : Array (Option Value)} {oc_check_says kV_check_says dc_check_says pm_check_says cd_check_says ct_check_says : Value}
    {od_made_says an_made_says : Option Addr} {sl_made_says : Array (Option Value)} {oc_made_says kV_made_says dc_made_says pm_made_says cd_made_says ct_made_says : Value}
    {od__law_cell an__law_cell : Option Addr} {sl__law_cell : Array (Option Value)} {oc__law_cell kV__law_cell dc__law_cell pm__law_cell cd__law_cell ct__law_cell : Value}
    {od__law_whole an__law_whole : Option Addr} {sl__law_whole : Array (Option Value)} {oc__law_whole kV__law_whole dc__law_whole pm__law_whole cd__law_whole ct__law_whole : Value}
    {od__law_big an__law_big : Option Addr} {sl__law_big : Array (Option Value)} {oc__law_big kV__law_big dc__law_big pm__law_big cd__law_big ct__law_big : Value}
    {od__law_mark an__law_mark : Option Addr} {sl__law_mark : Array (Option Value)} {oc__law_mark kV__law_mark dc__law_mark pm__law_mark cd__law_mark ct__law_mark : Value}
    {od__law_says an__law_says : Option Addr} {sl__law_says : Array (Option Value)} {oc__law_says kV__law_says dc__law_says pm__law_says cd__law_says ct__law_says : Value}
    {od__law_rows_are an__law_rows_are : Option Addr} {sl__law_rows_are : Array (Option Value)} {oc__law_rows_are kV__law_rows_are dc__law_rows_are pm__law_rows_are cd__law_rows_are ct__law_rows_are : Value}
    {od__law_house_is an__law_house_is : Option Addr} {sl__law_house_is : Array (Option Value)} {oc__law_house_is kV__law_house_is dc__law_house_is pm__law_house_is cd__law_house_is ct__law_house_is : Value}
    {od__law_lists an__law_lists : Option Addr} {sl__law_lists : Array (Option Value)} {oc__law_lists kV__law_lists dc__law_lists pm__law_lists cd__law_lists ct__law_lists : Value}
    {od__law_blank an__law_blank : Option Addr} {sl__law_blank : Array (Option Value)} {oc__law_blank kV__law_blank dc__law_blank pm__law_blank cd__law_blank ct__law_blank : Value}
    {od__law_spoiled_shape an__law_spoiled_shape : Option Addr} {sl__law_spoiled_shape : Array (Option Value)} {oc__law_spoiled_shape kV__law_spoiled_shape dc__law_spoiled_shape pm__law_spoiled_shape cd__law_spoiled_shape ct__law_spoiled_shape : Value}
    {od__law_spoiled_number an__law_spoiled_number : Option Addr} {sl__law_spoiled_number : Array (Option Value)} {oc__law_spoiled_number kV__law_spoiled_number dc__law_spoiled_number pm__law_spoiled_number cd__law_spoiled_number ct__law_spoiled_number : Value}
    {od__law_refused an__law_refused : Option Addr} {sl__law_refused : Array (Option Value)} {oc__law_refused kV__law_refused dc__law_refused pm__law_refused cd__law_refused ct__law_refused : Value}
    {od__law_refused_by_any an__law_refused_by_any : Option Addr} {sl__law_refused_by_any : Array (Option Value)} {oc__law_refused_by_any kV__law_refused_by_any dc__law_refused_by_any pm__law_refused_by_any cd__law_refused_by_any ct__law_refused_by_any : Value}
    {od__law_widest an__law_widest : Option Addr} {sl__law_widest : Array (Option Value)} {oc__law_widest kV__law_widest dc__law_widest pm__law_widest cd__law_widest ct__law_widest : Value}
    {od_law an_law : Option Addr} {sl_law : Array (Option Value)} {oc_law kV_law dc_law pm_law cd_law ct_law : Value}
    {tk_MOST_LETTERS : Tok} (q_MOST_LETTERS : PySem.W.nsIn K mainGlobals "MOST_LETTERS" = some (some (.int 6 tk_MOST_LETTERS)))
    {tk_MOST_MARK : Tok} (q_MOST_MARK : PySem.W.nsIn K mainGlobals "MOST_MARK" = some (some (.int 1000000000 tk_MOST_MARK)))
    {tk_MOST_ROOMS : Tok} (q_MOST_ROOMS : PySem.W.nsIn K mainGlobals "MOST_ROOMS" = some (some (.int 40 tk_MOST_ROOMS)))
    (a_is_mark : PySem.W.nsIn K mainGlobals "is_mark" = some (some (.ref f_is_mark)))
    (l_is_mark : K.lookup f_is_mark = some ⟨oc_is_mark, od_is_mark, .func (PySem.W.fnOf "is_mark" "is_mark" (defArgs s_is_mark) (defBody s_is_mark) (defScope s_is_mark) .none kV_is_mark dc_is_mark pm_is_mark an_is_mark cd_is_mark ct_is_mark), sl_is_mark⟩)
    (c_is_mark : PySem.W.codeIn K cd_is_mark "is_mark" = true)
    (k_is_mark : PySem.W.keepIn K (.ref f_is_mark) = true)
    (a_check_letters : PySem.W.nsIn K mainGlobals "check_letters" = some (some (.ref f_check_letters)))
    (l_check_letters : K.lookup f_check_letters = some ⟨oc_check_letters, od_check_letters, .func (PySem.W.fnOf "check_letters" "check_letters" (defArgs s_check_letters) (defBody s_check_letters) (defScope s_check_letters) .none kV_check_letters dc_check_letters pm_check_letters an_check_letters cd_check_letters ct_check_letters), sl_check_letters⟩)
    (c_check_letters : PySem.W.codeIn K cd_check_letters "check_letters" = true)
    (k_check_letters : PySem.W.keepIn K (.ref f_check_letters) = true)
    (a_check_marks : PySem.W.nsIn K mainGlobals "check_marks" = some (some (.ref f_check_marks)))
    (l_check_marks : K.lookup f_check_marks = some ⟨oc_check_marks, od_check_marks, .func (PySem.W.fnOf "check_marks" "check_marks" (defArgs s_check_marks) (defBody s_check_marks) (defScope s_check_marks) .none kV_check_marks dc_check_marks pm_check_marks an_check_marks cd_check_marks ct_check_marks), sl_check_marks⟩)
    (c_check_marks : PySem.W.codeIn K cd_check_marks "check_marks" = true)
    (k_check_marks : PySem.W.keepIn K (.ref f_check_marks) = true)
    (a_check_rooms : PySem.W.nsIn K mainGlobals "check_rooms" = some (some (.ref f_check_rooms)))
    (l_check_rooms : K.lookup f_check_rooms = some ⟨oc_check_rooms, od_check_rooms, .func (PySem.W.fnOf "check_rooms" "check_rooms" (defArgs s_check_rooms) (defBody s_check_rooms) (defScope s_check_rooms) .none kV_check_rooms dc_check_rooms pm_check_rooms an_check_rooms cd_check_rooms ct_check_rooms), sl_check_rooms⟩)
    (c_check_rooms : PySem.W.codeIn K cd_check_rooms "check_rooms" = true)
    (k_check_rooms : PySem.W.keepIn K (.ref f_check_rooms) = true)
    (a_check_ways : PySem.W.nsIn K mainGlobals "check_ways" = some (some (.ref f_check_ways)))
    (l_check_ways : K.lookup f_check_ways = some ⟨oc_check_ways, od_check_ways, .func (PySem.W.fnOf "check_ways" "check_ways" (defArgs s_check_ways) (defBody s_check_ways) (defScope s_check_ways) .none kV_check_ways dc_check_ways pm_check_ways an_check_ways cd_check_ways ct_check_ways), sl_check_ways⟩)
    (c_check_ways : PySem.W.codeIn K cd_check_ways "check_ways" = true)
    (k_check_ways : PySem.W.keepIn K (.ref f_check_ways) = true)
    (a_check_says : PySem.W.nsIn K mainGlobals "check_says" = some (some (.ref f_check_says)))
    (l_check_says : K.lookup f_check_says = some ⟨oc_check_says, od_check_says, .func (PySem.W.fnOf "check_says" "check_says" (defArgs s_check_says) (defBody s_check_says) (defScope s_check_says) .none kV_check_says dc_check_says pm_check_says an_check_says cd_check_says ct_check_says), sl_check_says⟩)
    (c_check_says : PySem.W.codeIn K cd_check_says "check_says" = true)
    (k_check_says : PySem.W.keepIn K (.ref f_check_says) = true)
    (a_made_says : PySem.W.nsIn K mainGlobals "made_says" = some (some (.ref f_made_says)))
    (l_made_says : K.lookup f_made_says = some ⟨oc_made_says, od_made_says, .func (PySem.W.fnOf "made_says" "made_says" (defArgs s_made_says) (defBody s_made_says) (defScope s_made_says) .none kV_made_says dc_made_says pm_made_says an_made_says cd_made_says ct_made_says), sl_made_says⟩)
    (c_made_says : PySem.W.codeIn K cd_made_says "made_says" = true)
    (k_made_says : PySem.W.keepIn K (.ref f_made_says) = true)
    (a__law_cell : PySem.W.nsIn K mainGlobals "_law_cell" = some (some (.ref f__law_cell)))
    (l__law_cell : K.lookup f__law_cell = some ⟨oc__law_cell, od__law_cell, .func (PySem.W.fnOf "_law_cell" "_law_cell" (defArgs s__law_cell) (defBody s__law_cell) (defScope s__law_cell) .none kV__law_cell dc__law_cell pm__law_cell an__law_cell cd__law_cell ct__law_cell), sl__law_cell⟩)
    (c__law_cell : PySem.W.codeIn K cd__law_cell "_law_cell" = true)
    (k__law_cell : PySem.W.keepIn K (.ref f__law_cell) = true)
    (a__law_whole : PySem.W.nsIn K mainGlobals "_law_whole" = some (some (.ref f__law_whole)))
    (l__law_whole : K.lookup f__law_whole = some ⟨oc__law_whole, od__law_whole, .func (PySem.W.fnOf "_law_whole" "_law_whole" (defArgs s__law_whole) (defBody s__law_whole) (defScope s__law_whole) .none kV__law_whole dc__law_whole pm__law_whole an__law_whole cd__law_whole ct__law_whole), sl__law_whole⟩)
    (c__law_whole : PySem.W.codeIn K cd__law_whole "_law_whole" = true)
    (k__law_whole : PySem.W.keepIn K (.ref f__law_whole) = true)
    (a__law_big : PySem.W.nsIn K mainGlobals "_law_big" = some (some (.ref f__law_big)))
    (l__law_big : K.lookup f__law_big = some ⟨oc__law_big, od__law_big, .func (PySem.W.fnOf "_law_big" "_law_big" (defArgs s__law_big) (defBody s__law_big) (defScope s__law_big) .none kV__law_big dc__law_big pm__law_big an__law_big cd__law_big ct__law_big), sl__law_big⟩)
    (c__law_big : PySem.W.codeIn K cd__law_big "_law_big" = true)
    (k__law_big : PySem.W.keepIn K (.ref f__law_big) = true)
    (a__law_mark : PySem.W.nsIn K mainGlobals "_law_mark" = some (some (.ref f__law_mark)))
    (l__law_mark : K.lookup f__law_mark = some ⟨oc__law_mark, od__law_mark, .func (PySem.W.fnOf "_law_mark" "_law_mark" (defArgs s__law_mark) (defBody s__law_mark) (defScope s__law_mark) .none kV__law_mark dc__law_mark pm__law_mark an__law_mark cd__law_mark ct__law_mark), sl__law_mark⟩)
    (c__law_mark : PySem.W.codeIn K cd__law_mark "_law_mark" = true)
    (k__law_mark : PySem.W.keepIn K (.ref f__law_mark) = true)
    (a__law_says : PySem.W.nsIn K mainGlobals "_law_says" = some (some (.ref f__law_says)))
    (l__law_says : K.lookup f__law_says = some ⟨oc__law_says, od__law_says, .func (PySem.W.fnOf "_law_says" "_law_says" (defArgs s__law_says) (defBody s__law_says) (defScope s__law_says) .none kV__law_says dc__law_says pm__law_says an__law_says cd__law_says ct__law_says), sl__law_says⟩)
    (c__law_says : PySem.W.codeIn K cd__law_says "_law_says" = true)
    (k__law_says : PySem.W.keepIn K (.ref f__law_says) = true)
    (a__law_rows_are : PySem.W.nsIn K mainGlobals "_law_rows_are" = some (some (.ref f__law_rows_are)))
    (l__law_rows_are : K.lookup f__law_rows_are = some ⟨oc__law_rows_are, od__law_rows_are, .func (PySem.W.fnOf "_law_rows_are" "_law_rows_are" (defArgs s__law_rows_are) (defBody s__law_rows_are) (defScope s__law_rows_are) .none kV__law_rows_are dc__law_rows_are pm__law_rows_are an__law_rows_are cd__law_rows_are ct__law_rows_are), sl__law_rows_are⟩)
    (c__law_rows_are : PySem.W.codeIn K cd__law_rows_are "_law_rows_are" = true)
    (k__law_rows_are : PySem.W.keepIn K (.ref f__law_rows_are) = true)
    (a__law_house_is : PySem.W.nsIn K mainGlobals "_law_house_is" = some (some (.ref f__law_house_is)))
    (l__law_house_is : K.lookup f__law_house_is = some ⟨oc__law_house_is, od__law_house_is, .func (PySem.W.fnOf "_law_house_is" "_law_house_is" (defArgs s__law_house_is) (defBody s__law_house_is) (defScope s__law_house_is) .none kV__law_house_is dc__law_house_is pm__law_house_is an__law_house_is cd__law_house_is ct__law_house_is), sl__law_house_is⟩)
    (c__law_house_is : PySem.W.codeIn K cd__law_house_is "_law_house_is" = true)
    (k__law_house_is : PySem.W.keepIn K (.ref f__law_house_is) = true)
    (a__law_lists : PySem.W.nsIn K mainGlobals "_law_lists" = some (some (.ref f__law_lists)))
    (l__law_lists : K.lookup f__law_lists = some ⟨oc__law_lists, od__law_lists, .func (PySem.W.fnOf "_law_lists" "_law_lists" (defArgs s__law_lists) (defBody s__law_lists) (defScope s__law_lists) .none kV__law_lists dc__law_lists pm__law_lists an__law_lists cd__law_lists ct__law_lists), sl__law_lists⟩)
    (c__law_lists : PySem.W.codeIn K cd__law_lists "_law_lists" = true)
    (k__law_lists : PySem.W.keepIn K (.ref f__law_lists) = true)
    (a__law_blank : PySem.W.nsIn K mainGlobals "_law_blank" = some (some (.ref f__law_blank)))
    (l__law_blank : K.lookup f__law_blank = some ⟨oc__law_blank, od__law_blank, .func (PySem.W.fnOf "_law_blank" "_law_blank" (defArgs s__law_blank) (defBody s__law_blank) (defScope s__law_blank) .none kV__law_blank dc__law_blank pm__law_blank an__law_blank cd__law_blank ct__law_blank), sl__law_blank⟩)
    (c__law_blank : PySem.W.codeIn K cd__law_blank "_law_blank" = true)
    (k__law_blank : PySem.W.keepIn K (.ref f__law_blank) = true)
    (a__law_spoiled_shape : PySem.W.nsIn K mainGlobals "_law_spoiled_shape" = some (some (.ref f__law_spoiled_shape)))
    (l__law_spoiled_shape : K.lookup f__law_spoiled_shape = some ⟨oc__law_spoiled_shape, od__law_spoiled_shape, .func (PySem.W.fnOf "_law_spoiled_shape" "_law_spoiled_shape" (defArgs s__law_spoiled_shape) (defBody s__law_spoiled_shape) (defScope s__law_spoiled_shape) .none kV__law_spoiled_shape dc__law_spoiled_shape pm__law_spoiled_shape an__law_spoiled_shape cd__law_spoiled_shape ct__law_spoiled_shape), sl__law_spoiled_shape⟩)
    (c__law_spoiled_shape : PySem.W.codeIn K cd__law_spoiled_shape "_law_spoiled_shape" = true)
    (k__law_spoiled_shape : PySem.W.keepIn K (.ref f__law_spoiled_shape) = true)
    (a__law_spoiled_number : PySem.W.nsIn K mainGlobals "_law_spoiled_number" = some (some (.ref f__law_spoiled_number)))
    (l__law_spoiled_number : K.lookup f__law_spoiled_number = some ⟨oc__law_spoiled_number, od__law_spoiled_number, .func (PySem.W.fnOf "_law_spoiled_number" "_law_spoiled_number" (defArgs s__law_spoiled_number) (defBody s__law_spoiled_number) (defScope s__law_spoiled_number) .none kV__law_spoiled_number dc__law_spoiled_number pm__law_spoiled_number an__law_spoiled_number cd__law_spoiled_number ct__law_spoiled_number), sl__law_spoiled_number⟩)
    (c__law_spoiled_number : PySem.W.codeIn K cd__law_spoiled_number "_law_spoiled_number" = true)
    (k__law_spoiled_number : PySem.W.keepIn K (.ref f__law_spoiled_number) = true)
    (a__law_refused : PySem.W.nsIn K mainGlobals "_law_refused" = some (some (.ref f__law_refused)))
    (l__law_refused : K.lookup f__law_refused = some ⟨oc__law_refused, od__law_refused, .func (PySem.W.fnOf "_law_refused" "_law_refused" (defArgs s__law_refused) (defBody s__law_refused) (defScope s__law_refused) .none kV__law_refused dc__law_refused pm__law_refused an__law_refused cd__law_refused ct__law_refused), sl__law_refused⟩)
    (c__law_refused : PySem.W.codeIn K cd__law_refused "_law_refused" = true)
    (k__law_refused : PySem.W.keepIn K (.ref f__law_refused) = true)
    (a__law_refused_by_any : PySem.W.nsIn K mainGlobals "_law_refused_by_any" = some (some (.ref f__law_refused_by_any)))
    (l__law_refused_by_any : K.lookup f__law_refused_by_any = some ⟨oc__law_refused_by_any, od__law_refused_by_any, .func (PySem.W.fnOf "_law_refused_by_any" "_law_refused_by_any" (defArgs s__law_refused_by_any) (defBody s__law_refused_by_any) (defScope s__law_refused_by_any) .none kV__law_refused_by_any dc__law_refused_by_any pm__law_refused_by_any an__law_refused_by_any cd__law_refused_by_any ct__law_refused_by_any), sl__law_refused_by_any⟩)
    (c__law_refused_by_any : PySem.W.codeIn K cd__law_refused_by_any "_law_refused_by_any" = true)
    (k__law_refused_by_any : PySem.W.keepIn K (.ref f__law_refused_by_any) = true)
    (a__law_widest : PySem.W.nsIn K mainGlobals "_law_widest" = some (some (.ref f__law_widest)))
    (l__law_widest : K.lookup f__law_widest = some ⟨oc__law_widest, od__law_widest, .func (PySem.W.fnOf "_law_widest" "_law_widest" (defArgs s__law_widest) (defBody s__law_widest) (defScope s__law_widest) .none kV__law_widest dc__law_widest pm__law_widest an__law_widest cd__law_widest ct__law_widest), sl__law_widest⟩)
    (c__law_widest : PySem.W.codeIn K cd__law_widest "_law_widest" = true)
    (k__law_widest : PySem.W.keepIn K (.ref f__law_widest) = true)
    (a_law : PySem.W.nsIn K mainGlobals "law" = some (some (.ref f_law)))
    (l_law : K.lookup f_law = some ⟨oc_law, od_law, .func (PySem.W.fnOf "law" "law" (defArgs s_law) (defBody s_law) (defScope s_law) .none kV_law dc_law pm_law an_law cd_law ct_law), sl_law⟩)
    (c_law : PySem.W.codeIn K cd_law "law" = true)
    (k_law : PySem.W.keepIn K (.ref f_law) = true)
    (z_ValueError : PySem.W.nsIn K mainGlobals "ValueError" = some none)
    (z_all : PySem.W.nsIn K mainGlobals "all" = some none)
    (z_bool : PySem.W.nsIn K mainGlobals "bool" = some none)
    (z_int : PySem.W.nsIn K mainGlobals "int" = some none)
    (z_isinstance : PySem.W.nsIn K mainGlobals "isinstance" = some none)
    (z_len : PySem.W.nsIn K mainGlobals "len" = some none)
    (z_list : PySem.W.nsIn K mainGlobals "list" = some none)
    (z_max : PySem.W.nsIn K mainGlobals "max" = some none)
    (z_range : PySem.W.nsIn K mainGlobals "range" = some none)
    (z_tuple : PySem.W.nsIn K mainGlobals "tuple" = some none)
    (m_AskError : PySem.W.nsIn K mainGlobals "AskError" = some (some (.ref C_AskError)))
    (m_BadHouse : PySem.W.nsIn K mainGlobals "BadHouse" = some (some (.ref C_BadHouse)))
    (m_BadWord : PySem.W.nsIn K mainGlobals "BadWord" = some (some (.ref C_BadWord)))
    (m_BadMark : PySem.W.nsIn K mainGlobals "BadMark" = some (some (.ref C_BadMark)))
    (x_BadHouse : PySem.W.excIn K C_BadHouse bmV "ValueError.__new__" = true)
    (ga_BadHouse : PySem.W.findIn K (.ref C_BadHouse) "__getattribute__" = some (some (.builtin "BaseException.__getattribute__")))
    (hk_BadHouse : PySem.W.findIn K (.ref C_BadHouse) "__getattr__" = some none)
    {cd_BadHouse : ClassData}
    (cl_BadHouse : PySem.W.clsIn K C_BadHouse = some cd_BadHouse)
    (ca_BadHouse : PySem.W.findIn K (.ref C_BadHouse) "__class__" = some (some (.builtin "object.__class__")))
    (mo_BadHouse : PySem.W.mroIn K C_BadHouse (.type "object") = some true)
    (mb_BadHouse : PySem.W.mroIn K C_BadHouse (.type "BaseException") = some true)
    (e_BadHouse : PySem.W.exmOne K (.ref C_BadHouse) (.ref C_AskError) = some true)
    (v_BadHouse : PySem.W.kitOne K (.ref C_BadHouse) (.type "ValueError") = some true)
    (ee_BadHouse : PySem.W.exmOne K (.ref C_BadHouse) (.ref C_BadHouse) = some true)
    (k_BadHouse_AskError : PySem.W.kitOne K (.ref C_BadHouse) (.ref C_AskError) = some true)
    (k_BadHouse_BadHouse : PySem.W.kitOne K (.ref C_BadHouse) (.ref C_BadHouse) = some true)
    (k_BadHouse_BadWord : PySem.W.kitOne K (.ref C_BadHouse) (.ref C_BadWord) = some false)
    (k_BadHouse_BadMark : PySem.W.kitOne K (.ref C_BadHouse) (.ref C_BadMark) = some false)
    (gs : PySem.W.specialIn K (.builtin "object.__class__") "__get__" = some (some (.builtin "getset_descriptor.__get__")))
    (tk : PySem.W.takesIn K (.builtin "object.__class__") = some true)
    : ∃ fd : FuncData, (∀ (s : Shared) (v : Value), BindsTo s fd ⟨[v], []⟩ [("script", v)]) /\ ∀ base : Heap, K.In base -> base.Ns mainGlobals mg -> FnOk l.prog w K mg base CX0 6 fa fd ["script"] (spLaw K) := by
  have e := hfa.symm.trans (PySem.W.mg_of X G a_law)
  cases e
  have T : Txt mg := ⟨PySem.W.mg_none_of X G z_ValueError, PySem.W.mg_none_of X G z_all, PySem.W.mg_none_of X G z_bool, PySem.W.mg_none_of X G z_int, PySem.W.mg_none_of X G z_isinstance, PySem.W.mg_none_of X G z_len, PySem.W.mg_none_of X G z_list, PySem.W.mg_none_of X G z_max, PySem.W.mg_none_of X G z_range, PySem.W.mg_none_of X G z_tuple⟩
  have Z : Exs K mg C_AskError C_BadHouse C_BadWord C_BadMark := ⟨PySem.W.mg_of X G m_AskError, PySem.W.mg_of X G m_BadHouse, PySem.W.mg_of X G m_BadWord, PySem.W.mg_of X G m_BadMark, x_BadHouse, ⟨ga_BadHouse, hk_BadHouse, by rw [cl_BadHouse]; rfl, ca_BadHouse, gs, tk, mo_BadHouse, mb_BadHouse⟩, e_BadHouse, v_BadHouse, ee_BadHouse, k_BadHouse_AskError, k_BadHouse_BadHouse, k_BadHouse_BadWord, k_BadHouse_BadMark⟩
  have W : Own K mg := ⟨⟨_, PySem.W.mg_of X G q_MOST_LETTERS⟩, ⟨_, PySem.W.mg_of X G q_MOST_MARK⟩, ⟨_, PySem.W.mg_of X G q_MOST_ROOMS⟩⟩
  have F_is_mark := fun_mk (st := s_is_mark) l_is_mark c_is_mark k_is_mark
  have b_is_mark := F_is_mark.binds (ps := ["number"]) fun _ _ _ _ _ _ us hl => match us, hl with | [_], _ => rfl
  have m_is_mark := PySem.W.mg_of X G a_is_mark
  have F_check_letters := fun_mk (st := s_check_letters) l_check_letters c_check_letters k_check_letters
  have b_check_letters := F_check_letters.binds (ps := ["letters"]) fun _ _ _ _ _ _ us hl => match us, hl with | [_], _ => rfl
  have m_check_letters := PySem.W.mg_of X G a_check_letters
  have F_check_marks := fun_mk (st := s_check_marks) l_check_marks c_check_marks k_check_marks
  have b_check_marks := F_check_marks.binds (ps := ["marks"]) fun _ _ _ _ _ _ us hl => match us, hl with | [_], _ => rfl
  have m_check_marks := PySem.W.mg_of X G a_check_marks
  have F_check_rooms := fun_mk (st := s_check_rooms) l_check_rooms c_check_rooms k_check_rooms
  have b_check_rooms := F_check_rooms.binds (ps := ["rooms"]) fun _ _ _ _ _ _ us hl => match us, hl with | [_], _ => rfl
  have m_check_rooms := PySem.W.mg_of X G a_check_rooms
  have F_check_ways := fun_mk (st := s_check_ways) l_check_ways c_check_ways k_check_ways
  have b_check_ways := F_check_ways.binds (ps := ["letters", "rooms", "ways"]) fun _ _ _ _ _ _ us hl => match us, hl with | [_, _, _], _ => rfl
  have m_check_ways := PySem.W.mg_of X G a_check_ways
  have F_check_says := fun_mk (st := s_check_says) l_check_says c_check_says k_check_says
  have b_check_says := F_check_says.binds (ps := ["letters", "says"]) fun _ _ _ _ _ _ us hl => match us, hl with | [_, _], _ => rfl
  have m_check_says := PySem.W.mg_of X G a_check_says
  have F_made_says := fun_mk (st := s_made_says) l_made_says c_made_says k_made_says
  have b_made_says := F_made_says.binds (ps := ["letters", "says", "ways"]) fun _ _ _ _ _ _ us hl => match us, hl with | [_, _, _], _ => rfl
  have m_made_says := PySem.W.mg_of X G a_made_says
  have F__law_cell := fun_mk (st := s__law_cell) l__law_cell c__law_cell k__law_cell
  have b__law_cell := F__law_cell.binds (ps := ["script", "k"]) fun _ _ _ _ _ _ us hl => match us, hl with | [_, _], _ => rfl
  have m__law_cell := PySem.W.mg_of X G a__law_cell
  have F__law_whole := fun_mk (st := s__law_whole) l__law_whole c__law_whole k__law_whole
  have b__law_whole := F__law_whole.binds (ps := ["found"]) fun _ _ _ _ _ _ us hl => match us, hl with | [_], _ => rfl
  have m__law_whole := PySem.W.mg_of X G a__law_whole
  have F__law_big := fun_mk (st := s__law_big) l__law_big c__law_big k__law_big
  have b__law_big := F__law_big.binds (ps := ["script", "k"]) fun _ _ _ _ _ _ us hl => match us, hl with | [_, _], _ => rfl
  have m__law_big := PySem.W.mg_of X G a__law_big
  have F__law_mark := fun_mk (st := s__law_mark) l__law_mark c__law_mark k__law_mark
  have b__law_mark := F__law_mark.binds (ps := ["cell"]) fun _ _ _ _ _ _ us hl => match us, hl with | [_], _ => rfl
  have m__law_mark := PySem.W.mg_of X G a__law_mark
  have F__law_says := fun_mk (st := s__law_says) l__law_says c__law_says k__law_says
  have b__law_says := F__law_says.binds (ps := ["script", "at", "letters", "rooms"]) fun _ _ _ _ _ _ us hl => match us, hl with | [_, _, _, _], _ => rfl
  have m__law_says := PySem.W.mg_of X G a__law_says
  have F__law_rows_are := fun_mk (st := s__law_rows_are) l__law_rows_are c__law_rows_are k__law_rows_are
  have b__law_rows_are := F__law_rows_are.binds (ps := ["found", "due"]) fun _ _ _ _ _ _ us hl => match us, hl with | [_, _], _ => rfl
  have m__law_rows_are := PySem.W.mg_of X G a__law_rows_are
  have F__law_house_is := fun_mk (st := s__law_house_is) l__law_house_is c__law_house_is k__law_house_is
  have b__law_house_is := F__law_house_is.binds (ps := ["found", "due"]) fun _ _ _ _ _ _ us hl => match us, hl with | [_, _], _ => rfl
  have m__law_house_is := PySem.W.mg_of X G a__law_house_is
  have F__law_lists := fun_mk (st := s__law_lists) l__law_lists c__law_lists k__law_lists
  have b__law_lists := F__law_lists.binds (ps := ["house"]) fun _ _ _ _ _ _ us hl => match us, hl with | [_], _ => rfl
  have m__law_lists := PySem.W.mg_of X G a__law_lists
  have F__law_blank := fun_mk (st := s__law_blank) l__law_blank c__law_blank k__law_blank
  have b__law_blank := F__law_blank.binds (ps := ["letters", "rooms"]) fun _ _ _ _ _ _ us hl => match us, hl with | [_, _], _ => rfl
  have m__law_blank := PySem.W.mg_of X G a__law_blank
  have F__law_spoiled_shape := fun_mk (st := s__law_spoiled_shape) l__law_spoiled_shape c__law_spoiled_shape k__law_spoiled_shape
  have b__law_spoiled_shape := F__law_spoiled_shape.binds (ps := ["pieces", "way", "cell"]) fun _ _ _ _ _ _ us hl => match us, hl with | [_, _, _], _ => rfl
  have m__law_spoiled_shape := PySem.W.mg_of X G a__law_spoiled_shape
  have F__law_spoiled_number := fun_mk (st := s__law_spoiled_number) l__law_spoiled_number c__law_spoiled_number k__law_spoiled_number
  have b__law_spoiled_number := F__law_spoiled_number.binds (ps := ["pieces", "way", "cell"]) fun _ _ _ _ _ _ us hl => match us, hl with | [_, _, _], _ => rfl
  have m__law_spoiled_number := PySem.W.mg_of X G a__law_spoiled_number
  have F__law_refused := fun_mk (st := s__law_refused) l__law_refused c__law_refused k__law_refused
  have b__law_refused := F__law_refused.binds (ps := ["pieces"]) fun _ _ _ _ _ _ us hl => match us, hl with | [_], _ => rfl
  have m__law_refused := PySem.W.mg_of X G a__law_refused
  have F__law_refused_by_any := fun_mk (st := s__law_refused_by_any) l__law_refused_by_any c__law_refused_by_any k__law_refused_by_any
  have b__law_refused_by_any := F__law_refused_by_any.binds (ps := ["pieces"]) fun _ _ _ _ _ _ us hl => match us, hl with | [_], _ => rfl
  have m__law_refused_by_any := PySem.W.mg_of X G a__law_refused_by_any
  have F__law_widest := fun_mk (st := s__law_widest) l__law_widest c__law_widest k__law_widest
  have b__law_widest := F__law_widest.binds (ps := ["letters"]) fun _ _ _ _ _ _ us hl => match us, hl with | [_], _ => rfl
  have m__law_widest := PySem.W.mg_of X G a__law_widest
  have F_law := fun_mk (st := s_law) l_law c_law k_law
  have b_law := F_law.binds (ps := ["script"]) fun _ _ _ _ _ _ us hl => match us, hl with | [_], _ => rfl
  have m_law := PySem.W.mg_of X G a_law
  refine ⟨PySem.W.fnOf "law" "law" (defArgs s_law) (defBody s_law) (defScope s_law) .none kV_law dc_law pm_law an_law cd_law ct_law, fun s v => .of_eq rfl, fun base _ _ => ?_⟩
  have g_is_mark := ok_is_mark (P := l.prog) (w := w) (base := base) F_is_mark T W Z 
  have g_check_letters := ok_check_letters (P := l.prog) (w := w) (base := base) F_check_letters T W Z 
  have g_check_marks := ok_check_marks (P := l.prog) (w := w) (base := base) F_check_marks T W Z g_is_mark F_is_mark b_is_mark m_is_mark
  have g_check_rooms := ok_check_rooms (P := l.prog) (w := w) (base := base) F_check_rooms T W Z 
  have g_check_ways := ok_check_ways (P := l.prog) (w := w) (base := base) F_check_ways T W Z 
  have g_check_says := ok_check_says (P := l.prog) (w := w) (base := base) F_check_says T W Z g_check_marks F_check_marks b_check_marks m_check_marks
  have g_made_says := ok_made_says (P := l.prog) (w := w) (base := base) F_made_says T W Z g_check_letters F_check_letters b_check_letters m_check_letters g_check_rooms F_check_rooms b_check_rooms m_check_rooms g_check_ways F_check_ways b_check_ways m_check_ways g_check_says F_check_says b_check_says m_check_says
  have g__law_cell := ok__law_cell (P := l.prog) (w := w) (base := base) F__law_cell T W Z 
  have g__law_whole := ok__law_whole (P := l.prog) (w := w) (base := base) F__law_whole T W Z 
  have g__law_big := ok__law_big (P := l.prog) (w := w) (base := base) F__law_big T W Z g__law_cell F__law_cell b__law_cell m__law_cell
  have g__law_mark := ok__law_mark (P := l.prog) (w := w) (base := base) F__law_mark T W Z 
  have g__law_says := ok__law_says (P := l.prog) (w := w) (base := base) F__law_says T W Z g__law_big F__law_big b__law_big m__law_big g__law_mark F__law_mark b__law_mark m__law_mark
  have g__law_rows_are := ok__law_rows_are (P := l.prog) (w := w) (base := base) F__law_rows_are T W Z g__law_whole F__law_whole b__law_whole m__law_whole
  have g__law_house_is := ok__law_house_is (P := l.prog) (w := w) (base := base) F__law_house_is T W Z g__law_whole F__law_whole b__law_whole m__law_whole g__law_rows_are F__law_rows_are b__law_rows_are m__law_rows_are
  have g__law_lists := ok__law_lists (P := l.prog) (w := w) (base := base) F__law_lists T W Z 
  have g__law_blank := ok__law_blank (P := l.prog) (w := w) (base := base) F__law_blank T W Z 
  have g__law_spoiled_shape := ok__law_spoiled_shape (P := l.prog) (w := w) (base := base) F__law_spoiled_shape T W Z g__law_blank F__law_blank b__law_blank m__law_blank
  have g__law_spoiled_number := ok__law_spoiled_number (P := l.prog) (w := w) (base := base) F__law_spoiled_number T W Z 
  have g__law_refused := ok__law_refused (P := l.prog) (w := w) (base := base) F__law_refused T W Z g_made_says F_made_says b_made_says m_made_says
  have g__law_refused_by_any := ok__law_refused_by_any (P := l.prog) (w := w) (base := base) F__law_refused_by_any T W Z g_made_says F_made_says b_made_says m_made_says
  have g__law_widest := ok__law_widest (P := l.prog) (w := w) (base := base) F__law_widest T W Z g_made_says F_made_says b_made_says m_made_says g__law_house_is F__law_house_is b__law_house_is m__law_house_is g__law_blank F__law_blank b__law_blank m__law_blank
  have g_law := ok_law (P := l.prog) (w := w) (base := base) F_law T W Z g_made_says F_made_says b_made_says m_made_says g__law_cell F__law_cell b__law_cell m__law_cell g__law_says F__law_says b__law_says m__law_says g__law_house_is F__law_house_is b__law_house_is m__law_house_is g__law_lists F__law_lists b__law_lists m__law_lists g__law_spoiled_shape F__law_spoiled_shape b__law_spoiled_shape m__law_spoiled_shape g__law_spoiled_number F__law_spoiled_number b__law_spoiled_number m__law_spoiled_number g__law_refused F__law_refused b__law_refused m__law_refused g__law_refused_by_any F__law_refused_by_any b__law_refused_by_any m__law_refused_by_any g__law_widest F__law_widest b__law_widest m__law_widest
  exact g_law
theorem walk {l : PySem.W.OpenLaw} {q : Program} {loose : List Str} {XP : (Str -> Option Value) -> Heap -> Prop} {YP : World -> Heap -> Prop} {d : DefRec} {K : Params -> PySem.W.Frag} (hn : l.most = some 63) (hdf : d.params.defaults = [])
    (hY : ∀ (w : World) (h : Heap), YP w h -> (K w.params).In h)
    (F : ∀ (w : World) (mg : Str -> Option Value) (fa : Addr) (h : Heap), (K w.params).In h -> h.Ns mainGlobals mg -> mg d.name = some (.ref fa) ->
      ∃ fd : FuncData, (∀ (s : Shared) (u : Value), BindsTo s fd ⟨[u], []⟩ [("script", u)]) /\ ∀ base : Heap, (K w.params).In base -> base.Ns mainGlobals mg -> FnOk l.prog w (K w.params) mg base CX0 6 fa fd ["script"] (spLaw (K w.params))) :
    PySem.W.WalkO q loose XP YP l.row.toRowW d [] (fun f vs => PySem.call f vs) :=
  L2.walk_of (n := 63) (k := 6) (x := "script") (CX := fun _ => CX0) (sp := fun w => spLaw (K w.params)) hn (by decide) hdf ⟨rfl, by decide, by decide⟩ hY F (fun _ _ a ns hl _ hS => ⟨a, ns, rfl, hS, hl, fun _ => rfl⟩) fun _ _ _ _ _ z => z
end Mine
open PySem PySem.W PyProof.Rows
set_option maxRecDepth 100000 in
set_option maxHeartbeats 0 in
theorem PySem.Challenge.cw_guessroom_k52_says_made_holds : PySem.Challenge.rw_guessroom_k52_says_made.Holds := by
  w_on; o_law; k_head; (case hw => w_witness2)
  k_fill
  refine Mine.walk (l := PySem.Challenge.rw_guessroom_k52_says_made) rfl rfl (fun w h Y => PySem.W.kIn_of Y) ?F
  case F =>
    intro w mg fa h KX G hmg
    refine' Mine.all_mk KX G hmg ?q_MOST_LETTERS ?q_MOST_MARK ?q_MOST_ROOMS ?a_is_mark ?l_is_mark ?c_is_mark ?k_is_mark ?a_check_letters ?l_check_letters ?c_check_letters ?k_check_letters ?a_check_marks ?l_check_marks ?c_check_marks ?k_check_marks ?a_check_rooms ?l_check_rooms ?c_check_rooms ?k_check_rooms ?a_check_ways ?l_check_ways ?c_check_ways ?k_check_ways ?a_check_says ?l_check_says ?c_check_says ?k_check_says ?a_made_says ?l_made_says ?c_made_says ?k_made_says ?a__law_cell ?l__law_cell ?c__law_cell ?k__law_cell ?a__law_whole ?l__law_whole ?c__law_whole ?k__law_whole ?a__law_big ?l__law_big ?c__law_big ?k__law_big ?a__law_mark ?l__law_mark ?c__law_mark ?k__law_mark ?a__law_says ?l__law_says ?c__law_says ?k__law_says ?a__law_rows_are ?l__law_rows_are ?c__law_rows_are ?k__law_rows_are ?a__law_house_is ?l__law_house_is ?c__law_house_is ?k__law_house_is ?a__law_lists ?l__law_lists ?c__law_lists ?k__law_lists ?a__law_blank ?l__law_blank ?c__law_blank ?k__law_blank ?a__law_spoiled_shape ?l__law_spoiled_shape ?c__law_spoiled_shape ?k__law_spoiled_shape ?a__law_spoiled_number ?l__law_spoiled_number ?c__law_spoiled_number ?k__law_spoiled_number ?a__law_refused ?l__law_refused ?c__law_refused ?k__law_refused ?a__law_refused_by_any ?l__law_refused_by_any ?c__law_refused_by_any ?k__law_refused_by_any ?a__law_widest ?l__law_widest ?c__law_widest ?k__law_widest ?a_law ?l_law ?c_law ?k_law ?z_ValueError ?z_all ?z_bool ?z_int ?z_isinstance ?z_len ?z_list ?z_max ?z_range ?z_tuple ?m_AskError ?m_BadHouse ?m_BadWord ?m_BadMark ?x_BadHouse ?ga_BadHouse ?hk_BadHouse ?cl_BadHouse ?ca_BadHouse ?mo_BadHouse ?mb_BadHouse ?e_BadHouse ?v_BadHouse ?ee_BadHouse ?k_BadHouse_AskError ?k_BadHouse_BadHouse ?k_BadHouse_BadWord ?k_BadHouse_BadMark ?gs ?tk
    (case q_MOST_LETTERS => k_is)
    (case q_MOST_MARK => k_is)
    (case q_MOST_ROOMS => k_is)
    (case a_is_mark => k_is)
    (case l_is_mark => k_is)
    (case c_is_mark => k_is)
    (case k_is_mark => k_is)
    (case a_check_letters => k_is)
    (case l_check_letters => k_is)
    (case c_check_letters => k_is)
    (case k_check_letters => k_is)
    (case a_check_marks => k_is)
    (case l_check_marks => k_is)
    (case c_check_marks => k_is)
    (case k_check_marks => k_is)
    (case a_check_rooms => k_is)
    (case l_check_rooms => k_is)
    (case c_check_rooms => k_is)
    (case k_check_rooms => k_is)
    (case a_check_ways => k_is)
    (case l_check_ways => k_is)
    (case c_check_ways => k_is)
    (case k_check_ways => k_is)
    (case a_check_says => k_is)
    (case l_check_says => k_is)
    (case c_check_says => k_is)
    (case k_check_says => k_is)
    (case a_made_says => k_is)
    (case l_made_says => k_is)
    (case c_made_says => k_is)
    (case k_made_says => k_is)
    (case a__law_cell => k_is)
    (case l__law_cell => k_is)
    (case c__law_cell => k_is)
    (case k__law_cell => k_is)
    (case a__law_whole => k_is)
    (case l__law_whole => k_is)
    (case c__law_whole => k_is)
    (case k__law_whole => k_is)
    (case a__law_big => k_is)
    (case l__law_big => k_is)
    (case c__law_big => k_is)
    (case k__law_big => k_is)
    (case a__law_mark => k_is)
    (case l__law_mark => k_is)
    (case c__law_mark => k_is)
    (case k__law_mark => k_is)
    (case a__law_says => k_is)
    (case l__law_says => k_is)
    (case c__law_says => k_is)
    (case k__law_says => k_is)
    (case a__law_rows_are => k_is)
    (case l__law_rows_are => k_is)
    (case c__law_rows_are => k_is)
    (case k__law_rows_are => k_is)
    (case a__law_house_is => k_is)
    (case l__law_house_is => k_is)
    (case c__law_house_is => k_is)
    (case k__law_house_is => k_is)
    (case a__law_lists => k_is)
    (case l__law_lists => k_is)
    (case c__law_lists => k_is)
    (case k__law_lists => k_is)
    (case a__law_blank => k_is)
    (case l__law_blank => k_is)
    (case c__law_blank => k_is)
    (case k__law_blank => k_is)
    (case a__law_spoiled_shape => k_is)
    (case l__law_spoiled_shape => k_is)
    (case c__law_spoiled_shape => k_is)
    (case k__law_spoiled_shape => k_is)
    (case a__law_spoiled_number => k_is)
    (case l__law_spoiled_number => k_is)
    (case c__law_spoiled_number => k_is)
    (case k__law_spoiled_number => k_is)
    (case a__law_refused => k_is)
    (case l__law_refused => k_is)
    (case c__law_refused => k_is)
    (case k__law_refused => k_is)
    (case a__law_refused_by_any => k_is)
    (case l__law_refused_by_any => k_is)
    (case c__law_refused_by_any => k_is)
    (case k__law_refused_by_any => k_is)
    (case a__law_widest => k_is)
    (case l__law_widest => k_is)
    (case c__law_widest => k_is)
    (case k__law_widest => k_is)
    (case a_law => k_is)
    (case l_law => k_is)
    (case c_law => k_is)
    (case k_law => k_is)
    (case z_ValueError => k_is)
    (case z_all => k_is)
    (case z_bool => k_is)
    (case z_int => k_is)
    (case z_isinstance => k_is)
    (case z_len => k_is)
    (case z_list => k_is)
    (case z_max => k_is)
    (case z_range => k_is)
    (case z_tuple => k_is)
    (case m_AskError => k_is)
    (case m_BadHouse => k_is)
    (case m_BadWord => k_is)
    (case m_BadMark => k_is)
    (case x_BadHouse => k_exc)
    (case ga_BadHouse => k_is)
    (case hk_BadHouse => k_is)
    (case cl_BadHouse => k_is)
    (case ca_BadHouse => k_is)
    (case mo_BadHouse => k_is)
    (case mb_BadHouse => k_is)
    (case e_BadHouse => kts_exm)
    (case v_BadHouse => kit_is)
    (case ee_BadHouse => kts_exm)
    (case k_BadHouse_AskError => kit_is)
    (case k_BadHouse_BadHouse => kit_is)
    (case k_BadHouse_BadWord => kit_is)
    (case k_BadHouse_BadMark => kit_is)
    (case gs => k_is)
    (case tk => k_is)
