import PyProof.Rows.All
import Wide.All
import OpenK.AllK
import Wide.FinOn
import Lean
import PyProof.EqAt
import PyProof.EqKinds
import PyProof.TupleCall
import KE.KRevIter
import PyProof.ListRange
import PyProof.TupleOfGen
import PyProof.Draws
import PyProof.EnumMake
import PyProof.EnumFor
import PyProof.NeKinds
import KE.KDictList
import PyProof.Rows.TupDisplay
import PyProof.ZipIter
import PyProof.Rows.ZipGen
import KE.KItemsList
import PyProof.Rows.SumAny
import PySem.Challenge.RW_guessroom_k37_the_guess
set_option Elab.async false
set_option linter.all false
set_option maxRecDepth 100000
namespace L2
open PySem PySem.Spec PyProof.Rows
abbrev Key := Sum Int Str
def keyIs : Key -> Value -> Bool
  | .inl k, v => Value.isInt k v
  | .inr x, v => Value.isStrOf x v
def keyH (w : World) : Key -> Int
  | .inl k => hashInt k
  | .inr x => hashStr w x
theorem keyIs_shape : ∀ {k : Key} {v : Value}, keyIs k v = true -> (∃ i t, k = Sum.inl i /\ v = Value.int i t) \/ (∃ x t, k = Sum.inr x /\ v = Value.str x t)
  | .inl i, v, h => by
    obtain ⟨t, e⟩ := Value.isInt_shape (k := i) (v := v) h
    exact .inl ⟨i, t, rfl, e⟩
  | .inr x, v, h => by
    obtain ⟨t, e⟩ := Value.isStrOf_shape (x := x) (v := v) h
    exact .inr ⟨x, t, rfl, e⟩
theorem keyIs_int (i : Int) (t : Tok) : keyIs (.inl i) (.int i t) = true := by simp [keyIs, Value.isInt]
theorem keyIs_str (x : Str) (t : Tok) : keyIs (.inr x) (.str x t) = true := by simp [keyIs, Value.isStrOf]
theorem key_ll (a b : Int) : decide ((Sum.inl a : Key) = Sum.inl b) = (a == b) := by
  by_cases e : a = b
  . subst e; simp
  . have h : ¬ (Sum.inl a : Key) = Sum.inl b := fun q => e (Sum.inl.inj q)
    rw [decide_eq_false h]
    exact (beq_eq_false_iff_ne.mpr e).symm
theorem key_rr (a b : Str) : decide ((Sum.inr a : Key) = Sum.inr b) = decide (a = b) := by
  by_cases e : a = b
  . subst e; simp
  . have h : ¬ (Sum.inr a : Key) = Sum.inr b := fun q => e (Sum.inr.inj q)
    rw [decide_eq_false h, decide_eq_false e]
theorem key_lr (a : Int) (b : Str) : decide ((Sum.inl a : Key) = Sum.inr b) = false := decide_eq_false (fun q => nomatch q)
theorem key_rl (a : Str) (b : Int) : decide ((Sum.inr a : Key) = Sum.inl b) = false := decide_eq_false (fun q => nomatch q)
def mixKind (prog : Program) (w : World) : PySem.KeyKind prog w Key where
  is := keyIs
  hash := keyH w
  inj := fun v a b ha hb => by
    rcases keyIs_shape ha with ⟨i, t, rfl, rfl⟩ | ⟨x, t, rfl, rfl⟩
    . rcases keyIs_shape hb with ⟨j, u, rfl, e⟩ | ⟨y, u, rfl, e⟩
      . injection e with e1 _; rw [e1]
      . exact nomatch e
    . rcases keyIs_shape hb with ⟨j, u, rfl, e⟩ | ⟨y, u, rfl, e⟩
      . exact nomatch e
      . injection e with e1 _; rw [e1]
  byValue := fun k v h => by
    rcases keyIs_shape h with ⟨i, t, rfl, rfl⟩ | ⟨x, t, rfl, rfl⟩ <;> rfl
  pyHash := fun hv h => by
    rcases keyIs_shape hv with ⟨i, t, rfl, rfl⟩ | ⟨x, t, rfl, rfl⟩
    . exact wpAny_pyHash_int h
    . exact wpAny_pyHash_str h
  eqBool := fun hu hv h => by
    rcases keyIs_shape hu with ⟨i, t, rfl, rfl⟩ | ⟨x, t, rfl, rfl⟩
    . rcases keyIs_shape hv with ⟨j, u, rfl, rfl⟩ | ⟨y, u, rfl, rfl⟩
      . rw [key_ll] at h; exact wpAny_eqBool_int h
      . rw [key_lr] at h; exact SeqAt.EqAt.int_str i t y u _ _ _ _ h
    . rcases keyIs_shape hv with ⟨j, u, rfl, rfl⟩ | ⟨y, u, rfl, rfl⟩
      . rw [key_rl] at h; exact SeqAt.EqAt.str_int x t j u _ _ _ _ h
      . rw [key_rr] at h; exact wpAny_eqBool_str h
  «strs» := fun k x t v h => by
    rcases keyIs_shape h with ⟨i, u, rfl, e⟩ | ⟨y, u, rfl, e⟩
    . exact nomatch e
    . injection e with e1 _
      subst e1
      cases v <;> rfl
theorem mixKind_int (prog : Program) (w : World) (i : Int) (t : Tok) : (mixKind prog w).is (.inl i) (.int i t) = true := keyIs_int i t
theorem mixKind_str (prog : Program) (w : World) (x : Str) (t : Tok) : (mixKind prog w).is (.inr x) (.str x t) = true := keyIs_str x t
end L2
namespace L2
open PySem PySem.Spec PyProof.Rows
inductive V where
  | non | bl (b : Bool) | int (i : Int) | str (x : Str) | byt (b : Array UInt8) | flt (b : UInt64) | ref (a : Addr) | ty (n : String)
  deriving DecidableEq
def RelV : V -> Value -> Prop
  | .non, u => u = Value.none
  | .bl b, u => u = Value.bool b
  | .int i, u => ∃ t, u = Value.int i t
  | .str x, u => ∃ t, u = Value.str x t
  | .byt b, u => ∃ t, u = Value.bytes b t
  | .flt b, u => ∃ t, u = Value.float b t
  | .ref a, u => u = Value.ref a
  | .ty n, u => u = Value.type n
abbrev Vals : List V -> List Value -> Prop := Paired RelV
theorem Vals.length {xs : List V} {us : List Value} (r : Vals xs us) : xs.length = us.length := Paired.length r
theorem Vals.get : ∀ {xs : List V} {us : List Value} {i : Nat} {x : V}, Vals xs us -> xs[i]? = some x -> ∃ u, us[i]? = some u /\ RelV x u
  | _, _, _, _, .nil, e => by simp at e
  | _, _, 0, _, .cons r _, e => by simp at e; subst e; exact ⟨_, rfl, r⟩
  | _, _, i + 1, x, .cons _ t, e => by
    obtain ⟨u, h1, h2⟩ := Vals.get (i := i) (x := x) t (by simpa using e)
    exact ⟨u, by simpa using h1, h2⟩
theorem Vals.set {x : V} {u : Value} (r : RelV x u) : ∀ {xs : List V} {us : List Value} (i : Nat), Vals xs us -> Vals (xs.set i x) (us.set i u)
  | _, _, _, .nil => .nil
  | _, _, 0, .cons _ t => .cons r t
  | _, _, i + 1, .cons q t => .cons q (Vals.set r i t)
theorem Vals.append : ∀ {xs ys : List V} {us ws : List Value}, Vals xs us -> Vals ys ws -> Vals (xs ++ ys) (us ++ ws)
  | _, _, _, _, .nil, s => s
  | _, _, _, _, .cons r t, s => .cons r (Vals.append t s)
theorem Vals.take : ∀ {xs : List V} {us : List Value} (n : Nat), Vals xs us -> Vals (xs.take n) (us.take n)
  | _, _, 0, _ => .nil
  | _, _, _ + 1, .nil => .nil
  | _, _, n + 1, .cons r t => .cons r (Vals.take n t)
theorem Vals.drop : ∀ {xs : List V} {us : List Value} (n : Nat), Vals xs us -> Vals (xs.drop n) (us.drop n)
  | _, _, 0, r => r
  | _, _, _ + 1, .nil => .nil
  | _, _, n + 1, .cons _ t => Vals.drop n t
def RelO : Option V -> Option Value -> Prop
  | some v, some u => RelV v u
  | none, none => True
  | _, _ => False
def KV {κ : Type} : List (κ × V) -> List (κ × Value) -> Prop := Paired fun (p : κ × V) (q : κ × Value) => p.1 = q.1 /\ RelV p.2 q.2
def kV : Key -> V
  | .inl i => .int i
  | .inr x => .str x
inductive HO where
  /-- a list -/
  | lst (xs : List V)
  /-- a tuple (never changes) -/
  | tup (xs : List V)
  /-- a dict whose keys are ints and texts; one whose keys are tuples of ints and texts (the empty one is both) -/
  | dK (kvs : List (Key × V)) | dT (kvs : List (List Key × V))
  /-- a set of ints: its members, its size -/
  | set (S : Int -> Bool) (n : Nat)
  /-- an instance of the class at C, its dict at dx, its attributes -/
  | ins (C dx : Addr) (fs : List (Str × V))
  /-- the dict of the instance at x -/
  | own (x : Addr)
  /-- the dict of an exception -/
  | xd (fs : List (Str × V))
  /-- a bound method, f of x -/
  | met (f x : Addr)
  /-- a range object lo, lo + 1, .. below hi -/
  | rng (lo hi : Int)
  /-- a thing that is known to the object (the script; a dict while a loop walks it): read, never written while it is so -/
  | frz (o : Obj) (u : HO)
  /-- a code object's table -/
  | tbl (ps : Array Value)
  /-- any other thing, by what is true of its one object (a def of one's own: SetO a S n := HO.ext fun h => ..) -/
  | ext (φ : Heap -> Prop)
abbrev Hp := Addr -> Option HO
def upd (H : Hp) (a : Addr) (o : HO) : Hp := fun b => if b = a then some o else H b
theorem upd_same {H : Hp} {a : Addr} {o : HO} : upd H a o a = some o := by unfold upd; rw [if_pos rfl]
theorem upd_ne {H : Hp} {a b : Addr} {o : HO} (h : b ≠ a) : upd H a o b = H b := by unfold upd; rw [if_neg h]
theorem ne_of {H : Hp} {a b : Addr} {o u : HO} (h : H a = some o) (h' : H b = some u) (d : o ≠ u) : a ≠ b := by
  intro e; subst e; rw [h] at h'; exact d (Option.some.inj h')
theorem ne_of_none {H : Hp} {a b : Addr} {o : HO} (h : H a = some o) (h' : H b = none) : a ≠ b := by
  intro e; subst e; rw [h] at h'; cases h'
section
variable (P : Program) (w : World)
def ObjOk (H : Hp) (h : Heap) (a : Addr) : HO -> Prop
  | .lst xs => xs.length <= sizeLine /\ ∃ (its : List Value) (n : Nat), Vals xs its /\ h.get? a = some { cls := .type "list", data := .seq its.toArray n }
  | .tup xs => xs.length <= sizeLine /\ ∃ its : List Value, Vals xs its /\ IsTup h a its.toArray
  | .dK kvs => kvs.length <= sizeLine /\ (a == sysModules) = false /\ ∃ vs, KV kvs vs /\ h.DictOf (mixKind P w) a vs
  | .dT kvs => kvs.length <= sizeLine /\ (a == sysModules) = false /\ ∃ xs : List (List Key × Addr × Value),
      Paired (fun (p : List Key × V) (q : List Key × Addr × Value) => p.1 = q.1 /\ H q.2.1 = some (.tup (p.1.map kV)) /\ RelV p.2 q.2.2) kvs xs /\
      ∃ o es ep, h.get? a = some o /\ o.ExactDict /\ o.data = .dict es ep /\ es.toList = xs.map (entryOfKey (tupleKind (mixKind P w))) /\ (xs.map (·.1)).Nodup
  | .set S n => h.SetOf (intKind P w) a S n
  | .ins C dx fs => H dx = some (.own a) /\ fs.length <= 1000 /\ dx ≠ a /\ h.get? a = some (PySem.W.instObj C dx) /\
      ∃ mA, h.Ns1 dx mA /\ (∀ f, RelO (fs.lookup f) (mA f)) /\ PySem.Within mA (fs.map (·.1))
  | .own _ => ∃ o, h.get? a = some o
  | .xd fs => ∃ mA, h.Ns1 a mA /\ ∀ f, RelO (fs.lookup f) (mA f)
  | .rng lo hi => ∃ t u v, h.get? a = some { cls := .type "range", data := .fields #[.int lo t, .int hi u, .int 1 v] }
  | .frz o u => h.get? a = some o /\ ObjOk H h a u
  | .tbl ps => h.get? a = some { cls := .none, data := .fields ps }
  | .met f x => h.get? a = some (PySem.W.methodObj (.ref f) (.ref x))
  | .ext φ => φ h /\ (∃ o, h.get? a = some o) /\ ∀ h1 h2 : Heap, φ h1 -> (∀ o, h1.get? a = some o -> h2.get? a = some o) -> φ h2
def HOk (H : Hp) (h : Heap) : Prop := ∀ a o, H a = some o -> ObjOk P w H h a o
end
section
variable {P : Program} {w : World} {H H' : Hp} {h h' : Heap} {a : Addr} {o : HO}
theorem ObjOk.lt (x : ObjOk P w H h a o) : a < h.objs.size := by
  cases o with
  | lst xs => obtain ⟨_, _, _, _, e⟩ := x; exact Heap.lt_size e
  | tup xs => obtain ⟨_, _, _, p⟩ := x; exact p.lt
  | dK kvs => obtain ⟨_, _, _, _, o, _, _, e, _⟩ := x; exact Heap.lt_size e
  | dT kvs => obtain ⟨_, _, _, _, o, _, _, e, _⟩ := x; exact Heap.lt_size e
  | set S n => obtain ⟨o, _, _, _, e, _⟩ := x; exact Heap.lt_size e
  | ins C dx fs => obtain ⟨_, _, _, e, _⟩ := x; exact Heap.lt_size e
  | own y => obtain ⟨_, e⟩ := x; exact Heap.lt_size e
  | xd fs => obtain ⟨_, ⟨_, _, _, e, _⟩, _⟩ := x; exact Heap.lt_size e
  | rng lo hi => obtain ⟨_, _, _, e⟩ := x; exact Heap.lt_size e
  | frz ob u => obtain ⟨e, _⟩ := x; exact Heap.lt_size e
  | tbl ps => exact Heap.lt_size (show h.get? a = some _ from x)
  | met f y => exact Heap.lt_size (show h.get? a = some _ from x)
  | ext φ => obtain ⟨_, ⟨_, e⟩, _⟩ := x; exact Heap.lt_size e
theorem Paired.mapP {α β : Type} {F G : α -> β -> Prop} : ∀ {l₁ : List α} {l₂ : List β}, Paired F l₁ l₂ -> (∀ a b, F a b -> G a b) -> Paired G l₁ l₂
  | _, _, .nil, _ => .nil
  | _, _, .cons r t, f => .cons (f _ _ r) (Paired.mapP t f)
theorem ObjOk.stay (x : ObjOk P w H h a o) (k : ∀ b u, (b = a \/ H b = some (.own a)) -> h.get? b = some u -> h'.get? b = some u)
    (ho : ∀ b, H b = some (.own a) -> H' b = some (.own a)) (ht : ∀ b xs, H b = some (.tup xs) -> H' b = some (.tup xs)) : ObjOk P w H' h' a o := by
  induction o with
  | lst xs => obtain ⟨z, its, n, r, e⟩ := x; exact ⟨z, its, n, r, k _ _ (.inl rfl) e⟩
  | tup xs => obtain ⟨z, its, r, ob, e, c⟩ := x; exact ⟨z, its, r, ob, k _ _ (.inl rfl) e, c⟩
  | dK kvs => obtain ⟨z, y, vs, r, ob, es, ep, e, c⟩ := x; exact ⟨z, y, vs, r, ob, es, ep, k _ _ (.inl rfl) e, c⟩
  | dT kvs =>
    obtain ⟨z, y, xs, r, ob, es, ep, e, c⟩ := x
    exact ⟨z, y, xs, Paired.mapP r fun p q z => ⟨z.1, ht _ _ z.2.1, z.2.2⟩, ob, es, ep, k _ _ (.inl rfl) e, c⟩
  | set S n => obtain ⟨ob, es, ep, t, e, c⟩ := x; exact ⟨ob, es, ep, t, k _ _ (.inl rfl) e, c⟩
  | ins C dx fs =>
    obtain ⟨d, z, ne, e, mA, ⟨od, es, ep, e2, c⟩, r⟩ := x
    exact ⟨ho _ d, z, ne, k _ _ (.inl rfl) e, mA, ⟨od, es, ep, k _ _ (.inr d) e2, c⟩, r⟩
  | own y => obtain ⟨ob, e⟩ := x; exact ⟨ob, k _ _ (.inl rfl) e⟩
  | xd fs => obtain ⟨mA, ⟨od, es, ep, e, c⟩, r⟩ := x; exact ⟨mA, ⟨od, es, ep, k _ _ (.inl rfl) e, c⟩, r⟩
  | rng lo hi => obtain ⟨t, u, v, e⟩ := x; exact ⟨t, u, v, k _ _ (.inl rfl) e⟩
  | frz ob u ih => obtain ⟨e, q⟩ := x; exact ⟨k _ _ (.inl rfl) e, ih q⟩
  | tbl ps =>
    have e : h.get? a = some { cls := .none, data := .fields ps } := x
    show h'.get? a = some { cls := .none, data := .fields ps }
    exact k a _ (.inl rfl) e
  | met f y =>
    have e : h.get? a = some (PySem.W.methodObj (.ref f) (.ref y)) := x
    show h'.get? a = some (PySem.W.methodObj (.ref f) (.ref y))
    exact k a _ (.inl rfl) e
  | ext φ => obtain ⟨p, ⟨o, e⟩, st⟩ := x; exact ⟨st _ _ p fun o q => k _ _ (.inl rfl) q, ⟨o, k _ _ (.inl rfl) e⟩, st⟩
theorem HOk.lt (x : HOk P w H h) (e : H a = some o) : a < h.objs.size := (x a o e).lt
theorem HOk.fresh (x : HOk P w H h) (e : h.objs.size <= a) : H a = none := by
  cases q : H a with
  | none => rfl
  | some u => exact absurd (Nat.lt_of_lt_of_le (x.lt q) e) (Nat.lt_irrefl _)
theorem HOk.kept (x : HOk P w H h) (k : ∀ b u, h.get? b = some u -> h'.get? b = some u) : HOk P w H h' := fun a o e =>
  (x a o e).stay (fun b u _ q => k b u q) (fun _ q => q) fun _ _ q => q
theorem HOk.laid (x : HOk P w H h) (k : ∀ b u, h.get? b = some u -> h'.get? b = some u) (hp : h.objs.size <= a) (new : ObjOk P w (upd H a o) h' a o) : HOk P w (upd H a o) h' := fun b u e => by
  have hn := x.fresh hp
  by_cases hb : b = a
  . subst hb; rw [upd_same] at e; cases e; exact new
  . rw [upd_ne hb] at e
    exact (x b u e).stay (fun c v _ q => k c v q) (fun c q => by rw [upd_ne (ne_of_none q hn)]; exact q) fun c xs q => by rw [upd_ne (ne_of_none q hn)]; exact q
end
def Rd (H : Hp) (a : Addr) (u : HO) : Prop := H a = some u \/ ∃ o, H a = some (.frz o u)
theorem Rd.ok {P : Program} {w : World} {H : Hp} {h : Heap} {a : Addr} {u : HO} (r : Rd H a u) (x : HOk P w H h) : ObjOk P w H h a u := by
  rcases r with r | ⟨o, r⟩
  . exact x a u r
  . obtain ⟨_, q⟩ := x a _ r
    exact q
def Mut : Option HO -> Prop
  | some (.lst _) => True
  | some (.dK _) => True
  | some (.dT _) => True
  | some (.set _ _) => True
  | some (.ins _ _ _) => True
  | some (.ext _) => True
  | _ => False
section
variable {P : Program} {w : World} {H : Hp} {h h' : Heap} {x e : Addr} {o' : HO}
theorem HOk.write (ok : HOk P w H h) (mu : Mut (H x)) (he : e = x \/ H e = some (.own x)) (k : ∀ b u, b ≠ e -> h.get? b = some u -> h'.get? b = some u) (heo : ∃ u, h'.get? e = some u)
    (new : ObjOk P w (upd H x o') h' x o') : HOk P w (upd H x o') h' := fun b u q => by
  have nown : ∀ c y, H c = some (.own y) -> c ≠ x := fun c y r z => by subst z; rw [r] at mu; exact mu
  have ntup : ∀ c xs, H c = some (.tup xs) -> c ≠ x := fun c xs r z => by subst z; rw [r] at mu; exact mu
  by_cases hb : b = x
  . subst hb; rw [upd_same] at q; cases q; exact new
  . rw [upd_ne hb] at q
    by_cases hbe : b = e
    . have q' : H b = some (.own x) := by
        rcases he with z | z
        . exact absurd (hbe.trans z) hb
        . rw [hbe]; exact z
      rw [q] at q'; cases q'
      obtain ⟨v, hv⟩ := heo
      exact ⟨v, by rw [hbe]; exact hv⟩
    . refine (ok b u q).stay (fun c v hc r => k c v ?_ r) (fun c r => by rw [upd_ne (nown c b r)]; exact r) fun c xs r => by rw [upd_ne (ntup c xs r)]; exact r
      rcases hc with rfl | hc
      . exact hbe
      . rintro rfl
        rcases he with z | z
        . exact nown c b hc z
        . rw [hc] at z; cases z; exact hb rfl
end
structure Un (fs ex : List Addr) (H H' : Hp) (h h' : Heap) : Prop where
  keep : ∀ b o, h.get? b = some o -> H b = none -> b ∉ fs -> b ∉ ex -> h'.get? b = some o
  slot : ∀ b o, h.get? b = some o -> H b = none -> b ∈ fs -> b ∉ ex -> ∃ sl, h'.get? b = some { o with slots := sl }
  free : ∀ b o, h.get? b = some o -> H b = none -> b ∉ ex -> H' b = none
  there : ∀ b o, h.get? b = some o -> b ∉ ex -> ∃ o', h'.get? b = some o'
  tups : ∀ b xs, H b = some (.tup xs) -> H' b = some (.tup xs)
  frzs : ∀ b o u, H b = some (.frz o u) -> H' b = some (.frz o u)
  tbls : ∀ b ps, H b = some (.tbl ps) -> ∃ more, H' b = some (.tbl (ps ++ more))
section
variable {fs fs' ex ex' : List Addr} {H H1 H2 : Hp} {h h1 h2 h' : Heap} {a x e : Addr} {o : HO}
theorem Un.any (u : Un fs ex H H1 h h1) {b : Addr} {ob : Obj} (q : h.get? b = some ob) (n : H b = none) (hx : b ∉ ex) : ∃ sl, h1.get? b = some { ob with slots := sl } := by
  by_cases hb : b ∈ fs
  . exact u.slot b ob q n hb hx
  . exact ⟨ob.slots, u.keep b ob q n hb hx⟩
theorem Un.kept (k : ∀ b u, h.get? b = some u -> h'.get? b = some u) : Un fs ex H H h h' :=
  ⟨fun b ob q _ _ _ => k b ob q, fun b ob q _ _ _ => ⟨ob.slots, k b ob q⟩, fun _ _ _ n _ => n, fun b ob q _ => ⟨ob, k b ob q⟩, fun _ _ q => q, fun _ _ _ q => q, fun _ ps q => ⟨#[], by rw [q]; simp⟩⟩
theorem Un.refl : Un fs ex H H h h := Un.kept fun _ _ q => q
theorem Un.laid (k : ∀ b u, h.get? b = some u -> h'.get? b = some u) (hp : h.objs.size <= a) (hn : H a = none) : Un fs ex H (upd H a o) h h' where
  keep := fun b u q _ _ _ => k b u q
  slot := fun b u q _ _ _ => ⟨u.slots, k b u q⟩
  free := fun b u q n _ => by rw [upd_ne (Nat.ne_of_lt (Nat.lt_of_lt_of_le (Heap.lt_size q) hp))]; exact n
  there := fun b u q _ => ⟨u, k b u q⟩
  tups := fun b xs q => by rw [upd_ne (ne_of_none q hn)]; exact q
  frzs := fun b u xs q => by rw [upd_ne (ne_of_none q hn)]; exact q
  tbls := fun b ps q => ⟨#[], by rw [upd_ne (ne_of_none q hn), q]; simp⟩
theorem Un.write (mu : Mut (H x)) (he : e = x \/ H e = some (.own x)) (k : ∀ b u, b ≠ e -> h.get? b = some u -> h'.get? b = some u) (heo : ∃ u, h'.get? e = some u) : Un fs ex H (upd H x o) h h' := by
  have hx : ∀ b, H b = none -> b ≠ x := fun b n z => by subst z; rw [n] at mu; exact mu
  have hb : ∀ b, H b = none -> b ≠ e := fun b n z => by
    subst z
    rcases he with r | r
    . exact hx b n r
    . rw [n] at r; cases r
  have hm : ∀ b u, H b = some u -> ¬ Mut (some u) -> b ≠ x := fun b u q nm z => by subst z; rw [q] at mu; exact nm mu
  refine ⟨fun b u q n _ _ => k b u (hb b n) q, fun b u q n _ _ => ⟨u.slots, k b u (hb b n) q⟩, fun b u q n _ => by rw [upd_ne (hx b n)]; exact n, fun b u q _ => ?_,
    fun b xs q => by rw [upd_ne (hm b _ q fun z => z)]; exact q, fun b u xs q => by rw [upd_ne (hm b _ q fun z => z)]; exact q, fun b ps q => ⟨#[], by rw [upd_ne (hm b _ q fun z => z), q]; simp⟩⟩
  by_cases hbe : b = e
  . subst hbe; exact heo
  . exact ⟨u, k b u hbe q⟩
end
def trk (h : Heap) (H : Hp) : List Addr := (List.range h.objs.size).filter fun a => (H a).isSome
def hidT (h : Heap) (H : Hp) : Heap := PySem.W.hideAll h (trk h H)
theorem hidT_size (h : Heap) (H : Hp) : (hidT h H).objs.size = h.objs.size := PySem.W.hideAll_size _ _
theorem hidT_get {h : Heap} {H : Hp} {b : Addr} {o : Obj} (e : h.get? b = some o) (n : H b = none) : (hidT h H).get? b = some o :=
  PySem.W.hideAll_get _ e fun hm => by
    have q : (H b).isSome = true := (List.mem_filter.mp hm).2
    rw [n] at q; simp at q
theorem of_hidT {h : Heap} {H : Hp} {b : Addr} {o : Obj} (e : (hidT h H).get? b = some o) : h.get? b = some o /\ H b = none := by
  have e' : h.get? b = some o := PySem.W.of_hideAll (trk h H) e
  refine ⟨e', ?_⟩
  cases q : H b with
  | none => rfl
  | some x =>
    have hm : b ∈ trk h H := List.mem_filter.mpr ⟨List.mem_range.mpr (Heap.lt_size e'), by simp [q]⟩
    have z : (hidT h H).get? b = none := PySem.W.hideAll_none (trk h H) hm
    rw [z] at e; cases e
def allNews (g h : Heap) (L : Addr) : List (Addr × Obj) := (List.range h.objs.size).filterMap fun a => if a = L \/ (g.get? a).isSome = true then none else (h.get? a).map fun o => (a, o)
def rest (g h : Heap) (L d : Addr) : List (Addr × Obj) := (allNews g h L).filter fun p => decide (p.1 ≠ d)
end L2
namespace L2
open PySem PySem.Spec PyProof.Rows
structure Mod (K : PySem.W.Frag) (mg : Str -> Option Value) (base : Heap) : Prop where
  kin : K.In base
  glob : base.Ns mainGlobals mg
  blt : ∃ mb, base.Ns builtinsNs mb /\ ∀ x : Str, x ≠ "__name__" -> mb x = bootBuiltins x
  nolimit : base.NoLimit
structure Cx where
  prog : Program
  w : World
  K : PySem.W.Frag
  mg : Str -> Option Value
  base : Heap
  A : Around
  N : List Str
  s₀ : Shared
  H₀ : Hp
  env : Env
  outer : List Env
  stack : List Env
  ex : List Addr
  fn : Str -> Bool
  calm : Bool
  pn : List (Addr × Obj)
  xe : Value -> Shared -> Prop
def frs (l : List Env) : List Addr := l.filterMap (·.frame)
abbrev Cx.fs (X : Cx) : List Addr := frs X.outer
def Vis (sc : Scope) (x : Str) : Prop := sc.names.lookup x = some .local \/ sc.names.lookup x = some .cell \/ sc.names.lookup x = some .free
def Loc (sc : Scope) (x : Str) : Prop := sc.names.lookup x = some .local \/ sc.names.lookup x = some .cell
def Look (env : Env) (h : Heap) (m : Str -> Option Value) (x : Str) (u : Value) : Prop :=
  (env.kindOf x = some .local /\ m x = some u) \/ ((env.kindOf x = some .cell \/ env.kindOf x = some .free) /\ ∃ c, env.cells.lookup x = some c /\ h.IsCell c (some u))
structure Cx.Ok (X : Cx) : Prop where
  mod : Mod X.K X.mg X.base
  kind : X.env.scope.kind = .function
  glob : X.env.globals = mainGlobals
  blt : X.env.builtins = builtinsNs
  above : X.s₀.heap.objs.size <= X.env.locals
  inj : ∀ x y c, X.env.cells.lookup x = some c -> X.env.cells.lookup y = some c -> x = y
  has : ∀ x, (X.env.kindOf x = some .cell \/ X.env.kindOf x = some .free) -> ∃ c, X.env.cells.lookup x = some c
  cab : ∀ x c, X.fn x = true -> X.env.cells.lookup x = some c -> X.s₀.heap.objs.size <= c
  hd : X.calm = true -> X.A.handled = none
  frames : X.A.frames = some X.stack
  stk : X.stack = X.outer \/ (X.stack = X.env :: X.outer /\ X.env.frame = some X.env.locals)
  exf : ∀ b ∈ X.ex, b ≠ X.env.locals /\ ∀ x c, X.env.cells.lookup x = some c -> c ≠ b
  bs : ∀ b o, X.base.get? b = some o -> X.s₀.heap.get? b = some o /\ X.H₀ b = none
  bsz : X.base.objs.size <= X.s₀.heap.objs.size
  noex : ∀ b o, X.base.get? b = some o -> b ∉ X.ex
  exfs : ∀ b ∈ X.ex, b ∉ X.fs
  funs : X.s₀.heap.FunFrames X.base X.outer
  frf : ∀ b ∈ X.fs, X.H₀ b = none
structure Inv (X : Cx) (pins : List (Addr × Obj)) (σ : List (Option V)) (H : Hp) (s : Shared) : Prop where
  ok : X.Ok
  os : s.os = X.s₀.os
  bare : AllBare s.gens
  base : Un X.fs X.ex X.H₀ H X.s₀.heap s.heap
  loc : ∃ m, s.heap.Ns X.env.locals m /\ ∀ (i : Nat) (x : Str) (v : V), X.N[i]? = some x -> σ[i]? = some (some v) -> Vis X.env.scope x -> ∃ u, RelV v u /\ Look X.env s.heap m x u
  cell : ∀ x c, X.env.cells.lookup x = some c -> ∃ v, s.heap.IsCell c v
  free : H X.env.locals = none
  freeC : ∀ x c, X.env.cells.lookup x = some c -> H c = none
  pin : ∀ p ∈ X.pn ++ pins, s.heap.get? p.1 = some p.2 /\ H p.1 = none /\ p.1 ≠ X.env.locals /\ p.1 ∉ X.fs /\ ∀ v, p.2.data ≠ .cell v
  hok : HOk X.prog X.w H s.heap
  len : σ.length = X.N.length
section
variable {X : Cx} {pins : List (Addr × Obj)} {σ : List (Option V)} {H H' : Hp} {s : Shared} {h' : Heap}
theorem Cx.Ok.nofr (ok : X.Ok) {b : Addr} {o : Obj} (e : X.base.get? b = some o) : b ∉ X.fs := fun hb => by
  have := (ok.funs.mem hb).1
  rw [e] at this; cases this
theorem Inv.bs (I : Inv X pins σ H s) : ∀ b o, X.base.get? b = some o -> s.heap.get? b = some o /\ H b = none := fun b o e =>
  ⟨I.base.keep b o (I.ok.bs b o e).1 (I.ok.bs b o e).2 (I.ok.nofr e) (I.ok.noex b o e), I.base.free b o (I.ok.bs b o e).1 (I.ok.bs b o e).2 (I.ok.noex b o e)⟩
theorem Inv.bk (I : Inv X pins σ H s) : ∀ b o, X.base.get? b = some o -> s.heap.get? b = some o := fun b o e => (I.bs b o e).1
theorem Inv.mod (I : Inv X pins σ H s) : Mod X.K X.mg X.base := I.ok.mod
theorem Inv.kIn (I : Inv X pins σ H s) : X.K.In s.heap := I.ok.mod.kin.keeps I.bk
theorem Inv.lt (I : Inv X pins σ H s) : X.env.locals < s.heap.objs.size := let ⟨_, hn, _⟩ := I.loc; hn.lt
theorem Inv.sz (I : Inv X pins σ H s) : X.s₀.heap.objs.size <= s.heap.objs.size := Nat.le_trans I.ok.above (Nat.le_of_lt I.lt)
theorem Inv.nofs (I : Inv X pins σ H s) {a : Addr} (h : s.heap.objs.size <= a) : a ∉ X.fs := fun hb => by
  obtain ⟨_, o, ho, _⟩ := I.ok.funs.mem hb
  exact absurd (Nat.lt_of_lt_of_le (Heap.lt_size ho) (Nat.le_trans I.sz h)) (Nat.lt_irrefl _)
theorem Inv.cne (I : Inv X pins σ H s) : ∀ x c, X.env.cells.lookup x = some c -> c ≠ X.env.locals := fun x c e z => by
  obtain ⟨v, o, ho, hd⟩ := I.cell x c e
  obtain ⟨m, ⟨o', es, ep, ho', hd', _⟩, _⟩ := I.loc
  rw [z, ho'] at ho; cases ho; rw [hd'] at hd; cases hd
theorem Inv.funs (I : Inv X pins σ H s) : s.heap.FunFrames X.base X.outer := by
  have all : ∀ (l : List Env), (∀ b ∈ frs l, b ∈ X.fs) -> X.s₀.heap.FunFrames X.base l -> s.heap.FunFrames X.base l := by
    intro l
    induction l with
    | nil => intro _ _; trivial
    | cons env r ih =>
      intro hs hl
      obtain ⟨hk, ⟨L, o, hf, hn, ho, hd⟩, hr⟩ := hl
      have hL : L ∈ X.fs := hs L (by unfold frs; rw [List.filterMap_cons, hf]; exact List.mem_cons_self)
      obtain ⟨sl, e⟩ := I.base.slot L o ho (I.ok.frf L hL) hL fun z => I.ok.exfs L z hL
      exact ⟨hk, ⟨L, _, hf, hn, e, hd⟩, ih (fun b hb => hs b (by unfold frs; rw [List.filterMap_cons, hf]; exact List.mem_cons_of_mem _ hb)) hr⟩
  exact all X.outer (fun _ hb => hb) I.ok.funs
theorem Inv.stack (I : Inv X pins σ H s) : s.heap.FunFrames X.base X.stack := by
  rcases I.ok.stk with e | ⟨e, hf⟩
  . rw [e]; exact I.funs
  . rw [e]
    obtain ⟨m, hn, _⟩ := I.loc
    refine .cons (by rw [I.ok.kind]; decide) hf hn ?_ I.funs
    exact Heap.get?_none_of_le (Nat.le_trans I.ok.bsz I.ok.above)
theorem Inv.stkSub (I : Inv X pins σ H s) : ∀ b ∈ frs X.stack, b ∈ X.env.locals :: X.fs := fun b hb => by
  rcases I.ok.stk with e | ⟨e, hf⟩
  . rw [e] at hb; exact List.mem_cons_of_mem _ hb
  . rw [e] at hb
    unfold frs at hb
    rw [List.filterMap_cons, hf] at hb
    exact hb
theorem Inv.stkFree (I : Inv X pins σ H s) : ∀ b ∈ frs X.stack, H b = none := fun b hb => by
  rcases List.mem_cons.mp (I.stkSub b hb) with e | hb
  . rw [e]; exact I.free
  . obtain ⟨_, o, ho, _⟩ := I.ok.funs.mem hb
    exact I.base.free b o ho (I.ok.frf b hb) fun z => I.ok.exfs b z hb
theorem Inv.step {g' : Array GenState} {t' : Nat} {d' : Drawn} {ch : List Addr} (I : Inv X pins σ H s)
    (hch : ∀ b ∈ ch, (b ∈ X.ex \/ X.s₀.heap.objs.size <= b) /\ b ≠ X.env.locals /\ (∀ x c, X.env.cells.lookup x = some c -> c ≠ b) /\ ∀ p ∈ X.pn ++ pins, p.1 ≠ b)
    (keep : ∀ b o, b ≠ X.env.locals -> b ∉ X.fs -> b ∉ ch -> s.heap.get? b = some o -> H b = none -> h'.get? b = some o)
    (slot : ∀ b o, b ≠ X.env.locals -> b ∈ X.fs -> b ∉ ch -> s.heap.get? b = some o -> H b = none -> ∃ sl, h'.get? b = some { o with slots := sl }) (free : ∀ b o, b ∉ ch -> s.heap.get? b = some o -> H b = none -> H' b = none)
    (there : ∀ b o, b ∉ ch -> s.heap.get? b = some o -> ∃ o', h'.get? b = some o')
    (tups : ∀ b xs, H b = some (.tup xs) -> H' b = some (.tup xs)) (frzs : ∀ b o u, H b = some (.frz o u) -> H' b = some (.frz o u)) (tbls : ∀ b ps, H b = some (.tbl ps) -> ∃ more, H' b = some (.tbl (ps ++ more)))
    (ns : ∀ m, s.heap.Ns X.env.locals m -> h'.Ns X.env.locals m) (hok : HOk X.prog X.w H' h') (hg : AllBare g') :
    Inv X pins σ H' { s with heap := h', gens := g', drawn := d', toks := t' } := by
  have neL : ∀ b o, X.s₀.heap.get? b = some o -> b ≠ X.env.locals := fun b o e => Nat.ne_of_lt (Nat.lt_of_lt_of_le (Heap.lt_size e) I.ok.above)
  have neC : ∀ b o, X.s₀.heap.get? b = some o -> b ∉ X.ex -> b ∉ ch := fun b o e hx hb => by
    rcases (hch b hb).1 with z | z
    . exact hx z
    . exact absurd (Nat.lt_of_lt_of_le (Heap.lt_size e) z) (Nat.lt_irrefl _)
  have cellK : ∀ x c, X.env.cells.lookup x = some c -> ∀ v, s.heap.IsCell c v -> h'.IsCell c v := fun x c e v ⟨o, ho, hd⟩ => by
    have nch : c ∉ ch := fun z => (hch c z).2.2.1 x c e rfl
    by_cases hc : c ∈ X.fs
    . obtain ⟨sl, q⟩ := slot c o (I.cne x c e) hc nch ho (I.freeC x c e)
      exact ⟨_, q, hd⟩
    . exact ⟨o, keep c o (I.cne x c e) hc nch ho (I.freeC x c e), hd⟩
  refine ⟨I.ok, I.os, hg, ⟨fun b o e n hb hx => ?_, fun b o e n hb hx => ?_, fun b o e n hx => ?_, fun b o e hx => ?_, fun b xs e => tups b xs (I.base.tups b xs e), fun b o xs e => frzs b o xs (I.base.frzs b o xs e), fun b ps e => ?_⟩, ?_, fun x c e => ?_, ?_, fun x c e => ?_, fun p hp => ?_, hok, I.len⟩
  . exact keep b o (neL b o e) hb (neC b o e hx) (I.base.keep b o e n hb hx) (I.base.free b o e n hx)
  . obtain ⟨sl, e1⟩ := I.base.slot b o e n hb hx
    obtain ⟨sl', e2⟩ := slot b _ (neL b o e) hb (neC b o e hx) e1 (I.base.free b o e n hx)
    exact ⟨sl', e2⟩
  . obtain ⟨o', e1⟩ := I.base.there b o e hx
    exact free b o' (neC b o e hx) e1 (I.base.free b o e n hx)
  . obtain ⟨o', e1⟩ := I.base.there b o e hx
    exact there b o' (neC b o e hx) e1
  . obtain ⟨m1, e1⟩ := I.base.tbls b ps e
    obtain ⟨m2, e2⟩ := tbls b _ e1
    exact ⟨m1 ++ m2, by rw [e2, Array.append_assoc]⟩
  . obtain ⟨m, hn, hl⟩ := I.loc
    refine ⟨m, ns m hn, fun i x v e1 e2 e3 => ?_⟩
    obtain ⟨u, r, l⟩ := hl i x v e1 e2 e3
    refine ⟨u, r, ?_⟩
    rcases l with l | ⟨k, c, e, z⟩
    . exact .inl l
    . exact .inr ⟨k, c, e, cellK x c e _ z⟩
  . obtain ⟨v, z⟩ := I.cell x c e
    exact ⟨v, cellK x c e v z⟩
  . obtain ⟨m, ⟨o, _, _, ho, _⟩, _⟩ := I.loc
    exact free _ o (fun z => (hch _ z).2.1 rfl) ho I.free
  . obtain ⟨v, o, ho, hd⟩ := I.cell x c e
    exact free c o (fun z => (hch c z).2.2.1 x c e rfl) ho (I.freeC x c e)
  . obtain ⟨e, n, ne, nf, d⟩ := I.pin p hp
    have nch : p.1 ∉ ch := fun z => (hch p.1 z).2.2.2 p hp rfl
    exact ⟨keep p.1 p.2 ne nf nch e n, free p.1 p.2 nch e n, ne, nf, d⟩
theorem Inv.un {t' : Nat} (I : Inv X pins σ H s) (u : Un X.fs [] H H' s.heap h') (hok : HOk X.prog X.w H' h') : Inv X pins σ H' { s with heap := h', toks := t' } := by
  obtain ⟨m, ⟨o, es, ep, ho, r⟩, _⟩ := id I.loc
  obtain ⟨sl, hL⟩ := u.any ho I.free (by simp)
  exact I.step (g' := s.gens) (d' := s.drawn) (ch := []) (fun _ z => nomatch z) (fun b o _ hb _ e n => u.keep b o e n hb (by simp)) (fun b o _ hb _ e n => u.slot b o e n hb (by simp)) (fun b o _ e n => u.free b o e n (by simp)) (fun b o _ e => u.there b o e (by simp)) u.tups u.frzs u.tbls (fun m' hm => by
    obtain ⟨o', es', ep', ho', r'⟩ := hm
    rw [ho] at ho'; cases ho'
    exact ⟨_, es', ep', hL, r'⟩) hok I.bare
theorem Inv.call {g' : Array GenState} {t' : Nat} {d' : Drawn} {ch : List Addr} (I : Inv X pins σ H s) (u : Un (frs X.stack) ch H H' s.heap h') (hok : HOk X.prog X.w H' h') (hg : AllBare g')
    (hch : ∀ b ∈ ch, (b ∈ X.ex \/ X.s₀.heap.objs.size <= b) /\ b ≠ X.env.locals /\ (∀ x c, X.env.cells.lookup x = some c -> c ≠ b) /\ ∀ p ∈ X.pn ++ pins, p.1 ≠ b) :
    Inv X pins σ H' { s with heap := h', gens := g', drawn := d', toks := t' } := by
  obtain ⟨m, ⟨o, es, ep, ho, r⟩, _⟩ := id I.loc
  obtain ⟨sl, hL⟩ := u.any ho I.free fun z => (hch _ z).2.1 rfl
  exact I.step (ch := ch) hch (fun b o hL hb hc e n => u.keep b o e n (fun z => (List.mem_cons.mp (I.stkSub b z)).elim hL hb) hc) (fun b o _ _ hc e n => u.any e n hc) (fun b o hc e n => u.free b o e n hc) (fun b o hc e => u.there b o e hc) u.tups u.frzs u.tbls (fun m' hm => by
    obtain ⟨o', es', ep', ho', r'⟩ := hm
    rw [ho] at ho'; cases ho'
    exact ⟨_, es', ep', hL, r'⟩) hok hg
theorem Inv.turned {t' : Nat} {it : Addr} (I : Inv X pins σ H s) (k : ∀ b o, b ≠ it -> s.heap.get? b = some o -> h'.get? b = some o) (hn : H it = none) (hL : it ≠ X.env.locals)
    (h1 : it ∈ X.ex \/ X.s₀.heap.objs.size <= it) (h2 : ∀ x c, X.env.cells.lookup x = some c -> c ≠ it) (h3 : ∀ p ∈ X.pn ++ pins, p.1 ≠ it) : Inv X pins σ H { s with heap := h', toks := t' } := by
  have nit : ∀ b u, H b = some u -> b ≠ it := fun b u e z => by rw [z, hn] at e; cases e
  refine I.step (g' := s.gens) (d' := s.drawn) (ch := [it]) (fun b hb => ?_) (fun b o _ _ hc e _ => k b o (fun z => hc (by simp [z])) e) (fun b o _ _ hc e _ => ⟨o.slots, k b o (fun z => hc (by simp [z])) e⟩) (fun _ _ _ _ n => n)
    (fun b o hc e => ⟨o, k b o (fun z => hc (by simp [z])) e⟩) (fun _ _ e => e) (fun _ _ _ e => e) (fun b ps e => ⟨#[], by rw [e]; simp⟩) (fun m hm => ?_) (fun b u e => ?_) I.bare
  . have e : b = it := by simpa using hb
    subst e
    exact ⟨h1, hL, h2, h3⟩
  . obtain ⟨o, es, ep, ho, r⟩ := hm
    exact ⟨o, es, ep, k _ o (Ne.symm hL) ho, r⟩
  . refine (I.hok b u e).stay (fun c v hc q => k c v ?_ q) (fun _ q => q) fun _ _ q => q
    rcases hc with z | z
    . rw [z]; exact nit b u e
    . exact nit c _ z
theorem Inv.tok (I : Inv X pins σ H s) (t : Nat) : Inv X pins σ H { s with toks := t } := I.un (h' := s.heap) (t' := t) Un.refl I.hok
theorem Inv.kept {t' : Nat} (I : Inv X pins σ H s) (k : ∀ b u, s.heap.get? b = some u -> h'.get? b = some u) : Inv X pins σ H { s with heap := h', toks := t' } := I.un (Un.kept k) (I.hok.kept k)
theorem Inv.laid {a : Addr} {o : HO} {t' : Nat} (I : Inv X pins σ H s) (k : ∀ b u, s.heap.get? b = some u -> h'.get? b = some u) (hp : s.heap.objs.size <= a) (new : ObjOk X.prog X.w (upd H a o) h' a o) :
    Inv X pins σ (upd H a o) { s with heap := h', toks := t' } := I.un (Un.laid k hp (I.hok.fresh hp)) (I.hok.laid k hp new)
theorem Inv.write {x e : Addr} {o : HO} {t' : Nat} (I : Inv X pins σ H s) (mu : Mut (H x)) (he : e = x \/ H e = some (.own x)) (k : ∀ b u, b ≠ e -> s.heap.get? b = some u -> h'.get? b = some u) (heo : ∃ u, h'.get? e = some u)
    (new : ObjOk X.prog X.w (upd H x o) h' x o) : Inv X pins σ (upd H x o) { s with heap := h', toks := t' } := I.un (Un.write mu he k heo) (I.hok.write mu he k heo new)
theorem Inv.pins_of {pins' : List (Addr × Obj)} (I : Inv X pins σ H s) (h : ∀ p ∈ pins', s.heap.get? p.1 = some p.2 /\ H p.1 = none /\ p.1 ≠ X.env.locals /\ p.1 ∉ X.fs /\ ∀ v, p.2.data ≠ .cell v) : Inv X pins' σ H s :=
  ⟨I.ok, I.os, I.bare, I.base, I.loc, I.cell, I.free, I.freeC, fun p hp => (List.mem_append.mp hp).elim (fun z => I.pin p (List.mem_append_left _ z)) (h p), I.hok, I.len⟩
theorem nodup_ix {N : List Str} (hN : N.Nodup) {i j : Nat} {x : Str} (a : N[i]? = some x) (b : N[j]? = some x) : i = j := by
  obtain ⟨h1, e1⟩ := List.getElem?_eq_some_iff.mp a
  obtain ⟨h2, e2⟩ := List.getElem?_eq_some_iff.mp b
  exact (List.getElem_inj hN).mp (e1.trans e2.symm)
theorem store_ok2 {M : Model} {A : Around} {E : Value -> Shared -> Prop} {i : Nat} {x : Str} {v : V} {u : Value} {Q : Unit -> Shared -> Prop} (I : Inv X pins σ H s) (hN : X.N.Nodup) (hi : X.N[i]? = some x) (hx : Loc X.env.scope x) (r : RelV v u)
    (h : ∀ s', Inv X pins (σ.set i (some v)) H s' -> (∃ a, Heap.SameBut a s.heap s'.heap /\ (a = X.env.locals \/ X.env.cells.lookup x = some a)) -> Q () s') (hf : X.fn x = true \/ X.env.scope.names.lookup x = some .local := by first | exact .inl rfl | exact .inr rfl | assumption) : wpAny M A (storeName X.env x u) Q E s := by
  obtain ⟨m, hn, hl⟩ := id I.loc
  have hcls : (X.env.scope.kind == .class || (X.env.scope.kind == .module && X.env.locals != X.env.globals)) = false := by rw [I.ok.kind]; rfl
  have hiσ : i < σ.length := by rw [I.len]; exact (List.getElem?_eq_some_iff.mp hi).1
  have cne := I.cne
  have tracked : ∀ {a : Addr} {h' : Heap}, (∃ o, s.heap.get? a = some o /\ H a = none) -> Heap.SameBut a s.heap h' -> HOk X.prog X.w H h' := fun {a h'} ha hs b ob e => by
    obtain ⟨_, _, hfree⟩ := ha
    refine (I.hok b ob e).stay (fun c w' hc q => (hs.2 c ?_).trans q) (fun _ q => q) fun _ _ q => q
    rintro rfl
    rcases hc with rfl | hc
    . rw [hfree] at e; cases e
    . rw [hfree] at hc; cases hc
  rcases hx with hk | hk
  . refine wpAny_storeName_local hk hn (fun h' hn' hs => ?_) hcls
    obtain ⟨oL, _, _, hoL, _⟩ := id hn
    refine h _ ⟨I.ok, I.os, I.bare, ⟨fun b o e n hb hx => ?_, fun b o e n hb hx => ?_, I.base.free, fun b o e hx => ?_, I.base.tups, I.base.frzs, I.base.tbls⟩, ⟨_, hn', fun j y v' e1 e2 e3 => ?_⟩, fun y c e => ?_, I.free, I.freeC, fun p hp => ?_, tracked ⟨oL, hoL, I.free⟩ hs, by simpa using I.len⟩ ⟨_, hs, .inl rfl⟩
    . exact (hs.2 b (Nat.ne_of_lt (Nat.lt_of_lt_of_le (Heap.lt_size e) I.ok.above))).trans (I.base.keep b o e n hb hx)
    . obtain ⟨sl, e1⟩ := I.base.slot b o e n hb hx
      exact ⟨sl, (hs.2 b (Nat.ne_of_lt (Nat.lt_of_lt_of_le (Heap.lt_size e) I.ok.above))).trans e1⟩
    . obtain ⟨o', e1⟩ := I.base.there b o e hx
      exact ⟨o', (hs.2 b (Nat.ne_of_lt (Nat.lt_of_lt_of_le (Heap.lt_size e) I.ok.above))).trans e1⟩
    . by_cases hj : j = i
      . subst hj
        rw [hi] at e1; cases e1
        rw [List.getElem?_set_self hiσ] at e2
        cases e2
        exact ⟨u, r, .inl ⟨hk, by simp⟩⟩
      . rw [List.getElem?_set_ne (Ne.symm hj)] at e2
        obtain ⟨u', r', q⟩ := hl j y v' e1 e2 e3
        refine ⟨u', r', ?_⟩
        rcases q with ⟨k, e⟩ | ⟨k, c, e, z⟩
        . refine .inl ⟨k, ?_⟩
          have : y ≠ x := fun e => hj (nodup_ix hN e1 (e ▸ hi))
          simp [this, e]
        . exact .inr ⟨k, c, e, z.sameBut hs (cne y c e)⟩
    . obtain ⟨w', z⟩ := I.cell y c e
      exact ⟨w', z.sameBut hs (cne y c e)⟩
    . obtain ⟨e, n, ne, nf, d⟩ := I.pin p hp
      exact ⟨(hs.2 p.1 ne).trans e, n, ne, nf, d⟩
  . have hfn : X.fn x = true := by
      rcases hf with z | z
      . exact z
      . rw [z] at hk; cases hk
    obtain ⟨c, hc⟩ := I.ok.has x (.inl hk)
    obtain ⟨w', z⟩ := I.cell x c hc
    refine wpAny_storeName_cell I.ok.kind hk hc z (fun h' hc' hs => ?_)
    obtain ⟨oc, hoc, hocd⟩ := id z
    refine h { s with heap := h' } ⟨I.ok, I.os, I.bare, ⟨fun b o e n hb hx => ?_, fun b o e n hb hx => ?_, I.base.free, fun b o e hx => ?_, I.base.tups, I.base.frzs, I.base.tbls⟩, ⟨m, hn.sameBut hs (Ne.symm (cne x c hc)), fun j y v' e1 e2 e3 => ?_⟩, fun y c' e => ?_, I.free, I.freeC, fun p hp => ?_, tracked ⟨oc, hoc, I.freeC x c hc⟩ hs, by simpa using I.len⟩ ⟨c, hs, .inr hc⟩
    . exact (hs.2 b (Nat.ne_of_lt (Nat.lt_of_lt_of_le (Heap.lt_size e) (I.ok.cab x c hfn hc)))).trans (I.base.keep b o e n hb hx)
    . obtain ⟨sl, e1⟩ := I.base.slot b o e n hb hx
      exact ⟨sl, (hs.2 b (Nat.ne_of_lt (Nat.lt_of_lt_of_le (Heap.lt_size e) (I.ok.cab x c hfn hc)))).trans e1⟩
    . obtain ⟨o', e1⟩ := I.base.there b o e hx
      exact ⟨o', (hs.2 b (Nat.ne_of_lt (Nat.lt_of_lt_of_le (Heap.lt_size e) (I.ok.cab x c hfn hc)))).trans e1⟩
    . by_cases hj : j = i
      . subst hj
        rw [hi] at e1; cases e1
        rw [List.getElem?_set_self hiσ] at e2
        cases e2
        exact ⟨u, r, .inr ⟨.inl hk, c, hc, hc'⟩⟩
      . rw [List.getElem?_set_ne (Ne.symm hj)] at e2
        obtain ⟨u', r', q⟩ := hl j y v' e1 e2 e3
        refine ⟨u', r', ?_⟩
        rcases q with q | ⟨k, c', e, z'⟩
        . exact .inl q
        . refine .inr ⟨k, c', e, z'.sameBut hs ?_⟩
          rintro rfl
          exact hj (nodup_ix hN e1 (I.ok.inj _ _ _ e hc ▸ hi))
    . by_cases hcc : c' = c
      . subst hcc; exact ⟨_, hc'⟩
      . obtain ⟨w2, z2⟩ := I.cell y c' e
        exact ⟨w2, z2.sameBut hs hcc⟩
    . obtain ⟨e, n, ne, nf, d⟩ := I.pin p hp
      refine ⟨(hs.2 p.1 ?_).trans e, n, ne, nf, d⟩
      intro q
      rw [q, hoc] at e
      have q' : oc = p.2 := Option.some.inj e
      exact d w' (by rw [<- q']; exact hocd)
theorem store_ok {M : Model} {A : Around} {E : Value -> Shared -> Prop} {i : Nat} {x : Str} {v : V} {u : Value} {Q : Unit -> Shared -> Prop} (I : Inv X pins σ H s) (hN : X.N.Nodup) (hi : X.N[i]? = some x) (hx : Loc X.env.scope x) (r : RelV v u)
    (h : ∀ s', Inv X pins (σ.set i (some v)) H s' -> Q () s') (hf : X.fn x = true \/ X.env.scope.names.lookup x = some .local := by first | exact .inl rfl | exact .inr rfl | assumption) : wpAny M A (storeName X.env x u) Q E s :=
  store_ok2 I hN hi hx r (fun s' I' _ => h s' I') hf
theorem Inv.call' {s' : Shared} {ch : List Addr} (I : Inv X pins σ H s) (ho : s'.os = s.os) (u : Un (frs X.stack) ch H H' s.heap s'.heap) (hok : HOk X.prog X.w H' s'.heap) (hg : AllBare s'.gens)
    (hch : ∀ b ∈ ch, (b ∈ X.ex \/ X.s₀.heap.objs.size <= b) /\ b ≠ X.env.locals /\ (∀ x c, X.env.cells.lookup x = some c -> c ≠ b) /\ ∀ p ∈ X.pn ++ pins, p.1 ≠ b) : Inv X pins σ H' s' := by
  obtain ⟨h', g', d', t', o'⟩ := s'
  have e : o' = s.os := ho
  subst e
  exact I.call (g' := g') (t' := t') (d' := d') u hok hg hch
end
abbrev XK := Value -> Option Addr -> Hp -> Prop
abbrev St := List (Option V)
abbrev VK := V -> Hp -> Prop
abbrev TE := St -> Hp -> VK -> Prop
abbrev TT := St -> Hp -> (Bool -> Hp -> Prop) -> Prop
abbrev TA := St -> Hp -> (List V -> Hp -> Prop) -> Prop
structure Ends where
  nx : St -> Hp -> Prop
  rt : VK
  bk : St -> Hp -> Prop := fun _ _ => False
  ct : St -> Hp -> Prop := fun _ _ => False
abbrev TS := Ends -> St -> Hp -> Prop
def EP (X : Cx) (pins : List (Addr × Obj)) (σ : St) (Q : VK) (u : Value) (s' : Shared) : Prop := ∃ v H', Inv X pins σ H' s' /\ RelV v u /\ Q v H'
def TP (X : Cx) (pins : List (Addr × Obj)) (σ : St) (Q : Bool -> Hp -> Prop) (b : Bool) (s' : Shared) : Prop := ∃ H', Inv X pins σ H' s' /\ Q b H'
def AP (X : Cx) (pins : List (Addr × Obj)) (σ : St) (Q : List V -> Hp -> Prop) (us : List Value) (s' : Shared) : Prop := ∃ vs H', Inv X pins σ H' s' /\ Vals vs us /\ Q vs H'
def SP (X : Cx) (pins : List (Addr × Obj)) (D : Ends) (f : Flow) (s' : Shared) : Prop :=
  match f with
  | .next => ∃ σ' H', Inv X pins σ' H' s' /\ D.nx σ' H'
  | .brk => ∃ σ' H', Inv X pins σ' H' s' /\ D.bk σ' H'
  | .cont => ∃ σ' H', Inv X pins σ' H' s' /\ D.ct σ' H'
  | .ret u => ∃ v σ' H', Inv X pins σ' H' s' /\ RelV v u /\ D.rt v H'
def PE (X : Cx) (e : Expr) (t : TE) : Prop :=
  ∀ (pins : List (Addr × Obj)) (s : Shared) (σ : St) (H : Hp) (Q : VK), Inv X pins σ H s -> t σ H Q -> wpAny (model X.prog X.w) X.A (eval e X.env) (EP X pins σ Q) X.xe s
def PT (X : Cx) (e : Expr) (t : TT) : Prop :=
  ∀ (pins : List (Addr × Obj)) (s : Shared) (σ : St) (H : Hp) (Q : Bool -> Hp -> Prop), Inv X pins σ H s -> t σ H Q -> wpAny (model X.prog X.w) X.A (isTrue e X.env (eval e X.env)) (TP X pins σ Q) X.xe s
def PW (X : Cx) (e : Expr) (t : TT) : Prop :=
  ∀ (whole : Sem Value) (pins : List (Addr × Obj)) (s : Shared) (σ : St) (H : Hp) (Q : Bool -> Hp -> Prop), Inv X pins σ H s -> t σ H Q -> wpAny (model X.prog X.w) X.A (isTrue e X.env whole) (TP X pins σ Q) X.xe s
theorem PW.pt {X : Cx} {e : Expr} {t : TT} (h : PW X e t) : PT X e t := h _
def PA (X : Cx) (es : List Expr) (t : TA) : Prop :=
  ∀ (pos : Pos) (pins : List (Addr × Obj)) (s : Shared) (σ : St) (H : Hp) (Q : List V -> Hp -> Prop), Inv X pins σ H s -> t σ H Q -> wpAny (model X.prog X.w) X.A (spliced (backTo pos (starEach es X.env))) (AP X pins σ Q) X.xe s
def PS (X : Cx) (st : Stmt) (t : TS) : Prop :=
  ∀ (pins : List (Addr × Obj)) (s : Shared) (σ : St) (H : Hp) (D : Ends), Inv X pins σ H s -> t D σ H -> wpAny (model X.prog X.w) X.A (exec st X.env) (SP X pins D) X.xe s
def PSs (X : Cx) (st : List Stmt) (t : TS) : Prop :=
  ∀ (pins : List (Addr × Obj)) (s : Shared) (σ : St) (H : Hp) (D : Ends), Inv X pins σ H s -> t D σ H -> wpAny (model X.prog X.w) X.A (execs st X.env) (SP X pins D) X.xe s
theorem thn {α : Type} {t : Sem α} {Q Q' : α -> Shared -> Prop} {M : Model} {A : Around} {E : Value -> Shared -> Prop} {s : Shared} (h : wpAny M A t Q E s) (hQ : ∀ a s, Q a s -> Q' a s) : wpAny M A t Q' E s := wpAny_mono h hQ fun _ _ x => x
end L2
namespace L2
open PySem PySem.Spec PyProof.Rows
section
variable {X : Cx}
def tVar (i : Nat) : TE := fun σ H Q => ∃ v, σ[i]? = some (some v) /\ Q v H
def tC (v : V) : TE := fun _ H Q => Q v H
theorem pe_var {i : Nat} {x : Str} {pos : Pos} (hN : X.N[i]? = some x) (hv : Vis X.env.scope x) (hd : (x == ("__debug__" : Str)) = false := by decide) (hcd : (x == ("__classdict__" : Str)) = false := by decide) : PE X (.Name x pos) (tVar i) := by
  intro pins s σ H Q I h
  obtain ⟨v, e, h⟩ := h
  obtain ⟨m, hn, hl⟩ := I.loc
  obtain ⟨u, r, l⟩ := hl i x v hN e hv
  have fin : EP X pins σ Q u s := ⟨v, H, I, r, h⟩
  rcases l with ⟨hk, hm⟩ | ⟨hk, c, hc, hcell⟩
  . exact wpAny_Name (wpAny_loadName_local I.ok.kind hk hn hm fin) hd
  . rcases hk with hk | hk
    . exact wpAny_Name (wpAny_loadName_cell I.ok.kind hk hc hcell fin) hd
    . exact wpAny_Name (wpAny_loadName_free I.ok.kind hk hc hcell fin hcd) hd
theorem pe_int {i j pos} : PE X (.Constant (.int i) j pos) (tC (.int i)) := fun _ _ _ H _ I h => wpAny_Constant_int ⟨.int i, H, I.tok _, ⟨_, rfl⟩, h⟩
theorem pe_bl {b j pos} : PE X (.Constant (.bool b) j pos) (tC (.bl b)) := fun _ _ _ H _ I h => Constant_bool ⟨.bl b, H, I, rfl, h⟩
theorem pe_non {j pos} : PE X (.Constant .none j pos) (tC .non) := fun _ _ _ H _ I h => Constant_none ⟨.non, H, I, rfl, h⟩
theorem pe_str {x j pos} : PE X (.Constant (.str x) j pos) (tC (.str x)) := fun _ _ _ H _ I h => Calls.Constant_str ⟨.str x, H, I.tok _, ⟨_, rfl⟩, h⟩
def Gl (X : Cx) (x : Str) : Prop := X.env.kindOf x = some .globalImplicit
theorem ld_glob {E : Value -> Shared -> Prop} {pins : List (Addr × Obj)} {s : Shared} {σ : St} {H : Hp} {x : Str} {u : Value} {pos : Pos} {Q : Value -> Shared -> Prop} (I : Inv X pins σ H s) (hg : Gl X x) (hm : X.mg x = some u) (h : Q u s)
    (hd : (x == ("__debug__" : Str)) = false := by decide) : wpAny (model X.prog X.w) X.A (eval (.Name x pos) X.env) Q E s :=
  Calls.Name_function_global I.ok.kind hg (Calls.loadGlobal_global (by rw [I.ok.glob]; exact I.mod.glob.keeps I.bk) hm h) hd
theorem ld_blt {E : Value -> Shared -> Prop} {pins : List (Addr × Obj)} {s : Shared} {σ : St} {H : Hp} {x : Str} {u : Value} {pos : Pos} {Q : Value -> Shared -> Prop} (I : Inv X pins σ H s) (hg : Gl X x) (hm : X.mg x = none) (hv : bootBuiltins x = some u) (h : Q u s)
    (hn : x ≠ "__name__" := by decide) (hd : (x == ("__debug__" : Str)) = false := by decide) : wpAny (model X.prog X.w) X.A (eval (.Name x pos) X.env) Q E s := by
  obtain ⟨mb, h1, h2⟩ := I.mod.blt
  exact Calls.Name_function_global I.ok.kind hg (Calls.loadGlobal_builtin (by rw [I.ok.glob]; exact I.mod.glob.keeps I.bk) hm (by rw [I.ok.blt]; exact h1.keeps I.bk) ((h2 x hn).trans hv) h) hd
theorem pe_glob {x : Str} {v : V} {u : Value} {pos : Pos} (hg : Gl X x) (hm : X.mg x = some u) (r : RelV v u) (hd : (x == ("__debug__" : Str)) = false := by decide) : PE X (.Name x pos) (tC v) :=
  fun _ _ _ H _ I h => ld_glob I hg hm ⟨v, H, I, r, h⟩ hd
theorem pe_bltn {x : Str} {v : V} {u : Value} {pos : Pos} (hg : Gl X x) (hm : X.mg x = none) (hv : bootBuiltins x = some u) (r : RelV v u) (hn : x ≠ "__name__" := by decide) (hd : (x == ("__debug__" : Str)) = false := by decide) : PE X (.Name x pos) (tC v) :=
  fun _ _ _ H _ I h => ld_blt I hg hm hv ⟨v, H, I, r, h⟩ hn hd
variable {a b : Expr} {ta tb : TE} {pos : Pos}
def tB (t : TE) : TT := fun σ H Q => t σ H fun x H1 => ∃ c, x = .bl c /\ Q c H1
theorem pt_val {e : Expr} {t : TE} (h : PE X e t) (he : ∀ whole, isTrue e X.env whole = (do let v <- whole; standAt e.pos; holding [v] (truthy v)) := by intro _; rfl) : PT X e (tB t) := by
  intro pins s σ H Q I hw
  refine isTrue_plain (thn (h pins s σ H _ I hw) fun v s1 ⟨x, H1, I1, r1, q1⟩ => ?_) (he _)
  obtain ⟨d, rfl, q⟩ := q1
  cases r1
  exact wpAny_truthy_bool ⟨H1, I1, q⟩
variable {tA tB' : TT} {rest : List Expr}
def tOr (t u : TT) : TT := fun σ H Q => t σ H fun c H1 => if c = true then Q true H1 else u σ H1 Q
def tNot (t : TT) : TT := fun σ H Q => t σ H fun c H1 => Q (!c) H1
theorem pw_or1 (ha : PT X a tA) : PW X (.BoolOp .Or [a] pos) tA := by
  intro wh pins s σ H Q I h
  refine isTrue_or (thn (ha pins s σ H Q I h) fun c s1 e => ?_)
  cases c with
  | false => exact isTrue_or_nil e
  | true => exact e
theorem pw_or (ha : PT X a tA) (hb : PW X (.BoolOp .Or (b :: rest) pos) tB') : PW X (.BoolOp .Or (a :: b :: rest) pos) (tOr tA tB') := by
  intro wh pins s σ H Q I h
  refine isTrue_or (thn (ha pins s σ H _ I h) fun c s1 ⟨H1, I1, q1⟩ => ?_)
  cases c with
  | true => exact ⟨H1, I1, q1⟩
  | false => exact hb wh pins s1 σ H1 Q I1 q1
theorem pt_not (ha : PT X a tA) : PT X (.UnaryOp .Not a pos) (tNot tA) := by
  intro pins s σ H Q I h
  exact isTrue_not (ha pins s σ H (fun c H1 => Q (!c) H1) I h)
def tAndV (ta tb : TE) : TE := fun σ H Q => ta σ H fun x H1 => ∃ c, x = .bl c /\ if c = true then tb σ H1 Q else Q (.bl false) H1
theorem pe_one {op} {t : TE} (h : PE X a t) : PE X (.BoolOp op [a] pos) t := fun pins s σ H Q I hw => BoolOp_one (h pins s σ H Q I hw)
theorem pe_and (ha : PE X a ta) (hb : PE X (.BoolOp .And (b :: rest) pos) tb) : PE X (.BoolOp .And (a :: b :: rest) pos) (tAndV ta tb) := by
  intro pins s σ H Q I h
  refine BoolOp_and (thn (ha pins s σ H _ I h) fun v s1 ⟨x, H1, I1, r1, q1⟩ => ?_)
  obtain ⟨c, rfl, q1⟩ := q1
  cases r1
  refine wpAny_truthy_bool ?_
  cases c with
  | true => exact hb pins s1 σ H1 Q I1 q1
  | false => exact ⟨.bl false, H1, I1, rfl, q1⟩
end
end L2
namespace L2
open PySem PySem.Spec PyProof.Rows
def SqL (K : PySem.W.Frag) (H : Hp) (a : Addr) (xs : List V) : Prop :=
  Rd H a (.lst xs) \/
    ∃ (o : Obj) (its : Array Value) (n : Nat), K.lookup a = some o /\ o.cls = .type "list" /\ o.dict = none /\ o.data = .seq its n /\ its.size <= sizeLine /\ Vals xs its.toList
def SqT (K : PySem.W.Frag) (H : Hp) (a : Addr) (xs : List V) : Prop :=
  Rd H a (.tup xs) \/
    ∃ (o : Obj) (its : Array Value) (n : Nat), K.lookup a = some o /\ o.cls = .type "tuple" /\ o.data = .seq its n /\ its.size <= sizeLine /\ Vals xs its.toList
def absV : Value -> Option V
  | .none => some .non
  | .bool b => some (.bl b)
  | .int i _ => some (.int i)
  | .str x _ => some (.str x)
  | .bytes b _ => some (.byt b)
  | .float b _ => some (.flt b)
  | .ref a => some (.ref a)
  | .type n => some (.ty n)
  | _ => none
theorem RelV.abs {x : V} {u : Value} (r : RelV x u) : absV u = some x := by
  cases x with
  | non => cases r; rfl
  | bl _ => cases r; rfl
  | int _ => obtain ⟨t, rfl⟩ := r; rfl
  | str _ => obtain ⟨t, rfl⟩ := r; rfl
  | byt _ => obtain ⟨t, rfl⟩ := r; rfl
  | flt _ => obtain ⟨t, rfl⟩ := r; rfl
  | ref _ => cases r; rfl
  | ty _ => cases r; rfl
theorem RelV.inj {x y : V} {u : Value} (r : RelV x u) (q : RelV y u) : x = y := Option.some.inj (r.abs.symm.trans q.abs)
theorem Vals.inj : ∀ {xs ys : List V} {us : List Value}, Vals xs us -> Vals ys us -> xs = ys
  | _, _, _, .nil, .nil => rfl
  | _, _, _, .cons r t, .cons r' t' => by rw [r.inj r', Vals.inj t t']
section
variable {X : Cx} {pins : List (Addr × Obj)} {σ : St} {H : Hp} {s : Shared} {a : Addr} {xs ys : List V}
theorem SqL.of {K : PySem.W.Frag} (h : H a = some (.lst xs)) : SqL K H a xs := .inl (.inl h)
theorem SqT.of {K : PySem.W.Frag} (h : H a = some (.tup xs)) : SqT K H a xs := .inl (.inl h)
theorem Inv.list (I : Inv X pins σ H s) (h : SqL X.K H a xs) : ∃ its : List Value, Vals xs its /\ PlainL s.heap a its.toArray /\ xs.length <= sizeLine := by
  rcases h with h | ⟨o, its, n, hk, hc, hd, hs, hz, r⟩
  . obtain ⟨z, its, n, r, e⟩ := h.ok I.hok
    exact ⟨its, r, ⟨_, n, e, rfl, rfl, rfl⟩, z⟩
  . refine ⟨its.toList, r, ⟨o, n, I.kIn a o hk, hc, hd, by simpa using hs⟩, ?_⟩
    have e := r.length
    simp only [Array.length_toList] at e
    omega
theorem Inv.tuple (I : Inv X pins σ H s) (h : SqT X.K H a xs) : ∃ its : List Value, Vals xs its /\ IsTup s.heap a its.toArray /\ xs.length <= sizeLine := by
  rcases h with h | ⟨o, its, n, hk, hc, hs, hz, r⟩
  . obtain ⟨z, its, r, p⟩ := h.ok I.hok
    exact ⟨its, r, p, z⟩
  . refine ⟨its.toList, r, ⟨o, I.kIn a o hk, hc, n, by simpa using hs⟩, ?_⟩
    have e := r.length
    simp only [Array.length_toList] at e
    omega
theorem Inv.list_inj (I : Inv X pins σ H s) (h : SqL X.K H a xs) (h' : SqL X.K H a ys) : xs = ys := by
  obtain ⟨its, r, ⟨o, n, e, _, _, d⟩, _⟩ := I.list h
  obtain ⟨its', r', ⟨o', n', e', _, _, d'⟩, _⟩ := I.list h'
  rw [e] at e'; cases e'
  rw [d] at d'
  injection d' with d1 _
  have : its = its' := by simpa using congrArg Array.toList d1
  subst this
  exact r.inj r'
theorem Inv.tuple_inj (I : Inv X pins σ H s) (h : SqT X.K H a xs) (h' : SqT X.K H a ys) : xs = ys := by
  obtain ⟨its, r, ⟨o, e, _, n, d⟩, _⟩ := I.tuple h
  obtain ⟨its', r', ⟨o', e', _, n', d'⟩, _⟩ := I.tuple h'
  rw [e] at e'; cases e'
  rw [d] at d'
  injection d' with d1 _
  have : its = its' := by simpa using congrArg Array.toList d1
  subst this
  exact r.inj r'
end
abbrev Cx.wish (X : Cx) (E : Value -> Shared -> Prop) : Cx := { X with xe := E }
abbrev Cx.nox (X : Cx) : Cx := X.wish fun _ _ => False
theorem Cx.Ok.wish {X : Cx} (ok : X.Ok) (E : Value -> Shared -> Prop) : (X.wish E).Ok :=
  ⟨ok.mod, ok.kind, ok.glob, ok.blt, ok.above, ok.inj, ok.has, ok.cab, ok.hd, ok.frames, ok.stk, ok.exf, ok.bs, ok.bsz, ok.noex, ok.exfs, ok.funs, ok.frf⟩
theorem Cx.Ok.unwish {X : Cx} {E : Value -> Shared -> Prop} (ok : (X.wish E).Ok) : X.Ok :=
  ⟨ok.mod, ok.kind, ok.glob, ok.blt, ok.above, ok.inj, ok.has, ok.cab, ok.hd, ok.frames, ok.stk, ok.exf, ok.bs, ok.bsz, ok.noex, ok.exfs, ok.funs, ok.frf⟩
section
variable {X : Cx} {pins : List (Addr × Obj)} {σ : St} {H : Hp} {s : Shared} {E : Value -> Shared -> Prop}
theorem Inv.wish (I : Inv X pins σ H s) (E : Value -> Shared -> Prop) : Inv (X.wish E) pins σ H s := ⟨I.ok.wish E, I.os, I.bare, I.base, I.loc, I.cell, I.free, I.freeC, I.pin, I.hok, I.len⟩
theorem Inv.unwish (I : Inv (X.wish E) pins σ H s) : Inv X pins σ H s := ⟨I.ok.unwish, I.os, I.bare, I.base, I.loc, I.cell, I.free, I.freeC, I.pin, I.hok, I.len⟩
theorem SP.unwish {D : Ends} {f : Flow} {s' : Shared} (h : SP (X.wish E) pins D f s') : SP X pins D f s' := by
  cases f with
  | next => obtain ⟨σ', H', I, q⟩ := h; exact ⟨σ', H', I.unwish, q⟩
  | brk => obtain ⟨σ', H', I, q⟩ := h; exact ⟨σ', H', I.unwish, q⟩
  | cont => obtain ⟨σ', H', I, q⟩ := h; exact ⟨σ', H', I.unwish, q⟩
  | ret u => obtain ⟨v, σ', H', I, r, q⟩ := h; exact ⟨v, σ', H', I.unwish, r, q⟩
theorem PSs.nox {st : List Stmt} {t : TS} (h : PSs X.nox st t) : PSs X st t := fun pins s σ H D I hw =>
  wpAny_mono (h pins s σ H D (I.wish _) hw) (fun _ _ q => q.unwish) fun _ _ z => False.elim z
end
section
variable {X : Cx} {st : Stmt} {rest : List Stmt} {t u : TS} {e : Expr} {te : TE} {pos : Pos}
def tNext : TS := fun D σ H => D.nx σ H
def tSeq (t u : TS) : TS := fun D σ H => t { D with nx := u D } σ H
theorem pss_nil : PSs X [] tNext := fun _ _ σ H _ I h => wpAny_execs_nil ⟨σ, H, I, h⟩
theorem pss_cons (h1 : PS X st t) (h2 : PSs X rest u) : PSs X (st :: rest) (tSeq t u) := by
  intro pins s σ H D I h
  refine wpAny_execs_cons (thn (h1 pins s σ H { D with nx := u D } I h) fun f s1 q => ?_)
  cases f with
  | next =>
    obtain ⟨σ', H', I', q⟩ := q
    exact h2 pins s1 σ' H' D I' q
  | ret v => exact q
  | brk => exact q
  | cont => exact q
theorem pss_one (h1 : PS X st t) : PSs X [st] t := by
  intro pins s σ H D I h
  refine wpAny_execs_cons (thn (h1 pins s σ H D I h) fun f s1 q => ?_)
  cases f with
  | next => exact wpAny_execs_nil q
  | ret v => exact q
  | brk => exact q
  | cont => exact q
theorem Inv.quiet {pins : List (Addr × Obj)} {σ : St} {H : Hp} {s : Shared} (I : Inv X pins σ H s) : interactive X.env = false := by simp [interactive, I.ok.kind]
def tDrop (te : TE) : TS := fun D σ H => te σ H fun _ H1 => D.nx σ H1
theorem ps_expr (he : PE X e te) (hs : swapsWith e none pos.line X.env = pure false := by rfl) : PS X (.Expr e pos) (tDrop te) := by
  intro pins s σ H D I h
  exact wpAny_Expr_any (thn (he pins s σ H _ I h) fun v s1 ⟨x, H1, I1, r1, q1⟩ => ⟨σ, H1, I1, q1⟩) I.quiet hs
def tRet (te : TE) : TS := fun D σ H => te σ H D.rt
theorem ps_ret (he : PE X e te) : PS X (.Return (some e) pos) (tRet te) := by
  intro pins s σ H D I h
  exact wpAny_Return_some (thn (he pins s σ H _ I h) fun v s1 ⟨x, H1, I1, r1, q1⟩ => ⟨x, σ, H1, I1, r1, q1⟩)
def tIfS (c : TT) (t u : TS) : TS := fun D σ H => c σ H fun b H1 => if b = true then t D σ H1 else u D σ H1
theorem ps_if {c : Expr} {a b : List Stmt} {tc : TT} (hc : PT X c tc) (ha : PSs X a t) (hb : PSs X b u) : PS X (.If c a b pos) (tIfS tc t u) := by
  intro pins s σ H D I h
  refine wpAny_If (thn (hc pins s σ H _ I h) fun d s1 ⟨H1, I1, q1⟩ => ?_)
  cases d with
  | true => exact ha pins s1 σ H1 D I1 q1
  | false => exact hb pins s1 σ H1 D I1 q1
def tNever : TS := fun _ _ _ => False
theorem ps_never : PS X st tNever := fun _ _ _ _ _ _ h => h.elim
end
abbrev TG := V -> St -> Hp -> (St -> Hp -> Prop) -> Prop
abbrev TGs := List V -> St -> Hp -> (St -> Hp -> Prop) -> Prop
def PG (X : Cx) (target : Expr) (t : TG) : Prop :=
  ∀ (pins : List (Addr × Obj)) (s : Shared) (σ : St) (H : Hp) (v : V) (u : Value) (Q : St -> Hp -> Prop), Inv X pins σ H s -> RelV v u -> t v σ H Q ->
    wpAny (model X.prog X.w) X.A (assign target X.env u) (fun _ s' => ∃ σ' H', Inv X pins σ' H' s' /\ Q σ' H') X.xe s
def PGs (X : Cx) (ts : List Expr) (t : TGs) : Prop :=
  ∀ (pins : List (Addr × Obj)) (s : Shared) (σ : St) (H : Hp) (vs : List V) (us : List Value) (Q : St -> Hp -> Prop), Inv X pins σ H s -> Vals vs us -> t vs σ H Q ->
    wpAny (model X.prog X.w) X.A (assignInOrder ((assignEach ts X.env).map (·.2)) us) (fun _ s' => ∃ σ' H', Inv X pins σ' H' s' /\ Q σ' H') X.xe s
abbrev TSet := V -> V -> V -> Hp -> (Hp -> Prop) -> Prop
def PSet (X : Cx) (t : TSet) : Prop :=
  ∀ (pins : List (Addr × Obj)) (s : Shared) (σ : St) (H : Hp) (o i v : V) (ov iv u : Value) (Q : Hp -> Prop), Inv X pins σ H s -> RelV o ov -> RelV i iv -> RelV v u -> t o i v H Q ->
    wpAny (model X.prog X.w) X.A (setItem ov iv u) (fun _ s' => ∃ H', Inv X pins σ H' s' /\ Q H') X.xe s
section
variable {X : Cx} {pos : Pos}
def gName (i : Nat) : TG := fun v σ H Q => Q (σ.set i (some v)) H
theorem pg_name {i : Nat} {x : Str} (hN : X.N.Nodup) (hi : X.N[i]? = some x) (hx : Loc X.env.scope x) (hf : X.fn x = true \/ X.env.scope.names.lookup x = some .local := by first | exact .inl rfl | exact .inr rfl | assumption) : PG X (.Name x pos) (gName i) := by
  intro pins s σ H v u Q I r h
  exact wpAny_assign_Name (store_ok I hN hi hx r (fun s' I' => ⟨_, H, I', h⟩) hf)
def gNil : TGs := fun vs σ H Q => vs = [] /\ Q σ H
def gCons (t : TG) (u : TGs) : TGs := fun vs σ H Q => ∃ v r, vs = v :: r /\ t v σ H fun σ' H' => u r σ' H' Q
theorem pgs_nil : PGs X [] gNil := by
  intro pins s σ H vs us Q I r h
  obtain ⟨e, h⟩ := h
  subst e
  cases r
  exact assignInOrder_nil ⟨σ, H, I, h⟩
theorem pgs_cons {e : Expr} {es : List Expr} {t : TG} {u : TGs} (h1 : PG X e t) (h2 : PGs X es u)
    (hs : (assignEach (e :: es) X.env).map (·.2) = assign e X.env :: (assignEach es X.env).map (·.2) := by rfl) : PGs X (e :: es) (gCons t u) := by
  intro pins s σ H vs us Q I r h
  obtain ⟨v, vr, e1, h⟩ := h
  subst e1
  cases r with
  | cons r rr =>
    rw [hs]
    refine assignInOrder_cons (thn (h1 pins s σ H _ _ _ I r h) fun _ s1 ⟨σ1, H1, I1, q1⟩ => ?_)
    exact h2 pins s1 σ1 H1 _ _ Q I1 rr q1
def gTup (K : PySem.W.Frag) (n : Nat) (t : TGs) : TG := fun v σ H Q => ∃ a xs, v = .ref a /\ SqT K H a xs /\ xs.length = n /\ t xs σ H Q
theorem pg_tup {es : List Expr} {k : Nat} {t : TGs} {n : Nat} (hc : X.calm = true) (h : PGs X es t)
    (hn : (assignEach es X.env).length = n := by rfl) (hst : (assignEach es X.env).findIdx? (·.1) = none := by rfl) : PG X (.Tuple es k pos) (gTup X.K n t) := by
  intro pins s σ H v u Q I r hw
  obtain ⟨a, xs, e1, hq, hl, hw⟩ := hw
  subst e1
  cases r
  obtain ⟨its, rv, ht, hz⟩ := I.tuple hq
  refine assign_Tuple_tuple (I.ok.hd hc) ht (by simp [hn, <- hl, rv.length]) hst fun h' hx => ?_
  have I1 : Inv X pins σ H { s with heap := h' } := I.kept (t' := s.toks) fun b o e => hx b o (Nat.ne_of_lt (Heap.lt_size e)) e
  exact h pins _ σ H xs _ Q I1 (by simpa using rv) hw
def gSub (to ti : TE) (t : TSet) : TG := fun v σ H Q => to σ H fun o H1 => ti σ H1 fun i H2 => t o i v H2 fun H3 => Q σ H3
theorem pg_sub {o i : Expr} {to ti : TE} {t : TSet} (ho : PE X o to) (hi : PE X i ti) (hs : PSet X t)
    (ha : ∀ v, assign (.Subscript o i pos) X.env v = (do
      let ov <- holding [v] (eval o X.env)
      let iv <- holding [v, ov] (eval i X.env)
      standAt pos
      holding [v, ov, iv] (setItem ov iv v)
      release [v, ov, iv] []) := by intro _; rfl) : PG X (.Subscript o i pos) (gSub to ti t) := by
  intro pins s σ H v u Q I r h
  rw [ha]
  refine wpAny_bind (wpAny_holding (thn (ho pins s σ H _ I h) fun ov s1 ⟨x, H1, I1, r1, q1⟩ => ?_))
  refine wpAny_bind (wpAny_holding (thn (hi pins s1 σ H1 _ I1 q1) fun iv s2 ⟨y, H2, I2, r2, q2⟩ => ?_))
  refine wpAny_bind (wpAny_standAt (wpAny_bind (wpAny_holding (thn (hs pins s2 σ H2 x y v ov iv u _ I2 r1 r2 r q2) fun _ s3 ⟨H3, I3, q3⟩ => ?_))))
  exact wpAny_release ⟨σ, H3, I3, q3⟩
def tAsg (te : TE) (g : TG) : TS := fun D σ H => te σ H fun x H1 => g x σ H1 D.nx
theorem ps_asg {tg e : Expr} {te : TE} {g : TG} (he : PE X e te) (hg : PG X tg g) (hs : swapsWithSole [tg] e pos.line X.env = pure false := by rfl) (hw : swappedStores [tg] e X.env = pure none := by rfl)
    (h1 : (assignEach [tg] X.env).map (·.2) = [assign tg X.env] := by rfl) : PS X (.Assign [tg] e pos) (tAsg te g) := by
  intro pins s σ H D I h
  refine wpAny_Assign_stores (thn (he pins s σ H _ I h) fun v s1 ⟨x, H1, I1, r1, q1⟩ => ?_) hs hw
  rw [h1]
  exact thn (hg pins s1 σ H1 x v _ I1 r1 q1) fun _ s2 q => q
theorem ps_set {i : Nat} {x : Str} {e : Expr} {te : TE} {pos' : Pos} (hN : X.N.Nodup) (hi : X.N[i]? = some x) (hx : Loc X.env.scope x) (he : PE X e te) (hs : swapsWith e (some (.Name x pos')) pos.line X.env = pure false := by rfl) (hf : X.fn x = true \/ X.env.scope.names.lookup x = some .local := by first | exact .inl rfl | exact .inr rfl | assumption) :
    PS X (.Assign [.Name x pos'] e pos) (tAsg te (gName i)) := by
  intro pins s σ H D I h
  refine wpAny_Assign_Name (thn (he pins s σ H _ I h) fun v s1 ⟨y, H1, I1, r1, q1⟩ => ?_) hs
  exact store_ok I1 hN hi hx r1 (fun s2 I2 => ⟨_, H1, I2, q1⟩) hf
end
section
variable {X : Cx} {pos : Pos}
end
structure It where
  go : Nat -> Hp -> Prop
  yld : Nat -> Hp -> V -> Hp -> Prop
  stop : Nat -> Hp -> Prop
def FpOk (X : Cx) (pins : List (Addr × Obj)) (H : Hp) (b : Addr) : Prop :=
  H b = none /\ b ≠ X.env.locals /\ b ∉ X.fs /\ (b ∈ X.ex \/ X.s₀.heap.objs.size <= b) /\ (∀ x c, X.env.cells.lookup x = some c -> c ≠ b) /\ ∀ p ∈ X.pn ++ pins, p.1 ≠ b
theorem Inv.fpOk {X : Cx} {pins : List (Addr × Obj)} {σ : St} {H H' : Hp} {s : Shared} {b : Addr} (I : Inv X pins σ H s) (hb : s.heap.objs.size <= b) (hn : H' b = none) : FpOk X pins H' b := by
  refine ⟨hn, Nat.ne_of_gt (Nat.lt_of_lt_of_le I.lt hb), I.nofs hb, .inr (Nat.le_trans I.sz hb), fun x c e z => ?_, fun p hp z => ?_⟩
  . obtain ⟨v, q⟩ := I.cell x c e
    exact absurd (Nat.lt_of_lt_of_le q.lt (by rw [z]; exact hb)) (Nat.lt_irrefl _)
  . exact absurd (Nat.lt_of_lt_of_le (Heap.lt_size (I.pin p hp).1) (by rw [z]; exact hb)) (Nat.lt_irrefl _)
structure Turn (P : Program) (w : World) (K : PySem.W.Frag) (tg : Expr) (J : It) (fp : List Addr) (it : Addr) (tn : Nat -> Heap -> Prop) : Prop where
  mem : it ∈ fp
  obj : ∀ i h, tn i h -> ∀ b ∈ fp, ∃ o, h.get? b = some o /\ ∀ v, o.data ≠ .cell v
  keep : ∀ i h h', tn i h -> (∀ b ∈ fp, ∀ o, h.get? b = some o -> h'.get? b = some o) -> tn i h'
  item : ∀ (X : Cx), X.prog = P -> X.w = w -> X.K = K -> X.calm = true -> ∀ (i : Nat) (pins : List (Addr × Obj)) (s : Shared) (σ : St) (H : Hp) (E : Value -> Shared -> Prop), Inv X pins σ H s -> (∀ b ∈ fp, FpOk X pins H b) -> tn i s.heap -> J.go i H ->
    wpAny (model P w) X.A (pyNext (.ref it)) (fun r s1 => ∃ u, r = some u /\
      wpAny (model P w) X.A (letOwnedTupleGo tg (.ref it) u) (fun _ s2 => ∃ x H', Inv X pins σ H' s2 /\ RelV x u /\ J.yld i H x H' /\ tn (i + 1) s2.heap /\ ∀ b ∈ fp, H' b = none) E s1) E s
  done : ∀ (X : Cx), X.prog = P -> X.w = w -> X.K = K -> X.calm = true -> ∀ (i : Nat) (pins : List (Addr × Obj)) (s : Shared) (σ : St) (H : Hp) (E : Value -> Shared -> Prop), Inv X pins σ H s -> (∀ b ∈ fp, FpOk X pins H b) -> tn i s.heap -> J.stop i H ->
    wpAny (model P w) X.A (pyNext (.ref it)) (fun r s1 => r = none /\ Inv X pins σ H s1) E s
  self : ∀ (A : Around) (i : Nat) (s : Shared) (Q : Value -> Shared -> Prop) (E : Value -> Shared -> Prop), tn i s.heap -> Q (.ref it) s -> wpAny (model P w) A (pyIter (.ref it)) Q E s
abbrev TI := St -> Hp -> (It -> Hp -> Prop) -> Prop
def PIE (X : Cx) (pins : List (Addr × Obj)) (σ : St) (tg : Expr) (R : It -> Hp -> Prop) (itv : Value) (s2 : Shared) : Prop :=
  ∃ (it : Addr) (fp : List Addr) (tn : Nat -> Heap -> Prop) (J : It) (H' : Hp), itv = .ref it /\ Inv X pins σ H' s2 /\ Turn X.prog X.w X.K tg J fp it tn /\ tn 0 s2.heap /\ (∀ b ∈ fp, FpOk X pins H' b) /\ R J H'
def PI (X : Cx) (tg iter : Expr) (wi : TI) : Prop :=
  ∀ (pins : List (Addr × Obj)) (s : Shared) (σ : St) (H : Hp) (R : It -> Hp -> Prop), Inv X pins σ H s -> wi σ H R ->
    wpAny (model X.prog X.w) X.A (eval iter X.env) (fun v s1 => wpAny (model X.prog X.w) X.A (pyIter v) (PIE X pins σ tg R) X.xe s1) X.xe s
theorem go_of {M : Model} {A : Around} {E : Value -> Shared -> Prop} {s : Shared} {tg : Expr} {it : Addr} {u : Value} {o : Obj} {n : String} {vs : Array Value} {Q : Unit -> Shared -> Prop} (ho : s.heap.get? it = some o) (hc : o.cls = .type n) (hd : o.data = .fields vs)
    (hn : ["enumerate", "zip", "dict_itemiterator", "dict_reverseitemiterator", "odict_iterator", "itertools.zip_longest", "itertools.pairwise"].contains n = false) (hQ : Q () s) : wpAny M A (letOwnedTupleGo tg (.ref it) u) Q E s := by
  unfold letOwnedTupleGo
  cases tg <;> first
    | exact wpAny_pure hQ
    | (cases u <;> first
        | exact wpAny_pure hQ
        | (refine wpAny_bind (wpAny_load ho ?_)
           rw [hc, hd]
           show wpAny M A (if (["enumerate", "zip", "dict_itemiterator", "dict_reverseitemiterator", "odict_iterator", "itertools.zip_longest", "itertools.pairwise"].contains n && vs[0]? == some (rawInt _)) = true then _ else _) Q E s
           rw [if_neg (by intro h; rw [hn, Bool.false_and] at h; cases h)]
           exact wpAny_pure hQ))
def Itl (K : PySem.W.Frag) (a : Addr) : It :=
  ⟨fun i H => ∃ xs x, SqL K H a xs /\ xs[i]? = some x, fun i H x H' => H' = H /\ ∀ xs, SqL K H a xs -> xs[i]? = some x, fun i H => ∃ xs, SqL K H a xs /\ xs.length <= i⟩
def Itt (K : PySem.W.Frag) (a : Addr) : It :=
  ⟨fun i H => ∃ xs x, SqT K H a xs /\ xs[i]? = some x, fun i H x H' => H' = H /\ ∀ xs, SqT K H a xs -> xs[i]? = some x, fun i H => ∃ xs, SqT K H a xs /\ xs.length <= i⟩
def Itr (lo : Int) (n : Nat) : It := ⟨fun i _ => i < n, fun i H x H' => H' = H /\ x = .int (lo + i), fun i _ => n <= i⟩
theorem turn_list {P : Program} {w : World} {K : PySem.W.Frag} {tg : Expr} (a it : Addr) : Turn P w K tg (Itl K a) [it] it (fun i h => h.IsListIter it a i) where
  mem := by simp
  obj := fun i h st b hb => by
    have e : b = it := by simpa using hb
    subst e
    obtain ⟨o, e, c, d⟩ := st
    exact ⟨o, e, fun v z => by rw [d] at z; cases z⟩
  keep := fun i h h' st k => st.at fun o e => k it (by simp) o e
  item := by
    intro X hP hw hK hc i pins s σ H E I hf st hg
    subst hP hw hK
    obtain ⟨xs, x, hq, hx⟩ := hg
    obtain ⟨its, rv, p, hz⟩ := I.list hq
    obtain ⟨u, hu, ru⟩ := rv.get hx
    obtain ⟨f0, f1, f2, f3, f4, f5⟩ := hf it (by simp)
    refine wpAny_pyNext_list_item st p.isList (x := u) (by simpa using hu) fun h' st' sb => ?_
    have I1 : Inv X pins σ H { s with heap := h' } := I.turned (t' := s.toks) (fun b o hb e => (sb.2 b hb).trans e) f0 f1 f3 f4 f5
    obtain ⟨o, e, c, d⟩ := id st'
    exact ⟨u, rfl, go_of (s := { s with heap := h' }) e c d (by decide) ⟨x, H, I1, ru, ⟨rfl, fun ys hy => by rw [I.list_inj hy hq]; exact hx⟩, st', fun b hb => (hf b hb).1⟩⟩
  done := by
    intro X hP hw hK hc i pins s σ H E I hf st hg
    subst hP hw hK
    obtain ⟨xs, hq, hx⟩ := hg
    obtain ⟨its, rv, p, hz⟩ := I.list hq
    obtain ⟨f0, f1, f2, f3, f4, f5⟩ := hf it (by simp)
    have hl := rv.length
    exact wpAny_pyNext_list_end (I.ok.hd hc) st p.isList (by simp; omega) fun h' eb => ⟨rfl, I.turned (t' := s.toks) (fun b o hb e => eb b o hb e) f0 f1 f3 f4 f5⟩
  self := fun _ _ _ _ _ st h => wpAny_pyIter_listiter st h
theorem turn_tuple {P : Program} {w : World} {K : PySem.W.Frag} {tg : Expr} (a it : Addr) : Turn P w K tg (Itt K a) [it] it (fun i h => h.IsTupleIter it a i) where
  mem := by simp
  obj := fun i h st b hb => by
    have e : b = it := by simpa using hb
    subst e
    obtain ⟨o, e, c, d⟩ := st
    exact ⟨o, e, fun v z => by rw [d] at z; cases z⟩
  keep := fun i h h' st k => st.at fun o e => k it (by simp) o e
  item := by
    intro X hP hw hK hc i pins s σ H E I hf st hg
    subst hP hw hK
    obtain ⟨xs, x, hq, hx⟩ := hg
    obtain ⟨its, rv, p, hz⟩ := I.tuple hq
    obtain ⟨u, hu, ru⟩ := rv.get hx
    obtain ⟨f0, f1, f2, f3, f4, f5⟩ := hf it (by simp)
    refine wpAny_pyNext_tuple_item st (show s.heap.IsTuple a its.toArray from p) (x := u) (by simpa using hu) fun h' st' sb => ?_
    have I1 : Inv X pins σ H { s with heap := h' } := I.turned (t' := s.toks) (fun b o hb e => (sb.2 b hb).trans e) f0 f1 f3 f4 f5
    obtain ⟨o, e, c, d⟩ := id st'
    exact ⟨u, rfl, go_of (s := { s with heap := h' }) e c d (by decide) ⟨x, H, I1, ru, ⟨rfl, fun ys hy => by rw [I.tuple_inj hy hq]; exact hx⟩, st', fun b hb => (hf b hb).1⟩⟩
  done := by
    intro X hP hw hK hc i pins s σ H E I hf st hg
    subst hP hw hK
    obtain ⟨xs, hq, hx⟩ := hg
    obtain ⟨its, rv, p, hz⟩ := I.tuple hq
    obtain ⟨f0, f1, f2, f3, f4, f5⟩ := hf it (by simp)
    have hl := rv.length
    exact wpAny_pyNext_tuple_end (I.ok.hd hc) st (show s.heap.IsTuple a its.toArray from p) (by simp; omega) fun h' eb => ⟨rfl, I.turned (t' := s.toks) (fun b o hb e => eb b o hb e) f0 f1 f3 f4 f5⟩
  self := fun _ _ _ _ _ st h => wpAny_pyIter_tupleiter st h
theorem turn_range {P : Program} {w : World} {K : PySem.W.Frag} {tg : Expr} (it : Addr) (lo : Int) (n : Nat) : Turn P w K tg (Itr lo n) [it] it (fun i h => IsRangeIter h it (lo + (i : Nat) * 1) ((n : Int) - (i : Nat)) 1) where
  mem := by simp
  obj := fun i h st b hb => by
    have e : b = it := by simpa using hb
    subst e
    exact ⟨_, st, fun v z => by
      have z' : Data.fields _ = Data.cell v := z
      cases z'⟩
  keep := fun i h h' st k => k it (by simp) _ st
  item := by
    intro X hP hw hK hc i pins s σ H E I hf st hg
    subst hP hw hK
    obtain ⟨f0, f1, f2, f3, f4, f5⟩ := hf it (by simp)
    have W := Walks.range (prog := X.prog) (w := X.w) (I.ok.hd hc) it lo 1 n
    refine W.item i s _ _ hg st fun v h' tk hv st' kk => ?_
    obtain ⟨t, rfl⟩ := hv
    have I1 : Inv X pins σ H { s with heap := h', toks := tk } := I.turned (fun b o hb e => kk b o (by simpa using hb) e) f0 f1 f3 f4 f5
    refine ⟨_, rfl, go_of (s := { s with heap := h', toks := tk }) (n := "range_iterator") st' rfl rfl (by decide) ⟨.int (lo + i), H, I1, ⟨t, ?_⟩, ⟨rfl, rfl⟩, st', fun b hb => (hf b hb).1⟩⟩
    rw [Int.mul_one]
  done := by
    intro X hP hw hK hc i pins s σ H E I hf st hg
    subst hP hw hK
    obtain ⟨f0, f1, f2, f3, f4, f5⟩ := hf it (by simp)
    exact wpAny_pyNext_range_end (I.ok.hd hc) st (by have : n <= i := hg; omega) fun h' eb => ⟨rfl, I.turned (t' := s.toks) (fun b o hb e => eb b o hb e) f0 f1 f3 f4 f5⟩
  self := fun _ _ _ _ _ st h => wpAny_pyIter_rangeiter st h
end L2
namespace L2
open PySem PySem.Spec PyProof.Rows
section
variable {X : Cx} {tg : Expr}
def iList (K : PySem.W.Frag) (tl : TE) : TI := fun σ H R => tl σ H fun x H1 => ∃ a, x = .ref a /\ (∃ xs, SqL K H1 a xs) /\ R (Itl K a) H1
def iTup (K : PySem.W.Frag) (tl : TE) : TI := fun σ H R => tl σ H fun x H1 => ∃ a, x = .ref a /\ (∃ xs, SqT K H1 a xs) /\ R (Itt K a) H1
theorem pi_list {l : Expr} {tl : TE} (hl : PE X l tl) : PI X tg l (iList X.K tl) := by
  intro pins s σ H R I h
  refine thn (hl pins s σ H _ I h) fun v s1 ⟨x, H1, I1, r1, q1⟩ => ?_
  obtain ⟨a, e, ⟨xs, hq⟩, q⟩ := q1
  subst e
  cases r1
  obtain ⟨its, rv, p, hz⟩ := I1.list hq
  refine wpAny_pyIter_list p.isList ?_
  refine ⟨s1.heap.objs.size, [s1.heap.objs.size], _, _, H1, rfl, I1.kept (t' := s1.toks) fun b o e => Heap.get?_push_of_some _ e, turn_list a _, ⟨_, Heap.get?_push_size _ rfl, rfl, rfl⟩, fun b hb => ?_, q⟩
  have e : b = s1.heap.objs.size := by simpa using hb
  subst e
  exact I1.fpOk (Nat.le_refl _) (I1.hok.fresh (Nat.le_refl _))
theorem pi_tup {l : Expr} {tl : TE} (hl : PE X l tl) : PI X tg l (iTup X.K tl) := by
  intro pins s σ H R I h
  refine thn (hl pins s σ H _ I h) fun v s1 ⟨x, H1, I1, r1, q1⟩ => ?_
  obtain ⟨a, e, ⟨xs, hq⟩, q⟩ := q1
  subst e
  cases r1
  obtain ⟨its, rv, p, hz⟩ := I1.tuple hq
  refine wpAny_pyIter_tuple (show s1.heap.IsTuple a its.toArray from p) ?_
  refine ⟨s1.heap.objs.size, [s1.heap.objs.size], _, _, H1, rfl, I1.kept (t' := s1.toks) fun b o e => Heap.get?_push_of_some _ e, turn_tuple a _, ⟨_, Heap.get?_push_size _ rfl, rfl, rfl⟩, fun b hb => ?_, q⟩
  have e : b = s1.heap.objs.size := by simpa using hb
  subst e
  exact I1.fpOk (Nat.le_refl _) (I1.hok.fresh (Nat.le_refl _))
theorem range_it {pins : List (Addr × Obj)} {σ : St} {H : Hp} {s : Shared} {R : It -> Hp -> Prop} {E : Value -> Shared -> Prop} {lo hi : Int} {t u v : Tok} {tk : Nat} (I : Inv X pins σ H s) (h1 : -(2 ^ 62) <= lo) (h2 : lo < 2 ^ 62) (h3 : -(2 ^ 62) <= hi) (h4 : hi < 2 ^ 62)
    (q : R (Itr lo (hi - lo).toNat) H) : wpAny (model X.prog X.w) X.A (pyIter (.ref s.heap.objs.size)) (PIE X pins σ tg R) E { s with heap := s.heap.push { cls := .type "range", data := .fields #[.int lo t, .int hi u, .int 1 v] }, toks := tk } := by
  refine wpAny_pyIter_range (IsRange.new ..) (small_one h1 h2 h3 h4) ?_
  have I1 : Inv X pins σ H { s with heap := s.heap.push { cls := .type "range", data := .fields #[.int lo t, .int hi u, .int 1 v] }, toks := tk } := I.kept fun b o e => Heap.get?_push_of_some _ e
  refine ⟨(s.heap.push { cls := .type "range", data := .fields #[.int lo t, .int hi u, .int 1 v] }).objs.size, [(s.heap.push { cls := .type "range", data := .fields #[.int lo t, .int hi u, .int 1 v] }).objs.size], _, _, H, rfl,
    I1.kept (t' := tk) fun b o e => Heap.get?_push_of_some _ e, turn_range _ lo (hi - lo).toNat, ?_, fun b hb => ?_, q⟩
  . have e1 : lo + ((0 : Nat) : Int) * 1 = lo := by simp
    have e2 : (((hi - lo).toNat : Nat) : Int) - ((0 : Nat) : Int) = Builtin.Range.rangeSize lo hi 1 := by rw [rangeSize_one]; split <;> omega
    show IsRangeIter _ _ (lo + ((0 : Nat) : Int) * 1) ((((hi - lo).toNat : Nat) : Int) - ((0 : Nat) : Int)) 1
    rw [e1, e2]
    exact Heap.get?_push_size _ rfl
  . have e : b = (s.heap.push { cls := .type "range", data := .fields #[.int lo t, .int hi u, .int 1 v] }).objs.size := by simpa using hb
    subst e
    exact I1.fpOk (Nat.le_refl _) (I1.hok.fresh (Nat.le_refl _))
def iRng1 (ta : TA) : TI := fun σ H R => ta σ H fun vs H1 => ∃ j : Int, vs = [.int j] /\ -(2 ^ 62) <= j /\ j < 2 ^ 62 /\ R (Itr 0 j.toNat) H1
def iRng2 (ta : TA) : TI := fun σ H R => ta σ H fun vs H1 => ∃ i j : Int, vs = [.int i, .int j] /\ (-(2 ^ 62) <= i /\ i < 2 ^ 62 /\ -(2 ^ 62) <= j /\ j < 2 ^ 62) /\ R (Itr i (j - i).toNat) H1
theorem pi_range1 {a : Expr} {ta : TA} {p pos : Pos} (hg : Gl X "range") (hm : X.mg "range" = none) (ha : PA X [a] ta) (hs : starEach [a] X.env = [(false, eval a X.env)] := by rfl) : PI X tg (.Call (.Name "range" p) [a] [] pos) (iRng1 ta) := by
  intro pins s σ H R I h
  refine Call_ (ld_blt I hg hm boot_range (PyProof.Rows.callWith_type1 (thn (ha pos pins s σ H _ I h) fun us s1 ⟨vs, H1, I1, r1, q1⟩ => ?_) hs rfl))
  obtain ⟨j, e, q1, q2, q⟩ := q1
  subst e
  cases r1 with
  | cons r rr =>
    cases rr
    obtain ⟨t, rfl⟩ := r
    exact call_range_1 (range_it I1 (by omega) (by omega) q1 q2 (by simpa using q))
theorem pi_range2 {a b : Expr} {ta : TA} {p pos : Pos} (hg : Gl X "range") (hm : X.mg "range" = none) (ha : PA X [a, b] ta) (hs : starEach [a, b] X.env = [(false, eval a X.env), (false, eval b X.env)] := by rfl) (hs2 : starEach [b] X.env = [(false, eval b X.env)] := by rfl) :
    PI X tg (.Call (.Name "range" p) [a, b] [] pos) (iRng2 ta) := by
  intro pins s σ H R I h
  refine Call_ (ld_blt I hg hm boot_range (PyProof.Rows.callWith_type1 (thn (ha pos pins s σ H _ I h) fun us s1 ⟨vs, H1, I1, r1, q1⟩ => ?_) (by rw [hs, hs2]) (by rw [hs2]; rfl)))
  obtain ⟨i, j, e, ⟨q1, q2, q3, q4⟩, q⟩ := q1
  subst e
  cases r1 with
  | cons r rr =>
    cases rr with
    | cons r' rr =>
      cases rr
      obtain ⟨t, rfl⟩ := r
      obtain ⟨t', rfl⟩ := r'
      exact call_range_2 (range_it I1 q1 q2 q3 q4 q)
def tFor (wi : TI) (g : TG) (tb : TS) : TS := fun D σ H => wi σ H fun J H1 => ∃ W : Nat -> Nat -> St -> Hp -> Prop, (∃ m, W 0 m σ H1) /\ ∀ i m σ H, W i m σ H ->
  (J.stop i H /\ D.nx σ H) \/ (J.go i H /\ ∃ N : St -> Hp -> Prop, (∀ σ' H', N σ' H' -> ∃ m', m' < m /\ W (i + 1) m' σ' H') /\ ∀ x H', J.yld i H x H' -> g x σ H' fun σ2 H2 => tb { D with nx := N, ct := N, bk := D.nx } σ2 H2)
def pinsAt (fp : List Addr) (h : Heap) : List (Addr × Obj) := fp.filterMap fun b => (h.get? b).map fun o => (b, o)
theorem mem_pinsAt {fp : List Addr} {h : Heap} {b : Addr} {o : Obj} (hb : b ∈ fp) (e : h.get? b = some o) : (b, o) ∈ pinsAt fp h := List.mem_filterMap.mpr ⟨b, hb, by rw [e]; rfl⟩
theorem of_pinsAt {fp : List Addr} {h : Heap} {p : Addr × Obj} (hp : p ∈ pinsAt fp h) : p.1 ∈ fp /\ h.get? p.1 = some p.2 := by
  obtain ⟨b, hb, e⟩ := List.mem_filterMap.mp hp
  cases q : h.get? b with
  | none => rw [q] at e; cases e
  | some o =>
    rw [q] at e
    have e' : (b, o) = p := Option.some.inj e
    subst e'
    exact ⟨hb, q⟩
theorem Inv.pinned {pins : List (Addr × Obj)} {σ : St} {H : Hp} {s : Shared} {fp : List Addr} (I : Inv X pins σ H s) (hf : ∀ b ∈ fp, FpOk X pins H b) (ho : ∀ b ∈ fp, ∃ o, s.heap.get? b = some o /\ ∀ v, o.data ≠ .cell v) : Inv X (pins ++ pinsAt fp s.heap) σ H s :=
  I.pins_of fun p hp => (List.mem_append.mp hp).elim (fun z => I.pin p (List.mem_append_right _ z)) fun z => by
    obtain ⟨hb, e⟩ := of_pinsAt z
    obtain ⟨f0, f1, f2, _⟩ := hf p.1 hb
    obtain ⟨o, e', d⟩ := ho p.1 hb
    rw [e] at e'; cases e'
    exact ⟨e, f0, f1, f2, d⟩
theorem Inv.unpinned {pins pl : List (Addr × Obj)} {σ : St} {H : Hp} {s : Shared} (I : Inv X (pins ++ pl) σ H s) : Inv X pins σ H s := I.pins_of fun p hp => I.pin p (List.mem_append_right _ (List.mem_append_left _ hp))
theorem ps_for {iter : Expr} {body : List Stmt} {wi : TI} {g : TG} {tb : TS} {pos : Pos} (hp : PassesOwn (model X.prog X.w) X.A X.env X.xe) (hc : X.calm = true) (hi : PI X tg iter wi) (hg : PG X tg g) (hb : PSs X body tb)
    (hs : ∀ x, foldedSetIterable iter X.env x = pure x := by intro _; rfl) : PS X (.For tg iter body [] pos) (tFor wi g tb) := by
  intro pins s σ H D I h
  refine wpAny_For (thn (hi pins s σ H _ I h) fun v s1 h1 => thn h1 fun itv s2 h2 => ?_) hs
  obtain ⟨it, fp, tn, J, H2, e, I2, T, st2, f2, W, ⟨m0, w0⟩, turn⟩ := h2
  subst e
  -- what stays true of the iterator's objects through the loop
  have stat : ∀ {H' : Hp}, (∀ b ∈ fp, H' b = none) -> ∀ b ∈ fp, FpOk X pins H' b := fun hn b hb => ⟨hn b hb, (f2 b hb).2⟩
  refine codeAny_forLoop_any (fun n s' => ∃ i σ' H', Inv X pins σ' H' s' /\ tn i s'.heap /\ (∀ b ∈ fp, H' b = none) /\ W i n σ' H') ?_ m0 ⟨0, σ, H2, I2, st2, fun b hb => (f2 b hb).1, w0⟩
  rintro n s3 ⟨i, σ3, H3, I3, st3, fr3, w3⟩
  rcases turn i n σ3 H3 w3 with ⟨stop, qn⟩ | ⟨go, N, hN, step⟩
  . refine wpAny_passesOwn hp (thn (T.done X rfl rfl rfl hc i pins s3 σ3 H3 X.xe I3 (stat fr3) st3 stop) fun r s4 ⟨hr, I4⟩ => ?_)
    subst hr
    exact wpAny_execs_nil ⟨σ3, H3, I4, qn⟩
  . refine wpAny_passesOwn hp (thn (T.item X rfl rfl rfl hc i pins s3 σ3 H3 X.xe I3 (stat fr3) st3 go) fun r s4 ⟨u, hr, h4⟩ => ?_)
    subst hr
    refine wpAny_passesOwn hp (thn h4 fun _ s5 ⟨x, H5, I5, r5, y5, st5, fr5⟩ => ?_)
    have I5' := I5.pinned (stat fr5) (T.obj _ _ st5)
    refine wpAny_passesOwn hp (thn (hg _ s5 σ3 H5 x u _ I5' r5 (step x H5 y5)) fun _ s6 ⟨σ6, H6, I6, q6⟩ => ?_)
    refine wpAny_passesOwn hp (thn (hb _ s6 σ6 H6 _ I6 q6) fun f s7 q7 => ?_)
    have again : ∀ {σ7 : St} {H7 : Hp}, Inv X (pins ++ pinsAt fp s5.heap) σ7 H7 s7 -> N σ7 H7 -> ∃ m, m < n /\ ∃ i σ' H', Inv X pins σ' H' s7 /\ tn i s7.heap /\ (∀ b ∈ fp, H' b = none) /\ W i m σ' H' := fun {σ7 H7} I7 n7 => by
      obtain ⟨m', hm, w7⟩ := hN σ7 H7 n7
      refine ⟨m', hm, i + 1, σ7, H7, I7.unpinned, T.keep _ _ _ st5 fun b hb o e => (I7.pin (b, o) (List.mem_append_right _ (List.mem_append_right _ (mem_pinsAt hb e)))).1, fun b hb => ?_, w7⟩
      obtain ⟨o, e, d⟩ := T.obj _ _ st5 b hb
      exact (I7.pin (b, o) (List.mem_append_right _ (List.mem_append_right _ (mem_pinsAt hb e)))).2.1
    cases f with
    | next => obtain ⟨σ7, H7, I7, n7⟩ := q7; exact again I7 n7
    | cont => obtain ⟨σ7, H7, I7, n7⟩ := q7; exact again I7 n7
    | brk => obtain ⟨σ7, H7, I7, q7⟩ := q7; exact ⟨σ7, H7, I7.unpinned, q7⟩
    | ret v => obtain ⟨x7, σ7, H7, I7, r7, q7⟩ := q7; exact ⟨x7, σ7, H7, I7.unpinned, r7, q7⟩
end
theorem for_list {K : PySem.W.Frag} {a : Addr} {xs : List V} {g : TG} {tb : TS} {D : Ends} {σ : St} {H : Hp} (Pv : Nat -> St -> Hp -> Prop) (h0 : Pv 0 σ H) (hl : ∀ i σ H, i <= xs.length -> Pv i σ H -> SqL K H a xs)
    (hs : ∀ i x σ H, xs[i]? = some x -> Pv i σ H -> g x σ H fun σ2 H2 => tb { D with nx := Pv (i + 1), ct := Pv (i + 1), bk := D.nx } σ2 H2) (hd : ∀ σ H, Pv xs.length σ H -> D.nx σ H) :
    ∃ W : Nat -> Nat -> St -> Hp -> Prop, (∃ m, W 0 m σ H) /\ ∀ i m σ H, W i m σ H ->
      ((Itl K a).stop i H /\ D.nx σ H) \/ ((Itl K a).go i H /\ ∃ N : St -> Hp -> Prop, (∀ σ' H', N σ' H' -> ∃ m', m' < m /\ W (i + 1) m' σ' H') /\ ∀ x H', (Itl K a).yld i H x H' -> g x σ H' fun σ2 H2 => tb { D with nx := N, ct := N, bk := D.nx } σ2 H2) := by
  refine ⟨fun i m σ H => m = xs.length - i /\ i <= xs.length /\ Pv i σ H, ⟨xs.length, by simp, Nat.zero_le _, h0⟩, ?_⟩
  rintro i m σ H ⟨rfl, hi, p⟩
  have q := hl i σ H hi p
  by_cases hlt : i < xs.length
  . refine .inr ⟨⟨xs, xs[i], q, by simp [hlt]⟩, Pv (i + 1), fun σ' H' p' => ⟨xs.length - (i + 1), by omega, rfl, hlt, p'⟩, fun x H' y => ?_⟩
    obtain ⟨e, y⟩ := y
    subst e
    exact hs i x σ _ (y xs q) p
  . have e : i = xs.length := by omega
    subst e
    exact .inl ⟨⟨xs, q, Nat.le_refl _⟩, hd σ H p⟩
theorem for_tup {K : PySem.W.Frag} {a : Addr} {xs : List V} {g : TG} {tb : TS} {D : Ends} {σ : St} {H : Hp} (Pv : Nat -> St -> Hp -> Prop) (h0 : Pv 0 σ H) (hl : ∀ i σ H, i <= xs.length -> Pv i σ H -> SqT K H a xs)
    (hs : ∀ i x σ H, xs[i]? = some x -> Pv i σ H -> g x σ H fun σ2 H2 => tb { D with nx := Pv (i + 1), ct := Pv (i + 1), bk := D.nx } σ2 H2) (hd : ∀ σ H, Pv xs.length σ H -> D.nx σ H) :
    ∃ W : Nat -> Nat -> St -> Hp -> Prop, (∃ m, W 0 m σ H) /\ ∀ i m σ H, W i m σ H ->
      ((Itt K a).stop i H /\ D.nx σ H) \/ ((Itt K a).go i H /\ ∃ N : St -> Hp -> Prop, (∀ σ' H', N σ' H' -> ∃ m', m' < m /\ W (i + 1) m' σ' H') /\ ∀ x H', (Itt K a).yld i H x H' -> g x σ H' fun σ2 H2 => tb { D with nx := N, ct := N, bk := D.nx } σ2 H2) := by
  refine ⟨fun i m σ H => m = xs.length - i /\ i <= xs.length /\ Pv i σ H, ⟨xs.length, by simp, Nat.zero_le _, h0⟩, ?_⟩
  rintro i m σ H ⟨rfl, hi, p⟩
  have q := hl i σ H hi p
  by_cases hlt : i < xs.length
  . refine .inr ⟨⟨xs, xs[i], q, by simp [hlt]⟩, Pv (i + 1), fun σ' H' p' => ⟨xs.length - (i + 1), by omega, rfl, hlt, p'⟩, fun x H' y => ?_⟩
    obtain ⟨e, y⟩ := y
    subst e
    exact hs i x σ _ (y xs q) p
  . have e : i = xs.length := by omega
    subst e
    exact .inl ⟨⟨xs, q, Nat.le_refl _⟩, hd σ H p⟩
theorem for_range {lo : Int} {n : Nat} {g : TG} {tb : TS} {D : Ends} {σ : St} {H : Hp} (Pv : Nat -> St -> Hp -> Prop) (h0 : Pv 0 σ H)
    (hs : ∀ i σ H, i < n -> Pv i σ H -> g (.int (lo + i)) σ H fun σ2 H2 => tb { D with nx := Pv (i + 1), ct := Pv (i + 1), bk := D.nx } σ2 H2) (hd : ∀ σ H, Pv n σ H -> D.nx σ H) :
    ∃ W : Nat -> Nat -> St -> Hp -> Prop, (∃ m, W 0 m σ H) /\ ∀ i m σ H, W i m σ H ->
      ((Itr lo n).stop i H /\ D.nx σ H) \/ ((Itr lo n).go i H /\ ∃ N : St -> Hp -> Prop, (∀ σ' H', N σ' H' -> ∃ m', m' < m /\ W (i + 1) m' σ' H') /\ ∀ x H', (Itr lo n).yld i H x H' -> g x σ H' fun σ2 H2 => tb { D with nx := N, ct := N, bk := D.nx } σ2 H2) := by
  refine ⟨fun i m σ H => m = n - i /\ i <= n /\ Pv i σ H, ⟨n, by simp, Nat.zero_le _, h0⟩, ?_⟩
  rintro i m σ H ⟨rfl, hi, p⟩
  by_cases hlt : i < n
  . refine .inr ⟨hlt, Pv (i + 1), fun σ' H' p' => ⟨n - (i + 1), by omega, rfl, hlt, p'⟩, fun x H' y => ?_⟩
    obtain ⟨e, y⟩ := y
    subst e y
    exact hs i σ _ hlt p
  . have e : i = n := by omega
    subst e
    exact .inl ⟨Nat.le_refl _, hd σ H p⟩
end L2
namespace L2
open PySem PySem.Spec PyProof.Rows
abbrev R2 := V -> V -> Hp -> VK -> Prop
def OpR (X : Cx) (f : Value -> Value -> Sem Value) (r : R2) : Prop :=
  ∀ (pins : List (Addr × Obj)) (s : Shared) (σ : St) (H : Hp) (x y : V) (v u : Value) (Q : VK), Inv X pins σ H s -> RelV x v -> RelV y u -> r x y H Q ->
    wpAny (model X.prog X.w) X.A (f v u) (EP X pins σ Q) X.xe s
def UnR (X : Cx) (f : Value -> Sem Value) (r : V -> Hp -> VK -> Prop) : Prop :=
  ∀ (pins : List (Addr × Obj)) (s : Shared) (σ : St) (H : Hp) (x : V) (v : Value) (Q : VK), Inv X pins σ H s -> RelV x v -> r x H Q ->
    wpAny (model X.prog X.w) X.A (f v) (EP X pins σ Q) X.xe s
def CallR (X : Cx) (f : Value) (r : List V -> Hp -> VK -> Prop) : Prop :=
  ∀ (pins : List (Addr × Obj)) (s : Shared) (σ : St) (H : Hp) (xs : List V) (us : List Value) (Q : VK), Inv X pins σ H s -> Vals xs us -> r xs H Q ->
    wpAny (model X.prog X.w) X.A (call f us) (EP X pins σ Q) X.xe s
def tOp (r : R2) (ta tb : TE) : TE := fun σ H Q => ta σ H fun x H1 => tb σ H1 fun y H2 => r x y H2 Q
def tUn (r : V -> Hp -> VK -> Prop) (ta : TE) : TE := fun σ H Q => ta σ H fun x H1 => r x H1 Q
def rI (C : Int -> Int -> Prop) (g : Int -> Int -> V) : R2 := fun x y H Q => ∃ i j, x = .int i /\ y = .int j /\ C i j /\ Q (g i j) H
def rI0 (g : Int -> Int -> V) : R2 := fun x y H Q => ∃ i j, x = .int i /\ y = .int j /\ Q (g i j) H
def rU (g : Int -> V) : V -> Hp -> VK -> Prop := fun x H Q => ∃ i, x = .int i /\ Q (g i) H
section
variable {X : Cx} {a b c : Expr} {ta tb tc : TE} {pos : Pos}
theorem binT (ha : PE X a ta) (hb : PE X b tb) {pins : List (Addr × Obj)} {s : Shared} {σ : St} {H : Hp} {R : V -> V -> Hp -> Prop} (I : Inv X pins σ H s)
    (h : ta σ H fun x H1 => tb σ H1 fun y H2 => R x y H2) {Q : Value -> Shared -> Prop} {f : Value -> Value -> Sem Value}
    (hf : ∀ v u s2 x y H2, Inv X pins σ H2 s2 -> RelV x v -> RelV y u -> R x y H2 -> wpAny (model X.prog X.w) X.A (f v u) Q X.xe s2) :
    wpAny (model X.prog X.w) X.A (eval a X.env) (fun v s₁ => wpAny (model X.prog X.w) X.A (eval b X.env) (fun u s₂ => wpAny (model X.prog X.w) X.A (f v u) Q X.xe s₂) X.xe s₁) X.xe s := by
  refine thn (ha pins s σ H _ I h) fun v s1 ⟨x, H1, I1, r1, q1⟩ => ?_
  refine thn (hb pins s1 σ H1 _ I1 q1) fun u s2 ⟨y, H2, I2, r2, q2⟩ => ?_
  exact hf v u s2 x y H2 I2 r1 r2 q2
theorem pe_op {op : Operator} {r : R2} (ho : OpR X (binaryOp op) r) (ha : PE X a ta) (hb : PE X b tb) : PE X (.BinOp a op b pos) (tOp r ta tb) := by
  intro pins s σ H Q I h
  exact wpAny_BinOp (binT ha hb I h fun v u s2 x y H2 I2 rx ry q => ho pins s2 σ H2 x y v u Q I2 rx ry q)
theorem pe_un {op : UnaryOp} {r : V -> Hp -> VK -> Prop} (ho : UnR X (unaryOp op) r) (ha : PE X a ta) : PE X (.UnaryOp op a pos) (tUn r ta) := by
  intro pins s σ H Q I h
  exact UnaryOp_ (thn (ha pins s σ H _ I h) fun v s1 ⟨x, H1, I1, r1, q1⟩ => ho pins s1 σ H1 x v Q I1 r1 q1)
theorem opI {f : Value -> Value -> Sem Value} {C : Int -> Int -> Prop} {g : Int -> Int -> Int}
    (rule : ∀ (i j : Int) (t u : Tok) (s : Shared) (Q : Value -> Shared -> Prop) (E : Value -> Shared -> Prop), C i j -> Q (.int (g i j) s.toks) { s with toks := s.toks + 1 } -> wpAny (model X.prog X.w) X.A (f (.int i t) (.int j u)) Q E s) :
    OpR X f (rI C fun i j => .int (g i j)) := by
  intro pins s σ H x y v u Q I rx ry h
  obtain ⟨i, j, rfl, rfl, hc, q⟩ := h
  obtain ⟨t, rfl⟩ := rx
  obtain ⟨t', rfl⟩ := ry
  exact rule i j t t' s _ _ hc ⟨.int (g i j), H, I.tok _, ⟨_, rfl⟩, q⟩
theorem opI0 {f : Value -> Value -> Sem Value} {g : Int -> Int -> Int}
    (rule : ∀ (i j : Int) (t u : Tok) (s : Shared) (Q : Value -> Shared -> Prop) (E : Value -> Shared -> Prop), Q (.int (g i j) s.toks) { s with toks := s.toks + 1 } -> wpAny (model X.prog X.w) X.A (f (.int i t) (.int j u)) Q E s) :
    OpR X f (rI0 fun i j => .int (g i j)) := by
  intro pins s σ H x y v u Q I rx ry h
  obtain ⟨i, j, rfl, rfl, q⟩ := h
  obtain ⟨t, rfl⟩ := rx
  obtain ⟨t', rfl⟩ := ry
  exact rule i j t t' s _ _ ⟨.int (g i j), H, I.tok _, ⟨_, rfl⟩, q⟩
theorem opB0 {f : Value -> Value -> Sem Value} {g : Int -> Int -> Bool}
    (rule : ∀ (i j : Int) (t u : Tok) (s : Shared) (Q : Value -> Shared -> Prop) (E : Value -> Shared -> Prop), Q (.bool (g i j)) s -> wpAny (model X.prog X.w) X.A (f (.int i t) (.int j u)) Q E s) :
    OpR X f (rI0 fun i j => .bl (g i j)) := by
  intro pins s σ H x y v u Q I rx ry h
  obtain ⟨i, j, rfl, rfl, q⟩ := h
  obtain ⟨t, rfl⟩ := rx
  obtain ⟨t', rfl⟩ := ry
  exact rule i j t t' s _ _ ⟨.bl (g i j), H, I, rfl, q⟩
def CDiv (i j : Int) : Prop := 0 < j /\ j < 1073741824
def CPow (i j : Int) : Prop := 0 <= j /\ j <= 1000000 /\ i.natAbs < 2 ^ 64
def CMul (i j : Int) : Prop := (-(2 ^ 64) < i /\ i < 2 ^ 64) \/ (-(2 ^ 64) < j /\ j < 2 ^ 64)
theorem CMul.ok {i j : Int} (h : CMul i j) : IntMulOk i j := by
  rcases h with ⟨h1, h2⟩ | ⟨h1, h2⟩
  . exact .of_left (intBits_le_64 h1 h2)
  . exact .of_right (intBits_le_64 h1 h2)
theorem op_add : OpR X (binaryOp .Add) (rI0 fun i j => .int (i + j)) := opI0 fun _ _ _ _ _ _ _ q => add_int q
theorem op_mul : OpR X (binaryOp .Mult) (rI CMul fun i j => .int (i * j)) := opI fun _ _ _ _ _ _ _ hc q => mul_int q hc.ok
theorem op_fdiv : OpR X (binaryOp .FloorDiv) (rI CDiv fun i j => .int (i / j)) := opI fun i j _ _ _ _ _ hc q => by
  have h1 : (0 : Int) < j := hc.1
  have h2 : j < 1073741824 := hc.2
  exact floordiv_int (by omega) (by rw [Int.fdiv_eq_ediv_of_nonneg i (by omega)]; exact q) (.inl (PyProof.noPylong_small (by omega)))
theorem op_mod : OpR X (binaryOp .Mod) (rI (fun _ j => 0 < j) fun i j => .int (i % j)) := opI fun i j _ _ _ _ _ hc q => by
  have h1 : (0 : Int) < j := hc
  exact mod_int' (by omega) (by rw [Int.fmod_eq_emod_of_nonneg i (by omega)]; exact q)
theorem op_pow : OpR X (binaryOp .Pow) (rI CPow fun i j => .int (i ^ j.toNat)) := opI fun _ _ _ _ _ _ _ hc q => pow_int_small hc.1 hc.2.1 hc.2.2 q
theorem unI {f : Value -> Sem Value} {g : Int -> Int}
    (rule : ∀ (i : Int) (t : Tok) (s : Shared) (Q : Value -> Shared -> Prop) (E : Value -> Shared -> Prop), Q (.int (g i) s.toks) { s with toks := s.toks + 1 } -> wpAny (model X.prog X.w) X.A (f (.int i t)) Q E s) :
    UnR X f (rU fun i => .int (g i)) := by
  intro pins s σ H x v Q I rx h
  obtain ⟨i, rfl, q⟩ := h
  obtain ⟨t, rfl⟩ := rx
  exact rule i t s _ _ ⟨.int (g i), H, I.tok _, ⟨_, rfl⟩, q⟩
theorem un_neg : UnR X (unaryOp .USub) (rU fun i => .int (-i)) := unI fun _ _ _ _ _ q => neg_int q
end
def scal : V -> V -> Bool
  | .non, .non => true | .non, .int _ => true | .int _, .non => true | .non, .bl _ => true | .bl _, .non => true | .non, .str _ => true | .str _, .non => true
  | .int _, .int _ => true | .bl _, .bl _ => true | .str _, .str _ => true | .byt _, .byt _ => true
  | .int _, .str _ => true | .str _, .int _ => true | .bl _, .str _ => true | .str _, .bl _ => true
  | _, _ => false
def rNe : R2 := fun x y H Q => scal x y = true /\ Q (.bl (!decide (x = y))) H
theorem dec_int {i j : Int} : decide (V.int i = V.int j) = (i == j) := by
  rw [Bool.eq_iff_iff]
  simp
theorem dec_bl {i j : Bool} : decide (V.bl i = V.bl j) = (i == j) := by
  rw [Bool.eq_iff_iff]
  simp
theorem dec_str {i j : Str} : decide (V.str i = V.str j) = (i == j) := by
  rw [Bool.eq_iff_iff]
  simp
theorem dec_byt {i j : Array UInt8} : decide (V.byt i = V.byt j) = (i.toList == j.toList) := by
  rw [Bool.eq_iff_iff]
  cases i
  cases j
  simp
section
variable {X : Cx} {a b c : Expr} {ta tb tc : TE} {pos : Pos}
theorem fin_bl {pins : List (Addr × Obj)} {σ : St} {H : Hp} {s : Shared} {Q : VK} {k k' : Bool} (I : Inv X pins σ H s) (q : Q (.bl k) H) (e : k = k') : EP X pins σ Q (.bool k') s := by
  subst e
  exact ⟨.bl k, H, I, rfl, q⟩
theorem op_ne : OpR X (compareOp .NotEq) rNe := by
  intro pins s σ H x y v u Q I rx ry h
  obtain ⟨hs, q⟩ := h
  cases x with
  | non =>
    cases rx
    cases y with
    | non => cases ry; exact PySem.EqNone.ne_none_none (fin_bl I q (by simp))
    | bl j => cases ry; exact PySem.EqNone.ne_none_bool (fin_bl I q (by simp))
    | int j => obtain ⟨t', rfl⟩ := ry; exact PySem.EqNone.ne_none_int (fin_bl I q (by simp))
    | str j => obtain ⟨t', rfl⟩ := ry; exact PySem.EqNone.ne_none_str (fin_bl I q (by simp))
    | _ => exact absurd (show false = true from hs) Bool.false_ne_true
  | bl i =>
    cases rx
    cases y with
    | non => cases ry; exact PySem.EqNone.ne_bool_none (fin_bl I q (by simp))
    | bl j => cases ry; exact ne_bool (fin_bl I q (congrArg not dec_bl))
    | str j => obtain ⟨t', rfl⟩ := ry; exact PySem.EqMixed.ne_bool_str (fin_bl I q (by simp))
    | _ => exact absurd (show false = true from hs) Bool.false_ne_true
  | int i =>
    obtain ⟨t, rfl⟩ := rx
    cases y with
    | non => cases ry; exact PySem.EqNone.ne_int_none (fin_bl I q (by simp))
    | int j => obtain ⟨t', rfl⟩ := ry; exact ne_int (fin_bl I q (congrArg not dec_int))
    | str j => obtain ⟨t', rfl⟩ := ry; exact PySem.EqMixed.ne_int_str (fin_bl I q (by simp))
    | _ => exact absurd (show false = true from hs) Bool.false_ne_true
  | str i =>
    obtain ⟨t, rfl⟩ := rx
    cases y with
    | non => cases ry; exact PySem.EqNone.ne_str_none (fin_bl I q (by simp))
    | bl j => cases ry; exact PySem.EqMixed.ne_str_bool (fin_bl I q (by simp))
    | int j => obtain ⟨t', rfl⟩ := ry; exact PySem.EqMixed.ne_str_int (fin_bl I q (by simp))
    | str j => obtain ⟨t', rfl⟩ := ry; exact ne_str (fin_bl I q (congrArg not dec_str))
    | _ => exact absurd (show false = true from hs) Bool.false_ne_true
  | byt i =>
    obtain ⟨t, rfl⟩ := rx
    cases y with
    | byt j => obtain ⟨t', rfl⟩ := ry; exact PySem.W.ne_bytes (fin_bl I q (congrArg not dec_byt))
    | _ => exact absurd (show false = true from hs) Bool.false_ne_true
  | _ => cases y <;> exact absurd (show false = true from hs) Bool.false_ne_true
theorem op_lt : OpR X (compareOp .Lt) (rI0 fun i j => .bl (decide (i < j))) := opB0 fun _ _ _ _ _ _ _ q => lt_int q
theorem op_le : OpR X (compareOp .LtE) (rI0 fun i j => .bl (decide (i <= j))) := opB0 fun _ _ _ _ _ _ _ q => le_int q
theorem op_ge : OpR X (compareOp .GtE) (rI0 fun i j => .bl (decide (j <= i))) := opB0 fun _ _ _ _ _ _ _ q => ge_int q
theorem op_notN : OpR X (compareOp .IsNot) (fun x y H Q => y = .non /\ Q (.bl (!decide (x = .non))) H) := by
  intro pins s σ H x y v u Q I rx ry h
  obtain ⟨rfl, q⟩ := h
  cases ry
  refine isnot_none_gen (fin_bl I q ?_)
  cases x <;> first
    | (cases rx; rfl)
    | (obtain ⟨t, rfl⟩ := rx; rfl)
theorem nomark (b : Expr) {op : CmpOp} (h : op ≠ .In := by decide) (h2 : op ≠ .NotIn := by decide) : behindInMarks op b = false := by
  have e1 : (op == CmpOp.In) = false := by cases op <;> first | rfl | exact absurd rfl h
  have e2 : (op == CmpOp.NotIn) = false := by cases op <;> first | rfl | exact absurd rfl h2
  cases b <;> simp [behindInMarks, e1, e2]
theorem pe_cmpR {op : CmpOp} {r : R2} (ho : OpR X (compareOp op) r) (ha : PE X a ta) (hb : PE X b tb) (hm : behindInMarks op b = false) : PE X (.Compare a [op] [b] pos) (tOp r ta tb) := by
  intro pins s σ H Q I h
  exact wpAny_Compare1 (binT ha hb I h fun v u s2 x y H2 I2 rx ry q => ho pins s2 σ H2 x y v u Q I2 rx ry q) hm
def tTest (t : TE) : TT := fun σ H Q => t σ H fun x H' => ∃ k, x = .bl k /\ Q k H'
theorem pt_cmpR {op : CmpOp} {r : R2} (ho : OpR X (compareOp op) r) (ha : PE X a ta) (hb : PE X b tb) (hm : behindInMarks op b = false) : PT X (.Compare a [op] [b] pos) (tTest (tOp r ta tb)) := by
  intro pins s σ H Q I h
  refine wpAny_isTrue_Compare1 (thn (ha pins s σ H _ I h) fun v s1 ⟨x, H1, I1, r1, q1⟩ => thn (hb pins s1 σ H1 _ I1 q1) fun u s2 ⟨y, H2, I2, r2, q2⟩ =>
    thn (ho pins s2 σ H2 x y v u _ I2 r1 r2 q2) fun c s3 ⟨z, H3, I3, r3, k, e, q3⟩ => ?_) hm
  subst e
  cases r3
  exact wpAny_truthy_bool ⟨H3, I3, q3⟩
def tChain (r r' : R2) (ta tb tc : TE) : TE := fun σ H Q => ta σ H fun x H1 => tb σ H1 fun y H2 => r x y H2 fun z H3 => ∃ k, z = .bl k /\
  (if k = true then tc σ H3 fun w' H4 => r' y w' H4 Q else Q (.bl false) H3)
theorem pe_chain {op op' : CmpOp} {r r' : R2} (ho : OpR X (compareOp op) r) (ho' : OpR X (compareOp op') r') (ha : PE X a ta) (hb : PE X b tb) (hc : PE X c tc)
    (hm : lastMarks [op, op'] [b, c] = false := by with_unfolding_all rfl) : PE X (.Compare a [op, op'] [b, c] pos) (tChain r r' ta tb tc) := by
  intro pins s σ H Q I h
  refine Compare_chain (thn (ha pins s σ H _ I h) fun v s1 ⟨x, H1, I1, r1, q1⟩ => chain_link (thn (hb pins s1 σ H1 _ I1 q1) fun u s2 ⟨y, H2, I2, r2, q2⟩ =>
    thn (ho pins s2 σ H2 x y v u _ I2 r1 r2 q2) fun d s3 ⟨z, H3, I3, r3, k, e, q3⟩ => ?_)) hm
  subst e
  cases r3
  refine wpAny_truthy_bool ?_
  cases k with
  | false => exact ite_ff ⟨.bl false, H3, I3, rfl, q3⟩
  | true => exact ite_tt (chain_last (thn (hc pins s3 σ H3 _ I3 q3) fun w' s4 ⟨z', H4, I4, r4, q4⟩ => ho' pins s4 σ H4 y z' u w' Q I4 r2 r4 q4))
theorem line63 : (sizeLine : Nat) < 2 ^ 63 := by rw [sizeLine_eq]; decide
theorem vals1 {x : V} {us : List Value} (r : Vals [x] us) : ∃ u, us = [u] /\ RelV x u := by
  cases r with
  | cons r1 r2 => cases r2; exact ⟨_, rfl, r1⟩
theorem vals2 {x y : V} {us : List Value} (r : Vals [x, y] us) : ∃ u w', us = [u, w'] /\ RelV x u /\ RelV y w' := by
  cases r with
  | cons r1 r2 =>
    cases r2 with
    | cons r3 r4 => cases r4; exact ⟨_, _, rfl, r1, r3⟩
end
end L2
namespace L2
open PySem PySem.Spec PyProof.Rows
structure ObjM (h : Heap) (x dx C : Addr) (mA : Str -> Option Value) : Prop where
  obj : h.get? x = some (PySem.W.instObj C dx)
  ns : h.Ns1 dx mA
  ne : dx ≠ x
theorem lookIn_ns {h : Heap} {dx : Addr} {mA : Str -> Option Value} (n : h.Ns1 dx mA) : ∃ od, h.get? dx = some od /\ ∀ name, PySem.W.lookIn name od = some (mA name) := by
  obtain ⟨o, es, ep, ho, hd, hk, _, hm⟩ := n
  refine ⟨o, ho, fun name => ?_⟩
  have e := hm name
  unfold nsFind findBy at e
  rw [<- Array.find?_toList] at e
  unfold PySem.W.lookIn
  rw [hd]
  dsimp only
  split
  . rename_i y q
    rw [q] at e
    exact congrArg some e
  . rename_i q
    rw [q] at e
    have a : es.toList.any (·.refKey) = false := by
      rw [List.any_eq_false]
      intro y hy
      obtain ⟨z, t, hkey⟩ := hk y (Array.mem_toList_iff.mp hy)
      simp [DictEntry.refKey, hkey]
    have a' : ¬ es.toList.any (·.refKey) = true := by rw [a]; exact Bool.false_ne_true
    rw [if_neg a']
    exact congrArg some e
theorem ObjM.look {h : Heap} {x dx C : Addr} {mA : Str -> Option Value} (I : ObjM h x dx C mA) : ∃ od, PySem.W.InstAt h x (PySem.W.instObj C dx) C (some od) /\ ∀ name, PySem.W.lookIn name od = some (mA name) :=
  let ⟨od, ho, hl⟩ := lookIn_ns I.ns
  ⟨od, ⟨I.obj, rfl, rfl, ho⟩, hl⟩
section
variable {prog : Program} {w : World} {A : Around} {E : Value -> Shared -> Prop} {s : Shared} {K : PySem.W.Frag} {x dx C f : Addr} {mA : Str -> Option Value} {name : Str} {v : Value}
theorem get_map {expr : Bool} {Q : Value -> Shared -> Prop} (X : K.In s.heap) (I : ObjM s.heap x dx C mA) (hg : PySem.W.plainGet K C name = true) (hh : PySem.W.hasDictIn K C = true)
    (ha : PySem.W.findIn K (.ref C) name = some none) (hv : mA name = some v) (hv' : PySem.W.handedIn v = true) (h : Q v { s with toks := s.toks + 1 }) :
    wpAny (model prog w) A (getAttr (.ref x) name expr) Q E s := by
  obtain ⟨od, J, hl⟩ := I.look
  exact PySem.W.get_value X J (PySem.W.plainGet_of hg).1 (PySem.W.findObj_own hh ha rfl (by rw [hl, hv])) hv' h
theorem get_meth {pl : Sem Bool} {Q : Value × List Value -> Shared -> Prop} (X : K.In s.heap) (I : ObjM s.heap x dx C mA) (hg : PySem.W.plainGet K C name = true)
    (hf : PySem.W.findIn K (.ref C) name = some (some (.ref f))) (ht : PySem.W.isFn K (.ref f) = true) (hv : mA name = none) (h : Q (.ref f, [.ref x]) s) :
    wpAny (model prog w) A (getMethod (.ref x) name pl) Q E s := by
  obtain ⟨od, J, hl⟩ := I.look
  exact PySem.W.method_fn X J (PySem.W.plainGet_of hg).1 (PySem.W.plainGet_of hg).2 hf (beq_iff_eq.mp ht) (by show (PySem.W.lookIn name od).map (·.isSome) = some false; rw [hl, hv]; rfl) h
theorem set_map {ns : List Str} {Q : Unit -> Shared -> Prop} (X : K.In s.heap) (I : ObjM s.heap x dx C mA)
    (hs : PySem.W.findIn K (.ref C) "__setattr__" = some (some (.builtin "object.__setattr__"))) (hp : PySem.W.plainOver K C = true) (ht : PySem.W.takerIn K C name = some none) (hh : PySem.W.hasDictIn K C = true)
    (hw : PySem.Within mA ns) (hsz : ns.length <= sizeLine)
    (h : ∀ h', ObjM h' x dx C (fun y => if y = name then some v else mA y) -> Heap.SameBut dx s.heap h' -> Q () { s with heap := h', toks := s.toks + 2 }) :
    wpAny (model prog w) A (setAttr (.ref x) name v) Q E s := by
  obtain ⟨od, J, hl⟩ := I.look
  refine PySem.W.set_plain X J hs (PySem.W.osa_open (s := { s with toks := s.toks + 1 }) (r := none) X J hp ht fun b => ?_)
  obtain ⟨cd, hc, hd'⟩ := PySem.W.any_some hh
  have hx : s.heap.get? x = some ⟨.ref C, some dx, .plain, #[]⟩ := I.obj
  refine wpAny_bind (wpAny_pure (wpAny_bind (wpAny_bind (wpAny_loadPart hx (wpAny_bind (PySem.W.Looks.here (s := { s with toks := s.toks + 1 }) (PySem.W.looks_clsIn X hc) ?_))))))
  rw [hd']
  refine wpAny_pure (a := some dx) (wpAny_bind (wpAny_pure (wpAny_bind ?_)))
  refine wpAny_nsSet1 (s := { s with toks := s.toks + 1 }) I.ns fun h' hn2 hs2 => ?_
  obtain ⟨oD, esD, epD, hoD, hdD, hcD⟩ := hn2.count (PySem.Within.cons name v hw)
  refine wpAny_bind (wpAny_lookBehind hoD (by rw [hdD]; exact pastItsLine_dict (Nat.le_trans hcD (by rw [List.length_cons]; omega))) ?_)
  exact wpAny_pure (h _ ⟨(hs2.2 _ (Ne.symm I.ne)).trans I.obj, hn2, I.ne⟩ hs2)
theorem make_map {R : Result -> Shared -> Prop} {vs : List Value} {kw : List (Str × Value)} (X : K.In s.heap) (hm : PySem.W.makesIn K C = true)
    (hi : PySem.W.findIn K (.ref C) "__init__" = some (some (.ref f))) (hf : PySem.W.typeIn K (.ref f) = some (.type "function"))
    (h : codeAny (model prog w) (A.under (.builtin "type.__call__" ⟨.ref C :: vs, kw⟩)) (.call (.ref f) ⟨.ref (s.heap.objs.size + 1) :: vs, kw⟩) (PySem.W.InitBack (s.heap.objs.size + 1) R)
      { s with heap := (s.heap.push PySem.W.emptyDict).push (PySem.W.instObj C s.heap.objs.size) }) :
    codeAny (model prog w) A (.call (.ref C) ⟨vs, kw⟩) R s := by
  obtain ⟨hh, g, d, t, os⟩ := s
  exact PySem.W.make_core (PySem.W.makes_of X hm) (PySem.W.looks_findIn X hi) (fun self => PySem.W.bind_fn X self hf) (.inl rfl) h
end
def putF (f : Str) (v : V) : List (Str × V) -> List (Str × V)
  | [] => [(f, v)]
  | (g, x) :: r => if g = f then (g, v) :: r else (g, x) :: putF f v r
theorem lookup_putF (f g : Str) (v : V) : ∀ fs : List (Str × V), (putF f v fs).lookup g = if g = f then some v else fs.lookup g
  | [] => by
    show List.lookup g [(f, v)] = _
    by_cases h : g = f
    . have hb : (g == f) = true := beq_iff_eq.mpr h
      simp only [List.lookup, hb, if_pos h]
    . have hb : (g == f) = false := beq_eq_false_iff_ne.mpr h
      simp only [List.lookup, hb, if_neg h]
  | (k, x) :: r => by
    have ih := lookup_putF f g v r
    rw [show putF f v ((k, x) :: r) = (if k = f then (k, v) :: r else (k, x) :: putF f v r) from rfl]
    by_cases hk : k = f
    . rw [if_pos hk]
      by_cases h : g = k
      . have hb : (g == k) = true := beq_iff_eq.mpr h
        simp only [List.lookup, hb, if_pos (h.trans hk)]
      . have hb : (g == k) = false := beq_eq_false_iff_ne.mpr h
        simp only [List.lookup, hb, if_neg (fun e : g = f => h (e.trans hk.symm))]
    . rw [if_neg hk]
      by_cases h : g = k
      . have hb : (g == k) = true := beq_iff_eq.mpr h
        simp only [List.lookup, hb, if_neg (fun e : g = f => hk (h.symm.trans e))]
      . have hb : (g == k) = false := beq_eq_false_iff_ne.mpr h
        simp only [List.lookup, hb]
        exact ih
theorem keys_putF (f : Str) (v : V) : ∀ fs : List (Str × V), f ∈ (putF f v fs).map (·.1) /\ ∀ g, g ∈ fs.map (·.1) -> g ∈ (putF f v fs).map (·.1)
  | [] => ⟨by simp [putF], fun g h => by simp at h⟩
  | (k, x) :: r => by
    obtain ⟨i1, i2⟩ := keys_putF f v r
    rw [show putF f v ((k, x) :: r) = (if k = f then (k, v) :: r else (k, x) :: putF f v r) from rfl]
    by_cases hk : k = f
    . rw [if_pos hk]
      subst hk
      exact ⟨by simp, fun g h => by simpa using h⟩
    . rw [if_neg hk]
      refine ⟨?_, fun g h => ?_⟩
      . rw [List.map_cons]
        exact List.mem_cons_of_mem _ i1
      . rw [List.map_cons] at h ⊢
        rcases List.mem_cons.mp h with e | e
        . exact List.mem_cons.mpr (.inl e)
        . exact List.mem_cons_of_mem _ (i2 g e)
theorem length_putF (f : Str) (v : V) : ∀ fs : List (Str × V), (putF f v fs).length <= fs.length + 1
  | [] => by simp [putF]
  | (k, x) :: r => by
    have ih := length_putF f v r
    rw [show putF f v ((k, x) :: r) = (if k = f then (k, v) :: r else (k, x) :: putF f v r) from rfl]
    by_cases hk : k = f
    . rw [if_pos hk, List.length_cons, List.length_cons]; omega
    . rw [if_neg hk, List.length_cons, List.length_cons]; omega
theorem RelO.some_of {v : V} {o : Option Value} (r : RelO (some v) o) : ∃ u, o = some u /\ RelV v u := by
  cases o with
  | none => exact (show False from r).elim
  | some u => exact ⟨u, rfl, r⟩
theorem RelO.none_of {o : Option Value} (r : RelO none o) : o = none := by
  cases o with
  | none => rfl
  | some u => exact (show False from r).elim
theorem handed_of {v : V} {u : Value} (r : RelV v u) : PySem.W.handedIn u = true := by
  cases v with
  | non => cases (show u = Value.none from r); rfl
  | bl b => cases (show u = Value.bool b from r); rfl
  | int i => obtain ⟨t, e⟩ := (show ∃ t, u = Value.int i t from r); cases e; rfl
  | str x => obtain ⟨t, e⟩ := (show ∃ t, u = Value.str x t from r); cases e; rfl
  | byt b => obtain ⟨t, e⟩ := (show ∃ t, u = Value.bytes b t from r); cases e; rfl
  | flt b => obtain ⟨t, e⟩ := (show ∃ t, u = Value.float b t from r); cases e; rfl
  | ref a => cases (show u = Value.ref a from r); rfl
  | ty n => cases (show u = Value.type n from r); rfl
section
variable {P : Program} {w : World} {H H' : Hp} {h h' : Heap} {a C dx : Addr} {fs fs' : List (Str × V)}
theorem ins_get (hok : HOk P w H h) (e : H a = some (.ins C dx fs)) : ∃ mA, ObjM h a dx C mA /\ (∀ f, RelO (fs.lookup f) (mA f)) /\ PySem.Within mA (fs.map (·.1)) /\ fs.length <= 1000 /\ H dx = some (.own a) := by
  obtain ⟨d, z, ne, ob, mA, n, r, q⟩ := (show ObjOk P w H h a (.ins C dx fs) from hok a _ e)
  exact ⟨mA, ⟨ob, n, ne⟩, r, q, z, d⟩
end
structure Cls (K : PySem.W.Frag) (C : Addr) : Prop where
  pg : PySem.W.plainGet K C Str.empty = true
  hd : PySem.W.hasDictIn K C = true
  po : PySem.W.plainOver K C = true
  sa : PySem.W.findIn K (.ref C) "__setattr__" = some (some (.builtin "object.__setattr__"))
theorem Cls.get {K : PySem.W.Frag} {C : Addr} (c : Cls K C) (f : Str) : PySem.W.plainGet K C f = true := c.pg
def NoAttr (K : PySem.W.Frag) (C : Addr) (f : Str) : Prop := PySem.W.findIn K (.ref C) f = some none
theorem NoAttr.taker {K : PySem.W.Frag} {C : Addr} {f : Str} (n : NoAttr K C f) : PySem.W.takerIn K C f = some none := by
  unfold PySem.W.takerIn
  rw [show PySem.W.findIn K (.ref C) f = some none from n]
  rfl
structure Meth (K : PySem.W.Frag) (C : Addr) (m : Str) (f : Addr) : Prop where
  at_ : PySem.W.findIn K (.ref C) m = some (some (.ref f))
  fn : PySem.W.isFn K (.ref f) = true
  kp : PySem.W.keepIn K (.ref f) = true
section
variable {X : Cx} {pins : List (Addr × Obj)} {σ : St} {H : Hp} {s : Shared} {a C dx : Addr} {fs : List (Str × V)} {f : Str} {v : V} {A : Around} {E : Value -> Shared -> Prop}
theorem getattr_ok {b : Bool} {Q : Value -> Shared -> Prop} (I : Inv X pins σ H s) (e : H a = some (.ins C dx fs)) (c : Cls X.K C) (n : NoAttr X.K C f) (l : fs.lookup f = some v)
    (h : ∀ u s', Inv X pins σ H s' -> RelV v u -> Q u s') : wpAny (model X.prog X.w) A (getAttr (.ref a) f b) Q E s := by
  obtain ⟨mA, O, r, _, _, _⟩ := ins_get I.hok e
  obtain ⟨u, hu, ru⟩ := RelO.some_of (v := v) (o := mA f) (by rw [<- l]; exact r f)
  exact get_map I.kIn O (c.get f) c.hd n hu (handed_of ru) (h u _ (I.tok _) ru)
theorem getmeth_ok {m : Str} {g : Addr} {pl : Sem Bool} {Q : Value × List Value -> Shared -> Prop} (I : Inv X pins σ H s) (e : H a = some (.ins C dx fs)) (c : Cls X.K C) (k : Meth X.K C m g) (l : fs.lookup m = none)
    (h : Q (.ref g, [.ref a]) s) : wpAny (model X.prog X.w) A (getMethod (.ref a) m pl) Q E s := by
  obtain ⟨mA, O, r, _, _, _⟩ := ins_get I.hok e
  have hn : mA m = none := RelO.none_of (by rw [<- l]; exact r m)
  exact get_meth I.kIn O (c.get m) k.at_ k.fn hn h
theorem setattr_ok {y : V} {u : Value} {Q : Unit -> Shared -> Prop} (I : Inv X pins σ H s) (e : H a = some (.ins C dx fs)) (c : Cls X.K C) (n : NoAttr X.K C f) (hl : fs.length < 1000) (ry : RelV y u)
    (h : ∀ s', Inv X pins σ (upd H a (.ins C dx (putF f y fs))) s' -> Q () s') : wpAny (model X.prog X.w) A (setAttr (.ref a) f u) Q E s := by
  obtain ⟨mA, O, r, wi, _, ho⟩ := ins_get I.hok e
  have hz : (fs.map (·.1)).length <= sizeLine := by rw [List.length_map, sizeLine_eq]; omega
  refine set_map I.kIn O c.sa c.po n.taker c.hd wi hz fun h' O' sb => h _ ?_
  have hd : ∃ o, h'.get? dx = some o := let ⟨o, _, _, e', _⟩ := O'.ns; ⟨o, e'⟩
  refine I.write (x := a) (e := dx) (by rw [e]; exact True.intro) (.inr ho) (fun b q hb z => (sb.2 b hb).trans z) hd ?_
  refine ⟨by rw [upd_ne O.ne]; exact ho, ?_, O.ne, O'.obj, _, O'.ns, fun g => ?_, fun g hg => ?_⟩
  . have := length_putF f y fs; omega
  . show RelO ((putF f y fs).lookup g) (if g = f then some u else mA g)
    rw [lookup_putF]
    by_cases q : g = f
    . rw [if_pos q, if_pos q]; exact ry
    . rw [if_neg q, if_neg q]; exact r g
  . by_cases q : g = f
    . rw [q]; exact (keys_putF f y fs).1
    . refine (keys_putF f y fs).2 g (wi g fun z => hg ?_)
      show (if g = f then some u else mA g) = none
      rw [if_neg q]; exact z
theorem Inv.made (I : Inv X pins σ H s) : Inv X pins σ (upd (upd H s.heap.objs.size (.own (s.heap.objs.size + 1))) (s.heap.objs.size + 1) (.ins C s.heap.objs.size []))
    { s with heap := (s.heap.push PySem.W.emptyDict).push (PySem.W.instObj C s.heap.objs.size) } := by
  have e1 : (s.heap.push PySem.W.emptyDict).get? s.heap.objs.size = some PySem.W.emptyDict := Heap.get?_push_size s.heap rfl
  have e2 : ((s.heap.push PySem.W.emptyDict).push (PySem.W.instObj C s.heap.objs.size)).get? (s.heap.objs.size + 1) = some (PySem.W.instObj C s.heap.objs.size) := by
    have := Heap.get?_push_size (s.heap.push PySem.W.emptyDict) (o := PySem.W.instObj C s.heap.objs.size) rfl
    rwa [Heap.size_push] at this
  have e3 : (s.heap.push PySem.W.emptyDict).Ns s.heap.objs.size (fun _ => none) := ⟨PySem.W.emptyDict, #[], _, e1, rfl, (fun e he => absurd he (by simp)), fun _ => rfl⟩
  have I1 := I.laid (a := s.heap.objs.size) (o := .own (s.heap.objs.size + 1)) (h' := s.heap.push PySem.W.emptyDict) (t' := s.toks) (fun b u q => Heap.get?_push_of_some _ q) (Nat.le_refl _) ⟨_, e1⟩
  refine I1.laid (a := s.heap.objs.size + 1) (o := .ins C s.heap.objs.size []) (t' := s.toks) (fun b u q => Heap.get?_push_of_some _ q) (Nat.le_of_eq (Heap.size_push _ _)) ?_
  have ne : s.heap.objs.size ≠ s.heap.objs.size + 1 := Nat.ne_of_lt (Nat.lt_succ_self _)
  refine ⟨by rw [upd_ne ne, upd_same], Nat.zero_le _, ne, e2, fun _ => none, (Heap.Ns1.of_empty e3).at fun o q => Heap.get?_push_of_some _ q, fun _ => True.intro, fun y hy => absurd rfl hy⟩
theorem attr_of {prog : Program} {w : World} {env : Env} {e : Expr} {f : Str} {pos : Pos} {s : Shared} {Q : Value -> Shared -> Prop} (hb : attributeBase e f env (eval e env) = eval e env)
    (h : wpAny (model prog w) A (eval e env) (fun o s₁ => wpAny (model prog w) A (getAttr o f true) Q E s₁) E s) : wpAny (model prog w) A (eval (.Attribute e f pos) env) Q E s :=
  Attribute_any_ h (by rw [arm_eval_Attribute, hb])
end
def tFld (K : PySem.W.Frag) (ta : TE) (f : Str) : TE := fun σ H Q => ta σ H fun x H1 => ∃ a C dx fs v, x = .ref a /\ H1 a = some (.ins C dx fs) /\ Cls K C /\ NoAttr K C f /\ fs.lookup f = some v /\ Q v H1
def sFld (K : PySem.W.Frag) (ta tv : TE) (f : Str) : TS := fun D σ H => tv σ H fun y H1 => ta σ H1 fun x H2 => ∃ a C dx fs, x = .ref a /\ H2 a = some (.ins C dx fs) /\ Cls K C /\ NoAttr K C f /\ fs.length < 1000 /\
  D.nx σ (upd H2 a (.ins C dx (putF f y fs)))
section
variable {X : Cx} {o e value : Expr} {f : Str} {pos pos' tpos : Pos} {ta tv : TE}
theorem pe_fld (he : PE X e ta) (hb : attributeBase e f X.env (eval e X.env) = eval e X.env) : PE X (.Attribute e f pos) (tFld X.K ta f) := by
  intro pins s σ H Q I h
  refine attr_of hb (thn (he pins s σ H _ I h) fun u s1 ⟨x, H1, I1, rx, a, C, dx, fs, v, ex, ea, c, n, l, q⟩ => ?_)
  subst ex
  obtain rfl : u = Value.ref a := rx
  exact getattr_ok I1 ea c n l fun u' s2 I2 ru => ⟨v, H1, I2, ru, q⟩
theorem ps_fld (ha : PE X o ta) (hv : PE X value tv) (hs : swapsWith value (some (.Attribute o f pos')) pos.line X.env = pure false) : PS X (.Assign [.Attribute o f pos'] value pos) (sFld X.K ta tv f) := by
  intro pins s σ H D I h
  refine plainObj_wpAny_Assign_Attribute (thn (hv pins s σ H _ I h) fun u s1 ⟨y, H1, I1, ry, q⟩ => thn (ha pins s1 σ H1 _ I1 q) fun ov s2 ⟨x, H2, I2, rx, a, C, dx, fs, ex, ea, c, n, l, q2⟩ => ?_) hs
  subst ex
  obtain rfl : ov = Value.ref a := rx
  exact setattr_ok I2 ea c n l ry fun s3 I3 => ⟨σ, _, I3, q2⟩
end
section
variable {X : Cx} {pins : List (Addr × Obj)} {σ : St} {H : Hp} {s : Shared} {A : Around} {E : Value -> Shared -> Prop} {Q : Value -> Shared -> Prop} {c : Value} {b : Bool}
inductive TyOf (K : PySem.W.Frag) (H : Hp) : V -> Value -> Prop where
  | non : TyOf K H .non (.type "NoneType")
  | bl (x : Bool) : TyOf K H (.bl x) (.type "bool")
  | int (i : Int) : TyOf K H (.int i) (.type "int")
  | str (x : Str) : TyOf K H (.str x) (.type "str")
  | flt (x : UInt64) : TyOf K H (.flt x) (.type "float")
  | lst {a : Addr} {xs : List V} (e : H a = some (.lst xs)) : TyOf K H (.ref a) (.type "list")
  | frz {a : Addr} {o : Obj} {xs : List V} (e : H a = some (.frz o (.lst xs))) : TyOf K H (.ref a) (.type "list")
  | tup {a : Addr} {xs : List V} (e : H a = some (.tup xs)) : TyOf K H (.ref a) (.type "tuple")
  | dK {a : Addr} {kvs : List (Key × V)} (e : H a = some (.dK kvs)) : TyOf K H (.ref a) (.type "dict")
  | dT {a : Addr} {kvs : List (List Key × V)} (e : H a = some (.dT kvs)) : TyOf K H (.ref a) (.type "dict")
  | ins {a C dx : Addr} {fs : List (Str × V)} (e : H a = some (.ins C dx fs)) (cl : Cls K C) (ha : PySem.W.findIn K (.ref C) "__class__" = some (some (.builtin "object.__class__")))
      (hn : PySem.W.specialIn K (.builtin "object.__class__") "__get__" = some (some (.builtin "getset_descriptor.__get__"))) (htk : PySem.W.takesIn K (.builtin "object.__class__") = some true)
      (hm : PySem.W.mroIn K C (.type "object") = some true) : TyOf K H (.ref a) (.ref C)
theorem isinst_ok {x : V} {u t : Value} (I : Inv X pins σ H s) (rx : RelV x u) (ty : TyOf X.K H x t) (e : PySem.W.kitOne X.K t c = some b) (h : ∀ tk, Q (.bool b) { s with toks := tk }) :
    wpAny (model X.prog X.w) A (call (.builtin "isinstance") [u, c]) Q E s := by
  cases ty with
  | non => cases (show u = Value.none from rx); exact PySem.W.kia_one PySem.W.kitx_none I.kIn True.intro e (fun z => nomatch z) h
  | bl y => cases (show u = Value.bool y from rx); exact PySem.W.kia_one PySem.W.kitx_bool I.kIn True.intro e (fun z => nomatch z) h
  | int i => obtain ⟨t, q⟩ := (show ∃ t, u = Value.int i t from rx); cases q; exact PySem.W.kia_one PySem.W.kitx_int I.kIn True.intro e (fun z => nomatch z) h
  | str y => obtain ⟨t, q⟩ := (show ∃ t, u = Value.str y t from rx); cases q; exact PySem.W.kia_one PySem.W.kitx_str I.kIn True.intro e (fun z => nomatch z) h
  | flt y => obtain ⟨t, q⟩ := (show ∃ t, u = Value.float y t from rx); cases q; exact PySem.W.kia_one PySem.W.kitx_float I.kIn True.intro e (fun z => nomatch z) h
  | @lst a xs ea =>
    cases (show u = Value.ref a from rx)
    obtain ⟨_, _, n, _, h1⟩ := (show ObjOk X.prog X.w H s.heap a (.lst xs) from I.hok a _ ea)
    exact PySem.W.kia_one PySem.W.kitx_list I.kIn ⟨_, h1, rfl⟩ e (fun z => nomatch z) h
  | @frz a ob xs ea =>
    cases (show u = Value.ref a from rx)
    obtain ⟨_, _, _, n, _, h1⟩ := (show ObjOk X.prog X.w H s.heap a (.frz ob (.lst xs)) from I.hok a _ ea)
    exact PySem.W.kia_one PySem.W.kitx_list I.kIn ⟨_, h1, rfl⟩ e (fun z => nomatch z) h
  | @tup a xs ea =>
    cases (show u = Value.ref a from rx)
    obtain ⟨_, _, _, p⟩ := (show ObjOk X.prog X.w H s.heap a (.tup xs) from I.hok a _ ea)
    obtain ⟨o, h1, h2, _⟩ := p
    exact PySem.W.kia_one PySem.W.kitx_tuple I.kIn ⟨o, h1, h2⟩ e (fun z => nomatch z) h
  | @dK a kvs ea =>
    cases (show u = Value.ref a from rx)
    obtain ⟨_, _, vs, _, p⟩ := (show ObjOk X.prog X.w H s.heap a (.dK kvs) from I.hok a _ ea)
    obtain ⟨o, es, ep, h1, h2, _⟩ := p
    exact PySem.W.kia_one PySem.W.kitx_dict I.kIn ⟨o, h1, h2.1⟩ e (fun z => nomatch z) h
  | @dT a kvs ea =>
    cases (show u = Value.ref a from rx)
    obtain ⟨_, _, xs, _, o, es, ep, h1, h2, _⟩ := (show ObjOk X.prog X.w H s.heap a (.dT kvs) from I.hok a _ ea)
    exact PySem.W.kia_one PySem.W.kitx_dict I.kIn ⟨o, h1, h2.1⟩ e (fun z => nomatch z) h
  | @ins a C dx fs ea cl ha hn htk hm =>
    cases (show u = Value.ref a from rx)
    obtain ⟨mA, O, _⟩ := ins_get I.hok ea
    obtain ⟨od, J, _⟩ := O.look
    exact PySem.W.kia_one (PySem.W.kitx_own (cl.get _) cl.hd ha hn htk hm) I.kIn J e (fun z => nomatch z) h
end
end L2
namespace L2
open PySem PySem.Spec PyProof.Rows
structure Room (k : Nat) (A : Around) : Prop where
  hd : A.handled = none
  dp : A.depth + 3 * k + 5 < recursionLimit
  un : A.units + 16 * k + 200 < cLine
theorem Room.mono {j k : Nat} {A : Around} (r : Room k A) (h : j <= k) : Room j A := ⟨r.hd, by have := r.dp; omega, by have := r.un; omega⟩
theorem Room.deeper {k : Nat} {A : Around} (r : Room (k + 1) A) (env : Env) : Room k (A.deeper env) :=
  ⟨r.hd, by have := r.dp; show A.depth + 1 + 3 * k + 5 < _; omega, by have := r.un; show A.units + 3 + 16 * k + 200 < _; omega⟩
theorem make_depth {A : Around} {C : Addr} {us : List Value} {kw : List (Str × Value)} : (A.under (.builtin "type.__call__" ⟨.ref C :: us, kw⟩)).depth = A.depth + 1 := by
  first | rfl | simp [Around.under, Code.weight, Code.isCreation, Code.isGuard, Code.isCaller, Code.frames, Code.isFrame, guardIds]
theorem make_units {A : Around} {C : Addr} {us : List Value} {kw : List (Str × Value)} : (A.under (.builtin "type.__call__" ⟨.ref C :: us, kw⟩)).units = A.units + 1 := by
  first | rfl | simp [Around.under, Code.cUnits, Code.frames, Code.isFrame]
theorem Room.make {k : Nat} {A : Around} (r : Room (k + 1) A) (C : Addr) (us : List Value) (kw : List (Str × Value)) : Room k (A.under (.builtin "type.__call__" ⟨.ref C :: us, kw⟩)) :=
  ⟨r.hd, by have := r.dp; rw [make_depth]; omega, by have := r.un; rw [make_units]; omega⟩
theorem Room.depth {k : Nat} {A : Around} (r : Room k A) : A.depth < recursionLimit := by have := r.dp; omega
theorem Room.units {k : Nat} {A : Around} (r : Room k A) : A.units + 64 < cLine := by have := r.un; omega
def tNil : TA := fun _ H Q => Q [] H
def tCons (ta : TE) (tr : TA) : TA := fun σ H Q => ta σ H fun x H1 => tr σ H1 fun xs H2 => Q (x :: xs) H2
section
variable {X : Cx} {e : Expr} {es : List Expr} {te : TE} {t : TA} {pos : Pos}
theorem pa_nil : PA X [] tNil := fun _ _ _ _ H Q I h => Calls.spliced_nil ⟨[], H, I, .nil, h⟩
theorem pa_cons (ha : PE X e te) (hr : PA X es t) (hs : starEach (e :: es) X.env = (false, eval e X.env) :: starEach es X.env := by rfl) : PA X (e :: es) (tCons te t) := by
  intro pos pins s σ H Q I h
  rw [hs]
  show wpAny _ _ (spliced ((false, eval e X.env) :: backTo pos (starEach es X.env))) _ _ s
  refine Calls.spliced_cons (thn (ha pins s σ H _ I h) fun u s1 ⟨x, H1, I1, r1, q1⟩ => ?_)
  exact thn (hr pos pins s1 σ H1 _ I1 q1) fun us s2 ⟨xs, H2, I2, r2, q2⟩ => ⟨x :: xs, H2, I2, .cons r1 r2, q2⟩
def tTup (t : TA) : TE := fun σ H Q => t σ H fun xs H1 => xs.length <= sizeLine /\ ∀ p, H1 p = none -> Q (.ref p) (upd H1 p (.tup xs))
def tLst (t : TA) : TE := fun σ H Q => t σ H fun xs H1 => xs.length <= sizeLine /\ ∀ p, H1 p = none -> Q (.ref p) (upd H1 p (.lst xs))
theorem pe_tup {x1} (h : PA X es t) : PE X (.Tuple es x1 pos) (tTup t) := by
  intro pins s σ H Q I hq
  refine wpAny_Tuple_spliced (thn (h pos pins s σ H _ I hq) fun us s1 ⟨xs, H1, I1, r, z, q⟩ => ⟨by rw [<- r.length]; exact z, ?_⟩)
  have hf : H1 s1.heap.objs.size = none := I1.hok.fresh (Nat.le_refl _)
  refine ⟨.ref s1.heap.objs.size, upd H1 s1.heap.objs.size (.tup xs), I1.laid (t' := s1.toks) (fun b u e => Heap.get?_push_of_some _ e) (Nat.le_refl _) ?_, rfl, q _ hf⟩
  exact ⟨z, us, r, ⟨_, Heap.get?_push_size _ rfl, rfl, _, rfl⟩⟩
theorem pe_lst (h : PA X es t) : PE X (.List es pos) (tLst t) := by
  intro pins s σ H Q I hq
  refine wpAny_List_spliced (thn (h pos pins s σ H _ I hq) fun us s1 ⟨xs, H1, I1, r, z, q⟩ => ⟨by rw [<- r.length]; exact z, ?_⟩)
  have hf : H1 s1.heap.objs.size = none := I1.hok.fresh (Nat.le_refl _)
  refine ⟨.ref s1.heap.objs.size, upd H1 s1.heap.objs.size (.lst xs), I1.laid (t' := s1.toks) (fun b u e => Heap.get?_push_of_some _ e) (Nat.le_refl _) ?_, rfl, q _ hf⟩
  exact ⟨z, us, 0, r, Heap.get?_push_size _ rfl⟩
end
abbrev Sp := List V -> Hp -> VK -> XK -> Prop
abbrev CXT := List Env -> Hp -> Shared -> XK -> Value -> Shared -> Prop
structure Env0 (P : Program) (w : World) (K : PySem.W.Frag) (mg : Str -> Option Value) (base : Heap) (A : Around) (outer : List Env) (s : Shared) (H : Hp) : Prop where
  frames : A.frames = some outer
  mod : Mod K mg base
  bs : ∀ b o, base.get? b = some o -> s.heap.get? b = some o /\ H b = none
  bsz : base.objs.size <= s.heap.objs.size
  funs : s.heap.FunFrames base outer
  frf : ∀ b ∈ frs outer, H b = none
  hok : HOk P w H s.heap
  bare : AllBare s.gens
def CE (outer : List Env) (P : Program) (w : World) (H : Hp) (s : Shared) (Q : VK) (u : Value) (s' : Shared) : Prop :=
  ∃ v H', s'.os = s.os /\ AllBare s'.gens /\ Un (frs outer) [] H H' s.heap s'.heap /\ HOk P w H' s'.heap /\ RelV v u /\ Q v H'
def CR (CX : CXT) (outer : List Env) (P : Program) (w : World) (H : Hp) (s : Shared) (Q : VK) (E : XK) (r : Result) (s' : Shared) : Prop :=
  match r with
  | .ok (.ret u) => CE outer P w H s Q u s'
  | .ok _ => False
  | .error e => CX outer H s E e s'
structure FnOk (P : Program) (w : World) (K : PySem.W.Frag) (mg : Str -> Option Value) (base : Heap) (CX : CXT) (k : Nat) (f : Addr) (fd : FuncData) (ps : List Str) (sp : Sp) : Prop where
  len : ∀ vs H Q E, sp vs H Q E -> vs.length = ps.length
  run : ∀ (A : Around) (outer : List Env) (s : Shared) (H : Hp) (args : Args) (us : List Value) (vs : List V) (Q : VK) (E : XK), Room k A -> Env0 P w K mg base A outer s H -> BindsTo s fd args (ps.zip us) -> Vals vs us -> sp vs H Q E ->
    codeAny (model P w) A (.call (.ref f) args) (CR CX outer P w H s Q E) s
theorem Env0.make {P : Program} {w : World} {K : PySem.W.Frag} {mg : Str -> Option Value} {base : Heap} {A : Around} {outer : List Env} {s : Shared} {H : Hp} (e : Env0 P w K mg base A outer s H) (C : Addr) (us : List Value) (kw : List (Str × Value)) :
    Env0 P w K mg base (A.under (.builtin "type.__call__" ⟨.ref C :: us, kw⟩)) outer s H := ⟨by first | exact e.frames | (simpa [Around.under, Code.envs, Code.isFrame, pushEnvs] using e.frames), e.mod, e.bs, e.bsz, e.funs, e.frf, e.hok, e.bare⟩
section
variable {X : Cx} {pins : List (Addr × Obj)} {σ : St} {H : Hp} {s s' : Shared}
theorem Inv.env0 (I : Inv X pins σ H s) : Env0 X.prog X.w X.K X.mg X.base X.A X.stack s H :=
  ⟨I.ok.frames, I.ok.mod, I.bs, Nat.le_trans I.ok.bsz I.sz, I.stack, I.stkFree, I.hok, I.bare⟩
theorem Inv.after {Q : VK} {u : Value} (I : Inv X pins σ H s) (h : CE X.stack X.prog X.w H s Q u s') : EP X pins σ Q u s' := by
  obtain ⟨v, H', os, bare, un, hok, r, q⟩ := h
  obtain ⟨hh, g, d, t, os'⟩ := s'
  obtain rfl : os' = s.os := os
  exact ⟨v, H', I.call (h' := hh) (g' := g) (d' := d) (t' := t) (ch := []) un hok bare (fun b z => absurd z (by simp)), r, q⟩
end
def tCall (sp : Sp) (dvs : List V) (E : XK) (t : TA) : TE := fun σ H Q => t σ H fun vs H1 => sp (vs ++ dvs) H1 Q E
def tMeth (C : Addr) (m : Str) (sp : Sp) (dvs : List V) (E : XK) (ta : TE) (t : TA) : TE := fun σ H Q => ta σ H fun x H1 => ∃ a dx fs, x = .ref a /\ H1 a = some (.ins C dx fs) /\ fs.lookup m = none /\
  t σ H1 fun vs H2 => sp (x :: (vs ++ dvs)) H2 Q E
def tMake (C : Addr) (sp : Sp) (dvs : List V) (E : XK) (t : TA) : TE := fun σ H Q => t σ H fun vs H1 => ∀ x dx, H1 x = none -> H1 dx = none -> dx ≠ x ->
  sp (.ref x :: (vs ++ dvs)) (upd (upd H1 dx (.own x)) x (.ins C dx [])) (fun v H2 => v = .non /\ Q (.ref x) H2) E
def Binds (K : PySem.W.Frag) (fd : FuncData) (ps : List Str) (ds : List Value) : Prop :=
  ∀ (s : Shared) (us : List Value), K.In s.heap -> (us ++ ds).length = ps.length -> BindsTo s fd ⟨us, []⟩ (ps.zip (us ++ ds))
theorem Binds.all {K : PySem.W.Frag} {fd : FuncData} {ps : List Str} (h : ∀ us : List Value, us.length = ps.length -> bindArgs fd ⟨us, []⟩ = pure (ps.zip us)) : Binds K fd ps [] := fun s us _ hl => by
  rw [List.append_nil] at hl ⊢
  exact .of_eq (h us hl)
def Passes (CX : CXT) (X : Cx) (E : XK) : Prop := ∀ (pins : List (Addr × Obj)) (σ : St) (H : Hp) (s : Shared) (e : Value) (s' : Shared), Inv X pins σ H s -> CX X.stack H s E e s' -> X.xe e s'
section
variable {X : Cx} {CX : CXT} {k : Nat} {f C : Addr} {fd : FuncData} {ps : List Str} {sp : Sp} {dvs : List V} {ds : List Value} {E : XK} {x m : Str} {p pos apos : Pos} {e o : Expr} {es : List Expr} {ta : TE} {t : TA}
theorem run_fn {pins : List (Addr × Obj)} {σ : St} {H : Hp} {s : Shared} {Q : VK} {us : List Value} {vs : List V} (F : FnOk X.prog X.w X.K X.mg X.base CX k f fd ps sp) (hr : Room k X.A) (hb : Binds X.K fd ps ds) (hd : Vals dvs ds) (hx : Passes CX X E)
    (I : Inv X pins σ H s) (r : Vals vs us) (h : sp (vs ++ dvs) H Q E) : wpAny (model X.prog X.w) X.A (call (.ref f) us) (EP X pins σ Q) X.xe s := by
  have r2 : Vals (vs ++ dvs) (us ++ ds) := r.append hd
  have hl : (us ++ ds).length = ps.length := by rw [<- r2.length]; exact F.len _ _ _ _ h
  refine wpAny_call (codeAny_mono (F.run X.A X.stack s H ⟨us, []⟩ (us ++ ds) (vs ++ dvs) Q E hr I.env0 (hb s us I.kIn hl) r2 h) fun r s' hq => ?_)
  cases r with
  | error e => exact hx pins σ H s e s' I hq
  | ok fl =>
    cases fl with
    | ret u => exact I.after hq
    | next => exact False.elim hq
    | brk => exact False.elim hq
    | cont => exact False.elim hq
theorem pe_call (F : FnOk X.prog X.w X.K X.mg X.base CX k f fd ps sp) (hr : Room k X.A) (hg : Gl X x) (hm : X.mg x = some (.ref f)) (hk : PySem.W.keepIn X.K (.ref f) = true) (hb : Binds X.K fd ps ds) (hd : Vals dvs ds) (hx : Passes CX X E)
    (ha : PA X (e :: es) t) (hdb : (x == ("__debug__" : Str)) = false := by decide) (he : starEach (e :: es) X.env = (false, eval e X.env) :: starEach es X.env := by rfl) (hpl : (backTo pos (starEach es X.env)).any (·.1) = false := by rfl) :
    PE X (.Call (.Name x p) (e :: es) [] pos) (tCall sp dvs E t) := by
  intro pins s σ H Q I h
  refine wpAny_Call_Name_kw (ld_glob I hg hm ?_ hdb)
  refine PySem.W.callWith_K (h₀ := X.base) I.ok.mod.kin hk (thn (ha pos pins s σ H _ I h) fun us s1 ⟨vs, H1, I1, r, q⟩ => ⟨I1.kIn, ?_⟩) he hpl
  exact run_fn F hr hb hd hx I1 r q
theorem pe_meth {pl : Sem Bool} (he : PE X o ta) (c : Cls X.K C) (hm : Meth X.K C m f) (F : FnOk X.prog X.w X.K X.mg X.base CX k f fd ps sp) (hr : Room k X.A) (hb : Binds X.K fd ps ds) (hd : Vals dvs ds) (hx : Passes CX X E) (ha : PA X (e :: es) t)
    (hst : starEach (e :: es) X.env = (false, eval e X.env) :: starEach es X.env := by rfl) (hpl : (backTo pos (starEach es X.env)).any (·.1) = false := by rfl)
    (ht : eval (.Call (.Attribute o m apos) (e :: es) [] pos) X.env = (do
      let ov <- eval o X.env
      standAt apos.atName
      let (f, first) <- holding [ov] (getMethod ov m pl)
      callWith pos f first (backTo pos (starEach (e :: es) X.env)) (backToKw pos (keywordEach [] X.env))) := by rfl) :
    PE X (.Call (.Attribute o m apos) (e :: es) [] pos) (tMeth C m sp dvs E ta t) := by
  intro pins s σ H Q I h
  refine PySem.W.methodCall_KW (pl := pl) (thn (he pins s σ H _ I h) fun u s1 ⟨x, H1, I1, rx, a, dx, fs, ex, ea, l, q⟩ => ?_) ht
  subst ex
  obtain rfl : u = Value.ref a := rx
  refine getmeth_ok I1 ea c hm l ?_
  refine PySem.W.callWith_K (first := [.ref a]) (h₀ := X.base) I.ok.mod.kin hm.kp (thn (ha pos pins s1 σ H1 _ I1 q) fun us s2 ⟨vs, H2, I2, r, q2⟩ => ⟨I2.kIn, ?_⟩) hst hpl
  exact run_fn (us := .ref a :: us) (vs := .ref a :: vs) F hr hb hd hx I2 (.cons rfl r) q2
structure Mk (K : PySem.W.Frag) (C f : Addr) : Prop where
  makes : PySem.W.makesIn K C = true
  init : PySem.W.findIn K (.ref C) "__init__" = some (some (.ref f))
  fn : PySem.W.isFn K (.ref f) = true
  kp : PySem.W.keepIn K (.ref C) = true
theorem run_make {pins : List (Addr × Obj)} {σ : St} {H : Hp} {s : Shared} {Q : VK} {us : List Value} {vs : List V} (M : Mk X.K C f) (F : FnOk X.prog X.w X.K X.mg X.base CX k f fd ps sp) (hr : Room (k + 1) X.A) (hb : Binds X.K fd ps ds) (hd : Vals dvs ds)
    (hx : Passes CX X E) (I : Inv X pins σ H s) (r : Vals vs us)
    (h : ∀ x dx, H x = none -> H dx = none -> dx ≠ x -> sp (.ref x :: (vs ++ dvs)) (upd (upd H dx (.own x)) x (.ins C dx [])) (fun v H2 => v = .non /\ Q (.ref x) H2) E) :
    wpAny (model X.prog X.w) X.A (call (.ref C) us) (EP X pins σ Q) X.xe s := by
  have hq := h (s.heap.objs.size + 1) s.heap.objs.size (I.hok.fresh (Nat.le_succ _)) (I.hok.fresh (Nat.le_refl _)) (Nat.ne_of_lt (Nat.lt_succ_self _))
  have I2 := Inv.made (C := C) I
  have r2 : Vals (V.ref (s.heap.objs.size + 1) :: (vs ++ dvs)) (Value.ref (s.heap.objs.size + 1) :: (us ++ ds)) := .cons rfl (r.append hd)
  have hl : (Value.ref (s.heap.objs.size + 1) :: us ++ ds).length = ps.length := by
    have e := r2.length
    rw [F.len _ _ _ _ hq] at e
    exact e.symm
  refine wpAny_call (make_map (f := f) I.kIn M.makes M.init (beq_iff_eq.mp M.fn) (codeAny_mono (F.run _ X.stack _ _ ⟨Value.ref (s.heap.objs.size + 1) :: us, []⟩ (Value.ref (s.heap.objs.size + 1) :: (us ++ ds)) _ _ E (hr.make C us [])
    (I2.env0.make C us []) (hb _ (Value.ref (s.heap.objs.size + 1) :: us) I2.kIn hl) r2 hq) fun r s' hq' => ?_))
  cases r with
  | error e => exact hx pins σ _ _ e s' I2 hq'
  | ok fl =>
    cases fl with
    | ret u =>
      obtain ⟨v, H', I3, rv, ev, q3⟩ := I2.after hq'
      subst ev
      exact ⟨rv, ⟨V.ref (s.heap.objs.size + 1), H', I3, rfl, q3⟩⟩
    | next => exact False.elim hq'
    | brk => exact False.elim hq'
    | cont => exact False.elim hq'
theorem pe_make (M : Mk X.K C f) (F : FnOk X.prog X.w X.K X.mg X.base CX k f fd ps sp) (hr : Room (k + 1) X.A) (hg : Gl X x) (hm : X.mg x = some (.ref C)) (hb : Binds X.K fd ps ds) (hd : Vals dvs ds) (hx : Passes CX X E)
    (ha : PA X (e :: es) t) (hdb : (x == ("__debug__" : Str)) = false := by decide) (he : starEach (e :: es) X.env = (false, eval e X.env) :: starEach es X.env := by rfl) (hpl : (backTo pos (starEach es X.env)).any (·.1) = false := by rfl) :
    PE X (.Call (.Name x p) (e :: es) [] pos) (tMake C sp dvs E t) := by
  intro pins s σ H Q I h
  refine wpAny_Call_Name_kw (ld_glob I hg hm ?_ hdb)
  refine PySem.W.callWith_K (h₀ := X.base) I.ok.mod.kin M.kp (thn (ha pos pins s σ H _ I h) fun us s1 ⟨vs, H1, I1, r, q⟩ => ⟨I1.kIn, ?_⟩) he hpl
  exact run_make M F hr hb hd hx I1 r q
end
section
variable {X : Cx} {CX : CXT} {k : Nat} {f C : Addr} {fd : FuncData} {ps ks : List Str} {sp : Sp} {E : XK} {x m : Str} {p pos apos kpos : Pos} {e o : Expr} {es : List Expr} {kws : List Keyword} {te ta : TE} {t tk : TA} {nm : Option Str}
variable {g : List Value -> List Value -> List Value} {gV : List V -> List V -> List V}
end
structure FnScope (N P : List Str) (sc : Scope) : Prop where
  kind : sc.kind = .function
  co : sc.isCoroutine = false
  gen : sc.isGenerator = false
  nd : N.Nodup
  pre : N.take P.length = P
  par : ∀ x ∈ P, sc.names.lookup x = some .local \/ sc.names.lookup x = some .cell
  nofree : ∀ y ∈ sc.names, y.2 ≠ .free
theorem bindL_out {kindOf : Str -> Option NameKind} {x : Str} : ∀ {binds : List (Str × Value)} {m : Str -> Option Value}, (∀ v, (x, v) ∉ binds) -> bindL kindOf binds m x = m x
  | [], _, _ => rfl
  | (n, v) :: r, m, h => by
    unfold bindL
    rw [bindL_out fun w hw => h w (List.mem_cons_of_mem _ hw)]
    split
    . have : x ≠ n := by rintro rfl; exact h v List.mem_cons_self
      simp [this]
    . rfl
theorem bindC_out {kindOf : Str -> Option NameKind} {x : Str} : ∀ {binds : List (Str × Value)} {m : Str -> Option Value}, (∀ v, (x, v) ∉ binds) -> bindC kindOf binds m x = m x
  | [], _, _ => rfl
  | (n, v) :: r, m, h => by
    unfold bindC
    rw [bindC_out fun w hw => h w (List.mem_cons_of_mem _ hw)]
    split
    . rfl
    . have : x ≠ n := by rintro rfl; exact h v List.mem_cons_self
      simp [this]
theorem bindL_get {kindOf : Str -> Option NameKind} {x : Str} {v : Value} : ∀ {P : List Str} {vs : List Value} {i : Nat} {m : Str -> Option Value}, P.Nodup -> P[i]? = some x -> vs[i]? = some v -> kindOf x = some .local ->
    bindL kindOf (P.zip vs) m x = some v
  | [], _, _, _, _, h, _, _ => by simp at h
  | _ :: _, [], _, _, _, _, h, _ => by simp at h
  | p :: P, w :: vs, 0, m, nd, h1, h2, hk => by
    simp at h1 h2; subst h1; subst h2
    show bindL kindOf ((p, w) :: P.zip vs) m p = _
    unfold bindL
    rw [bindL_out fun v hv => (List.nodup_cons.mp nd).1 (List.of_mem_zip hv).1, if_pos hk]
    simp
  | p :: P, w :: vs, i + 1, m, nd, h1, h2, hk => by
    show bindL kindOf ((p, w) :: P.zip vs) m x = _
    unfold bindL
    exact bindL_get (i := i) (List.nodup_cons.mp nd).2 (by simpa using h1) (by simpa using h2) hk
theorem bindC_get {kindOf : Str -> Option NameKind} {x : Str} {v : Value} : ∀ {P : List Str} {vs : List Value} {i : Nat} {m : Str -> Option Value}, P.Nodup -> P[i]? = some x -> vs[i]? = some v -> kindOf x ≠ some .local ->
    bindC kindOf (P.zip vs) m x = some v
  | [], _, _, _, _, h, _, _ => by simp at h
  | _ :: _, [], _, _, _, _, h, _ => by simp at h
  | p :: P, w :: vs, 0, m, nd, h1, h2, hk => by
    simp at h1 h2; subst h1; subst h2
    show bindC kindOf ((p, w) :: P.zip vs) m p = _
    unfold bindC
    rw [bindC_out fun v hv => (List.nodup_cons.mp nd).1 (List.of_mem_zip hv).1, if_neg hk]
    simp
  | p :: P, w :: vs, i + 1, m, nd, h1, h2, hk => by
    show bindC kindOf ((p, w) :: P.zip vs) m x = _
    unfold bindC
    exact bindC_get (i := i) (List.nodup_cons.mp nd).2 (by simpa using h1) (by simpa using h2) hk
def start (N : List Str) (vs : List V) : St := vs.map some ++ List.replicate (N.length - vs.length) none
def cxOf (CX : CXT) (P : Program) (w : World) (K : PySem.W.Frag) (mg : Str -> Option Value) (base : Heap) (N : List Str) (qual : Str) (scope : Scope) (f : Addr) (cd : Value) (A : Around) (outer : List Env) (s : Shared) (H : Hp) (E : XK) : Cx where
  prog := P
  w := w
  K := K
  mg := mg
  base := base
  A := A.deeper (envOfC qual scope s.heap.objs.size f cd)
  N := N
  s₀ := s
  H₀ := H
  env := envOfC qual scope s.heap.objs.size f cd
  outer := outer
  stack := envOfC qual scope s.heap.objs.size f cd :: outer
  ex := []
  calm := true
  fn := fun _ => true
  pn := []
  xe := fun e s' => wpAny (model P w) (A.deeper (envOfC qual scope s.heap.objs.size f cd)) (leaving (envOfC qual scope s.heap.objs.size f cd) e) (fun _ s'' => CX outer H s E e s'') (fun e' s'' => CX outer H s E e' s'') s'
theorem cell_has {sc : Scope} {n : Nat} {x : Str} (h : sc.names.lookup x = some .cell) : ∃ c, (cellsFrom n sc.names []).lookup x = some c := by
  have q := PySem.W.cellsFrom_some sc.names n [] (.inl h)
  exact Option.isSome_iff_exists.mp q
theorem inv_start {CX : CXT} {P : Program} {w : World} {K : PySem.W.Frag} {mg : Str -> Option Value} {base : Heap} {N ps : List Str} {qual : Str} {scope : Scope} {f : Addr} {cd : Value} {A : Around} {outer : List Env} {s s1 : Shared} {H : Hp} {E : XK} {us : List Value} {vs : List V}
    (S : FnScope N ps scope) (hd : A.handled = none) (e0 : Env0 P w K mg base A outer s H) (hl : vs.length = ps.length) (r : Vals vs us)
    (x : InCallC s s.heap.objs.size (bindL (envOfC qual scope s.heap.objs.size f cd).kindOf (ps.zip us) fun _ => none) (cellsFrom (s.heap.objs.size + 1) scope.names []) (bindC (envOfC qual scope s.heap.objs.size f cd).kindOf (ps.zip us) fun _ => none) s1) :
    Inv (cxOf CX P w K mg base N qual scope f cd A outer s H E) [] (start N vs) H s1 := by
  have hpl : ps.length <= N.length := by have := congrArg List.length S.pre; rw [List.length_take] at this; omega
  obtain ⟨h1, tk, rfl, hk⟩ := x.done
  have noA : ∀ b : Addr, b ∉ (cxOf CX P w K mg base N qual scope f cd A outer s H E).ex := fun b z => absurd (show b ∈ ([] : List Addr) from z) (by simp)
  refine ⟨⟨e0.mod, S.kind, rfl, rfl, Nat.le_refl _, fun y z c h1 h2 => ?_, fun y hy => ?_, fun y c _ h => ?_, fun _ => hd, Around.frames_deeper e0.frames, .inr ⟨rfl, rfl⟩, fun b z => absurd z (noA b), e0.bs, e0.bsz, fun b _ _ => noA b, fun b z => absurd z (noA b), e0.funs, e0.frf⟩,
    rfl, e0.bare, Un.kept hk, ⟨_, x.toInCall.ns, fun i y v h1 h2 h3 => ?_⟩, fun y c h => ⟨_, x.cell y c h⟩, e0.hok.fresh (Nat.le_refl _), fun y c h => ?_, fun p hp => absurd (show p ∈ ([] : List (Addr × Obj)) from hp) (by simp), e0.hok.kept hk, ?_⟩
  . exact name_of_addr x.apart (PySem.mem_of_lookup h1) (PySem.mem_of_lookup h2)
  . have hy : scope.names.lookup y = some .cell \/ scope.names.lookup y = some .free := hy
    rcases hy with hy | hy
    . exact cell_has hy
    . exact absurd rfl (S.nofree _ (PySem.mem_of_lookup hy))
  . exact Nat.le_of_lt (x.above y c (PySem.mem_of_lookup h))
  . have hi : i < vs.length := by
      unfold start at h2
      by_cases hi : i < vs.length
      . exact hi
      . rw [List.getElem?_append_right (by simpa using hi)] at h2
        rw [List.getElem?_replicate] at h2
        split at h2 <;> cases h2
    have ha : vs[i]? = some v := by
      unfold start at h2
      rw [List.getElem?_append_left (by simpa using hi), List.getElem?_map] at h2
      cases e : vs[i]? with
      | none => rw [e] at h2; cases h2
      | some a => rw [e] at h2; cases h2; rfl
    obtain ⟨u, hu, rv⟩ := r.get ha
    have hp : ps[i]? = some y := by
      rw [<- S.pre, List.getElem?_take_of_lt (by omega)]; exact h1
    have ndP : ps.Nodup := by rw [<- S.pre]; exact S.nd.sublist (List.take_sublist _ _)
    refine ⟨u, rv, ?_⟩
    rcases S.par y (List.mem_of_getElem? hp) with k | k
    . exact .inl ⟨k, bindL_get ndP hp hu k⟩
    . obtain ⟨c, e⟩ := cell_has (n := s.heap.objs.size + 1) k
      refine .inr ⟨.inl k, c, e, ?_⟩
      have q := x.cell y c e
      rw [bindC_get ndP hp hu (by show scope.names.lookup y ≠ _; rw [k]; decide)] at q
      exact q
  . exact e0.hok.fresh (Nat.le_of_lt (x.above y c (PySem.mem_of_lookup h)))
  . unfold start
    show _ = N.length
    rw [List.length_append, List.length_map, List.length_replicate]
    omega
theorem fn_of {CX : CXT} {P : Program} {w : World} {K : PySem.W.Frag} {mg : Str -> Option Value} {base : Heap} {k : Nat} {f : Addr} {name qual : Str} {params : Arguments} {body : List Stmt} {scope : Scope} {dV kV doc pm cdv ct oc : Value} {an od : Option Addr}
    {osl : Array (Option Value)} {N ps : List Str} {sp : Sp} (lk : K.lookup f = some ⟨oc, od, .func (PySem.W.fnOf name qual params body scope dV kV doc pm an cdv ct), osl⟩) (hcd : PySem.W.codeIn K cdv qual = true) (S : FnScope N ps scope)
    (len : ∀ vs H Q E, sp vs H Q E -> vs.length = ps.length)
    (hbody : ∀ (A : Around) (outer : List Env) (s : Shared) (H : Hp) (vs : List V) (Q : VK) (E : XK), Room k (A.deeper (envOfC qual scope s.heap.objs.size f cdv)) -> sp vs H Q E ->
      ∃ t, PSs (cxOf CX P w K mg base N qual scope f cdv A outer s H E) body t /\ t { nx := fun _ H' => Q .non H', rt := Q } (start N vs) H) :
    FnOk P w K mg base CX (k + 1) f (PySem.W.fnOf name qual params body scope dV kV doc pm an cdv ct) ps sp := by
  refine ⟨len, fun A outer s H args us vs Q E hr e0 hb r hsp => ?_⟩
  have hl := len _ _ _ _ hsp
  have KX : K.In s.heap := e0.mod.kin.keeps fun b o e => (e0.bs b o e).1
  have lim : s.heap.NoLimit := e0.mod.nolimit.keeps fun b o e => (e0.bs b o e).1
  have hkind : ∀ y ∈ ps.zip us, scope.names.lookup y.1 = some .local \/ (scope.names.lookup y.1 = some .cell /\ ((cellsFrom (s.heap.objs.size + 1) scope.names []).lookup y.1).isSome = true) := fun ⟨n, v⟩ hy => by
    rcases S.par n (List.of_mem_zip hy).1 with q | q
    . exact .inl q
    . exact .inr ⟨q, PySem.W.cellsFrom_some _ _ _ (.inl q)⟩
  refine codeAny_call_function hr.depth (KX _ _ lk) rfl S.co S.gen rfl (PySem.W.codeRec_of KX hcd) (hb _ _ _ _ ?_)
  refine wpAny_newFunctionEnv_cells S.kind hkind fun env he s1 x => ?_
  subst he
  refine ⟨lim.keeps x.toInCall.keep, codeAny_func ?_⟩
  obtain ⟨t, ht, hq⟩ := hbody A outer s H vs Q E (hr.deeper _) hsp
  have I : Inv (cxOf CX P w K mg base N qual scope f cdv A outer s H E) [] (start N vs) H s1 := inv_start S hr.hd e0 hl r x
  refine wpAny_mono (ht [] s1 (start N vs) H _ I hq) (fun fl s' hs => ?_) fun e s' hs => hs
  have fin : ∀ {σ' : St} {H' : Hp} {v : V} {u : Value}, Inv (cxOf CX P w K mg base N qual scope f cdv A outer s H E) [] σ' H' s' -> RelV v u -> Q v H' -> CE outer P w H s Q u s' :=
    fun {σ' H' v u} J rv q => ⟨v, H', J.os, J.bare, J.base, J.hok, rv, q⟩
  cases fl with
  | ret u =>
    obtain ⟨v, σ', H', J, rv, q⟩ := hs
    exact fin J rv q
  | next =>
    obtain ⟨σ', H', J, q⟩ := hs
    exact fin (v := V.non) (u := Value.none) J rfl q
  | brk =>
    obtain ⟨_, _, _, q⟩ := hs
    exact False.elim q
  | cont =>
    obtain ⟨_, _, _, q⟩ := hs
    exact False.elim q
end L2
namespace L2
open PySem PySem.Spec PyProof.Rows
section
variable {X : Cx} {x : Str} {p pos : Pos} {e : Expr} {es : List Expr} {t : TA} {id T : String} {r : List V -> Hp -> VK -> Prop}
def tCB (r : List V -> Hp -> VK -> Prop) (t : TA) : TE := fun σ H Q => t σ H fun vs H1 => r vs H1 Q
theorem pe_callB (hc : CallR X (.builtin id) r) (hg : Gl X x) (hm : X.mg x = none) (hv : bootBuiltins x = some (.builtin id)) (ha : PA X (e :: es) t) (hn : x ≠ "__name__" := by decide) (hdb : (x == ("__debug__" : Str)) = false := by decide)
    (he : starEach (e :: es) X.env = (false, eval e X.env) :: starEach es X.env := by rfl) (hpl : (backTo pos (starEach es X.env)).any (·.1) = false := by rfl) : PE X (.Call (.Name x p) (e :: es) [] pos) (tCB r t) := by
  intro pins s σ H Q I h
  refine wpAny_Call_Name_kw (ld_blt I hg hm hv ?_ hn hdb)
  exact PyProof.Rows.callWith_builtin1 (thn (ha pos pins s σ H _ I h) fun us s1 ⟨vs, H1, I1, r1, q1⟩ => hc pins s1 σ H1 vs us Q I1 r1 q1) he hpl
theorem pe_callTy (hc : CallR X (.type T) r) (hg : Gl X x) (hm : X.mg x = none) (hv : bootBuiltins x = some (.type T)) (ha : PA X (e :: es) t) (hn : x ≠ "__name__" := by decide) (hdb : (x == ("__debug__" : Str)) = false := by decide)
    (he : starEach (e :: es) X.env = (false, eval e X.env) :: starEach es X.env := by rfl) (hpl : (backTo pos (starEach es X.env)).any (·.1) = false := by rfl) : PE X (.Call (.Name x p) (e :: es) [] pos) (tCB r t) := by
  intro pins s σ H Q I h
  refine wpAny_Call_Name_kw (ld_blt I hg hm hv ?_ hn hdb)
  exact PyProof.Rows.callWith_type1 (thn (ha pos pins s σ H _ I h) fun us s1 ⟨vs, H1, I1, r1, q1⟩ => hc pins s1 σ H1 vs us Q I1 r1 q1) he hpl
end
end L2
namespace HT
open PySem PyProof.Rows
section
open PySem.SeqAt
open PySem.AutoSeq1 (wpAny_loadPart')
open PySem.MeetsSeq PySem.MeetsSeq2 PySem.MeetsSeq3
end
section
variable {prog : Program} {w : World} {A : Around} {E : Value -> Shared -> Prop} {s : Shared}
theorem cat_tup {t b : Addr} {vs ws : List Value} {Q : Value -> Shared -> Prop} (ht : IsTup s.heap t vs.toArray) (hb : IsTup s.heap b ws.toArray) (hv : vs ≠ [])
    (h1 : ws = [] -> Q (.ref t) s) (h2 : ws ≠ [] -> Q (.ref s.heap.objs.size) { s with heap := s.heap.push { cls := .type "tuple", data := .seq (vs ++ ws).toArray } })
    (hsz : vs.length + ws.length <= sizeLine) : wpAny (model prog w) A (binaryOp .Add (.ref t) (.ref b)) Q E s := by
  obtain ⟨⟨cls, dd, data, sl⟩, ho, hc, n, hd⟩ := id ht
  obtain ⟨⟨cls2, dd2, data2, sl2⟩, ho2, hc2, n2, hd2⟩ := id hb
  simp only at hc hd hc2 hd2
  subst hc hd hc2 hd2
  have e : vs.toArray ++ ws.toArray = (vs ++ ws).toArray := by simp
  by_cases hw : ws = []
  . exact concat_meets ⟨_, ho, rfl⟩ ⟨_, ho2, rfl⟩ noFill_tuple_add seq_tuple_add PySem.F.slot_tuple_add PySem.F.entry_tuple_add (PySem.F.args_tuple_add_2 _ _)
      (tuple_addW1 t b vs.toArray ws.toArray n n2 dd dd2 sl sl2 (by simpa using hv) (by simp [hw])) ⟨ho, ho2, h1 hw⟩
  . refine concat_meets ⟨_, ho, rfl⟩ ⟨_, ho2, rfl⟩ noFill_tuple_add seq_tuple_add PySem.F.slot_tuple_add PySem.F.entry_tuple_add (PySem.F.args_tuple_add_2 _ _)
      (tuple_addW2 t b vs.toArray ws.toArray n n2 dd dd2 sl sl2 (by simpa using hv) (by simpa using hw) (by rw [List.size_toArray, List.size_toArray]; exact hsz)) ⟨ho, ho2, ?_⟩
    rw [e]
    exact h2 hw
def sIx (n d : Nat) : Option Int -> Nat
  | none => d
  | some v => if v < 0 then (v + (n : Int)).toNat else min v.toNat n
theorem sIx_none (n d : Nat) : sIx n d none = d := rfl
theorem sIx_nat (n d k : Nat) : sIx n d (some (k : Int)) = min k n := by
  show (if (k : Int) < 0 then ((k : Int) + (n : Int)).toNat else min (k : Int).toNat n) = min k n
  rw [if_neg (by omega), Int.toNat_natCast]
theorem sIx_le (n d : Nat) (hd : d <= n) (o : Option Int) : sIx n d o <= n := by
  cases o with
  | none => exact hd
  | some v =>
    show (if v < 0 then (v + (n : Int)).toNat else min v.toNat n) <= n
    by_cases hv : v < 0
    . rw [if_pos hv]; omega
    . rw [if_neg hv]; exact Nat.min_le_right _ _
theorem clip_eq (v : Int) (n d : Nat) : (if v < 0 then max (v + (n : Int)) 0 else min v (n : Int)) = ((sIx n d (some v) : Nat) : Int) := by
  show (if v < 0 then max (v + (n : Int)) 0 else min v (n : Int)) = (((if v < 0 then (v + (n : Int)).toNat else min v.toNat n) : Nat) : Int)
  by_cases hv : v < 0
  . simp only [if_pos hv]; omega
  . simp only [if_neg hv]; omega
theorem adjust_gen (lo hi : Option Int) (n : Nat) : Builtin.Slice.sliceAdjust lo hi 1 (n : Int) = (((sIx n 0 lo : Nat) : Int), ((sIx n n hi : Nat) : Int)) := by
  have h1 : ¬ ((1 : Int) < 0) := by omega
  unfold Builtin.Slice.sliceAdjust
  simp only [h1, if_false]
  refine Prod.ext ?_ ?_
  . cases lo with
    | none => rfl
    | some v => exact clip_eq v n 0
  . cases hi with
    | none => rfl
    | some v => exact clip_eq v n n
theorem places_gen (i j : Nat) : Builtin.Slice.slicePlaces (i : Int) (j : Int) 1 = j - i := by
  unfold Builtin.Slice.slicePlaces
  have h1 : (1 : Int) > 0 := by omega
  simp only [h1, if_true, Int.ediv_one]
  split <;> omega
theorem slicePart_ {v : Value} {o : Option Int} {Q : Option Int -> Shared -> Prop} (p : IsPart v o) (h : Q o s) : wpAny (model prog w) A (Builtin.Slice.slicePartIndex v) Q E s := by
  cases p with
  | none => exact slicePart_none h
  | int i t => exact slicePart_int h
theorem sliceApplied_gen {sl : Addr} {vl vu : Value} {lo hi : Option Int} {n : Nat} {Q : Int × Int × Nat -> Shared -> Prop} (hs : s.heap.IsSliceOf sl vl vu .none) (pl : IsPart vl lo) (pu : IsPart vu hi)
    (h : Q (((sIx n 0 lo : Nat) : Int), 1, sIx n n hi - sIx n 0 lo) s) : wpAny (model prog w) A (Builtin.Slice.sliceApplied (.ref sl) (pure (n : Int))) Q E s := by
  obtain ⟨os, hos, hcs, hds⟩ := id hs
  unfold Builtin.Slice.sliceApplied Builtin.Slice.sliceFields
  refine wpAny_bind (wpAny_bind (wpAny_field hos hds (x := vl) rfl (wpAny_bind (wpAny_field hos hds (x := vu) rfl (wpAny_bind (wpAny_field hos hds (x := .none) rfl (wpAny_pure ?_)))))))
  refine wpAny_bind (slicePart_none ?_)
  show wpAny _ _ (if ((1 : Int) == 0) = true then _ else _) _ _ s
  rw [if_neg (by decide)]
  refine wpAny_bind (slicePart_ pl (wpAny_bind (slicePart_ pu (wpAny_bind (wpAny_pure ?_)))))
  show wpAny _ _ (match Builtin.Slice.sliceAdjust lo hi 1 (n : Int) with | (lo, hi) => pure (lo, (1 : Int), Builtin.Slice.slicePlaces lo hi 1)) _ _ s
  rw [adjust_gen lo hi n]
  show wpAny _ _ (pure (((sIx n 0 lo : Nat) : Int), (1 : Int), Builtin.Slice.slicePlaces ((sIx n 0 lo : Nat) : Int) ((sIx n n hi : Nat) : Int) 1)) _ _ s
  rw [places_gen]
  exact wpAny_pure h
theorem pick_gen (xs : Array Value) (i k : Nat) : ((List.range k).filterMap fun (m : Nat) => xs[((i : Int) + (m : Int) * 1).toNat]?).toArray = ((xs.toList.drop i).take k).toArray := by
  have e : (fun (m : Nat) => xs[((i : Int) + (m : Int) * 1).toNat]?) = fun m => xs[i + m]? := by
    funext m
    have : ((i : Int) + (m : Int) * 1).toNat = i + m := by omega
    rw [this]
  rw [e]
  have := pick_run xs i k
  rw [List.filterMap_map] at this
  have e2 : ((fun x => xs[x]?) ∘ fun x => i + x) = fun m => xs[i + m]? := rfl
  rw [e2] at this
  rw [this]
theorem getItem_tuple_cut {t sl : Addr} {items : Array Value} {vl vu : Value} {lo hi : Option Int} {Q : Value -> Shared -> Prop} (ht : IsTup s.heap t items) (hs : s.heap.IsSliceOf sl vl vu .none) (pl : IsPart vl lo) (pu : IsPart vu hi)
    (hw : ¬ (sIx items.size 0 lo = 0 /\ sIx items.size items.size hi = items.size))
    (h : Q (.ref s.heap.objs.size) { s with heap := s.heap.push { cls := .type "tuple", data := .seq ((items.toList.drop (sIx items.size 0 lo)).take (sIx items.size items.size hi - sIx items.size 0 lo)).toArray } })
    (hsz : items.size <= sizeLine) : wpAny (model prog w) A (getItem (.ref t) (.ref sl)) Q E s := by
  have htake : sizeOk (.seq ((items.toList.drop (sIx items.size 0 lo)).take (sIx items.size items.size hi - sIx items.size 0 lo)).toArray) := by
    show ((items.toList.drop (sIx items.size 0 lo)).take (sIx items.size items.size hi - sIx items.size 0 lo)).toArray.size <= sizeLine
    rw [List.size_toArray, List.length_take, List.length_drop, Array.length_toList]
    omega
  have hj : sIx items.size items.size hi <= items.size := sIx_le _ _ (Nat.le_refl _) hi
  obtain ⟨os, hos, hcs, hds⟩ := id hs
  have hTs : s.TypeIs (.ref sl) "slice" := ⟨os, hos, hcs⟩
  unfold getItem
  try with_reducible refine wpAny_holding ?_
  first | refine wpAny_bind (wpAny_pure ?_) | skip
  refine wpAny_bind (wpAny_sequenceKey ht.typeIs (by decide) ?_)
  refine wpAny_bind (wpAny_callSpecial?_slot (name := Str.ofString "__getitem__") ht.typeIs PyProof.Rows.slot_tuple_getitem
    (wpAny_call_entry PyProof.Rows.slot_tuple_getitem ht.typeIs entry_tuple_getitem ?_ (args_tuple_getitem _ _)))
  show wpAny _ _ (Builtin.Tuple.tupleItemsOf (.ref t) >>= _) _ _ s
  refine wpAny_bind (tupleItemsOf_ ht ?_)
  refine wpAny_bind (wpAny_typeOf hTs ?_)
  rw [if_pos (by decide)]
  refine wpAny_bind (sliceApplied_gen hs pl pu ?_)
  have hno : ¬ ((((sIx items.size 0 lo : Nat) : Int) == 0 && (1 : Int) == 1 && (sIx items.size items.size hi - sIx items.size 0 lo) == items.size) = true) := by
    intro q
    rw [Bool.and_eq_true, Bool.and_eq_true] at q
    have q1 : ((sIx items.size 0 lo : Nat) : Int) = 0 := eq_of_beq q.1.1
    have q2 : sIx items.size items.size hi - sIx items.size 0 lo = items.size := eq_of_beq q.2
    exact hw ⟨by omega, by omega⟩
  show wpAny _ _ (if (((sIx items.size 0 lo : Nat) : Int) == 0 && (1 : Int) == 1 && (sIx items.size items.size hi - sIx items.size 0 lo) == items.size) = true then _ else _) _ _ s
  rw [if_neg hno, pick_gen]
  first
    | exact wpAny_bind (m := Builtin.Tuple.tupleExact _) (wpAny_newObj_type (wpAny_pure ⟨_, rfl, wpAny_pure h⟩) htake)
    | exact wpAny_bind (m := Builtin.Tuple.tupleExact _) (wpAny_newObj_type (wpAny_bind (wpAny_pure (wpAny_pure ⟨_, rfl, wpAny_pure h⟩))) htake)
    | exact wpAny_bind (wpAny_bind (m := Builtin.Tuple.tupleExact _) (wpAny_newObj_type (wpAny_pure (wpAny_pure ⟨_, rfl, wpAny_pure h⟩)) htake))
    | exact wpAny_bind (wpAny_bind (m := Builtin.Tuple.tupleExact _) (wpAny_newObj_type (wpAny_pure ⟨_, rfl, wpAny_pure h⟩) htake))
end
end HT
namespace L2
open PySem PySem.Spec PyProof.Rows
abbrev TO := St -> Hp -> (Option Int -> Hp -> Prop) -> Prop
def PO (X : Cx) (e : Option Expr) (t : TO) : Prop :=
  ∀ (pins : List (Addr × Obj)) (s : Shared) (σ : St) (H : Hp) (Q : Option Int -> Hp -> Prop), Inv X pins σ H s -> t σ H Q ->
    wpAny (model X.prog X.w) X.A (evalPart e X.env) (fun u s' => ∃ o H', Inv X pins σ H' s' /\ IsPart u o /\ Q o H') X.xe s
def tNoPart : TO := fun _ H Q => Q none H
def tPart (t : TE) : TO := fun σ H Q => t σ H fun x H1 => ∃ i, x = .int i /\ Q (some i) H1
section
variable {X : Cx} {e : Expr} {te : TE} {lo hi : Option Expr} {tl th : TO} {pos p2 : Pos}
theorem po_none : PO X none tNoPart := by
  intro pins s σ H Q I h
  rw [evalPart_none]
  exact wpAny_pure ⟨none, H, I, .none, h⟩
theorem po_some (h : PE X e te) : PO X (some e) (tPart te) := by
  intro pins s σ H Q I hw
  rw [evalPart_some]
  refine thn (h pins s σ H _ I hw) fun u s1 ⟨x, H1, I1, r1, q1⟩ => ?_
  obtain ⟨i, rfl, q⟩ := q1
  obtain ⟨t, rfl⟩ := r1
  exact ⟨some i, H1, I1, .int i t, q⟩
def SlR (X : Cx) (r : V -> Option Int -> Option Int -> Hp -> VK -> Prop) : Prop :=
  ∀ (pins : List (Addr × Obj)) (s : Shared) (σ : St) (H : Hp) (x : V) (v vl vu : Value) (lo hi : Option Int) (sl : Addr) (Q : VK), Inv X pins σ H s -> RelV x v -> s.heap.IsSliceOf sl vl vu .none -> IsPart vl lo -> IsPart vu hi -> r x lo hi H Q ->
    ∃ T id, typeLookup (.type T) "__getitem__" = pure (some (.builtin id)) /\ s.TypeIs v T /\ wpAny (model X.prog X.w) X.A (getItem v (.ref sl)) (EP X pins σ Q) X.xe s
def tSl (r : V -> Option Int -> Option Int -> Hp -> VK -> Prop) (te : TE) (tl th : TO) : TE := fun σ H Q => te σ H fun x H1 => tl σ H1 fun l H2 => th σ H2 fun u H3 => r x l u H3 Q
theorem pe_slice {r : V -> Option Int -> Option Int -> Hp -> VK -> Prop} (hr : SlR X r) (he : PE X e te) (hl : PO X lo tl) (hu : PO X hi th) : PE X (.Subscript e (.Slice lo hi none p2) pos) (tSl r te tl th) := by
  intro pins s σ H Q I h
  refine Subscript_ (thn (he pins s σ H _ I h) fun v s1 ⟨x, H1, I1, r1, q1⟩ => ?_)
  refine wpAny_Slice (thn (hl pins s1 σ H1 _ I1 q1) fun vl s2 ⟨l, H2, I2, pl, q2⟩ => thn (hu pins s2 σ H2 _ I2 q2) fun vu s3 ⟨u, H3, I3, pu, q3⟩ => ?_)
  rw [evalPart_none]
  refine wpAny_pure ?_
  have I4 : Inv X pins σ H3 { s3 with heap := s3.heap.push { cls := .type "slice", data := .fields #[vl, vu, .none] } } := I3.kept (t' := s3.toks) fun b ob q => Heap.get?_push_of_some _ q
  obtain ⟨T, id, hT, ht, hg⟩ := hr pins { s3 with heap := s3.heap.push { cls := .type "slice", data := .fields #[vl, vu, .none] } } σ H3 x v vl vu l u s3.heap.objs.size Q I4 r1 (Heap.IsSliceOf.new ..) pl pu q3
  show wpAny (model X.prog X.w) X.A (subscriptTail e (.Slice lo hi none p2) v (.ref s3.heap.objs.size)) (EP X pins σ Q) X.xe { s3 with heap := s3.heap.push { cls := .type "slice", data := .fields #[vl, vu, .none] } }
  exact tail_any (ops := [.ref s3.heap.objs.size, v]) ht hT hg (by with_unfolding_all rfl)
def cutV (xs : List V) (lo hi : Option Int) : List V := (xs.drop (HT.sIx xs.length 0 lo)).take (HT.sIx xs.length xs.length hi - HT.sIx xs.length 0 lo)
theorem cutV_length (xs : List V) (lo hi : Option Int) : (cutV xs lo hi).length <= xs.length := by
  unfold cutV
  rw [List.length_take, List.length_drop]
  omega
def rSlT (K : PySem.W.Frag) : V -> Option Int -> Option Int -> Hp -> VK -> Prop := fun x lo hi H Q => ∃ a xs, x = .ref a /\ SqT K H a xs /\
  ¬ (HT.sIx xs.length 0 lo = 0 /\ HT.sIx xs.length xs.length hi = xs.length) /\ ∀ p, H p = none -> Q (.ref p) (upd H p (.tup (cutV xs lo hi)))
theorem sl_tup : SlR X (rSlT X.K) := by
  intro pins s σ H x v vl vu lo hi sl Q I rx hs pl pu h
  obtain ⟨a, xs, rfl, hx, hw, q⟩ := h
  cases rx
  obtain ⟨its, r, ht, hz⟩ := I.tuple hx
  have hlen : its.toArray.size = xs.length := by rw [List.size_toArray]; exact r.length.symm
  refine ⟨"tuple", _, PyProof.Rows.slot_tuple_getitem.lookup, ht.typeIs, ?_⟩
  refine HT.getItem_tuple_cut ht hs pl pu (by rw [hlen]; exact hw) ?_ (by rw [hlen]; exact hz)
  rw [hlen]
  refine ⟨.ref s.heap.objs.size, _, I.laid (t' := s.toks) (o := .tup (cutV xs lo hi)) (fun b ob q => Heap.get?_push_of_some _ q) (Nat.le_refl _) ?_, rfl, q _ (I.hok.fresh (Nat.le_refl _))⟩
  exact ⟨Nat.le_trans (cutV_length xs lo hi) hz, _, (r.drop (HT.sIx xs.length 0 lo)).take (HT.sIx xs.length xs.length hi - HT.sIx xs.length 0 lo), IsTup.new _ _⟩
def rCatT (K : PySem.W.Frag) : R2 := fun x y H Q => ∃ a b xs ys, x = .ref a /\ y = .ref b /\ SqT K H a xs /\ SqT K H b ys /\ xs ≠ [] /\ xs.length + ys.length <= sizeLine /\
  (ys = [] -> Q (.ref a) H) /\ (ys ≠ [] -> ∀ p, H p = none -> Q (.ref p) (upd H p (.tup (xs ++ ys))))
theorem Vals.nil_iff {xs : List V} {us : List Value} (r : Vals xs us) : us = [] ↔ xs = [] := by
  cases r with
  | nil => simp
  | cons _ _ => simp
theorem op_catT : OpR X (binaryOp .Add) (rCatT X.K) := by
  intro pins s σ H x y v u Q I rx ry h
  obtain ⟨a, b, xs, ys, rfl, rfl, ha, hb, hx, hz, q1, q2⟩ := h
  cases rx
  cases ry
  obtain ⟨its, r1, p1, _⟩ := I.tuple ha
  obtain ⟨its2, r2, p2, _⟩ := I.tuple hb
  refine HT.cat_tup p1 p2 (fun z => hx (r1.nil_iff.mp z)) (fun z => ⟨.ref a, H, I, rfl, q1 (r2.nil_iff.mp z)⟩) (fun z => ?_) (by rw [<- r1.length, <- r2.length]; exact hz)
  refine ⟨.ref s.heap.objs.size, _, I.laid (t' := s.toks) (o := .tup (xs ++ ys)) (fun b ob q => Heap.get?_push_of_some _ q) (Nat.le_refl _) ?_, rfl, q2 (fun w => z (r2.nil_iff.mpr w)) _ (I.hok.fresh (Nat.le_refl _))⟩
  exact ⟨by rw [List.length_append]; exact hz, _, r1.append r2, IsTup.new _ _⟩
end
end L2
namespace L2
open PySem PySem.Spec PyProof.Rows
def ixN (n : Nat) (i : Int) : Option Nat := if 0 <= i then (if i < n then some i.toNat else none) else if -(n : Int) <= i then some (i + n).toNat else none
def atI {α : Type} (xs : List α) (i : Int) : Option α := (ixN xs.length i).bind fun j => xs[j]?
theorem ixN_seq {n : Nat} {i : Int} {j : Nat} (h : ixN n i = some j) : seqIndex? i n = some j /\ j < n /\ -(n : Int) <= i /\ i < n := by
  unfold ixN at h
  by_cases h0 : 0 <= i
  . rw [if_pos h0] at h
    by_cases h1 : i < n
    . rw [if_pos h1] at h
      have e : i.toNat = j := Option.some.inj h
      exact ⟨by rw [seqIndex_of h0 h1, e], by omega, by omega, h1⟩
    . rw [if_neg h1] at h; cases h
  . rw [if_neg h0] at h
    by_cases h1 : -(n : Int) <= i
    . rw [if_pos h1] at h
      have e : (i + n).toNat = j := Option.some.inj h
      exact ⟨by rw [seqIndex_neg (by omega) h1, e], by omega, h1, by omega⟩
    . rw [if_neg h1] at h; cases h
theorem atI_get {α : Type} {xs : List α} {i : Int} {v : α} (h : atI xs i = some v) : ∃ j, seqIndex? i xs.length = some j /\ xs[j]? = some v /\ j < xs.length /\ -(xs.length : Int) <= i /\ i < xs.length := by
  unfold atI at h
  cases e : ixN xs.length i with
  | none => rw [e] at h; cases h
  | some j =>
    rw [e] at h
    obtain ⟨h1, h2, h3, h4⟩ := ixN_seq e
    exact ⟨j, h1, h, h2, h3, h4⟩
theorem atI_nat {α : Type} {xs : List α} {j : Nat} {v : α} (h : xs[j]? = some v) : atI xs (j : Int) = some v := by
  have hj : j < xs.length := (List.getElem?_eq_some_iff.mp h).1
  have e : ixN xs.length (j : Int) = some j := by
    unfold ixN
    rw [if_pos (by omega), if_pos (by omega)]; simp
  unfold atI; rw [e]; exact h
def PlainIx (b : Expr) : Prop := ∀ o i, subscripted b false o i = operate [o, i] (getItem o i)
def IxR (X : Cx) (r : R2) : Prop :=
  ∀ (value slice : Expr) (pins : List (Addr × Obj)) (s : Shared) (σ : St) (H : Hp) (x y : V) (v u : Value) (Q : VK), Inv X pins σ H s -> RelV x v -> RelV y u -> r x y H Q ->
    subscripted slice false v u = operate [v, u] (getItem v u) -> wpAny (model X.prog X.w) X.A (subscriptTail value slice v u) (EP X pins σ Q) X.xe s
def MtR (X : Cx) (id : String) (r : V -> List V -> Hp -> VK -> Prop) : Prop :=
  ∀ (pins : List (Addr × Obj)) (s : Shared) (σ : St) (H : Hp) (x : V) (xs : List V) (v : Value) (us : List Value) (Q : VK), Inv X pins σ H s -> RelV x v -> Vals xs us -> r x xs H Q ->
    wpAny (model X.prog X.w) X.A (call (.builtin id) (v :: us)) (EP X pins σ Q) X.xe s
section
variable {X : Cx} {a b : Expr} {ta tb : TE} {pos : Pos}
theorem pe_ix {r : R2} (hr : IxR X r) (ha : PE X a ta) (hb : PE X b tb) (hs : PlainIx b) : PE X (.Subscript a b pos) (tOp r ta tb) := by
  intro pins s σ H Q I h
  exact Subscript_ (binT ha hb I h fun v u s2 x y H2 I2 rx ry q => hr a b pins s2 σ H2 x y v u Q I2 rx ry q (hs _ _))
def rIxL (K : PySem.W.Frag) : R2 := fun x y H Q => ∃ p xs i v, x = .ref p /\ y = .int i /\ SqL K H p xs /\ atI xs i = some v /\ Q v H
def rIxT (K : PySem.W.Frag) : R2 := fun x y H Q => ∃ p xs i v, x = .ref p /\ y = .int i /\ SqT K H p xs /\ atI xs i = some v /\ Q v H
theorem ix_list : IxR X (rIxL X.K) := by
  intro value slice pins s σ H x y v u Q I rx ry h hs
  obtain ⟨p, xs, i, z, rfl, rfl, hq, he, q⟩ := h
  cases rx
  obtain ⟨t, rfl⟩ := ry
  obtain ⟨its, r, pl, hz⟩ := I.list hq
  obtain ⟨j, h1, h2, h3, h4, h5⟩ := atI_get he
  obtain ⟨w, ew, rw'⟩ := r.get h2
  have hl := r.length
  have hn := line63
  have fin : EP X pins σ Q w s := ⟨z, H, I, rw', q⟩
  by_cases h0 : 0 <= i
  . have hj : i.toNat = j := by
      rw [seqIndex_of h0 h5] at h1
      exact Option.some.inj h1
    exact item_listR pl.isList h0 (by omega) (by rw [hj]; simpa using ew) fin hs
  . have hj : (i + (its.toArray.size : Int)).toNat = j := by
      rw [seqIndex_neg (by omega) h4] at h1
      rw [List.size_toArray, <- hl]
      exact Option.some.inj h1
    exact subscriptTail_builtinR (x := w) pl.isList.typeIs slot_list_getitem.lookup
      (wpAny_getItem_list_neg (Q := fun r s' => r = w /\ EP X pins σ Q r s') pl.isList (by omega) (by rw [List.size_toArray] <;> omega) (by omega) (by rw [hj]; simpa using ew) ⟨rfl, fin⟩) hs
theorem ix_tup : IxR X (rIxT X.K) := by
  intro value slice pins s σ H x y v u Q I rx ry h hs
  obtain ⟨p, xs, i, z, rfl, rfl, hq, he, q⟩ := h
  cases rx
  obtain ⟨t, rfl⟩ := ry
  obtain ⟨its, r, pl, hz⟩ := I.tuple hq
  obtain ⟨j, h1, h2, h3, h4, h5⟩ := atI_get he
  obtain ⟨w, ew, rw'⟩ := r.get h2
  have hl := r.length
  have hn := line63
  have fin : EP X pins σ Q w s := ⟨z, H, I, rw', q⟩
  exact subscriptTail_builtinR (x := w) pl.typeIs slot_tuple_getitem.lookup
    (getItem_tuple (j := j) (Q := fun r s' => r = w /\ EP X pins σ Q r s') pl (by omega) (by omega) (by rw [List.size_toArray, <- hl]; exact h1) (by simpa using ew) ⟨rfl, fin⟩) hs
theorem mapSeq_set (its : List Value) (n j : Nat) (u : Value) : Obj.mapSeq (·.setIfInBounds j u) { cls := .type "list", data := .seq its.toArray n } = { cls := .type "list", data := .seq (its.set j u).toArray n } := by
  simp [Obj.mapSeq]
theorem Inv.lst {pins : List (Addr × Obj)} {σ : St} {H : Hp} {s : Shared} {p : Addr} {xs : List V} (I : Inv X pins σ H s) (h : H p = some (.lst xs)) :
    ∃ (its : List Value) (n : Nat), Vals xs its /\ s.heap.get? p = some { cls := .type "list", data := .seq its.toArray n } /\ xs.length <= sizeLine := by
  obtain ⟨z, its, n, r, e⟩ := I.hok p _ h
  exact ⟨its, n, r, e, z⟩
theorem Inv.lstUpd {pins : List (Addr × Obj)} {σ : St} {H : Hp} {s : Shared} {p : Addr} {xs ys : List V} {its its' : List Value} {n n' : Nat} {f : Obj -> Obj} (I : Inv X pins σ H s) (h : H p = some (.lst xs))
    (ho : s.heap.get? p = some { cls := .type "list", data := .seq its.toArray n }) (hf : f { cls := .type "list", data := .seq its.toArray n } = { cls := .type "list", data := .seq its'.toArray n' }) (r : Vals ys its') (hz : ys.length <= sizeLine) (t : Nat) :
    Inv X pins σ (upd H p (.lst ys)) { s with heap := s.heap.update p f, toks := t } := by
  have e : (s.heap.update p f).get? p = some { cls := .type "list", data := .seq its'.toArray n' } := by
    rw [Heap.get?_update_self f ho (by rw [hf] <;> rfl), hf]
  refine I.write (x := p) (e := p) (by rw [h]; trivial) (.inl rfl) (fun b u hb q => (Heap.get?_update_other _ _ (Ne.symm hb)).trans q) ⟨_, e⟩ ?_
  exact ⟨hz, its', n', r, e⟩
def rSetL : V -> V -> V -> Hp -> (Hp -> Prop) -> Prop := fun o i v H Q => ∃ p xs k j, o = .ref p /\ i = .int k /\ H p = some (.lst xs) /\ ixN xs.length k = some j /\ Q (upd H p (.lst (xs.set j v)))
theorem set_list : PSet X rSetL := by
  intro pins s σ H o i v ov iv u Q I ro ri rv h
  obtain ⟨p, xs, k, j, rfl, rfl, hp, hj, q⟩ := h
  cases ro
  obtain ⟨t, rfl⟩ := ri
  obtain ⟨its, n, r, ho, hz⟩ := I.lst hp
  obtain ⟨h1, h2, h3, h4⟩ := ixN_seq hj
  have hl := r.length
  have hn := line63
  have I' : Inv X pins σ (upd H p (.lst (xs.set j v))) { s with heap := s.heap.update p (Obj.mapSeq (·.setIfInBounds j u)) } :=
    I.lstUpd hp ho (mapSeq_set its n j u) (r.set rv j) (by rw [List.length_set]; exact hz) s.toks
  by_cases h0 : 0 <= k
  . have hk : k.toNat = j := by
      rw [seqIndex_of h0 h4] at h1
      exact Option.some.inj h1
    exact PySem.W.ki_setAt ho h0 (by omega) (by rw [List.size_toArray, <- hl]; exact h4) (by rw [hk]; exact ⟨_, I', q⟩)
  . have hk : (k + (its.toArray.size : Int)).toNat = j := by
      rw [seqIndex_neg (by omega) h3] at h1
      rw [List.size_toArray, <- hl]
      exact Option.some.inj h1
    exact PySem.W.ki_setBack ho (by omega) (by rw [List.size_toArray, <- hl]; exact h3) (by omega) (by rw [hk]; exact ⟨_, I', q⟩)
theorem slice_bounds (lo hi : Option Int) (n : Nat) : (sliceBounds lo hi none n).1 = ((HT.sIx n 0 lo : Nat) : Int) /\ (sliceBounds lo hi none n).2.1 = ((HT.sIx n n hi : Nat) : Int) /\ (sliceBounds lo hi none n).2.2 = 1 := by
  refine ⟨?_, ?_, rfl⟩
  . cases lo with
    | none => simp [sliceBounds, HT.sIx]
    | some i =>
      simp only [sliceBounds, HT.sIx, Option.getD_none, show (1 : Int) > 0 by decide, if_true]
      by_cases h : i < 0
      . simp only [h, if_true] <;> omega
      . simp only [h, if_false] <;> omega
  . cases hi with
    | none => simp [sliceBounds, HT.sIx]
    | some i =>
      simp only [sliceBounds, HT.sIx, Option.getD_none, show (1 : Int) > 0 by decide, if_true]
      by_cases h : i < 0
      . simp only [h, if_true] <;> omega
      . simp only [h, if_false] <;> omega
theorem slicePick_cut (its : List Value) (lo hi : Option Int) : slicePick its.toArray lo hi none = ((its.drop (HT.sIx its.length 0 lo)).take (HT.sIx its.length its.length hi - HT.sIx its.length 0 lo)).toArray := by
  obtain ⟨h1, h2, h3⟩ := slice_bounds lo hi its.toArray.size
  unfold slicePick
  rw [h1, h2, h3]
  simp only [sliceRange_one, pick_run, List.size_toArray] <;> rfl
def rSlL (K : PySem.W.Frag) : V -> Option Int -> Option Int -> Hp -> VK -> Prop := fun x lo hi H Q => ∃ a xs, x = .ref a /\ SqL K H a xs /\ ∀ p, H p = none -> Q (.ref p) (upd H p (.lst (cutV xs lo hi)))
theorem sl_list : SlR X (rSlL X.K) := by
  intro pins s σ H x v vl vu lo hi sl Q I rx hs pl pu h
  obtain ⟨a, xs, rfl, hx, q⟩ := h
  cases rx
  obtain ⟨its, r, ht, hz⟩ := I.list hx
  have hlen := r.length
  refine ⟨"list", _, slot_list_getitem.lookup, ht.isList.typeIs, ?_⟩
  refine wpAny_getItem_list_slice ht.isList hs pl pu .none (by simp) ?_ (by rw [List.size_toArray] <;> omega)
  rw [slicePick_cut, <- hlen]
  refine ⟨.ref s.heap.objs.size, _, I.laid (t' := s.toks) (o := .lst (cutV xs lo hi)) (fun b ob q => Heap.get?_push_of_some _ q) (Nat.le_refl _) ?_, rfl, q _ (I.hok.fresh (Nat.le_refl _))⟩
  exact ⟨Nat.le_trans (cutV_length xs lo hi) hz, _, 0, (r.drop (HT.sIx xs.length 0 lo)).take (HT.sIx xs.length xs.length hi - HT.sIx xs.length 0 lo), Heap.get?_push_size _ rfl⟩
def flatV : V -> Bool
  | .non => true
  | .bl _ => true
  | .int _ => true
  | .str _ => true
  | _ => false
def eqV : V -> V -> Bool
  | .non, .non => true
  | .bl a, .bl b => a == b
  | .bl a, .int b => (if a then 1 else 0) == b
  | .int a, .bl b => a == (if b then 1 else 0)
  | .int a, .int b => a == b
  | .str a, .str b => a == b
  | _, _ => false
theorem eqAt_V {A : Around} {s : Shared} {y x : V} {u v : Value} (ry : RelV y u) (rx : RelV x v) (fy : flatV y = true) (fx : flatV x = true) : SeqAt.EqAt A s u v (eqV y x) := by
  cases y with
  | non =>
    cases ry
    cases x with
    | non => cases rx; exact SeqAt.EqAt.same _
    | bl b => cases rx; exact SeqAt.EqAt.none_bool b
    | int b => obtain ⟨t, rfl⟩ := rx; exact SeqAt.EqAt.none_int b t
    | str b => obtain ⟨t, rfl⟩ := rx; exact SeqAt.EqAt.none_str b t
    | _ => exact absurd (show false = true from fx) Bool.false_ne_true
  | bl a =>
    cases ry
    cases x with
    | non => cases rx; exact SeqAt.EqAt.bool_none a
    | bl b => cases rx; exact SeqAt.EqAt.bool_bool a b
    | int b => obtain ⟨t, rfl⟩ := rx; exact SeqAt.EqAt.bool_int a b t
    | str b => obtain ⟨t, rfl⟩ := rx; exact SeqAt.EqAt.bool_str a b t
    | _ => exact absurd (show false = true from fx) Bool.false_ne_true
  | int a =>
    obtain ⟨t', rfl⟩ := ry
    cases x with
    | non => cases rx; exact SeqAt.EqAt.int_none a t'
    | bl b => cases rx; exact SeqAt.EqAt.int_bool a t' b
    | int b => obtain ⟨t, rfl⟩ := rx; exact SeqAt.EqAt.int_int a t' b t
    | str b => obtain ⟨t, rfl⟩ := rx; exact SeqAt.EqAt.int_str a t' b t
    | _ => exact absurd (show false = true from fx) Bool.false_ne_true
  | str a =>
    obtain ⟨t', rfl⟩ := ry
    cases x with
    | non => cases rx; exact SeqAt.EqAt.str_none a t'
    | bl b => cases rx; exact SeqAt.EqAt.str_bool a t' b
    | int b => obtain ⟨t, rfl⟩ := rx; exact SeqAt.EqAt.str_int a t' b t
    | str b => obtain ⟨t, rfl⟩ := rx; exact SeqAt.EqAt.str_str a t' b t
    | _ => exact absurd (show false = true from fx) Bool.false_ne_true
  | _ => exact absurd (show false = true from fy) Bool.false_ne_true
theorem call_len_seq : CallR X (.builtin "len") (fun xs H Q => ∃ p ys, xs = [.ref p] /\ (SqL X.K H p ys \/ SqT X.K H p ys) /\ Q (.int ys.length) H) := by
  intro pins s σ H xs us Q I r h
  obtain ⟨p, ys, rfl, hq, q⟩ := h
  obtain ⟨u, rfl, rx⟩ := vals1 r
  cases rx
  have hn := line63
  rcases hq with hq | hq
  . obtain ⟨its, r', pl, hz⟩ := I.list hq
    have hlen := r'.length
    exact Calls.call_len_list pl.isList (by simp only [List.size_toArray] <;> omega) ⟨.int ys.length, H, I.tok _, ⟨s.toks + 1, by rw [List.size_toArray, hlen]⟩, q⟩
  . obtain ⟨its, r', pl, hz⟩ := I.tuple hq
    have hlen := r'.length
    exact len_tuple pl (by simp only [List.size_toArray] <;> omega) ⟨.int ys.length, H, I.tok _, ⟨s.toks + 1, by rw [List.size_toArray, hlen]⟩, q⟩
theorem call_list_of : CallR X (.type "list") (fun xs H Q => ∃ p ys, xs = [.ref p] /\ (SqL X.K H p ys \/ SqT X.K H p ys) /\ ∀ l, H l = none -> Q (.ref l) (upd H l (.lst ys))) := by
  intro pins s σ H xs us Q I r h
  obtain ⟨p, ys, rfl, hq, q⟩ := h
  obtain ⟨u, rfl, rx⟩ := vals1 r
  cases rx
  have fin : ∀ (its : List Value), Vals ys its -> ys.length <= sizeLine -> ∀ (h' : Heap) (c' : Nat), (∀ b o', s.heap.get? b = some o' -> h'.get? b = some o') ->
      h'.get? s.heap.objs.size = some { cls := .type "list", dict := none, data := .seq its.toArray c', slots := #[] } -> EP X pins σ Q (.ref s.heap.objs.size) { s with heap := h' } := fun its r' hz h' c' kp e =>
    ⟨.ref s.heap.objs.size, _, I.laid (t' := s.toks) kp (Nat.le_refl _) (show ObjOk X.prog X.w _ h' _ (.lst ys) from ⟨hz, its, c', r', e⟩), rfl, q _ (I.hok.fresh (Nat.le_refl _))⟩
  rcases hq with hq | hq
  . obtain ⟨its, r', pl, hz⟩ := I.list hq
    have hlen := r'.length
    obtain ⟨o, ho, hc, n, hd⟩ := pl.isList
    exact call_list_seq p (.inl rfl) ho hc hd (fun h' c' kp e => fin its r' hz h' c' kp e) (by simp only [List.size_toArray] <;> omega)
  . obtain ⟨its, r', pl, hz⟩ := I.tuple hq
    have hlen := r'.length
    obtain ⟨o, ho, hc, n, hd⟩ := pl
    exact call_list_seq p (.inr rfl) ho hc hd (fun h' c' kp e => fin its r' hz h' c' kp e) (by simp only [List.size_toArray] <;> omega)
theorem call_tuple_of : CallR X (.type "tuple") (fun xs H Q => ∃ p ys, xs = [.ref p] /\ ((SqL X.K H p ys /\ ∀ l, H l = none -> Q (.ref l) (upd H l (.tup ys))) \/ (SqT X.K H p ys /\ Q (.ref p) H))) := by
  intro pins s σ H xs us Q I r h
  obtain ⟨p, ys, rfl, h⟩ := h
  obtain ⟨u, rfl, rx⟩ := vals1 r
  cases rx
  rcases h with ⟨hq, q⟩ | ⟨hq, q⟩
  . obtain ⟨its, r', pl, hz⟩ := I.list hq
    have hlen := r'.length
    refine call_tuple_list pl.isList (fun h' kp => ?_) (by simp only [List.size_toArray] <;> omega)
    have I1 : Inv X pins σ H { s with heap := h' } := I.kept (t' := s.toks) kp
    have I2 : Inv X pins σ (upd H h'.objs.size (.tup ys)) { s with heap := h'.push { cls := .type "tuple", data := .seq its.toArray } } :=
      I1.laid (t' := s.toks) (fun b o e => Heap.get?_push_of_some _ e) (Nat.le_refl _) (show ObjOk X.prog X.w _ _ _ (.tup ys) from ⟨hz, its, r', IsTup.new _ _⟩)
    exact ⟨.ref h'.objs.size, _, I2, rfl, q _ (I1.hok.fresh (Nat.le_refl _))⟩
  . obtain ⟨its, r', pl, hz⟩ := I.tuple hq
    exact call_tuple_same pl ⟨.ref p, H, I, rfl, q⟩
def tyV (K : PySem.W.Frag) (T : String) (x : V) (H : Hp) : Prop := match x with
  | .str _ => T = "str"
  | .int _ => T = "int"
  | .ref p => (T = "list" /\ ∃ xs, SqL K H p xs) \/ (T = "tuple" /\ ∃ o, K.lookup p = some o /\ o.cls = .type "tuple" /\ o.dict = none) \/
      (T = "dict" /\ ((∃ kvs, H p = some (.dK kvs)) \/ ∃ kvs, H p = some (.dT kvs))) \/ (T = "set" /\ ∃ S n, H p = some (.set S n))
  | _ => False
theorem tyV_is {pins : List (Addr × Obj)} {σ : St} {H : Hp} {s : Shared} {T : String} {x : V} {v : Value} (I : Inv X pins σ H s) (r : RelV x v) (ty : tyV X.K T x H) :
    s.TypeIs v T /\ ∀ a, v = .ref a -> ∃ ob, s.heap.get? a = some ob /\ ob.dict = none := by
  cases x with
  | str z =>
    obtain ⟨t, rfl⟩ := r
    cases (show T = "str" from ty)
    exact ⟨typeIs_str s z t, fun _ e => nomatch e⟩
  | int i =>
    obtain ⟨t, rfl⟩ := r
    cases (show T = "int" from ty)
    exact ⟨typeIs_int s i t, fun _ e => nomatch e⟩
  | ref p =>
    cases r
    rcases ty with ⟨rfl, xs, hq⟩ | ⟨rfl, o, hk, hc, hd⟩ | ⟨rfl, hk⟩ | ⟨rfl, S, n, hk⟩
    . obtain ⟨its, _, pl, _⟩ := I.list hq
      refine ⟨pl.isList.typeIs, fun a e => ?_⟩
      cases e
      obtain ⟨o, n, e, c, hd, _⟩ := pl
      exact ⟨o, e, hd⟩
    . refine ⟨⟨o, I.kIn p o hk, hc⟩, fun a e => ?_⟩
      cases e
      exact ⟨o, I.kIn _ o hk, hd⟩
    . have z : ∃ o, s.heap.get? p = some o /\ o.ExactDict := by
        rcases hk with ⟨kvs, hk⟩ | ⟨kvs, hk⟩
        . obtain ⟨_, _, _, _, o, _, _, e, ex, _⟩ := I.hok p _ hk
          exact ⟨o, e, ex⟩
        . obtain ⟨_, _, _, _, o, _, _, e, ex, _⟩ := I.hok p _ hk
          exact ⟨o, e, ex⟩
      obtain ⟨o, e, ex⟩ := z
      refine ⟨⟨o, e, ex.1⟩, fun a e2 => ?_⟩
      cases e2
      exact ⟨o, e, ex.2.1⟩
    . obtain ⟨o, _, _, _, e, ex, _⟩ := I.hok p _ hk
      refine ⟨⟨o, e, ex.1⟩, fun a e2 => ?_⟩
      cases e2
      exact ⟨o, e, ex.2.1⟩
  | _ => exact False.elim ty
def tBM (K : PySem.W.Frag) (T : String) (r : V -> List V -> Hp -> VK -> Prop) (to : TE) (t : TA) : TE := fun σ H Q => to σ H fun x H1 => tyV K T x H1 /\ t σ H1 fun xs H2 => r x xs H2 Q
variable {o e : Expr} {es : List Expr} {to : TE} {t : TA} {name : Str} {apos cpos : Pos} {T id : String} {r : V -> List V -> Hp -> VK -> Prop}
theorem pe_bm (pa : PlainAttrs T) (slot : Slot T name id) (hty : typeOf (.builtin id) = pure (.type "method_descriptor")) (hm : MtR X id r) (ho : PE X o to) (ha : PA X (e :: es) t)
    (hbase : attributeBase o name X.env (eval o X.env) = eval o X.env := by rfl)
    (hfew : ((backTo cpos (starEach (e :: es) X.env)).all (fun x => !x.1) && (backToKw cpos (keywordEach [] X.env)).all (fun x => x.1.isSome)
      && decide ((e :: es).length + ([] : List Keyword).length + (if ([] : List Keyword).isEmpty then 0 else 1) < 30)) = true := by rfl)
    (hline : (apos.endLine == cpos.line) = true := by rfl) (hs : starEach (e :: es) X.env = (false, eval e X.env) :: starEach es X.env := by rfl) (hplain : (backTo cpos (starEach es X.env)).any (·.1) = false := by rfl) :
    PE X (.Call (.Attribute o name apos) (e :: es) [] cpos) (tBM X.K T r to t) := by
  intro pins s σ H Q I h
  refine wpAny_Call_method_late hbase hfew hline rfl (thn (ho pins s σ H _ I h) fun v s1 ⟨x, H1, I1, r1, ty, q1⟩ => ?_)
  obtain ⟨h1, h2⟩ := tyV_is I1 r1 ty
  refine ⟨T, id, pa, slot, hty, h1, h2, ?_⟩
  have hA := ha cpos pins s1 σ H1 _ I1 q1
  rw [hs] at hA ⊢
  refine Calls.callWith_builtin (by show (false || (backTo cpos (starEach es X.env)).any (·.1)) = false; rw [hplain] <;> rfl) (Calls.evalArgs_plain ?_)
  exact thn hA fun us s2 ⟨vs, H2, I2, r2, q2⟩ => hm pins s2 σ H2 x vs v us Q I2 r1 r2 q2
/- xs.append(e), list.index on a module's tuple .. are MtR facts of 06m -/
end
end L2
namespace L2
open PySem PySem.Spec PyProof.Rows
def MtM (X : Cx) (id : String) (r : V -> List V -> Hp -> VK -> Prop) : Prop :=
  ∀ (pins : List (Addr × Obj)) (s : Shared) (σ : St) (H : Hp) (x : V) (xs : List V) (v : Value) (us : List Value) (Q : VK), Inv X pins σ H s -> RelV x v -> Vals xs us -> r x xs H Q ->
    wpAny (model X.prog X.w) X.A (call (.builtin id) (v :: us)) (EP X pins σ Q) X.xe s
theorem Vals.one : ∀ {x : V} {us : List Value}, Vals [x] us -> ∃ u, us = [u] /\ RelV x u
  | _, _, .cons r .nil => ⟨_, rfl, r⟩
theorem Vals.rep {xs : List V} {us : List Value} (h : Vals xs us) : ∀ k : Nat, Vals (List.replicate k xs).flatten (List.replicate k us).flatten
  | 0 => .nil
  | k + 1 => by
    rw [List.replicate_succ, List.replicate_succ, List.flatten_cons, List.flatten_cons]
    exact Vals.append h (Vals.rep h k)
theorem foldl_rep (its : List Value) : ∀ (k : Nat) (acc : List Value),
    List.foldl (fun x1 x2 => x1 ++ x2) acc.toArray (List.replicate k its.toArray) = (acc ++ (List.replicate k its).flatten).toArray
  | 0, acc => by simp
  | k + 1, acc => by
    have e : acc.toArray ++ its.toArray = (acc ++ its).toArray := by simp
    have e2 : (acc ++ its) ++ (List.replicate k its).flatten = acc ++ (List.replicate (k + 1) its).flatten := by
      rw [List.replicate_succ, List.flatten_cons, List.append_assoc]
    rw [<- e2, <- foldl_rep its k (acc ++ its), <- e, List.replicate_succ, List.foldl_cons]
section
variable {X : Cx} {pins : List (Addr × Obj)} {σ : St} {H : Hp} {s : Shared} {l b : Addr} {xs ys zs : List V}
theorem Inv.lset {its its' : List Value} {n : Nat} {f : Array Value -> Array Value} {t' : Nat} (I : Inv X pins σ H s) (hH : H l = some (.lst xs))
    (e : s.heap.get? l = some { cls := .type "list", data := .seq its.toArray n }) (hf : f its.toArray = its'.toArray) (hv : Vals ys its') (hz : ys.length <= sizeLine) :
    Inv X pins σ (upd H l (.lst ys)) { s with heap := s.heap.update l (Obj.mapSeq f), toks := t' } := by
  have q := PySem.IsL.update e f
  rw [hf] at q
  refine I.write (x := l) (e := l) (by rw [hH]; exact trivial) (.inl rfl) (fun b' u hb hu => (Heap.get?_update_other s.heap (Obj.mapSeq f) (Ne.symm hb)).trans hu) ⟨_, q⟩ ?_
  exact ⟨hz, its', _, hv, q⟩
theorem Inv.lstM (I : Inv X pins σ H s) (hH : H l = some (.lst xs)) : xs.length <= sizeLine /\ ∃ (its : List Value) (n : Nat), Vals xs its /\ xs.length = its.length /\ s.heap.get? l = some { cls := .type "list", data := .seq its.toArray n } := by
  obtain ⟨z, its, n, r, e⟩ := I.hok l _ hH
  exact ⟨z, its, n, r, r.length, e⟩
end
section
variable {X : Cx}
def rAppend : V -> List V -> Hp -> VK -> Prop := fun x vs H Q => ∃ l xs y, x = .ref l /\ vs = [y] /\ H l = some (.lst xs) /\ xs.length < sizeLine /\ Q .non (upd H l (.lst (xs ++ [y])))
theorem mt_append : MtM X "list.append" rAppend := by
  intro pins s σ H x vs v us Q I rx rv h
  obtain ⟨l, xs, y, rfl, rfl, hH, hz, q⟩ := h
  cases rx
  obtain ⟨u, rfl, ru⟩ := rv.one
  obtain ⟨z, its, n, r, hl, e⟩ := I.lstM hH
  refine call_meets F.slot_list_append ⟨_, e, rfl⟩ F.entry_list_append (F.args_list_append_2 _ _) (PySem.list_append l its.toArray n u (by rw [List.size_toArray]; omega)) ⟨e, ?_⟩
  refine ⟨.non, _, I.lset (its' := its ++ [u]) hH e (by simp) (r.append (.cons ru .nil)) ?_, rfl, q⟩
  rw [List.length_append, List.length_singleton]
  omega
theorem len_rep {α : Type} (xs : List α) (k : Nat) : (List.replicate k xs).flatten.length = k * xs.length := by
  induction k with
  | zero => simp
  | succ k ih => rw [List.replicate_succ, List.flatten_cons, List.length_append, ih, Nat.succ_mul, Nat.add_comm]
end
section
variable {prog : Program} {w : World} {A : Around} {E : Value -> Shared -> Prop} {s : Shared}
end
section
variable {X : Cx}
end
end L2
namespace Att
open PySem PySem.W PySem.Calls PyProof.Rows
theorem ints_of_wellAll {P : Params} {h : Heap} : ∀ (ns : List Int) (vs : List Value), WellAll P h vs (ns.map WData.int) -> IntsAre vs ns := by
  intro ns
  induction ns with
  | nil =>
    intro vs w
    rw [List.map_nil] at w
    cases w
    exact .nil
  | cons n ns ih =>
    intro vs w
    rw [List.map_cons] at w
    cases w with
    | cons a b =>
      cases a
      exact .cons _ _ (ih _ b)
theorem script_of {l : OpenLaw} {n : Nat} (hn : l.most = some n) {P : Params} {h : Heap} {args : List WData} {vals : List Value}
    (hpre : l.row.toRowW.claim.pre args = true) (hwl : WellAll P h vals args) :
    ∃ a vs ns, vals = [Value.ref a] /\ args = [WData.list (ns.map WData.int)] /\ h.get? a = some { cls := .type "list", data := .seq vs.toArray } /\ IntsAre vs ns /\ ns.length <= n := by
  have hsh : WShape.hasAll [] args [.list .int] = true := (pre_splitW hpre).1
  have hc : l.pre.holds [] { args := args } = true := (pre_splitW hpre).2
  obtain ⟨d, r, rfl, h1, h2⟩ := hasAllW_cons hsh
  obtain rfl := hasAllW_nil h2
  obtain ⟨xs, rfl, h3⟩ := hasW_list h1
  obtain ⟨ns, rfl⟩ := items_int h3
  have hlen : ns.length <= n := by
    unfold OpenLaw.pre at hc
    have h4 : (WTm.not (.lt (.lit (.int (n : Int))) (.len (.arg 0)))).holds [] { args := [.list (ns.map .int)] } = true := by
      have h4 := (holds_andW hc).1
      rw [hn] at h4
      exact h4
    have h5 := condW_of h4 (w_not (w_lt w_lit (w_len_list (w_arg rfl))))
    rw [List.length_map] at h5
    refine Nat.le_of_not_lt fun q => ?_
    have q' : (n : Int) < ((ns.length : Nat) : Int) := by omega
    first
      | (rw [decide_eq_true q'] at h5; exact absurd h5 (by decide))
      | (simp at h5; omega)
  cases hwl with
  | cons w1 w2 =>
    cases w2
    cases w1 with
    | list ho hall => exact ⟨_, _, ns, rfl, rfl, ho, ints_of_wellAll ns _ hall, hlen⟩
theorem post_true (l : OpenLaw) (args : List WData) : l.row.toRowW.claim.post args (.bool true) args = true :=
  postW_of (r := l.row.toRowW) (X := (true == true))
    (show WShape.has [] (.bool true) .bool = true by first | rfl | decide | simp [WShape.has, WShape.arms, WShape.armsAll])
    (show (WTm.eq .res (.lit (.bool true))).value [] { args := args, res := some (.bool true), after := args } = some (.bool (true == true)) from w_eq_bool (w_res rfl) w_lit) rfl
theorem attach_call {l : OpenLaw} {n : Nat} {q : Program} {loose : List Str} {XP : (Str -> Option Value) -> Heap -> Prop} {YP : World -> Heap -> Prop} {d : DefRec}
    (hn : l.most = some n) (hdf : d.params.defaults = [])
    (call : ∀ (w : World) (s₀ s₁ : Shared) (mg mb : Str -> Option Value) (fa : Addr) (o : Obj) (pm cd doc : Value) (a : Addr) (vs : List Value) (ns : List Int),
      Ground q loose [] XP w s₀ mg mb s₁.heap -> YP w s₁.heap ->
      s₁.heap.get? fa = some o -> o.data = .func (docDef d.name d.params d.body d.scope pm cd doc) -> s₁.heap.CodeRec cd d.name -> mg d.name = some (.ref fa) ->
      s₁.heap.get? a = some { cls := .type "list", data := .seq vs.toArray } -> IntsAre vs ns -> ns.length <= n -> s₁.gens = #[] ->
      codeAny (model l.prog w) callerA (.call (.ref fa) ⟨[.ref a], []⟩) (fun r s' => r = .ok (.ret (.bool true)) /\ OldK s₁.heap s'.heap /\ s'.os = s₁.os /\ AllBare s'.gens) s₁) :
    WalkO q loose XP YP l.row.toRowW d [] (fun f vs => PySem.call f vs) := by
  intro w s₀ s₁ mg mb G Y fa o pm cd doc dV kV ho hd hcd hD hmg hg args vals as hpre hlay hrd hwl hlo
  obtain rfl : dV = .none := Dflts.none hD hdf
  obtain rfl : kV = .none := Dflts.noKw hD
  obtain ⟨a, vs, ns, rfl, rfl, hobj, hints, hlen⟩ := script_of hn hpre hwl
  refine enter_call (codeAny_mono (call w s₀ s₁ mg mb fa o pm cd doc a vs ns G Y ho (fd_plain hd) hcd hmg hobj hints hlen hg) fun r s' hq => ?_)
  obtain ⟨rfl, h2, h3, h4⟩ := hq
  exact ⟨.inl ⟨.bool true, .bool true, [], rfl, fun _ => rfl, .bool true, post_true l _, fun _ => ⟨List.Pairwise.nil, fun _ hm => (nomatch hm)⟩⟩, h2, h3, h4⟩
section
variable {prog : Program} {w : World} {A : Around} {E : Value -> Shared -> Prop} {s : Shared} {K : Frag}
end
end Att
namespace L2
open PySem PySem.Spec PyProof.Rows
theorem vals_ints : ∀ {vs : List Value} {ns : List Int}, IntsAre vs ns -> Vals (ns.map V.int) vs
  | _, _, .nil => .nil
  | _, _, .cons n t h => .cons ⟨t, rfl⟩ (vals_ints h)
def Only (H : Hp) : Prop := ∀ b, H b = none \/ ∃ o xs, H b = some (.frz o (.lst xs))
theorem law_call {P : Program} {w : World} {K : PySem.W.Frag} {mg mb : Str -> Option Value} {CX : CXT} {k : Nat} {fa a : Addr} {fd : FuncData} {x : Str} {sp : Sp} {s₁ : Shared} {vs : List Value} {ns : List Int}
    (KX : K.In s₁.heap) (hns : s₁.heap.Ns mainGlobals mg) (hb : s₁.heap.Ns builtinsNs mb) (hbb : ∀ x : Str, x ≠ "__name__" -> mb x = bootBuiltins x) (hlim : s₁.heap.NoLimit) (hg : s₁.gens = #[])
    (ha : s₁.heap.get? a = some { cls := .type "list", data := .seq vs.toArray }) (hi : IntsAre vs ns) (hl : ns.length <= sizeLine) (hr : Room k callerA)
    (F : ∀ base : Heap, K.In base -> base.Ns mainGlobals mg -> FnOk P w K mg base CX k fa fd [x] sp) (hbind : ∀ (s : Shared) (u : Value), BindsTo s fd ⟨[u], []⟩ [(x, u)])
    (hsp : ∀ H : Hp, Only H -> SqL K H a (ns.map V.int) -> sp [.ref a] H (fun v _ => v = .bl true) fun _ _ _ => False)
    (hCX : ∀ H e s', CX [] H s₁ (fun _ _ _ => False) e s' -> False) :
    codeAny (model P w) callerA (.call (.ref fa) ⟨[.ref a], []⟩) (fun r s' => r = .ok (.ret (.bool true)) /\ OldK s₁.heap s'.heap /\ s'.os = s₁.os /\ AllBare s'.gens) s₁ := by
  have rv := vals_ints hi
  have lenV := hi.length
  -- from an abstract heap in which nothing but the script may be tracked
  have core : ∀ H : Hp, Only H -> SqL K H a (ns.map V.int) -> HOk P w H s₁.heap -> (∀ b, H b ≠ none -> b = a) -> (H a ≠ none -> K.lookup a = none) ->
      codeAny (model P w) callerA (.call (.ref fa) ⟨[.ref a], []⟩) (fun r s' => r = .ok (.ret (.bool true)) /\ OldK s₁.heap s'.heap /\ s'.os = s₁.os /\ AllBare s'.gens) s₁ := by
    intro H hO hS hok hA hK
    have base_of : ∀ {b : Addr} {o : Obj}, s₁.heap.get? b = some o -> H b = none -> (hidT s₁.heap H).get? b = some o := fun e n => hidT_get e n
    have noA : ∀ {b : Addr} {o : Obj} {es : Array DictEntry} {ep : Nat}, s₁.heap.get? b = some o -> o.data = .dict es ep -> H b = none := fun {b o es ep} e d => by
      cases q : H b with
      | none => rfl
      | some u =>
        have e' : b = a := hA b (by rw [q]; simp)
        subst e'
        rw [ha] at e; cases e
        have d' : Data.seq vs.toArray _ = Data.dict es ep := d
        cases d'
    have nsK : ∀ {b : Addr} {m : Str -> Option Value}, s₁.heap.Ns b m -> (hidT s₁.heap H).Ns b m := fun {b m} ⟨o, es, ep, e, d, r⟩ => ⟨o, es, ep, base_of e (noA e d), d, r⟩
    have hKb : K.In (hidT s₁.heap H) := fun b o e => base_of (KX b o e) (by
      cases q : H b with
      | none => rfl
      | some u =>
        have e' : b = a := hA b (by rw [q]; simp)
        subst e'
        rw [hK (by rw [q]; simp)] at e; cases e)
    have hM : Mod K mg (hidT s₁.heap H) := ⟨hKb, nsK hns, ⟨mb, nsK hb, hbb⟩, let ⟨mc, h1, h2⟩ := hlim; ⟨mc, nsK h1, h2⟩⟩
    have e0 : Env0 P w K mg (hidT s₁.heap H) callerA [] s₁ H := ⟨rfl, hM, fun b o e => of_hidT e, Nat.le_of_eq (hidT_size _ _), trivial, fun b hb => absurd (show b ∈ ([] : List Addr) from hb) (by simp), hok, .of_eq hg⟩
    refine codeAny_mono ((F _ hKb (nsK hns)).run callerA [] s₁ H ⟨[.ref a], []⟩ [.ref a] [.ref a] _ _ hr e0 (hbind s₁ (.ref a)) (.cons rfl .nil) (hsp H hO hS)) fun r s' h => ?_
    cases r with
    | error e => exact (hCX H e s' h).elim
    | ok fl =>
      cases fl with
      | next => exact False.elim h
      | brk => exact False.elim h
      | cont => exact False.elim h
      | ret u =>
        obtain ⟨v, H', os, bare, un, hok', r', q⟩ := h
        have q' : v = .bl true := q
        subst q'
        obtain rfl : u = Value.bool true := r'
        refine ⟨rfl, OldK.of_keep fun b o e => ?_, os, bare⟩
        cases q : H b with
        | none => exact un.keep b o e q (by intro z; exact absurd (show b ∈ ([] : List Addr) from z) (by simp)) (by simp)
        | some u =>
          rcases hO b with z | ⟨ob, xs, z⟩
          . rw [q] at z; cases z
          . have z2 := un.frzs b ob _ z
            obtain ⟨e1, _⟩ := hok b _ z
            obtain ⟨e2, _⟩ := hok' b _ z2
            rw [e] at e1; cases e1
            exact e2
  cases hk : K.lookup a with
  | some o =>
    -- the script is one of the module's own objects
    have e := KX a o hk
    rw [ha] at e
    cases e
    refine core (fun _ => none) (fun _ => .inl rfl) (.inr ⟨_, vs.toArray, _, hk, rfl, rfl, rfl, by rw [List.size_toArray, lenV]; exact hl, by simpa using rv⟩) (fun b u z => by have z' : (none : Option HO) = some u := z; cases z') (fun b z => absurd rfl z) fun z => absurd rfl z
  | none =>
    refine core (fun b => if b = a then some (.frz { cls := .type "list", data := .seq vs.toArray } (.lst (ns.map V.int))) else none) (fun b => ?_) (.inl (.inr ⟨{ cls := .type "list", data := .seq vs.toArray }, if_pos rfl⟩)) (fun b u z => ?_) (fun b z => ?_) fun _ => hk
    . by_cases hb : b = a
      . exact .inr ⟨_, _, if_pos hb⟩
      . exact .inl (if_neg hb)
    . by_cases hb : b = a
      . have z' := (if_pos hb).symm.trans z
        cases z'
        subst hb
        exact ⟨ha, by rw [List.length_map]; exact hl, vs, _, rv, ha⟩
      . have z' := (if_neg hb).symm.trans z
        cases z'
    . by_cases hb : b = a
      . exact hb
      . exact absurd (if_neg hb) z
end L2
namespace L2
open PySem PySem.Spec PyProof.Rows
theorem walk_of {l : PySem.W.OpenLaw} {n k : Nat} {q : Program} {loose : List Str} {XP : (Str -> Option Value) -> Heap -> Prop} {YP : World -> Heap -> Prop} {d : DefRec} {K : Params -> PySem.W.Frag} {CX : World -> CXT} {sp : World -> Sp} {x : Str}
    (hn : l.most = some n) (hn2 : n <= sizeLine) (hdf : d.params.defaults = []) (hr : Room k callerA)
    (hY : ∀ (w : World) (h : Heap), YP w h -> (K w.params).In h)
    (F : ∀ (w : World) (mg : Str -> Option Value) (fa : Addr) (h : Heap), (K w.params).In h -> h.Ns mainGlobals mg -> mg d.name = some (.ref fa) ->
      ∃ fd : FuncData, (∀ (s : Shared) (u : Value), BindsTo s fd ⟨[u], []⟩ [(x, u)]) /\
        ∀ base : Heap, (K w.params).In base -> base.Ns mainGlobals mg -> FnOk l.prog w (K w.params) mg base (CX w) k fa fd [x] (sp w))
    (hsp : ∀ (w : World) (H : Hp) (a : Addr) (ns : List Int), ns.length <= n -> Only H -> SqL (K w.params) H a (ns.map V.int) -> sp w [.ref a] H (fun v _ => v = .bl true) fun _ _ _ => False)
    (hCX : ∀ (w : World) (H : Hp) (s : Shared) (e : Value) (s' : Shared), CX w [] H s (fun _ _ _ => False) e s' -> False) :
    PySem.W.WalkO q loose XP YP l.row.toRowW d [] (fun f vs => PySem.call f vs) := by
  refine Att.attach_call hn hdf fun w s₀ s₁ mg mb fa o pm cd doc a vs ns G Y ho hd hcd hmg hobj hints hlen hg => ?_
  have KX := hY w _ Y
  obtain ⟨fd, hb, hF⟩ := F w mg fa _ KX G.T.g hmg
  exact law_call KX G.T.g G.T.b G.T.builtins G.T.nolimit hg hobj hints (Nat.le_trans hlen hn2) hr hF hb (fun H hO hS => hsp w H a ns hlen hO hS) fun H e s' => hCX w H s₁ e s'
end L2
namespace L2
open PySem PySem.Spec PyProof.Rows
def inClass (s : Stmt) (j : Nat) : Stmt := match s with
  | .ClassDef _ _ _ body _ _ _ _ _ _ _ => body.getD j (.Pass ⟨0, 0, 0, 0⟩)
  | _ => .Pass ⟨0, 0, 0, 0⟩
def defArgs (s : Stmt) : Arguments := match s with
  | .FunctionDef _ a _ _ _ _ _ _ _ _ => a
  | _ => { posonlyargs := [], args := [], vararg := none, kwonlyargs := [], kw_defaults := [], kwarg := none, defaults := [] }
def defBody (s : Stmt) : List Stmt := match s with
  | .FunctionDef _ _ b _ _ _ _ _ _ _ => b
  | _ => []
def defScope (s : Stmt) : Scope := match s with
  | .FunctionDef _ _ _ _ _ _ sc _ _ _ => sc
  | _ => { kind := .function, names := [], isGenerator := false, isCoroutine := false }
abbrev CX0 : CXT := fun _ _ _ _ _ _ => False
abbrev E0 : XK := fun _ _ _ => False
theorem pass0 {X : Cx} : Passes CX0 X E0 := fun _ _ _ _ _ _ _ h => h.elim
structure Fun (K : PySem.W.Frag) (x qual : Str) (st : Stmt) (f : Addr) (fd : FuncData) : Prop where
  ex : ∃ (oc : Value) (od : Option Addr) (kV doc pm : Value) (an : Option Addr) (cdv ct : Value) (osl : Array (Option Value)),
    fd = PySem.W.fnOf x qual (defArgs st) (defBody st) (defScope st) .none kV doc pm an cdv ct /\ K.lookup f = some ⟨oc, od, .func fd, osl⟩ /\ PySem.W.codeIn K cdv qual = true
  kp : PySem.W.keepIn K (.ref f) = true
section
variable {P : Program} {w : World} {K : PySem.W.Frag} {mg : Str -> Option Value} {base : Heap}
theorem Fun.ok {x qual : Str} {st : Stmt} {f : Addr} {fd : FuncData} {N ps : List Str} {k : Nat} {sp : Sp} (F : Fun K x qual st f fd) (S : FnScope N ps (defScope st)) (len : ∀ vs H Q E, sp vs H Q E -> vs.length = ps.length)
    (hbody : ∀ (cdv : Value) (A : Around) (outer : List Env) (s : Shared) (H : Hp) (vs : List V) (Q : VK) (E : XK), Room k (A.deeper (envOfC qual (defScope st) s.heap.objs.size f cdv)) -> sp vs H Q E ->
      ∃ t, PSs (cxOf CX0 P w K mg base N qual (defScope st) f cdv A outer s H E).nox (defBody st) t /\ t { nx := fun _ H' => Q .non H', rt := Q } (start N vs) H) : FnOk P w K mg base CX0 (k + 1) f fd ps sp := by
  obtain ⟨oc, od, kV, doc, pm, an, cdv, ct, osl, rfl, lk, hcd⟩ := F.ex
  refine fn_of lk hcd S len fun A outer s H vs Q E hr hsp => ?_
  obtain ⟨t, h, q⟩ := hbody cdv A outer s H vs Q E hr hsp
  exact ⟨t, h.nox, q⟩
theorem Fun.binds {x qual : Str} {st : Stmt} {f : Addr} {fd : FuncData} {ps : List Str} (F : Fun K x qual st f fd)
    (h : ∀ (kV doc pm : Value) (an : Option Addr) (cdv ct : Value) (us : List Value), us.length = ps.length -> bindArgs (PySem.W.fnOf x qual (defArgs st) (defBody st) (defScope st) .none kV doc pm an cdv ct) ⟨us, []⟩ = pure (ps.zip us)) : Binds K fd ps [] := by
  obtain ⟨oc, od, kV, doc, pm, an, cdv, ct, osl, rfl, lk, hcd⟩ := F.ex
  exact .all (h kV doc pm an cdv ct)
theorem fun_mk {x qual : Str} {st : Stmt} {f : Addr} {oc : Value} {od an : Option Addr} {osl : Array (Option Value)} {kV doc pm cdv ct : Value} (l : K.lookup f = some ⟨oc, od, .func (PySem.W.fnOf x qual (defArgs st) (defBody st) (defScope st) .none kV doc pm an cdv ct), osl⟩)
    (c : PySem.W.codeIn K cdv qual = true) (k : PySem.W.keepIn K (.ref f) = true) : Fun K x qual st f (PySem.W.fnOf x qual (defArgs st) (defBody st) (defScope st) .none kV doc pm an cdv ct) := ⟨⟨oc, od, kV, doc, pm, an, cdv, ct, osl, rfl, l, c⟩, k⟩
end
theorem hu_of {A : Around} {k : Nat} (hr : Room k A) : A.units + 1 < cLine := Nat.lt_of_le_of_lt (Nat.add_le_add_left (by decide : 1 <= 64) _) hr.units
section
variable {X : Cx}
theorem pv (i : Nat) {x : Str} {pos : Pos} (hN : X.N[i]? = some x := by rfl) (hv : Vis X.env.scope x := by first | exact Or.inl rfl | exact Or.inr (Or.inl rfl) | exact Or.inr (Or.inr rfl)) (hd : (x == ("__debug__" : Str)) = false := by decide)
    (hcd : (x == ("__classdict__" : Str)) = false := by decide) : PE X (.Name x pos) (tVar i) := pe_var hN hv hd hcd
end
theorem ite2 {c A B : Prop} [Decidable c] (h1 : c -> A) (h2 : ¬ c -> B) : if c then A else B := by
  by_cases h : c
  . rw [if_pos h]
    exact h1 h
  . rw [if_neg h]
    exact h2 h
def Same (H H' : Hp) : Prop := ∀ b o, H b = some o -> H' b = some o
theorem Same.refl (H : Hp) : Same H H := fun _ _ h => h
theorem Same.trans {H H1 H2 : Hp} (a : Same H H1) (b : Same H1 H2) : Same H H2 := fun c o h => b c o (a c o h)
theorem Same.seq {K : PySem.W.Frag} {H H' : Hp} {a : Addr} {xs : List V} (e : Same H H') (h : SqL K H a xs) : SqL K H' a xs := by
  rcases h with (h | ⟨o, h⟩) | h
  . exact .inl (.inl (e _ _ h))
  . exact .inl (.inr ⟨o, e _ _ h⟩)
  . exact .inr h
end L2
set_option Elab.async false
set_option linter.all false
set_option maxRecDepth 100000
set_option maxHeartbeats 4000000
namespace L2
open PySem PySem.Spec PyProof.Rows
section
variable {κ : Type} [DecidableEq κ]
def valV (kvs : List (κ × V)) (k : κ) : Option V := (kvs.find? fun kv => decide (kv.1 = k)).map (·.2)
def putK (kvs : List (κ × V)) (k : κ) (v : V) : List (κ × V) :=
  if (kvs.any fun kv => decide (kv.1 = k)) = true then kvs.map (fun kv => if kv.1 = k then (kv.1, v) else kv) else kvs ++ [(k, v)]
theorem valV_pos {p : κ × V} {r : List (κ × V)} {k : κ} (e : p.1 = k) : valV (p :: r) k = some p.2 := by simp [valV, List.find?_cons, e]
theorem valV_neg {p : κ × V} {r : List (κ × V)} {k : κ} (e : ¬ p.1 = k) : valV (p :: r) k = valV r k := by simp [valV, List.find?_cons, e]
theorem valV_any (k : κ) : ∀ kvs : List (κ × V), (kvs.any fun kv => decide (kv.1 = k)) = (valV kvs k).isSome
  | [] => rfl
  | p :: r => by
    rw [List.any_cons]
    by_cases e : p.1 = k
    . simp only [valV_pos e, decide_eq_true e, Bool.true_or, Option.isSome_some]
    . rw [valV_neg e, decide_eq_false e, Bool.false_or]; exact valV_any k r
theorem length_putK (kvs : List (κ × V)) (k : κ) (v : V) : (putK kvs k v).length <= kvs.length + 1 := by
  unfold putK
  split
  . rw [List.length_map]; omega
  . rw [List.length_append, List.length_cons, List.length_nil]; omega
theorem putK_new {kvs : List (κ × V)} {k : κ} (v : V) (h : valV kvs k = none) : putK kvs k v = kvs ++ [(k, v)] := by
  unfold putK
  rw [valV_any, h]
  exact if_neg (by decide)
theorem RelO.isSome_eq {o : Option V} {u : Option Value} (r : RelO o u) : o.isSome = u.isSome := by
  cases o with
  | none => cases u with
    | none => rfl
    | some _ => exact (show False from r).elim
  | some _ => cases u with
    | none => exact (show False from r).elim
    | some _ => rfl
theorem RelO.getD {o : Option V} {u : Option Value} {d : V} {d' : Value} (r : RelO o u) (rd : RelV d d') : RelV (o.getD d) (u.getD d') := by
  cases o with
  | none => cases u with
    | none => exact rd
    | some _ => exact (show False from r).elim
  | some _ => cases u with
    | none => exact (show False from r).elim
    | some _ => exact r
theorem KV.val {kvs : List (κ × V)} {vs : List (κ × Value)} (r : KV kvs vs) (k : κ) : RelO (valV kvs k) (valueAt vs k) := by
  unfold KV at r
  induction r with
  | nil => exact True.intro
  | @cons p q ps qs h t ih =>
    obtain ⟨h1, h2⟩ := h
    by_cases e : p.1 = k
    . have e' : q.1 = k := h1.symm.trans e
      have b : valueAt (q :: qs) k = some q.2 := by simp [valueAt, List.find?_cons, e']
      rw [valV_pos e, b]; exact h2
    . have e' : ¬ q.1 = k := fun z => e (h1.trans z)
      have b : valueAt (q :: qs) k = valueAt qs k := by simp [valueAt, List.find?_cons, e']
      rw [valV_neg e, b]; exact ih
theorem KV.any {kvs : List (κ × V)} {vs : List (κ × Value)} (r : KV kvs vs) (k : κ) : (kvs.any fun kv => decide (kv.1 = k)) = vs.any fun kv => decide (kv.1 = k) := by
  unfold KV at r
  induction r with
  | nil => rfl
  | cons h t ih => rw [List.any_cons, List.any_cons, ih, h.1]
theorem KV.repl {kvs : List (κ × V)} {vs : List (κ × Value)} (r : KV kvs vs) (k : κ) {y : V} {u : Value} (ry : RelV y u) :
    KV (kvs.map fun kv => if kv.1 = k then (kv.1, y) else kv) (vs.map fun kv => if kv.1 = k then (kv.1, u) else kv) := by
  unfold KV at r ⊢
  induction r with
  | nil => exact .nil
  | @cons p q ps qs h t ih =>
    rw [List.map_cons, List.map_cons]
    refine .cons ?_ ih
    obtain ⟨h1, h2⟩ := h
    by_cases e : p.1 = k
    . rw [if_pos e, if_pos (h1.symm.trans e)]; exact ⟨h1, ry⟩
    . rw [if_neg e, if_neg (fun z => e (h1.trans z))]; exact ⟨h1, h2⟩
theorem KV.put {kvs : List (κ × V)} {vs : List (κ × Value)} (r : KV kvs vs) (k : κ) {y : V} {u : Value} (ry : RelV y u) : KV (putK kvs k y) (stored vs k u) := by
  unfold putK stored
  rw [r.any k]
  by_cases e : (vs.any fun kv => decide (kv.1 = k)) = true
  . rw [if_pos e, if_pos e]; exact r.repl k ry
  . rw [if_neg e, if_neg e]; exact Paired.snoc r ⟨rfl, ry⟩
theorem KV.length {kvs : List (κ × V)} {vs : List (κ × Value)} (r : KV kvs vs) : kvs.length = vs.length := Paired.length r
end
theorem kV_is {P : Program} {w : World} {k : Key} {u : Value} (r : RelV (kV k) u) : (mixKind P w).is k u = true := by
  cases k with
  | inl i => obtain ⟨t, e⟩ := (show ∃ t, u = Value.int i t from r); subst e; exact mixKind_int P w i t
  | inr x => obtain ⟨t, e⟩ := (show ∃ t, u = Value.str x t from r); subst e; exact mixKind_str P w x t
theorem items_are {P : Program} {w : World} : ∀ {ks : List Key} {us : List Value}, Vals (ks.map kV) us -> ItemsAre (mixKind P w) ks us
  | [], _, r => by rw [List.map_nil] at r; cases r; exact .nil
  | k :: ks, _, r => by
    rw [List.map_cons] at r
    cases r with
    | cons h t => exact .cons (kV_is h) (items_are t)
abbrev KT (H : Hp) : List (List Key × V) -> List (List Key × Addr × Value) -> Prop := Paired fun p q => p.1 = q.1 /\ H q.2.1 = some (.tup (p.1.map kV)) /\ RelV p.2 q.2.2
theorem KT.val {H : Hp} {kvs : List (List Key × V)} {xs : List (List Key × Addr × Value)} (r : KT H kvs xs) (k : List Key) : RelO (valV kvs k) ((atKey xs k).map (·.2)) := by
  induction r with
  | nil => exact True.intro
  | @cons p q ps qs h t ih =>
    obtain ⟨h1, _, h2⟩ := h
    by_cases e : p.1 = k
    . have e' : q.1 = k := h1.symm.trans e
      have b : atKey (q :: qs) k = some q.2 := by simp [atKey, List.find?_cons, e']
      rw [valV_pos e, b]; exact h2
    . have e' : ¬ q.1 = k := fun z => e (h1.trans z)
      have b : atKey (q :: qs) k = atKey qs k := by simp [atKey, List.find?_cons, e']
      rw [valV_neg e, b]; exact ih
theorem KT.repl {H : Hp} {kvs : List (List Key × V)} {xs : List (List Key × Addr × Value)} (r : KT H kvs xs) (k : List Key) {y : V} {u : Value} (ry : RelV y u) :
    KT H (kvs.map fun kv => if kv.1 = k then (kv.1, y) else kv) (xs.map (putAt k u)) := by
  induction r with
  | nil => exact .nil
  | @cons p q ps qs h t ih =>
    rw [List.map_cons, List.map_cons]
    refine .cons ?_ ih
    obtain ⟨h1, h2, h3⟩ := h
    unfold putAt
    by_cases e : p.1 = k
    . rw [if_pos e, if_pos (h1.symm.trans e)]; exact ⟨h1, h2, ry⟩
    . rw [if_neg e, if_neg (fun z => e (h1.trans z))]; exact ⟨h1, h2, h3⟩
theorem KT.put {H : Hp} {kvs : List (List Key × V)} {xs : List (List Key × Addr × Value)} (r : KT H kvs xs) (k : List Key) {b : Addr} {y : V} {u : Value} (hb : H b = some (.tup (k.map kV))) (ry : RelV y u) :
    KT H (putK kvs k y) (storedH xs k b u) := by
  have e : (kvs.any fun kv => decide (kv.1 = k)) = (atKey xs k).isSome := by
    rw [valV_any, (r.val k).isSome_eq, Option.isSome_map]
  unfold putK storedH
  rw [e]
  by_cases q : (atKey xs k).isSome = true
  . rw [if_pos q, if_pos q]; exact r.repl k ry
  . rw [if_neg q, if_neg q]; exact Paired.snoc r ⟨rfl, hb, ry⟩
theorem KT.keeps {H H' : Hp} {kvs : List (List Key × V)} {xs : List (List Key × Addr × Value)} (r : KT H kvs xs) (ht : ∀ b ys, H b = some (.tup ys) -> H' b = some (.tup ys)) : KT H' kvs xs :=
  Paired.mapP r fun _ _ z => ⟨z.1, ht _ _ z.2.1, z.2.2⟩
section
variable {P : Program} {w : World} {H : Hp} {h : Heap} {a : Addr}
theorem rd_of {u : HO} (ok : HOk P w H h) (e : Rd H a u) : ObjOk P w H h a u := e.ok ok
theorem dk_rd {kvs : List (Key × V)} (ok : HOk P w H h) (e : Rd H a (.dK kvs)) : kvs.length <= sizeLine /\ (a == sysModules) = false /\ ∃ vs, KV kvs vs /\ h.DictOf (mixKind P w) a vs :=
  show ObjOk P w H h a (.dK kvs) from rd_of ok e
theorem dk_of {kvs : List (Key × V)} (ok : HOk P w H h) (e : H a = some (.dK kvs)) : kvs.length <= sizeLine /\ (a == sysModules) = false /\ ∃ vs, KV kvs vs /\ h.DictOf (mixKind P w) a vs := dk_rd ok (.inl e)
theorem key_of {ks : List Key} (ok : HOk P w H h) (e : H a = some (.tup (ks.map kV))) : (tupleKind (mixKind P w)).is h ks a := by
  obtain ⟨_, its, r, o, h1, h2, n, h3⟩ := (show ObjOk P w H h a (.tup (ks.map kV)) from ok a _ e)
  exact ⟨o, its.toArray, n, h1, h2, h3, by simpa using items_are r⟩
theorem dt_rd {kvs : List (List Key × V)} (ok : HOk P w H h) (e : Rd H a (.dT kvs)) : kvs.length <= sizeLine /\ (a == sysModules) = false /\
    ∃ xs, KT H kvs xs /\ h.DictOfH (tupleKind (mixKind P w)) a xs := by
  obtain ⟨z, y, xs, r, o, es, ep, h1, h2, h3, h4, h5⟩ := (show ObjOk P w H h a (.dT kvs) from rd_of ok e)
  refine ⟨z, y, xs, r, o, es, ep, h1, h2, h3, h4, fun x hx => ?_, h5⟩
  have all : ∀ {l : List (List Key × V)} {m : List (List Key × Addr × Value)}, KT H l m -> ∀ x ∈ m, (tupleKind (mixKind P w)).is h x.1 x.2.1 := by
    intro l m q
    induction q with
    | nil => intro x hx; exact nomatch hx
    | @cons p q ps qs hq t ih =>
      intro x hx
      rcases List.mem_cons.mp hx with e | hx
      . subst e
        exact key_of ok (by rw [<- hq.1]; exact hq.2.1)
      . exact ih x hx
  exact all r x hx
theorem dt_of {kvs : List (List Key × V)} (ok : HOk P w H h) (e : H a = some (.dT kvs)) : kvs.length <= sizeLine /\ (a == sysModules) = false /\
    ∃ xs, KT H kvs xs /\ h.DictOfH (tupleKind (mixKind P w)) a xs := dt_rd ok (.inl e)
end
def DGet (H : Hp) (a : Addr) (y : V) (r : Option V) : Prop :=
  (∃ kvs k, Rd H a (.dK kvs) /\ y = kV k /\ r = valV kvs k) \/ ∃ kvs k b, Rd H a (.dT kvs) /\ y = .ref b /\ H b = some (.tup (k.map kV)) /\ r = valV kvs k
def DPut (H : Hp) (a : Addr) (y v : V) (H' : Hp) : Prop :=
  (∃ kvs k, H a = some (.dK kvs) /\ y = kV k /\ kvs.length < sizeLine /\ H' = upd H a (.dK (putK kvs k v))) \/
  ∃ kvs k b, H a = some (.dT kvs) /\ y = .ref b /\ H b = some (.tup (k.map kV)) /\ kvs.length < sizeLine /\ H' = upd H a (.dT (putK kvs k v))
theorem DGet.t {H : Hp} {a b : Addr} {kvs : List (List Key × V)} {k : List Key} (e : H a = some (.dT kvs)) (eb : H b = some (.tup (k.map kV))) : DGet H a (.ref b) (valV kvs k) := .inr ⟨kvs, k, b, .inl e, rfl, eb, rfl⟩
theorem DPut.t {H : Hp} {a b : Addr} {kvs : List (List Key × V)} {k : List Key} {v : V} (e : H a = some (.dT kvs)) (eb : H b = some (.tup (k.map kV))) (hl : kvs.length < sizeLine) :
    DPut H a (.ref b) v (upd H a (.dT (putK kvs k v))) := .inr ⟨kvs, k, b, e, rfl, eb, hl, rfl⟩
section
variable {X : Cx} {pins : List (Addr × Obj)} {σ : St} {H : Hp} {s : Shared} {a : Addr} {y v : V} {u r : Value} {o : Option V} {A : Around} {E : Value -> Shared -> Prop}
theorem Inv.big (I : Inv X pins σ H s) : sysModules < s.heap.objs.size := by
  have h : mainGlobals < s.heap.objs.size := (I.mod.glob.keeps I.bk).lt
  exact Nat.lt_trans (by decide) h
theorem d_getItem {Q : Value -> Shared -> Prop} (hu : A.units + 1 < cLine) (I : Inv X pins σ H s) (g : DGet H a y (some v)) (ry : RelV y u) (h : ∀ w' s', Inv X pins σ H s' -> RelV v w' -> Q w' s') :
    wpAny (model X.prog X.w) A (getItem (.ref a) u) Q E s := by
  rcases g with ⟨kvs, k, e, ey, l⟩ | ⟨kvs, k, b, e, ey, eb, l⟩
  . subst ey
    obtain ⟨z, hd, vs, rel, dd⟩ := dk_rd I.hok e
    obtain ⟨w', hw, rw'⟩ := RelO.some_of (v := v) (o := valueAt vs k) (by rw [l]; exact rel.val k)
    exact wpAny_getItem_of (kV_is ry) dd.mapOf hw (h w' _ (I.tok _) rw')
  . subst ey
    cases (show u = Value.ref b from ry)
    obtain ⟨z, hd, xs, rel, dd⟩ := dt_rd I.hok e
    obtain ⟨w', hw, rw'⟩ := RelO.some_of (v := v) (o := (atKey xs k).map (·.2)) (by rw [l]; exact rel.val k)
    obtain ⟨p, hp, hp2⟩ := Option.map_eq_some_iff.mp hw
    refine wpAny_getItem_heap (tupleKind_room_in1 hu) (key_of I.hok eb) dd hp ?_
    rw [hp2]
    exact h w' _ (I.tok _) rw'
theorem d_write {h' : Heap} {t' : Nat} {ob : HO} (I : Inv X pins σ H s) (mu : Mut (H a)) (hs : Heap.SameBut a s.heap h') (he : ∃ q, h'.get? a = some q) (new : ObjOk X.prog X.w (upd H a ob) h' a ob) :
    Inv X pins σ (upd H a ob) { s with heap := h', toks := t' } :=
  I.write (x := a) (e := a) mu (.inl rfl) (fun b q hb z => (hs.2 b hb).trans z) he new
theorem dk_new {P : Program} {w : World} {H' : Hp} {h' : Heap} {kvs : List (Key × V)} {vs : List (Key × Value)} (z : kvs.length <= sizeLine) (hd : (a == sysModules) = false) (rel : KV kvs vs) (dd : h'.DictOf (mixKind P w) a vs) :
    ObjOk P w H' h' a (.dK kvs) := ⟨z, hd, vs, rel, dd⟩
theorem d_setItem {H' : Hp} {Q : Unit -> Shared -> Prop} (hu : A.units + 1 < cLine) (I : Inv X pins σ H s) (g : DPut H a y v H') (ry : RelV y u) (rv : RelV v r) (h : ∀ s', Inv X pins σ H' s' -> Q () s') :
    wpAny (model X.prog X.w) A (setItem (.ref a) u r) Q E s := by
  rcases g with ⟨kvs, k, e, ey, l, eH⟩ | ⟨kvs, k, b, e, ey, eb, l, eH⟩
  . subst ey eH
    obtain ⟨z, hd, vs, rel, dd⟩ := dk_of I.hok e
    have hz : vs.length <= sizeLine := by rw [<- rel.length]; exact z
    have hl : (putK kvs k v).length <= sizeLine := by have := length_putK kvs k v; omega
    refine wpAny_setItem_pairs (hsz := hz) (kV_is ry) dd fun h' dd' hs => h _ ?_
    have he : ∃ q, h'.get? a = some q := let ⟨q, _, _, hq, _⟩ := dd'; ⟨q, hq⟩
    exact d_write I (by rw [e]; exact True.intro) hs he (dk_new hl hd (rel.put k rv) dd')
  . subst ey eH
    cases (show u = Value.ref b from ry)
    obtain ⟨z, hd, xs, rel, dd⟩ := dt_of I.hok e
    have hz : xs.length <= sizeLine := by rw [<- Paired.length rel]; exact z
    have hl : (putK kvs k v).length <= sizeLine := by have := length_putK kvs k v; omega
    refine wpAny_setItem_heap (hsz := hz) (tupleKind_room_in1 hu) (key_of I.hok eb) dd fun h' dd' hs => h _ ?_
    obtain ⟨q, es, ep, hq, h2, h3, h4, _, h5⟩ := dd'
    refine d_write I (by rw [e]; exact True.intro) hs ⟨q, hq⟩ ⟨hl, hd, _, (rel.put k eb rv).keeps fun c ys ec => ?_, q, es, ep, hq, h2, h3, h4, h5⟩
    rw [upd_ne (ne_of ec e (fun z => nomatch z))]
    exact ec
end
section
variable {X : Cx} {pins : List (Addr × Obj)} {σ : St} {H : Hp} {s : Shared} {a : Addr} {kvs : List (Key × V)} {k : Key} {u : Value} {A : Around} {E : Value -> Shared -> Prop}
end
def NoSl (i : Expr) : Prop := ∀ ov iv, subscripted i false ov iv = operate [ov, iv] (getItem ov iv)
theorem subD_of {prog : Program} {w : World} {A : Around} {E : Value -> Shared -> Prop} {s : Shared} {env : Env} {value slice : Expr} {pos : Pos} {T id : String} {Q : Value -> Shared -> Prop}
    (hl : typeLookup (.type T) "__getitem__" = pure (some (.builtin id))) (hs : NoSl slice)
    (h : wpAny (model prog w) A (eval value env) (fun o s₁ => wpAny (model prog w) A (eval slice env) (fun i s₂ => s₂.TypeIs o T /\ wpAny (model prog w) A (getItem o i) Q E s₂) E s₁) E s) :
    wpAny (model prog w) A (eval (.Subscript value slice pos) env) Q E s := by
  refine Subscript_ (wpAny_mono h (fun o s₁ h₁ => wpAny_mono h₁ (fun i s₂ h₂ => ?_) fun _ _ x => x) fun _ _ x => x)
  obtain ⟨hT, h₂⟩ := h₂
  unfold subscriptTail
  refine wpAny_bind ?_
  rw [getitemInPython_of_ne hT.not_modules]
  refine wpAny_bind (wpAny_specialOf hT hl ?_)
  have fin : wpAny (model prog w) A (subscripted slice false o i) (fun r s₃ => wpAny (model prog w) A (letTemporaryGo value o r >>= fun _ => pure r) Q E s₃) E s₂ := by
    rw [hs o i]
    exact wpAny_operating (wpAny_mono h₂ (fun r s₃ h₃ => wpAny_bind (wpAny_letTemporaryGo (wpAny_pure h₃))) fun _ _ x => x)
  first
    | exact wpAny_pure (wpAny_bind fin)
    | exact wpAny_bind (wpAny_pure (wpAny_bind fin))
    | exact wpAny_bind fin
theorem dict_typeIs {X : Cx} {pins : List (Addr × Obj)} {σ : St} {H : Hp} {s : Shared} {a : Addr} {y : V} {o : Option V} (I : Inv X pins σ H s) (g : DGet H a y o) : s.TypeIs (.ref a) "dict" := by
  rcases g with ⟨kvs, k, e, _, _⟩ | ⟨kvs, k, b, e, _, _, _⟩
  . obtain ⟨_, _, vs, _, dd⟩ := dk_rd I.hok e
    exact dd.typeIs
  . obtain ⟨_, _, xs, _, dd⟩ := dt_rd I.hok e
    exact dd.typeIs
def tDGet (td ty : TE) : TE := fun σ H Q => td σ H fun x H1 => ty σ H1 fun y H2 => ∃ a v, x = .ref a /\ DGet H2 a y (some v) /\ Q v H2
def sDPut (td ty tv : TE) : TS := fun D σ H => tv σ H fun v H1 => td σ H1 fun x H2 => ty σ H2 fun y H3 => ∃ a H4, x = .ref a /\ DPut H3 a y v H4 /\ D.nx σ H4
section
variable {X : Cx} {o i e value : Expr} {pos pos' tpos : Pos} {td ty tv : TE}
theorem pe_dget (hu : X.A.units + 1 < cLine) (ho : PE X o td) (hi : PE X i ty) (hs : NoSl i) : PE X (.Subscript o i pos) (tDGet td ty) := by
  intro pins s σ H Q I h
  refine subD_of PySem.F.slot_dict_getitem.lookup hs (thn (ho pins s σ H _ I h) fun u s1 ⟨x, H1, I1, rx, q1⟩ => thn (hi pins s1 σ H1 _ I1 q1) fun iv s2 ⟨y, H2, I2, ry, a, v, ex, g, q2⟩ => ?_)
  subst ex
  obtain rfl : u = Value.ref a := rx
  exact ⟨dict_typeIs I2 g, d_getItem hu I2 g ry fun w' s3 I3 rw' => ⟨v, H2, I3, rw', q2⟩⟩
theorem ps_dput (hu : X.A.units + 1 < cLine) (ho : PE X o td) (hi : PE X i ty) (hv : PE X value tv) (hs : swapsWith value (some (.Subscript o i pos')) pos.line X.env = pure false) :
    PS X (.Assign [.Subscript o i pos'] value pos) (sDPut td ty tv) := by
  intro pins s σ H D I h
  refine wpAny_Assign_Subscript (thn (hv pins s σ H _ I h) fun r s1 ⟨v, H1, I1, rv, q1⟩ => thn (ho pins s1 σ H1 _ I1 q1) fun u s2 ⟨x, H2, I2, rx, q2⟩ => thn (hi pins s2 σ H2 _ I2 q2) fun iv s3 ⟨y, H3, I3, ry, a, H4, ex, g, q3⟩ => ?_) hs
  subst ex
  obtain rfl : u = Value.ref a := rx
  exact d_setItem hu I3 g ry rv fun s4 I4 => ⟨σ, H4, I4, q3⟩
end
theorem dt_empty {P : Program} {w : World} {H : Hp} (h : Heap) (hb : sysModules < h.objs.size) : ObjOk P w H (h.push { cls := .type "dict", data := .dict #[] }) h.objs.size (.dT []) :=
  ⟨Nat.zero_le _, beq_eq_false_iff_ne.mpr (Ne.symm (Nat.ne_of_lt hb)), [], .nil, _, #[], 0, Heap.get?_push_size _ rfl, ⟨rfl, rfl, rfl⟩, rfl, rfl, List.nodup_nil⟩
def tDNewT : TE := fun _ H Q => ∀ p, H p = none -> Q (.ref p) (upd H p (.dT []))
section
variable {X : Cx} {pos : Pos}
theorem pe_dnewT : PE X (.Dict [] [] pos) tDNewT := fun pins s σ H Q I h =>
  wpAny_Dict_empty ⟨.ref s.heap.objs.size, _, I.laid (a := s.heap.objs.size) (o := .dT []) (t' := s.toks) (fun _ _ q => Heap.get?_push_of_some _ q) (Nat.le_refl _) (dt_empty s.heap I.big), rfl, h _ (I.hok.fresh (Nat.le_refl _))⟩
end
structure M1 (X : Cx) (o : Expr) (m : Str) (apos : Pos) (e : Expr) (cpos : Pos) : Prop where
  base : attributeBase o m X.env (eval o X.env) = eval o X.env
  few : ((backTo cpos (starEach [e] X.env)).all (fun x => !x.1) && (backToKw cpos (keywordEach [] X.env)).all (fun x => x.1.isSome)
    && decide (([e] : List Expr).length + ([] : List Keyword).length + (if ([] : List Keyword).isEmpty then 0 else 1) < 30)) = true
  line : (apos.endLine == cpos.line) = true
  trees : backTo cpos (starEach [e] X.env) = [(false, eval e X.env)]
structure M2 (X : Cx) (o : Expr) (m : Str) (apos : Pos) (e f : Expr) (cpos : Pos) : Prop where
  base : attributeBase o m X.env (eval o X.env) = eval o X.env
  few : ((backTo cpos (starEach [e, f] X.env)).all (fun x => !x.1) && (backToKw cpos (keywordEach [] X.env)).all (fun x => x.1.isSome)
    && decide (([e, f] : List Expr).length + ([] : List Keyword).length + (if ([] : List Keyword).isEmpty then 0 else 1) < 30)) = true
  line : (apos.endLine == cpos.line) = true
  trees : backTo cpos (starEach [e, f] X.env) = [(false, eval e X.env), (false, eval f X.env)]
def IsD (H : Hp) (a : Addr) : Prop := (∃ kvs, Rd H a (.dK kvs)) \/ ∃ kvs, Rd H a (.dT kvs)
theorem isD_at {X : Cx} {pins : List (Addr × Obj)} {σ : St} {H : Hp} {s : Shared} {a : Addr} (I : Inv X pins σ H s) (d : IsD H a) :
    s.TypeIs (.ref a) "dict" /\ (∀ b, Value.ref a = .ref b -> ∃ ob, s.heap.get? b = some ob /\ ob.dict = none) /\ (a == sysModules) = false := by
  rcases d with ⟨kvs, e⟩ | ⟨kvs, e⟩
  . obtain ⟨_, hd, vs, _, dd⟩ := dk_rd I.hok e
    refine ⟨dd.typeIs, fun b q => ?_, hd⟩
    cases q
    obtain ⟨ob, _, _, h1, h2, _⟩ := dd
    exact ⟨ob, h1, h2.2.1⟩
  . obtain ⟨_, hd, xs, _, dd⟩ := dt_rd I.hok e
    refine ⟨dd.typeIs, fun b q => ?_, hd⟩
    cases q
    obtain ⟨ob, _, _, h1, h2, _⟩ := dd
    exact ⟨ob, h1, h2.2.1⟩
section
variable {X : Cx} {pins : List (Addr × Obj)} {σ : St} {H : Hp} {s : Shared} {a : Addr} {y d : V} {u r : Value} {o : Option V} {A : Around} {E : Value -> Shared -> Prop}
theorem d_get1 {Q : Value -> Shared -> Prop} (hu : A.units + 1 < cLine) (I : Inv X pins σ H s) (g : DGet H a y o) (ry : RelV y u) (h : ∀ w' s', Inv X pins σ H s' -> RelV (o.getD .non) w' -> Q w' s') :
    wpAny (model X.prog X.w) A (call (.builtin "dict.get") [.ref a, u]) Q E s := by
  rcases g with ⟨kvs, k, e, ey, l⟩ | ⟨kvs, k, b, e, ey, eb, l⟩
  . subst ey
    obtain ⟨z, hd, vs, rel, dd⟩ := dk_rd I.hok e
    refine call_meetsIn PySem.F.slot_dict_get dd.typeIs PySem.F.entry_dict_get (PySem.F.args_dict_get_2 _ _) (meets_dict_get (mixKind X.prog X.w) a (kV_is ry) hd) ⟨_, dd.mapOf, h _ _ (I.tok _) ?_⟩
    rw [l]
    exact (rel.val k).getD rfl
  . subst ey
    cases (show u = Value.ref b from ry)
    obtain ⟨z, hd, xs, rel, dd⟩ := dt_rd I.hok e
    refine call_meetsIn PySem.F.slot_dict_get dd.typeIs PySem.F.entry_dict_get (PySem.F.args_dict_get_2 _ _) (meetsH_dict_get (tupleKind (mixKind X.prog X.w)) a b hd) ⟨tupleKind_room_in1 hu, k, xs, key_of I.hok eb, dd, h _ _ (I.tok _) ?_⟩
    rw [l]
    exact (rel.val k).getD rfl
theorem d_get2 {Q : Value -> Shared -> Prop} (hu : A.units + 1 < cLine) (I : Inv X pins σ H s) (g : DGet H a y o) (ry : RelV y u) (rd : RelV d r) (h : ∀ w' s', Inv X pins σ H s' -> RelV (o.getD d) w' -> Q w' s') :
    wpAny (model X.prog X.w) A (call (.builtin "dict.get") [.ref a, u, r]) Q E s := by
  rcases g with ⟨kvs, k, e, ey, l⟩ | ⟨kvs, k, b, e, ey, eb, l⟩
  . subst ey
    obtain ⟨z, hd, vs, rel, dd⟩ := dk_rd I.hok e
    refine call_meetsIn PySem.F.slot_dict_get dd.typeIs PySem.F.entry_dict_get (PySem.F.args_dict_get_3 _ _ _) (meets_dict_get_default (mixKind X.prog X.w) a (kV_is ry) hd r) ⟨_, dd.mapOf, h _ _ (I.tok _) ?_⟩
    rw [l]
    exact (rel.val k).getD rd
  . subst ey
    cases (show u = Value.ref b from ry)
    obtain ⟨z, hd, xs, rel, dd⟩ := dt_rd I.hok e
    refine call_meetsIn PySem.F.slot_dict_get dd.typeIs PySem.F.entry_dict_get (PySem.F.args_dict_get_3 _ _ _) (meetsH_dict_get_default (tupleKind (mixKind X.prog X.w)) a b hd r) ⟨tupleKind_room_in1 hu, k, xs, key_of I.hok eb, dd, h _ _ (I.tok _) ?_⟩
    rw [l]
    exact (rel.val k).getD rd
end
def tDGet1 (td ty : TE) : TE := fun σ H Q => td σ H fun x H1 => ∃ a, x = .ref a /\ IsD H1 a /\ ty σ H1 fun y H2 => ∃ o, DGet H2 a y o /\ Q (o.getD .non) H2
def tDGet2 (td ty tx : TE) : TE := fun σ H Q => td σ H fun x H1 => ∃ a, x = .ref a /\ IsD H1 a /\ ty σ H1 fun y H2 => tx σ H2 fun z H3 => ∃ o, DGet H3 a y o /\ Q (o.getD z) H3
section
variable {X : Cx} {o e f : Expr} {apos cpos : Pos} {td ty tx : TE}
theorem pe_dget1 (hu : X.A.units + 1 < cLine) (ho : PE X o td) (he : PE X e ty) (m : M1 X o "get" apos e cpos) : PE X (.Call (.Attribute o "get" apos) [e] [] cpos) (tDGet1 td ty) := by
  intro pins s σ H Q I h
  refine wpAny_Call_method m.base m.few m.line PySem.F.plainAttrs_dict PySem.F.slot_dict_get PySem.F.type_dict_get (thn (ho pins s σ H _ I h) fun u s1 ⟨x, H1, I1, rx, a, ex, d, q1⟩ => ?_)
  subst ex
  obtain rfl : u = Value.ref a := rx
  obtain ⟨t1, t2, _⟩ := isD_at I1 d
  refine ⟨t1, t2, ?_⟩
  rw [m.trees]
  refine Calls.callWith_builtin rfl (Calls.evalArgs_plain (Calls.spliced_cons (thn (he pins s1 σ H1 _ I1 q1) fun iv s2 ⟨y, H2, I2, ry, ov, g, q2⟩ => Calls.spliced_nil ?_)))
  exact d_get1 hu I2 g ry fun w' s3 I3 rw' => ⟨_, H2, I3, rw', q2⟩
theorem pe_dget2 (hu : X.A.units + 1 < cLine) (ho : PE X o td) (he : PE X e ty) (hf : PE X f tx) (m : M2 X o "get" apos e f cpos) : PE X (.Call (.Attribute o "get" apos) [e, f] [] cpos) (tDGet2 td ty tx) := by
  intro pins s σ H Q I h
  refine wpAny_Call_method m.base m.few m.line PySem.F.plainAttrs_dict PySem.F.slot_dict_get PySem.F.type_dict_get (thn (ho pins s σ H _ I h) fun u s1 ⟨x, H1, I1, rx, a, ex, d, q1⟩ => ?_)
  subst ex
  obtain rfl : u = Value.ref a := rx
  obtain ⟨t1, t2, _⟩ := isD_at I1 d
  refine ⟨t1, t2, ?_⟩
  rw [m.trees]
  refine Calls.callWith_builtin rfl (Calls.evalArgs_plain (Calls.spliced_cons (thn (he pins s1 σ H1 _ I1 q1) fun iv s2 ⟨y, H2, I2, ry, q2⟩ =>
    Calls.spliced_cons (thn (hf pins s2 σ H2 _ I2 q2) fun fv s3 ⟨z, H3, I3, rz, ov, g, q3⟩ => Calls.spliced_nil ?_))))
  exact d_get2 hu I3 g ry rz fun w' s4 I4 rw' => ⟨_, H3, I4, rw', q3⟩
end
section
variable {X : Cx} {pins : List (Addr × Obj)} {σ : St} {H : Hp} {s : Shared} {a : Addr} {kvs : List (Key × V)} {A : Around} {E : Value -> Shared -> Prop}
end
section
variable {X : Cx} {pins : List (Addr × Obj)} {σ : St} {H : Hp} {s : Shared} {a : Addr} {y : V} {u : Value} {A : Around} {E : Value -> Shared -> Prop}
end
end L2
set_option Elab.async false
set_option linter.all false
set_option maxRecDepth 100000
set_option maxHeartbeats 4000000
namespace L2
open PySem PySem.Spec PyProof.Rows
def clOf (env : Env) : List (Str × NameKind) -> List (Str × Addr) -> List (Str × Addr)
  | [], acc => acc
  | (n, k) :: r, acc => if (k == .free) = true then clOf env r ((n, (env.cells.lookup n).getD 0) :: acc) else clOf env r acc
theorem closure_eq {env : Env} {scope : Scope} (h : ∀ p ∈ scope.names, p.2 = .free -> ∃ c, env.cells.lookup p.1 = some c) : closureFor scope env = pure (clOf env scope.names []) := by
  have go : ∀ (l : List (Str × NameKind)) (acc : List (Str × Addr)), (∀ p ∈ l, p.2 = .free -> ∃ c, env.cells.lookup p.1 = some c) ->
      (forIn l acc fun (x : Str × NameKind) (cs : List (Str × Addr)) => (if (x.2 == .free) = true then do let c <- cellOf env x.1; pure (ForInStep.yield ((x.1, c) :: cs)) else pure (ForInStep.yield cs) : Sem (ForInStep (List (Str × Addr))))) = (pure (clOf env l acc) : Sem (List (Str × Addr))) := by
    intro l
    induction l with
    | nil => intro acc _; rfl
    | cons p r ih =>
      intro acc hl
      obtain ⟨n, k⟩ := p
      rw [List.forIn_cons]
      by_cases hk : (k == .free) = true
      . obtain ⟨c, hc⟩ := hl (n, k) List.mem_cons_self (by simpa using hk)
        have e1 : cellOf env n = pure c := by unfold cellOf; rw [hc]
        have ih' := ih ((n, c) :: acc) fun q hq => hl q (List.mem_cons_of_mem _ hq)
        show ((if (k == .free) = true then do let c <- cellOf env n; pure (ForInStep.yield ((n, c) :: acc)) else pure (ForInStep.yield acc) : Sem _) >>= _) = _
        rw [if_pos hk, e1]
        show (forIn r ((n, c) :: acc) _ : Sem _) = _
        rw [clOf, if_pos hk, hc]
        exact ih'
      . have ih' := ih acc fun q hq => hl q (List.mem_cons_of_mem _ hq)
        show ((if (k == .free) = true then do let c <- cellOf env n; pure (ForInStep.yield ((n, c) :: acc)) else pure (ForInStep.yield acc) : Sem _) >>= _) = _
        rw [if_neg hk]
        show (forIn r acc _ : Sem _) = _
        rw [clOf, if_neg hk]
        exact ih'
  have e := go scope.names [] h
  unfold closureFor
  show (forIn scope.names [] _ >>= fun cs => pure cs : Sem _) = _
  have e2 : (forIn scope.names [] (fun (x : Str × NameKind) (r : List (Str × Addr)) => (match x with
      | (name, kind) => if (kind == .free) = true then do let c <- cellOf env name; pure (ForInStep.yield ((name, c) :: r)) else do pure PUnit.unit; pure (ForInStep.yield r) : Sem (ForInStep (List (Str × Addr)))))) = (pure (clOf env scope.names []) : Sem (List (Str × Addr))) := e
  exact congrArg (fun z => z >>= fun cs => pure cs) e2
theorem clOf_mem {env : Env} : ∀ (l : List (Str × NameKind)) (acc : List (Str × Addr)), (∀ p ∈ l, p.2 = .free -> ∃ c, env.cells.lookup p.1 = some c) -> (∀ q ∈ acc, env.cells.lookup q.1 = some q.2) -> ∀ q ∈ clOf env l acc, env.cells.lookup q.1 = some q.2
  | [], _, _, ha, q, hq => ha q hq
  | (n, k) :: r, acc, hl, ha, q, hq => by
    unfold clOf at hq
    by_cases hk : (k == .free) = true
    . rw [if_pos hk] at hq
      obtain ⟨c, hc⟩ := hl (n, k) List.mem_cons_self (by simpa using hk)
      refine clOf_mem r _ (fun p hp => hl p (List.mem_cons_of_mem _ hp)) (fun p hp => ?_) q hq
      rcases List.mem_cons.mp hp with rfl | hp
      . show env.cells.lookup n = some ((env.cells.lookup n).getD 0)
        rw [hc]; rfl
      . exact ha p hp
    . rw [if_neg hk] at hq
      exact clOf_mem r _ (fun p hp => hl p (List.mem_cons_of_mem _ hp)) ha q hq
theorem clOf_has {env : Env} : ∀ (l : List (Str × NameKind)) (acc : List (Str × Addr)) (x : Str), ((x, NameKind.free) ∈ l \/ ∃ c, (x, c) ∈ acc) -> ∃ c, (x, c) ∈ clOf env l acc
  | [], _, _, h => by
    rcases h with h | h
    . cases h
    . exact h
  | (n, k) :: r, acc, x, h => by
    unfold clOf
    by_cases hk : (k == .free) = true
    . rw [if_pos hk]
      refine clOf_has r _ x ?_
      rcases h with h | ⟨c, h⟩
      . rcases List.mem_cons.mp h with h | h
        . cases h
          exact .inr ⟨_, List.mem_cons_self⟩
        . exact .inl h
      . exact .inr ⟨c, List.mem_cons_of_mem _ h⟩
    . rw [if_neg hk]
      refine clOf_has r _ x ?_
      rcases h with h | h
      . rcases List.mem_cons.mp h with h | h
        . cases h
          exact absurd rfl hk
        . exact .inl h
      . exact .inr h
theorem lookup_some_of_mem {β : Type} : ∀ {l : List (Str × β)} {x : Str} {c : β}, (x, c) ∈ l -> ∃ c', l.lookup x = some c'
  | [], _, _, h => by cases h
  | (n, d) :: r, x, c, h => by
    by_cases hx : (x == n) = true
    . exact ⟨d, by rw [List.lookup_cons, hx]⟩
    . rcases List.mem_cons.mp h with h | h
      . cases h; exact absurd (beq_self_eq_true _) hx
      . obtain ⟨c', e⟩ := lookup_some_of_mem h
        exact ⟨c', by rw [List.lookup_cons]; simp only [Bool.not_eq_true] at hx; rw [hx]; exact e⟩
def relF (env : Env) : Str × NameKind -> Str × NameKind := fun (n, k) => if (k == NameKind.free && env.scope.kind == .function && env.kindOf n == some .cell) then (n, NameKind.cell) else (n, k)
theorem relF_yes {env : Env} {n : Str} {k : NameKind} (h : (k == NameKind.free && env.scope.kind == .function && env.kindOf n == some .cell) = true) : relF env (n, k) = (n, .cell) := if_pos h
theorem relF_no {env : Env} {n : Str} {k : NameKind} (h : ¬ (k == NameKind.free && env.scope.kind == .function && env.kindOf n == some .cell) = true) : relF env (n, k) = (n, k) := if_neg h
theorem relabel_kind {env : Env} : ∀ {names : List (Str × NameKind)} {x : Str} {k : NameKind}, (∀ y ∈ names, y.2 ≠ .cell) ->
    (names.map (relF env)).lookup x = some k -> (k = .cell \/ k = .free) -> (x, NameKind.free) ∈ names
  | [], _, _, _, h, _ => by simp at h
  | (n, k') :: r, x, k, hc, h, hk => by
    have ih := @relabel_kind env r x k (fun y hy => hc y (List.mem_cons_of_mem _ hy))
    rw [List.map_cons] at h
    by_cases hb : (k' == NameKind.free && env.scope.kind == .function && env.kindOf n == some .cell) = true
    . rw [relF_yes hb, List.lookup_cons] at h
      cases hx : x == n with
      | true =>
        have e : x = n := by simpa using hx
        subst e
        have e2 : k' = .free := by
          simp only [Bool.and_eq_true] at hb
          simpa using hb.1.1
        subst e2
        exact List.mem_cons_self
      | false =>
        rw [hx] at h
        exact List.mem_cons_of_mem _ (ih h hk)
    . rw [relF_no hb, List.lookup_cons] at h
      cases hx : x == n with
      | true =>
        rw [hx] at h
        have e : x = n := by simpa using hx
        subst e
        have e2 : k' = k := Option.some.inj h
        subst e2
        rcases hk with rfl | rfl
        . exact absurd rfl (hc _ List.mem_cons_self)
        . exact List.mem_cons_self
      | false =>
        rw [hx] at h
        exact List.mem_cons_of_mem _ (ih h hk)
theorem relabel_free {env : Env} : ∀ {names : List (Str × NameKind)} {x : Str}, names.lookup x = some .free ->
    ∃ k, (k = NameKind.cell \/ k = NameKind.free) /\ (names.map (relF env)).lookup x = some k
  | [], _, h => by simp at h
  | (n, k') :: r, x, h => by
    have ih := @relabel_free env r x
    rw [List.lookup_cons] at h
    rw [List.map_cons]
    cases hx : x == n with
    | true =>
      rw [hx] at h
      have e2 : k' = .free := Option.some.inj h
      subst e2
      by_cases hb : ((NameKind.free : NameKind) == NameKind.free && env.scope.kind == .function && env.kindOf n == some .cell) = true
      . exact ⟨.cell, .inl rfl, by rw [relF_yes hb, List.lookup_cons, hx]⟩
      . exact ⟨.free, .inr rfl, by rw [relF_no hb, List.lookup_cons, hx]⟩
    | false =>
      rw [hx] at h
      obtain ⟨k, hk, e⟩ := ih h
      refine ⟨k, hk, ?_⟩
      by_cases hb : (k' == NameKind.free && env.scope.kind == .function && env.kindOf n == some .cell) = true
      . rw [relF_yes hb, List.lookup_cons, hx]; exact e
      . rw [relF_no hb, List.lookup_cons, hx]; exact e
end L2
set_option Elab.async false
set_option linter.all false
set_option maxRecDepth 100000
set_option maxHeartbeats 4000000
namespace L2
open PySem PySem.Spec PyProof.Rows
section
variable {prog : Program} {w : World} {A : Around} {R : Result -> Shared -> Prop} {s : Shared}
abbrev cpW (prog : Program) (w : World) (A : Around) (R : Result -> Shared -> Prop) (env : Env) {α : Type} (m : Sem α) (Q : α -> Shared -> Prop) : Shared -> Prop := wpAny (model prog w) A m Q (notedBy (model prog w) A env fun e t => R (.error e) t)
theorem compLoop_gen {elt target iter : Expr} {ifs : List Expr} {scope : Scope} {pos : Pos} {it acc : Value} {env : Env} (I : Nat -> Shared -> Prop)
    (turn : ∀ n s, I n s -> cpW prog w A R env (pyNext it) (fun r s => match r with
      | none => R (.ok .next) s
      | some v => cpW prog w A R env (letOwnedTupleGo target it v) (fun _ => cpW prog w A R env (assign target env v) fun _ => cpW prog w A R env (forIn ifs true fun c r => if r = true then do let ok <- isTrue c env (eval c env); pure (ForInStep.yield ok) else pure (ForInStep.yield r)) fun ok s =>
          if ok = true then cpW prog w A R env (eval elt env) (fun x => cpW prog w A R env (call (.builtin "list.append") [acc, x]) fun _ t => ∃ m, m < n /\ I m t) s else ∃ m, m < n /\ I m s) s) s)
    (n : Nat) (h : I n s) : codeAny (model prog w) A (.compLoop (.ListComp elt [⟨target, iter, ifs, 0⟩] scope pos) 0 it acc env) R s := by
  have mono : ∀ {α β : Type} {m : Sem α} {f : α -> Sem β} {Q : α -> Shared -> Prop} {Q' : β -> Shared -> Prop} {s : Shared}, cpW prog w A R env m Q s -> (∀ a t, Q a t -> cpW prog w A R env (f a) Q' t) -> cpW prog w A R env (m >>= f) Q' s := fun h k => wpAny_bind (wpAny_mono h k fun _ _ e => e)
  refine codeAny_loop rfl I (fun n s hI => wpAny_noted ?_) n h
  rw [compTurn_list]
  refine wpAny_bind (wpAny_standAt (mono (turn n s hI) fun r s1 h1 => ?_))
  cases r with
  | none => exact wpAny_pure h1
  | some v =>
    refine mono h1 fun _ _ h2 => mono h2 fun _ _ h3 => mono h3 fun ok s4 h4 => ?_
    cases ok with
    | false => exact wpAny_pure ⟨rfl, h4⟩
    | true => exact wpAny_bind (mono h4 fun _ _ h5 => mono h5 fun _ _ h6 => wpAny_pure (wpAny_pure ⟨rfl, h6⟩))
end
abbrev Cx.blk (X : Cx) (N : List Str) (sc : Scope) (C : Addr) (s₀ : Shared) (H₀ : Hp) (ex : List Addr) : Cx :=
  { X with N := N, env := compEnvC sc (clOf X.env sc.names []) C X.env, outer := X.stack, s₀ := s₀, H₀ := H₀, ex := ex, fn := fun _ => false, pn := [], xe := fun _ _ => False }
structure BlkSc (X : Cx) (sc : Scope) : Prop where
  kind : sc.kind = .function
  nocell : ∀ y ∈ sc.names, y.2 ≠ .cell
  loc : ∀ y ∈ sc.names, y.2 = .local -> sc.names.lookup y.1 = some .local
  free : ∀ y ∈ sc.names, y.2 = .free -> X.env.kindOf y.1 = some .cell \/ X.env.kindOf y.1 = some .free
abbrev Caps := List (Str × Option Nat)
def Caps.names (c : Caps) : List Str := c.map (·.1)
def Caps.st (c : Caps) (σ : St) : St := c.map fun p => p.2.bind fun j => (σ[j]?).join
def CapsOk (N : List Str) (sc : Scope) : Caps -> Prop
  | [] => True
  | (_, none) :: r => CapsOk N sc r
  | (x, some j) :: r => (N[j]? = some x /\ sc.names.lookup x = some .free) /\ CapsOk N sc r
theorem CapsOk.get {N : List Str} {sc : Scope} : ∀ {c : Caps} {i : Nat} {x : Str} {j : Nat}, CapsOk N sc c -> c[i]? = some (x, some j) -> N[j]? = some x /\ sc.names.lookup x = some .free
  | [], _, _, _, _, h => by simp at h
  | (y, none) :: r, 0, x, j, _, h => by simp at h
  | (y, none) :: r, i + 1, x, j, ok, h => CapsOk.get (c := r) (i := i) ok (by simpa using h)
  | (y, some k) :: r, 0, x, j, ok, h => by
    simp only [List.getElem?_cons_zero, Option.some.injEq, Prod.mk.injEq] at h
    obtain ⟨rfl, rfl⟩ := h
    exact ok.1
  | (y, some k) :: r, i + 1, x, j, ok, h => CapsOk.get (c := r) (i := i) ok.2 (by simpa using h)
section
variable {X : Cx} {pins : List (Addr × Obj)} {σ : St} {H : Hp} {s : Shared} {sc : Scope} {fp : List Addr}
theorem blk_cells (I : Inv X pins σ H s) (S : BlkSc X sc) : ∀ p ∈ sc.names, p.2 = .free -> ∃ c, X.env.cells.lookup p.1 = some c := fun p hp e => I.ok.has p.1 (S.free p hp e)
theorem blk_lookup (I : Inv X pins σ H s) (S : BlkSc X sc) {x : Str} {c : Addr} (h : (clOf X.env sc.names []).lookup x = some c) : X.env.cells.lookup x = some c :=
  clOf_mem sc.names [] (blk_cells I S) (fun q hq => by cases hq) (x, c) (PySem.mem_of_lookup h)
theorem blk_ok {N : List Str} {C : Addr} (I : Inv X pins σ H s) (S : BlkSc X sc) (hC : s.heap.objs.size <= C) (hf : ∀ b ∈ fp, FpOk X pins H b) (ho : ∀ b ∈ fp, ∃ o, s.heap.get? b = some o) : (X.blk N sc C s H fp).Ok where
  mod := I.ok.mod
  kind := S.kind
  glob := I.ok.glob
  blt := I.ok.blt
  above := hC
  inj := fun x y c h1 h2 => I.ok.inj x y c (blk_lookup I S h1) (blk_lookup I S h2)
  has := fun x hx => by
    have hx' : (x, NameKind.free) ∈ sc.names := by
      rcases hx with hx | hx
      . exact relabel_kind (env := X.env) S.nocell hx (.inl rfl)
      . exact relabel_kind (env := X.env) S.nocell hx (.inr rfl)
    obtain ⟨c, hc⟩ := clOf_has (env := X.env) sc.names [] x (.inl hx')
    exact lookup_some_of_mem hc
  cab := fun x c h => absurd (show false = true from h) Bool.false_ne_true
  hd := I.ok.hd
  frames := I.ok.frames
  stk := .inl rfl
  exf := fun b hb => by
    obtain ⟨o, ho⟩ := ho b hb
    refine ⟨Nat.ne_of_lt (Nat.lt_of_lt_of_le (Heap.lt_size ho) hC), fun x c h => (hf b hb).2.2.2.2.1 x c (blk_lookup I S h)⟩
  bs := I.bs
  bsz := Nat.le_trans I.ok.bsz I.sz
  noex := fun b o e hb => by
    rcases (hf b hb).2.2.2.1 with z | z
    . exact I.ok.noex b o e z
    . exact absurd (Nat.lt_of_lt_of_le (Heap.lt_size (I.ok.bs b o e).1) z) (Nat.lt_irrefl _)
  exfs := fun b hb z => by
    rcases List.mem_cons.mp (I.stkSub b z) with e | e
    . exact (hf b hb).2.1 e
    . exact (hf b hb).2.2.1 e
  funs := I.stack
  frf := I.stkFree
theorem blk_start {c : Caps} {C : Addr} {s4 : Shared} {m : Str -> Option Value} (I : Inv X pins σ H s) (S : BlkSc X sc) (hc : CapsOk X.N sc c) (hC : s.heap.objs.size <= C) (hf : ∀ b ∈ fp, FpOk X pins H b) (ho : ∀ b ∈ fp, ∃ o, s.heap.get? b = some o)
    (hos : s4.os = s.os) (hb : s4.gens = s.gens) (hk : ∀ b o, s.heap.get? b = some o -> s4.heap.get? b = some o) (hn : s4.heap.Ns C m) : Inv (X.blk c.names sc C s H fp) [] (c.st σ) H s4 where
  ok := blk_ok I S hC hf ho
  os := hos
  bare := by rw [hb]; exact I.bare
  base := Un.kept hk
  loc := by
    refine ⟨m, hn, fun i x v h1 h2 hv => ?_⟩
    have h1' : (c.map (·.1))[i]? = some x := h1
    have h2' : (c.map fun p => p.2.bind fun j => (σ[j]?).join)[i]? = some (some v) := h2
    rw [List.getElem?_map] at h1' h2'
    cases e : c[i]? with
    | none => rw [e] at h1'; cases h1'
    | some p =>
      obtain ⟨y, oj⟩ := p
      rw [e] at h1' h2'
      have e1 : y = x := Option.some.inj h1'
      subst e1
      have e2 : (oj.bind fun j => (σ[j]?).join) = some v := Option.some.inj h2'
      cases oj with
      | none => cases e2
      | some j =>
        have e3 : (σ[j]?).join = some v := e2
        have e4 : σ[j]? = some (some v) := by
          cases q : σ[j]? with
          | none => rw [q] at e3; cases e3
          | some z => rw [q] at e3; exact congrArg some e3
        obtain ⟨k1, k2⟩ := CapsOk.get hc e
        have k3 : X.env.kindOf y = some .cell \/ X.env.kindOf y = some .free := S.free (y, .free) (PySem.mem_of_lookup k2) rfl
        have vis : Vis X.env.scope y := by
          rcases k3 with k | k
          . exact .inr (.inl k)
          . exact .inr (.inr k)
        obtain ⟨mX, hnX, hl⟩ := I.loc
        obtain ⟨u, r, l⟩ := hl j y v k1 e4 vis
        refine ⟨u, r, ?_⟩
        rcases l with ⟨k, _⟩ | ⟨_, ca, hca, z⟩
        . rcases k3 with k' | k' <;> (rw [k] at k'; cases k')
        . obtain ⟨kd, hkd, ek⟩ := relabel_free (env := X.env) k2
          have hk2 : (compEnvC sc (clOf X.env sc.names []) C X.env).kindOf y = some kd := ek
          obtain ⟨c', hc'⟩ := clOf_has (env := X.env) sc.names [] y (.inl (PySem.mem_of_lookup k2))
          obtain ⟨c2, hc2⟩ := lookup_some_of_mem hc'
          have e5 := blk_lookup I S hc2
          rw [hca] at e5
          have e6 : ca = c2 := Option.some.inj e5
          subst e6
          refine .inr ⟨?_, ca, hc2, ?_⟩
          . rcases hkd with rfl | rfl
            . exact .inl hk2
            . exact .inr hk2
          . obtain ⟨oc, hoc, hd⟩ := z
            exact ⟨oc, hk _ _ hoc, hd⟩
  cell := fun x ca h => by
    obtain ⟨v, oc, hoc, hd⟩ := I.cell x ca (blk_lookup I S h)
    exact ⟨v, oc, hk _ _ hoc, hd⟩
  free := I.hok.fresh hC
  freeC := fun x ca h => I.freeC x ca (blk_lookup I S h)
  pin := fun p hp => absurd (show p ∈ ([] : List (Addr × Obj)) from hp) (by simp)
  hok := I.hok.kept hk
  len := by show (c.map _).length = (c.map _).length; rw [List.length_map, List.length_map]
theorem HOk.track {P : Program} {w : World} {H : Hp} {h : Heap} {a : Addr} {o : HO} (x : HOk P w H h) (hn : H a = none) (new : ObjOk P w (upd H a o) h a o) : HOk P w (upd H a o) h := fun b u e => by
  by_cases hb : b = a
  . subst hb; rw [upd_same] at e; cases e; exact new
  . rw [upd_ne hb] at e
    exact (x b u e).stay (fun c v _ q => q) (fun c q => by rw [upd_ne (ne_of_none q hn)]; exact q) fun c xs q => by rw [upd_ne (ne_of_none q hn)]; exact q
theorem Un.track {fs ex : List Addr} {H H' : Hp} {h h' : Heap} {a : Addr} {o : HO} (u : Un fs ex H H' h h') (ha : h.objs.size <= a) (hn : H' a = none) : Un fs ex H (upd H' a o) h h' where
  keep := u.keep
  slot := u.slot
  free := fun b ob q n hx => by rw [upd_ne (Nat.ne_of_lt (Nat.lt_of_lt_of_le (Heap.lt_size q) ha))]; exact u.free b ob q n hx
  there := u.there
  tups := fun b xs q => by rw [upd_ne (ne_of_none (u.tups b xs q) hn)]; exact u.tups b xs q
  frzs := fun b ob xs q => by rw [upd_ne (ne_of_none (u.frzs b ob xs q) hn)]; exact u.frzs b ob xs q
  tbls := fun b ps q => by
    obtain ⟨more, e⟩ := u.tbls b ps q
    exact ⟨more, by rw [upd_ne (ne_of_none e hn)]; exact e⟩
theorem blk_end {c : Caps} {C D : Addr} {s' : Shared} {σ' : St} {H' : Hp} {o : HO} (I : Inv X pins σ H s) (J : Inv (X.blk c.names sc C s H fp) [] σ' H' s') (hf : ∀ b ∈ fp, FpOk X pins H b) (hD : s.heap.objs.size <= D) (hn : H' D = none)
    (new : ObjOk X.prog X.w (upd H' D o) s'.heap D o) : Inv X pins σ (upd H' D o) s' := by
  have u : Un (frs X.stack) fp H H' s.heap s'.heap := J.base
  exact I.call' J.os (u.track hD hn) (J.hok.track hn new) J.bare fun b hb => ⟨(hf b hb).2.2.2.1, (hf b hb).2.1, (hf b hb).2.2.2.2.1, (hf b hb).2.2.2.2.2⟩
end
def PF (X : Cx) (ifs : List Expr) (t : TT) : Prop :=
  ∀ (pins : List (Addr × Obj)) (s : Shared) (σ : St) (H : Hp) (Q : Bool -> Hp -> Prop), Inv X pins σ H s -> t σ H Q ->
    wpAny (model X.prog X.w) X.A (forIn ifs true fun c r => if r = true then do let ok <- isTrue c X.env (eval c X.env); pure (ForInStep.yield ok) else pure (ForInStep.yield r)) (TP X pins σ Q) X.xe s
def tTrue : TT := fun _ H Q => Q true H
theorem pf_nil {X : Cx} : PF X [] tTrue := fun _ _ _ H _ I h => wpAny_tests_nil ⟨H, I, h⟩
def tComp (wi : TI) (cp : Caps) (g : TG) (tc : TT) (te : TE) : TE := fun σ H Q => wi σ H fun J H1 => ∃ W : Nat -> Nat -> List V -> St -> Hp -> Prop, (∃ m, W 0 m [] (cp.st σ) H1) /\ ∀ i m ys σ' H', W i m ys σ' H' ->
  ys.length < sizeLine /\ ((J.stop i H' /\ ∀ D, H' D = none -> Q (.ref D) (upd H' D (.lst ys))) \/ (J.go i H' /\ ∃ N : List V -> St -> Hp -> Prop, (∀ zs σ2 H2, N zs σ2 H2 -> ∃ m', m' < m /\ W (i + 1) m' zs σ2 H2) /\ ∀ x H2, J.yld i H' x H2 -> g x σ' H2 fun σ2 H3 => tc σ2 H3 fun b H4 =>
    if b = true then te σ2 H4 fun v H5 => N (ys ++ [v]) σ2 H5 else N ys σ2 H4))
section
variable {X : Cx} {tg iter elt : Expr} {ifs : List Expr} {sc : Scope} {pos : Pos} {wi : TI} {cp : Caps} {g : TG} {tc : TT} {te : TE}
theorem comp_core (hc : X.calm = true) (S : BlkSc X sc) (hcp : CapsOk X.N sc cp)
    (hg : ∀ C s₀ H₀ ex, PG (X.blk cp.names sc C s₀ H₀ ex) tg g) (hf : ∀ C s₀ H₀ ex, PF (X.blk cp.names sc C s₀ H₀ ex) ifs tc) (he : ∀ C s₀ H₀ ex, PE (X.blk cp.names sc C s₀ H₀ ex) elt te)
    {pins : List (Addr × Obj)} {σ : St} {H : Hp} {s : Shared} {J : It} {it : Addr} {fp : List Addr} {tn : Nat -> Heap -> Prop} {Q : VK} {RR : Value -> Addr -> Result -> Shared -> Prop} {E : Value -> Shared -> Prop}
    (I : Inv X pins σ H s) (T : Turn X.prog X.w X.K tg J fp it tn) (st : tn 0 s.heap) (fpo : ∀ b ∈ fp, FpOk X pins H b)
    (hw : ∃ W : Nat -> Nat -> List V -> St -> Hp -> Prop, (∃ m, W 0 m [] (cp.st σ) H) /\ ∀ i m ys σ' H', W i m ys σ' H' ->
      ys.length < sizeLine /\ ((J.stop i H' /\ ∀ D, H' D = none -> Q (.ref D) (upd H' D (.lst ys))) \/ (J.go i H' /\ ∃ N : List V -> St -> Hp -> Prop, (∀ zs σ2 H2, N zs σ2 H2 -> ∃ m', m' < m /\ W (i + 1) m' zs σ2 H2) /\ ∀ x H2, J.yld i H' x H2 -> g x σ' H2 fun σ2 H3 => tc σ2 H3 fun b H4 =>
        if b = true then te σ2 H4 fun v H5 => N (ys ++ [v]) σ2 H5 else N ys σ2 H4)))
    (hR : ∀ D C s' H' (m : Str -> Option Value), Inv X pins σ H' s' -> Q (.ref D) H' -> s'.heap.Ns C m -> H' C = none -> C ≠ X.env.locals -> X.s₀.heap.objs.size <= C -> (∀ x c, X.env.cells.lookup x = some c -> c ≠ C) -> (∀ p ∈ X.pn ++ pins, p.1 ≠ C) -> RR (.ref D) C (.ok .next) s') :
    wpAny (model X.prog X.w) X.A (newList []) (fun acc s₃ => wpAny (model X.prog X.w) X.A (newFunctionEnv sc X.env.globals (clOf X.env sc.names []) [] X.env.qual none .none (some X.env)) (fun cenv s₄ =>
      codeAny (model X.prog X.w) X.A (.compStart (.ListComp elt [⟨tg, iter, ifs, 0⟩] sc pos) 0 (.ref it) acc { cenv with scope := relabel sc X.env }) (RR acc cenv.locals) s₄) E s₃) E s := by
  obtain ⟨W, ⟨m0, w0⟩, turn⟩ := hw
  refine wpAny_newObj_type (wpAny_newFunctionEnv S.nocell (by intro y hy; simp at hy) (fun h₁ hns₁ hsb₁ => ?_) S.kind)
  dsimp only at hns₁ hsb₁ ⊢
  generalize hH2 : s.heap.push { cls := .type "list", dict := none, data := .seq ([] : List Value).toArray } = H2 at hns₁ hsb₁ ⊢
  have hC : H2.objs.size = s.heap.objs.size + 1 := by rw [<- hH2, Heap.size_push]
  have hDC : s.heap.objs.size ≠ H2.objs.size := by rw [hC]; exact Nat.ne_of_lt (Nat.lt_succ_self _)
  have hCle : s.heap.objs.size <= H2.objs.size := by rw [hC]; exact Nat.le_succ _
  have below : ∀ b, b < s.heap.objs.size -> b ≠ H2.objs.size := fun b hb => by rw [hC]; exact Nat.ne_of_lt (Nat.lt_succ_of_lt hb)
  have old : ∀ b o, s.heap.get? b = some o -> h₁.get? b = some o := fun b o e => hsb₁.extBut b o (below b (Heap.lt_size e)) (Heap.get?_push_of_some _ (hH2 ▸ Heap.get?_push_of_some _ e))
  have hacc : h₁.get? s.heap.objs.size = some { cls := .type "list", data := .seq ([] : List Value).toArray 0 } := hsb₁.extBut _ _ hDC (Heap.get?_push_of_some _ (hH2 ▸ Heap.get?_push_size _ rfl))
  have hst₁ : tn 0 h₁ := T.keep 0 _ _ st fun b _ o e => old b o e
  have hobj : ∀ b ∈ fp, ∃ o, s.heap.get? b = some o := fun b hb => let ⟨o, e, _⟩ := T.obj 0 _ st b hb; ⟨o, e⟩
  have J0 : Inv (X.blk cp.names sc H2.objs.size s H fp) [] (cp.st σ) H { s with heap := h₁, toks := s.toks + ([] : List (Str × Value)).length } := blk_start I S hcp hCle fpo hobj rfl rfl old hns₁
  have nfs : ∀ b, s.heap.objs.size <= b -> b ∉ frs X.stack := fun b hb z => by
    rcases List.mem_cons.mp (I.stkSub b z) with e | e
    . exact absurd (Nat.lt_of_lt_of_le I.lt (by rw [<- e]; exact hb)) (Nat.lt_irrefl _)
    . exact I.nofs hb e
  have ncell : ∀ b, s.heap.objs.size <= b -> ∀ x c, X.env.cells.lookup x = some c -> c ≠ b := fun b hb x c e z => by
    obtain ⟨v, q⟩ := I.cell x c e
    exact absurd (Nat.lt_of_lt_of_le q.lt (by rw [z]; exact hb)) (Nat.lt_irrefl _)
  have fpb : ∀ {pins' : List (Addr × Obj)} {H' : Hp}, (∀ b ∈ fp, H' b = none) -> (∀ p ∈ pins', p.1 ∉ fp) -> ∀ b ∈ fp, FpOk (X.blk cp.names sc H2.objs.size s H fp) pins' H' b := fun {pins' H'} hn hp b hb => by
    obtain ⟨o, e⟩ := hobj b hb
    refine ⟨hn b hb, below b (Heap.lt_size e), fun z => ?_, .inl hb, fun x c h => (fpo b hb).2.2.2.2.1 x c (blk_lookup I S h), fun p hp' z => ?_⟩
    . rcases List.mem_cons.mp (I.stkSub b z) with e | e
      . exact (fpo b hb).2.1 e
      . exact (fpo b hb).2.2.1 e
    . have hp'' : p ∈ pins' := by simpa using hp'
      exact hp p hp'' (by rw [z]; exact hb)
  have loop : ∀ s₃ : Shared, s₃ = { s with heap := h₁, toks := s.toks + ([] : List (Str × Value)).length } ->
      codeAny (model X.prog X.w) X.A (.compLoop (.ListComp elt [⟨tg, iter, ifs, 0⟩] sc pos) 0 (.ref it) (.ref s.heap.objs.size) (compEnvC sc (clOf X.env sc.names []) H2.objs.size X.env))
        (RR (.ref s.heap.objs.size) H2.objs.size) s₃ := by
    rintro s₃ rfl
    refine compLoop_gen (fun n s' => ∃ i σ' H' ys its k, Inv (X.blk cp.names sc H2.objs.size s H fp) [] σ' H' s' /\ tn i s'.heap /\ (∀ b ∈ fp, H' b = none) /\ H' s.heap.objs.size = none /\
      s'.heap.get? s.heap.objs.size = some { cls := .type "list", data := .seq its.toArray k } /\ Vals ys its /\ W i n ys σ' H') ?_ m0
      ⟨0, _, H, [], [], 0, J0, hst₁, fun b hb => (fpo b hb).1, I.hok.fresh (Nat.le_refl _), hacc, .nil, w0⟩
    rintro n s3 ⟨i, σ3, H3, ys, its, k, I3, st3, fr3, hD3, e3, rv, w3⟩
    obtain ⟨hz, tr⟩ := turn i n ys σ3 H3 w3
    have hlen := rv.length
    -- the accumulator stands still while anything else runs
    have dpin : ∀ p ∈ [(s.heap.objs.size, ({ cls := .type "list", data := .seq its.toArray k } : Obj))], p.1 ∉ fp := fun p hp z => by
      have e : p = _ := List.mem_singleton.mp hp
      subst e
      obtain ⟨o, e⟩ := hobj _ z
      exact absurd (Heap.lt_size e) (Nat.lt_irrefl _)
    have I3' : Inv (X.blk cp.names sc H2.objs.size s H fp) [(s.heap.objs.size, ({ cls := .type "list", data := .seq its.toArray k } : Obj))] σ3 H3 s3 := I3.pins_of fun p hp => by
      have e : p = _ := List.mem_singleton.mp hp
      subst e
      exact ⟨e3, hD3, hDC, nfs _ (Nat.le_refl _), fun v z => by cases z⟩
    have stat : ∀ b ∈ fp, FpOk (X.blk cp.names sc H2.objs.size s H fp) [(s.heap.objs.size, ({ cls := .type "list", data := .seq its.toArray k } : Obj))] H3 b := fpb fr3 dpin
    rcases tr with ⟨stop, qn⟩ | ⟨go, N, hN, step⟩
    . refine thn (T.done (X.blk cp.names sc H2.objs.size s H fp) rfl rfl rfl hc i _ s3 σ3 H3 _ I3' stat st3 stop) fun r s4 ⟨hr, I4⟩ => ?_
      subst hr
      obtain ⟨e4, n4, _⟩ := I4.pin (s.heap.objs.size, ({ cls := .type "list", data := .seq its.toArray k } : Obj)) (by simp)
      have new : ObjOk X.prog X.w (upd H3 s.heap.objs.size (.lst ys)) s4.heap s.heap.objs.size (.lst ys) := ⟨Nat.le_of_lt hz, its, k, rv, e4⟩
      obtain ⟨mC, hnC, _⟩ := I4.loc
      have I4' : Inv (X.blk cp.names sc H2.objs.size s H fp) [] σ3 H3 s4 := I4.pins_of fun p hp => by cases hp
      have I5 := blk_end I I4' fpo (Nat.le_refl _) n4 new
      refine hR _ _ s4 _ mC I5 (qn _ n4) hnC ?_ (Nat.ne_of_gt (Nat.lt_of_lt_of_le I.lt hCle)) (Nat.le_trans I.sz hCle) (ncell _ hCle) fun p hp z => ?_
      . rw [upd_ne (Ne.symm hDC)]; exact I4.free
      . exact absurd (Nat.lt_of_lt_of_le (Heap.lt_size (I.pin p hp).1) (by rw [z]; exact hCle)) (Nat.lt_irrefl _)
    . refine thn (T.item (X.blk cp.names sc H2.objs.size s H fp) rfl rfl rfl hc i _ s3 σ3 H3 _ I3' stat st3 go) fun r s4 ⟨u, hr, h4⟩ => ?_
      subst hr
      refine thn h4 fun _ s5 ⟨x, H5, I5, r5, y5, st5, fr5⟩ => ?_
      have I5' := I5.pinned (fpb fr5 dpin) (T.obj _ _ st5)
      have fin : ∀ {σ7 : St} {H7 : Hp} {s7 : Shared}, Inv (X.blk cp.names sc H2.objs.size s H fp) ([(s.heap.objs.size, ({ cls := .type "list", data := .seq its.toArray k } : Obj))] ++ pinsAt fp s5.heap) σ7 H7 s7 ->
          s7.heap.get? s.heap.objs.size = some { cls := .type "list", data := .seq its.toArray k } /\ H7 s.heap.objs.size = none /\ (∀ b ∈ fp, H7 b = none) /\ ∀ b ∈ fp, ∀ o, s5.heap.get? b = some o -> s7.heap.get? b = some o := fun {σ7 H7 s7} I7 => by
        obtain ⟨e7, n7, _⟩ := I7.pin (s.heap.objs.size, ({ cls := .type "list", data := .seq its.toArray k } : Obj)) (by simp)
        refine ⟨e7, n7, fun b hb => ?_, fun b hb o e => ?_⟩
        . obtain ⟨o, e, _⟩ := T.obj _ _ st5 b hb
          exact (I7.pin (b, o) (List.mem_append_right _ (List.mem_append_right _ (mem_pinsAt hb e)))).2.1
        . exact (I7.pin (b, o) (List.mem_append_right _ (List.mem_append_right _ (mem_pinsAt hb e)))).1
      refine wpAny_mono (hg _ _ _ _ _ s5 σ3 H5 x u _ I5' r5 (step x H5 y5)) (fun _ s6 ⟨σ6, H6, I6, q6⟩ => ?_) fun _ _ z => False.elim z
      refine wpAny_mono (hf _ _ _ _ _ s6 σ6 H6 _ I6 q6) (fun ok s7 ⟨H7, I7, q7⟩ => ?_) fun _ _ z => False.elim z
      cases ok with
      | false =>
        rw [if_neg Bool.false_ne_true]
        rw [if_neg Bool.false_ne_true] at q7
        obtain ⟨m', hm, w7⟩ := hN _ _ _ q7
        obtain ⟨e7, n7, fr7, k7⟩ := fin I7
        exact ⟨m', hm, i + 1, σ6, H7, ys, its, k, I7.pins_of (fun p hp => by cases hp), T.keep _ _ _ st5 k7, fr7, n7, e7, rv, w7⟩
      | true =>
        rw [if_pos rfl]
        rw [if_pos rfl] at q7
        refine wpAny_mono (he _ _ _ _ _ s7 σ6 H7 _ I7 q7) (fun v s8 ⟨y, H8, I8, r8, q8⟩ => ?_) fun _ _ z => False.elim z
        obtain ⟨m', hm, w8⟩ := hN _ _ _ q8
        obtain ⟨e8, n8, fr8, k8⟩ := fin I8
        refine call_meets F.slot_list_append ⟨_, e8, rfl⟩ F.entry_list_append (F.args_list_append_2 _ _) (PySem.list_append s.heap.objs.size its.toArray k v (by rw [List.size_toArray]; omega)) ⟨e8, ?_⟩
        obtain ⟨k', q⟩ : ∃ k', (s8.heap.update s.heap.objs.size (Obj.mapSeq fun x => x.push v)).get? s.heap.objs.size = some { cls := .type "list", data := .seq (its ++ [v]).toArray k' } := ⟨_, by
          have q := PySem.IsL.update e8 fun x => x.push v
          have e : (its ++ [v]).toArray = its.toArray.push v := by simp
          rw [e]
          exact q⟩
        have I8' : Inv (X.blk cp.names sc H2.objs.size s H fp) [] σ6 H8 s8 := I8.pins_of fun p hp => by cases hp
        have I9 : Inv (X.blk cp.names sc H2.objs.size s H fp) [] σ6 H8 { s8 with heap := s8.heap.update s.heap.objs.size (Obj.mapSeq fun x => x.push v), toks := s8.toks } :=
          I8'.turned (it := s.heap.objs.size) (fun b o hb e => (Heap.get?_update_other _ _ (Ne.symm hb)).trans e) n8 hDC (.inr (Nat.le_refl _)) (fun x c e => ncell _ (Nat.le_refl _) x c (blk_lookup I S e)) (fun p hp => by cases hp)
        refine ⟨m', hm, i + 1, σ6, H8, ys ++ [y], its ++ [v], k', I9, T.keep (i + 1) s5.heap _ st5 (fun b hb o e => ?_), fr8, n8, q, rv.append (.cons r8 .nil), w8⟩
        . refine (Heap.get?_update_other _ _ ?_).trans (k8 b hb o e)
          intro z
          obtain ⟨ob, eb⟩ := hobj b hb
          exact absurd (Heap.lt_size eb) (by rw [<- z]; exact Nat.lt_irrefl _)
  exact codeAny_compStart_list (loop _ rfl) (T.self _ 0 _ _ _ hst₁ (loop _ rfl))
theorem pe_comp (hc : X.calm = true) (S : BlkSc X sc) (hcp : CapsOk X.N sc cp) (hi : PI X tg iter wi)
    (hg : ∀ C s₀ H₀ ex, PG (X.blk cp.names sc C s₀ H₀ ex) tg g) (hf : ∀ C s₀ H₀ ex, PF (X.blk cp.names sc C s₀ H₀ ex) ifs tc) (he : ∀ C s₀ H₀ ex, PE (X.blk cp.names sc C s₀ H₀ ex) elt te)
    (hs : ∀ x, foldedSetIterable iter X.env x = pure x := by intro _; rfl) : PE X (.ListComp elt [⟨tg, iter, ifs, 0⟩] sc pos) (tComp wi cp g tc te) := by
  intro pins s σ H Q I h
  rw [eval_ListComp]
  refine wpAny_comprehension_free (use := none) rfl hs (closure_eq (blk_cells I S)) S.kind S.loc (thn (hi pins s σ H _ I h) fun xv s₁ h₁ => thn h₁ fun itv s₂ h₂ => ?_)
  obtain ⟨it, fp, tn, J, H2, e, I2, T, st2, f2, hw⟩ := h₂
  subst e
  refine comp_core (RR := fun acc C => compPost (model X.prog X.w) X.A X.xe none (EP X pins σ Q) acc C) hc S hcp hg hf he I2 T st2 f2 hw ?_
  intro D C s' H' m I' q hn hC hL hz hcl hp
  exact ⟨m, hn, fun h' hs' => ⟨.ref D, H', I'.turned (t' := s'.toks) (it := C) (fun b o hb e => hs'.extBut b o hb e) hC hL (.inr hz) hcl hp, rfl, q⟩⟩
theorem ps_setC {i : Nat} {x : Str} {px spos : Pos} (hN : X.N.Nodup) (hi : X.N[i]? = some x) (hx : X.env.scope.names.lookup x = some .local) (hc : X.calm = true) (S : BlkSc X sc) (hcp : CapsOk X.N sc cp) (hit : PI X tg iter wi)
    (hg : ∀ C s₀ H₀ ex, PG (X.blk cp.names sc C s₀ H₀ ex) tg g) (hf : ∀ C s₀ H₀ ex, PF (X.blk cp.names sc C s₀ H₀ ex) ifs tc) (he : ∀ C s₀ H₀ ex, PE (X.blk cp.names sc C s₀ H₀ ex) elt te)
    (hsw : swapsWith (.ListComp elt [⟨tg, iter, ifs, 0⟩] sc pos) (some (.Name x px)) spos.line X.env = pure true := by rfl)
    (hs : ∀ x, foldedSetIterable iter X.env x = pure x := by intro _; rfl) : PS X (.Assign [.Name x px] (.ListComp elt [⟨tg, iter, ifs, 0⟩] sc pos) spos) (tAsg (tComp wi cp g tc te) (gName i)) := by
  intro pins s σ H D I h
  rw [exec_Assign_Name_used _ _ _ _ hsw]
  refine wpAny_bind (wpAny_standAt (wpAny_bind ?_))
  show wpAny _ X.A (do let _ <- comprehension (.ListComp elt [⟨tg, iter, ifs, 0⟩] sc pos) sc X.env _ (newList []) false (eval iter X.env) (some (assign (.Name x px) X.env))) _ _ s
  refine wpAny_bind (wpAny_mono (wpAny_comprehension_free (use := some (assign (.Name x px) X.env)) (Q := fun _ s' => SP X pins D .next s') rfl hs (closure_eq (blk_cells I S)) S.kind S.loc
    (thn (hit pins s σ H _ I h) fun xv s₁ h₁ => thn h₁ fun itv s₂ h₂ => ?_)) (fun _ s' hq => wpAny_pure (wpAny_pure hq)) fun _ _ e => e)
  obtain ⟨it, fp, tn, J, H2, e, I2, T, st2, f2, hw⟩ := h₂
  subst e
  refine comp_core (RR := fun acc C => compPost (model X.prog X.w) X.A X.xe (some (assign (.Name x px) X.env)) (fun _ s' => SP X pins D .next s') acc C) (Q := fun v H1 => gName i v σ H1 D.nx) hc S hcp hg hf he I2 T st2 f2 hw ?_
  intro Dl C s' H' m I' q hn hC hL hz hcl hp
  show wpAny _ X.A (assign (.Name x px) X.env (.ref Dl)) _ _ _
  refine wpAny_assign_Name (store_ok2 I' hN hi (.inl hx) (v := .ref Dl) rfl (fun s'' I'' ⟨a, hsb, ha⟩ => ?_) (.inr hx))
  have hne : C ≠ a := by
    rcases ha with rfl | ha
    . exact hL
    . exact fun z => hcl _ _ ha z.symm
  refine ⟨m, hn.sameBut hsb hne, fun h' hs' => ⟨_, H', I''.turned (t' := s''.toks) (it := C) (fun b o hb e => hs'.extBut b o hb e) hC hL (.inr hz) hcl hp, q⟩⟩
end
theorem comp_list {K : PySem.W.Frag} {a : Addr} {xs : List V} {g : TG} {tc : TT} {te : TE} {Q : VK} {σ : St} {H : Hp} (Pv : Nat -> List V -> St -> Hp -> Prop) (h0 : Pv 0 [] σ H) (hz : xs.length < sizeLine)
    (hl : ∀ i ys σ H, i <= xs.length -> Pv i ys σ H -> SqL K H a xs /\ ys.length <= i)
    (hs : ∀ i x ys σ H, xs[i]? = some x -> Pv i ys σ H -> g x σ H fun σ2 H2 => tc σ2 H2 fun b H3 => if b = true then te σ2 H3 fun v H4 => Pv (i + 1) (ys ++ [v]) σ2 H4 else Pv (i + 1) ys σ2 H3)
    (hd : ∀ ys σ H, Pv xs.length ys σ H -> ∀ D, H D = none -> Q (.ref D) (upd H D (.lst ys))) :
    ∃ W : Nat -> Nat -> List V -> St -> Hp -> Prop, (∃ m, W 0 m [] σ H) /\ ∀ i m ys σ' H', W i m ys σ' H' ->
      ys.length < sizeLine /\ (((Itl K a).stop i H' /\ ∀ D, H' D = none -> Q (.ref D) (upd H' D (.lst ys))) \/ ((Itl K a).go i H' /\ ∃ N : List V -> St -> Hp -> Prop, (∀ zs σ2 H2, N zs σ2 H2 -> ∃ m', m' < m /\ W (i + 1) m' zs σ2 H2) /\ ∀ x H2, (Itl K a).yld i H' x H2 -> g x σ' H2 fun σ2 H3 => tc σ2 H3 fun b H4 =>
        if b = true then te σ2 H4 fun v H5 => N (ys ++ [v]) σ2 H5 else N ys σ2 H4)) := by
  refine ⟨fun i m ys σ H => m = xs.length - i /\ i <= xs.length /\ Pv i ys σ H, ⟨xs.length, by simp, Nat.zero_le _, h0⟩, ?_⟩
  rintro i m ys σ H ⟨rfl, hi, p⟩
  obtain ⟨q, ly⟩ := hl i ys σ H hi p
  refine ⟨by omega, ?_⟩
  by_cases hlt : i < xs.length
  . refine .inr ⟨⟨xs, xs[i], q, by simp [hlt]⟩, Pv (i + 1), fun zs σ' H' p' => ⟨xs.length - (i + 1), by omega, rfl, hlt, p'⟩, fun x H' y => ?_⟩
    obtain ⟨e, y⟩ := y
    subst e
    exact hs i x ys σ _ (y xs q) p
  . have e : i = xs.length := by omega
    subst e
    exact .inl ⟨⟨xs, q, Nat.le_refl _⟩, hd ys σ H p⟩
theorem comp_tup {K : PySem.W.Frag} {a : Addr} {xs : List V} {g : TG} {tc : TT} {te : TE} {Q : VK} {σ : St} {H : Hp} (Pv : Nat -> List V -> St -> Hp -> Prop) (h0 : Pv 0 [] σ H) (hz : xs.length < sizeLine)
    (hl : ∀ i ys σ H, i <= xs.length -> Pv i ys σ H -> SqT K H a xs /\ ys.length <= i)
    (hs : ∀ i x ys σ H, xs[i]? = some x -> Pv i ys σ H -> g x σ H fun σ2 H2 => tc σ2 H2 fun b H3 => if b = true then te σ2 H3 fun v H4 => Pv (i + 1) (ys ++ [v]) σ2 H4 else Pv (i + 1) ys σ2 H3)
    (hd : ∀ ys σ H, Pv xs.length ys σ H -> ∀ D, H D = none -> Q (.ref D) (upd H D (.lst ys))) :
    ∃ W : Nat -> Nat -> List V -> St -> Hp -> Prop, (∃ m, W 0 m [] σ H) /\ ∀ i m ys σ' H', W i m ys σ' H' ->
      ys.length < sizeLine /\ (((Itt K a).stop i H' /\ ∀ D, H' D = none -> Q (.ref D) (upd H' D (.lst ys))) \/ ((Itt K a).go i H' /\ ∃ N : List V -> St -> Hp -> Prop, (∀ zs σ2 H2, N zs σ2 H2 -> ∃ m', m' < m /\ W (i + 1) m' zs σ2 H2) /\ ∀ x H2, (Itt K a).yld i H' x H2 -> g x σ' H2 fun σ2 H3 => tc σ2 H3 fun b H4 =>
        if b = true then te σ2 H4 fun v H5 => N (ys ++ [v]) σ2 H5 else N ys σ2 H4)) := by
  refine ⟨fun i m ys σ H => m = xs.length - i /\ i <= xs.length /\ Pv i ys σ H, ⟨xs.length, by simp, Nat.zero_le _, h0⟩, ?_⟩
  rintro i m ys σ H ⟨rfl, hi, p⟩
  obtain ⟨q, ly⟩ := hl i ys σ H hi p
  refine ⟨by omega, ?_⟩
  by_cases hlt : i < xs.length
  . refine .inr ⟨⟨xs, xs[i], q, by simp [hlt]⟩, Pv (i + 1), fun zs σ' H' p' => ⟨xs.length - (i + 1), by omega, rfl, hlt, p'⟩, fun x H' y => ?_⟩
    obtain ⟨e, y⟩ := y
    subst e
    exact hs i x ys σ _ (y xs q) p
  . have e : i = xs.length := by omega
    subst e
    exact .inl ⟨⟨xs, q, Nat.le_refl _⟩, hd ys σ H p⟩
theorem comp_range {lo : Int} {n : Nat} {g : TG} {tc : TT} {te : TE} {Q : VK} {σ : St} {H : Hp} (Pv : Nat -> List V -> St -> Hp -> Prop) (h0 : Pv 0 [] σ H) (hz : n < sizeLine)
    (hl : ∀ i ys σ H, i <= n -> Pv i ys σ H -> ys.length <= i)
    (hs : ∀ i ys σ H, i < n -> Pv i ys σ H -> g (.int (lo + i)) σ H fun σ2 H2 => tc σ2 H2 fun b H3 => if b = true then te σ2 H3 fun v H4 => Pv (i + 1) (ys ++ [v]) σ2 H4 else Pv (i + 1) ys σ2 H3)
    (hd : ∀ ys σ H, Pv n ys σ H -> ∀ D, H D = none -> Q (.ref D) (upd H D (.lst ys))) :
    ∃ W : Nat -> Nat -> List V -> St -> Hp -> Prop, (∃ m, W 0 m [] σ H) /\ ∀ i m ys σ' H', W i m ys σ' H' ->
      ys.length < sizeLine /\ (((Itr lo n).stop i H' /\ ∀ D, H' D = none -> Q (.ref D) (upd H' D (.lst ys))) \/ ((Itr lo n).go i H' /\ ∃ N : List V -> St -> Hp -> Prop, (∀ zs σ2 H2, N zs σ2 H2 -> ∃ m', m' < m /\ W (i + 1) m' zs σ2 H2) /\ ∀ x H2, (Itr lo n).yld i H' x H2 -> g x σ' H2 fun σ2 H3 => tc σ2 H3 fun b H4 =>
        if b = true then te σ2 H4 fun v H5 => N (ys ++ [v]) σ2 H5 else N ys σ2 H4)) := by
  refine ⟨fun i m ys σ H => m = n - i /\ i <= n /\ Pv i ys σ H, ⟨n, by simp, Nat.zero_le _, h0⟩, ?_⟩
  rintro i m ys σ H ⟨rfl, hi, p⟩
  have ly := hl i ys σ H hi p
  refine ⟨by omega, ?_⟩
  by_cases hlt : i < n
  . refine .inr ⟨hlt, Pv (i + 1), fun zs σ' H' p' => ⟨n - (i + 1), by omega, rfl, hlt, p'⟩, fun x H' y => ?_⟩
    obtain ⟨e, y⟩ := y
    subst e y
    exact hs i ys σ _ hlt p
  . have e : i = n := by omega
    subst e
    exact .inl ⟨Nat.le_refl _, hd ys σ H p⟩
end L2
set_option Elab.async false
set_option linter.all false
set_option maxRecDepth 100000
set_option maxHeartbeats 4000000
namespace L2
open PySem PySem.Spec PyProof.Rows
section
variable {X : Cx}
theorem vals_bool_get {bs : List Bool} {its : List Value} (r : Vals (bs.map V.bl) its) {i : Nat} {v : Value} (h : its[i]? = some v) : ∃ b, bs[i]? = some b /\ v = .bool b := by
  have hi : i < its.length := (List.getElem?_eq_some_iff.mp h).1
  have hl := r.length
  rw [List.length_map] at hl
  obtain ⟨u, hu, ru⟩ := r.get (i := i) (x := V.bl bs[i]) (by rw [List.getElem?_map]; simp [show i < bs.length by omega])
  rw [h] at hu
  cases hu
  exact ⟨bs[i], by simp [show i < bs.length by omega], ru⟩
theorem map_at (bs : List Bool) : (List.range bs.length).map (fun i => bs.getD i false) = bs :=
  List.ext_getElem (by simp) fun i _ h => by simp [h]
theorem range_all {bs : List Bool} : (List.range bs.length).all (fun i => bs.getD i false) = bs.all id := by
  have e := congrArg (fun l => l.all id) (map_at bs)
  rw [List.all_map] at e; exact e
theorem truth_bools {bs : List Bool} {its : List Value} {A : Around} {P : Program} {w : World} (r : Vals (bs.map V.bl) its) : TruthOf P w A (fun i v => its.toArray[i]? = some v) (fun i => bs.getD i false) := by
  intro i v s Q E hv hq
  obtain ⟨b, hb, e⟩ := vals_bool_get r (by simpa using hv)
  subst e
  refine wpAny_truthy_bool ?_
  have e : bs.getD i false = b := by rw [List.getD_eq_getElem?_getD, hb]; rfl
  have hq' : Q (bs.getD i false) s := hq
  rw [e] at hq'
  exact hq'
theorem call_all (hc : X.calm = true) : CallR X (.builtin "all") (fun xs H Q => ∃ (p : Addr) (bs : List Bool), xs = [.ref p] /\ SqL X.K H p (bs.map V.bl) /\ Q (.bl (bs.all id)) H) := by
  intro pins s σ H xs us Q I r h
  obtain ⟨p, bs, rfl, hq, q⟩ := h
  obtain ⟨u, rfl, ru⟩ := vals1 r
  cases ru
  obtain ⟨its, rv, pl, hz⟩ := I.list hq
  have hlen := rv.length
  rw [List.length_map] at hlen
  have hh : X.A.in1.handled = none := I.ok.hd hc
  obtain ⟨o, ho, _⟩ := id pl.isList
  have hne : p ≠ s.heap.objs.size := Nat.ne_of_lt (Heap.lt_size ho)
  refine call_all_walk (wpAny_pyIter_list pl.isList ?_)
  refine ⟨s.heap.objs.size, _, _, its.toArray.size, _, _, fun i => bs.getD i false, rfl, Walks.list hh _ p hne its.toArray, ⟨⟨_, Heap.get?_push_size _ rfl, rfl, rfl⟩, pl.isList.at fun o e => Heap.get?_push_of_some _ e⟩, truth_bools rv, fun h' tk hk => ?_⟩
  refine ⟨.bl (bs.all id), H, I.kept (t' := tk) fun b o e => hk b o ?_ (Heap.get?_push_of_some _ e), ?_, q⟩
  . intro hb
    have e' : b = s.heap.objs.size := by simpa using hb
    exact absurd (Heap.lt_size e) (by rw [e']; exact Nat.lt_irrefl _)
  . rw [List.size_toArray, <- hlen, range_all]; rfl
theorem call_isinst : CallR X (.builtin "isinstance") (fun xs H Q => ∃ x c cv t b, xs = [x, c] /\ TyOf X.K H x t /\ (∀ u, RelV c u -> u = cv) /\ PySem.W.kitOne X.K t cv = some b /\ Q (.bl b) H) := by
  intro pins s σ H xs us Q I r h
  obtain ⟨x, c, cv, t, b, rfl, ty, hc, hk, q⟩ := h
  obtain ⟨u, w', rfl, rx, rc⟩ := vals2 r
  rw [hc _ rc]
  exact isinst_ok I rx ty hk fun tk => ⟨.bl b, H, I.tok tk, rfl, q⟩
def EqD (K : PySem.W.Frag) (H : Hp) : Nat -> V -> V -> Bool -> Prop
  | 0, x, y, b => flatV x = true /\ flatV y = true /\ b = eqV x y
  | n + 1, x, y, b => (flatV x = true /\ flatV y = true /\ b = eqV x y) \/ ∃ a c xs ys, x = .ref a /\ y = .ref c /\ ((SqL K H a xs /\ SqL K H c ys) \/ (SqT K H a xs /\ SqT K H c ys)) /\ 
      ∃ e : Nat -> Bool, (∀ i x y, xs[i]? = some x -> ys[i]? = some y -> EqD K H n x y (e i)) /\ b = (decide (xs.length = ys.length) && (List.range (min xs.length ys.length)).all e)
theorem in1_units (A : Around) : A.in1.units = A.units + 1 := rfl
theorem eqV_self {x : V} (h : flatV x = true) : eqV x x = true := by
  cases x <;> first | rfl | (simp [eqV]; done) | exact absurd (show false = true from h) Bool.false_ne_true
theorem EqD.self {pins : List (Addr × Obj)} {s : Shared} {σ : St} {H : Hp} (I : Inv X pins σ H s) : ∀ (n : Nat) {x : V} {b : Bool}, EqD X.K H n x x b -> b = true := by
  intro n
  induction n with
  | zero =>
    rintro x b ⟨fx, _, rfl⟩
    exact eqV_self fx
  | succ n ih =>
    rintro x b (⟨fx, _, rfl⟩ | ⟨a, c, xs, ys, rfl, e2, hq, e, he, rfl⟩)
    . exact eqV_self fx
    . cases e2
      have exy : xs = ys := by
        rcases hq with ⟨h1, h2⟩ | ⟨h1, h2⟩
        . exact I.list_inj h1 h2
        . exact I.tuple_inj h1 h2
      subst exy
      simp only [decide_true, Bool.true_and, Nat.min_self, List.all_eq_true, List.mem_range]
      intro i hi
      exact ih (he i xs[i] xs[i] (by simp [hi]) (by simp [hi]))
theorem all_and {n m : Nat} {e : Nat -> Bool} : ((List.range (min n m)).all e && n == m) = (decide (n = m) && (List.range (min n m)).all e) := by
  rw [Bool.and_comm]
  congr 1
theorem EqD.at {pins : List (Addr × Obj)} {s : Shared} {σ : St} {H : Hp} (I : Inv X pins σ H s) : ∀ (n : Nat) (A : Around) {x y : V} {u v : Value} {b : Bool}, A.units + n < cLine -> RelV x u -> RelV y v -> EqD X.K H n x y b ->
    SeqAt.EqAt A s u v b /\ ∀ a c, x = .ref a -> y = .ref c -> SeqAt.RcAt A s u v b := by
  intro n
  induction n with
  | zero =>
    intro A x y u v b hu rx ry h
    obtain ⟨fx, fy, rfl⟩ := h
    refine ⟨eqAt_V rx ry fx fy, ?_⟩
    rintro a c rfl rfl
    exact absurd (show false = true from fx) Bool.false_ne_true
  | succ n ih =>
    intro A x y u v b hu rx ry h
    have hself := h
    rcases h with ⟨fx, fy, rfl⟩ | ⟨a, c, xs, ys, rfl, rfl, hq, e, he, rfl⟩
    . refine ⟨eqAt_V rx ry fx fy, ?_⟩
      rintro a c rfl rfl
      exact absurd (show false = true from fx) Bool.false_ne_true
    . cases rx
      cases ry
      have key : ∀ (its its2 : List Value), Vals xs its -> Vals ys its2 -> ∀ j (h1 : j < its.toArray.size) (h2 : j < its2.toArray.size), SeqAt.EqAt A.in1 s its.toArray[j] its2.toArray[j] (e j) := fun its its2 r1 r2 j h1 h2 => by
        have l1 := r1.length
        have l2 := r2.length
        rw [List.size_toArray] at h1 h2
        obtain ⟨u1, g1, q1⟩ := r1.get (i := j) (x := xs[j]'(by omega)) (by simp [show j < xs.length by omega])
        obtain ⟨u2, g2, q2⟩ := r2.get (i := j) (x := ys[j]'(by omega)) (by simp [show j < ys.length by omega])
        have k1 : its.toArray[j]'(by rw [List.size_toArray]; exact h1) = u1 := by
          have := (List.getElem?_eq_some_iff.mp g1).2
          simpa using this
        have k2 : its2.toArray[j]'(by rw [List.size_toArray]; exact h2) = u2 := by
          have := (List.getElem?_eq_some_iff.mp g2).2
          simpa using this
        rw [k1, k2]
        exact (ih A.in1 (by rw [in1_units]; omega) q1 q2 (he j _ _ (by simp [show j < xs.length by omega]) (by simp [show j < ys.length by omega]))).1
      have rc : SeqAt.RcAt A s (.ref a) (.ref c) (decide (xs.length = ys.length) && (List.range (min xs.length ys.length)).all e) := by
        rcases hq with ⟨h1, h2⟩ | ⟨h1, h2⟩
        . obtain ⟨its, r1, p1, _⟩ := I.list h1
          obtain ⟨its2, r2, p2, _⟩ := I.list h2
          have l1 := r1.length
          have l2 := r2.length
          by_cases hl : xs.length = ys.length
          . have := SeqAt.RcAt.lists (e := e) p1.isList p2.isList (by rw [List.size_toArray, List.size_toArray]; omega) (by omega) (key its its2 r1 r2)
            rw [List.size_toArray, <- l1] at this
            rw [decide_eq_true hl, Bool.true_and, <- hl, Nat.min_self]
            exact this
          . rw [decide_eq_false hl, Bool.false_and]
            exact SeqAt.RcAt.lists_lengths p1.isList p2.isList (by rw [List.size_toArray, List.size_toArray]; simp; omega) (by omega)
        . obtain ⟨its, r1, p1, _⟩ := I.tuple h1
          obtain ⟨its2, r2, p2, _⟩ := I.tuple h2
          have l1 := r1.length
          have l2 := r2.length
          have := SeqAt.RcAt.tuples (e := e) (show s.heap.IsTuple a its.toArray from p1) (show s.heap.IsTuple c its2.toArray from p2) (by omega) (key its its2 r1 r2)
          rw [List.size_toArray, List.size_toArray, <- l1, <- l2, all_and] at this
          exact this
      refine ⟨?_, fun a' c' _ _ => rc⟩
      by_cases hac : a = c
      . subst hac
        rw [EqD.self I (n + 1) hself]
        exact SeqAt.EqAt.same _
      . exact SeqAt.EqAt.of_refs hac rc
def rEqD (K : PySem.W.Frag) (n : Nat) : R2 := fun x y H Q => ∃ a c b, x = .ref a /\ y = .ref c /\ EqD K H n x y b /\ Q (.bl b) H
theorem op_eqD (n : Nat) (hu : X.A.units + n < cLine) : OpR X (compareOp .Eq) (rEqD X.K n) := by
  intro pins s σ H x y v u Q I rx ry h
  obtain ⟨a, c, b, ex, ey, h, q⟩ := h
  exact (EqD.at I n X.A hu rx ry h).2 a c ex ey _ _ _ _ ⟨.bl b, H, I, rfl, q⟩
theorem EqD.flat {K : PySem.W.Frag} {H : Hp} {a c : Addr} {xs ys : List V} (hq : (SqL K H a xs /\ SqL K H c ys) \/ (SqT K H a xs /\ SqT K H c ys)) (fx : ∀ x ∈ xs, flatV x = true) (fy : ∀ y ∈ ys, flatV y = true) (hi : ∀ x ∈ xs, ∀ y ∈ ys, eqV x y = decide (x = y)) (n : Nat) :
    EqD K H (n + 1) (.ref a) (.ref c) (decide (xs = ys)) := by
  have base : ∀ m i x y, xs[i]? = some x -> ys[i]? = some y -> EqD K H m x y (decide (x = y)) := fun m i x y h1 h2 => by
    have m1 := List.mem_of_getElem? h1
    have m2 := List.mem_of_getElem? h2
    cases m with
    | zero => exact ⟨fx _ m1, fy _ m2, (hi _ m1 _ m2).symm⟩
    | succ m => exact .inl ⟨fx _ m1, fy _ m2, (hi _ m1 _ m2).symm⟩
  refine .inr ⟨a, c, xs, ys, rfl, rfl, hq, fun i => match xs[i]?, ys[i]? with | some x, some y => decide (x = y) | _, _ => true, fun i x y h1 h2 => ?_, ?_⟩
  . simp only [h1, h2]
    exact base n i x y h1 h2
  . rw [Bool.eq_iff_iff]
    simp only [decide_eq_true_eq, Bool.and_eq_true, List.all_eq_true, List.mem_range]
    constructor
    . rintro rfl
      refine ⟨rfl, fun i hi => ?_⟩
      have hi : i < xs.length := by omega
      simp [hi]
    . rintro ⟨hl, h⟩
      refine List.ext_getElem? fun i => ?_
      by_cases hi : i < xs.length
      . have := h i (by omega)
        simp [hi, show i < ys.length by omega] at this
        simp [hi, show i < ys.length by omega, this]
      . rw [List.getElem?_eq_none (by omega), List.getElem?_eq_none (by omega)]
end
end L2
namespace L2
open PySem PySem.Spec PyProof.Rows
def blkOk (outer : List (Str × NameKind)) (sc : Scope) : Bool :=
  sc.kind == .function && sc.names.all (fun y => y.2 != .cell && (y.2 != .local || sc.names.lookup y.1 == some .local) && (y.2 != .free || outer.lookup y.1 == some .cell || outer.lookup y.1 == some .free))
theorem blk_mk {X : Cx} {sc : Scope} (h : blkOk X.env.scope.names sc = true) : BlkSc X sc := by
  unfold blkOk at h
  rw [Bool.and_eq_true, List.all_eq_true] at h
  obtain ⟨h1, h2⟩ := h
  refine ⟨by simpa using h1, fun y hy z => ?_, fun y hy z => ?_, fun y hy z => ?_⟩
  . have := h2 y hy
    simp only [Bool.and_eq_true] at this
    have := this.1.1
    rw [z] at this
    exact absurd this (by decide)
  . have := h2 y hy
    simp only [Bool.and_eq_true] at this
    have := this.1.2
    rw [z] at this
    simpa using this
  . have := h2 y hy
    simp only [Bool.and_eq_true] at this
    have := this.2
    rw [z] at this
    have t : (X.env.scope.names.lookup y.1 == some .cell || X.env.scope.names.lookup y.1 == some .free) = true := by simpa using this
    rw [Bool.or_eq_true] at t
    rcases t with t | t
    . exact .inl (by show X.env.scope.names.lookup y.1 = some .cell; simpa using t)
    . exact .inr (by show X.env.scope.names.lookup y.1 = some .free; simpa using t)
end L2
set_option Elab.async false
set_option linter.all false
set_option maxRecDepth 100000
set_option maxHeartbeats 4000000
namespace L2
open PySem PySem.Spec PyProof.Rows
section
variable {t u : TS} {te ta tb tc' : TE} {tt tu : TT} {A B : TA} {D : Ends} {σ : St} {H : Hp} {Q : VK} {R : Bool -> Hp -> Prop} {S : List V -> Hp -> Prop} {i : Nat} {v : V} {g : TG} {r r' : R2} {K : PySem.W.Frag} {wi : TI} {cp : Caps}
theorem r_seq : tSeq t u D σ H = t { D with nx := u D } σ H := rfl
theorem r_next : tNext D σ H = D.nx σ H := rfl
theorem r_asg : tAsg te g D σ H = te σ H fun x H1 => g x σ H1 D.nx := rfl
theorem r_gname {N : St -> Hp -> Prop} : gName i v σ H N = N (σ.set i (some v)) H := rfl
theorem r_var : tVar i σ H Q = ∃ v, σ[i]? = some (some v) /\ Q v H := rfl
theorem r_c : tC v σ H Q = Q v H := rfl
theorem r_op : tOp r ta tb σ H Q = ta σ H fun x H1 => tb σ H1 fun y H2 => r x y H2 Q := rfl
theorem r_un {f : V -> Hp -> VK -> Prop} : tUn f ta σ H Q = ta σ H fun x H1 => f x H1 Q := rfl
theorem r_I {C : Int -> Int -> Prop} {f : Int -> Int -> V} {x y : V} : rI C f x y H Q = ∃ i j, x = .int i /\ y = .int j /\ C i j /\ Q (f i j) H := rfl
theorem r_I0 {f : Int -> Int -> V} {x y : V} : rI0 f x y H Q = ∃ i j, x = .int i /\ y = .int j /\ Q (f i j) H := rfl
theorem r_U {f : Int -> V} {x : V} : rU f x H Q = ∃ i, x = .int i /\ Q (f i) H := rfl
theorem r_call {sp : Sp} {dvs : List V} {E : XK} : tCall sp dvs E A σ H Q = A σ H fun vs H1 => sp (vs ++ dvs) H1 Q E := rfl
theorem r_cons : tCons te A σ H S = te σ H fun x H1 => A σ H1 fun xs H2 => S (x :: xs) H2 := rfl
theorem r_nil : tNil σ H S = S [] H := rfl
theorem r_ret : tRet te D σ H = te σ H D.rt := rfl
theorem r_drop : tDrop te D σ H = te σ H fun _ H1 => D.nx σ H1 := rfl
theorem r_if : tIfS tt t u D σ H = tt σ H fun b H1 => if b = true then t D σ H1 else u D σ H1 := rfl
theorem r_B : tB te σ H R = te σ H fun x H1 => ∃ c, x = .bl c /\ R c H1 := rfl
theorem r_test : tTest te σ H R = te σ H fun x H1 => ∃ c, x = .bl c /\ R c H1 := rfl
theorem r_or : tOr tt tu σ H R = tt σ H fun c H1 => if c = true then R true H1 else tu σ H1 R := rfl
theorem r_not : tNot tt σ H R = tt σ H fun c H1 => R (!c) H1 := rfl
theorem r_andV : tAndV ta tb σ H Q = ta σ H fun x H1 => ∃ c, x = .bl c /\ if c = true then tb σ H1 Q else Q (.bl false) H1 := rfl
theorem r_chain : tChain r r' ta tb tc' σ H Q = ta σ H fun x H1 => tb σ H1 fun y H2 => r x y H2 fun z H3 => ∃ k, z = .bl k /\ (if k = true then tc' σ H3 fun w' H4 => r' y w' H4 Q else Q (.bl false) H3) := rfl
theorem r_CB {f : List V -> Hp -> VK -> Prop} : tCB f A σ H Q = A σ H fun vs H1 => f vs H1 Q := rfl
theorem r_lst : tLst A σ H Q = A σ H fun xs H1 => xs.length <= sizeLine /\ ∀ p, H1 p = none -> Q (.ref p) (upd H1 p (.lst xs)) := rfl
theorem r_tup : tTup A σ H Q = A σ H fun xs H1 => xs.length <= sizeLine /\ ∀ p, H1 p = none -> Q (.ref p) (upd H1 p (.tup xs)) := rfl
theorem r_ixL {x y : V} : rIxL K x y H Q = ∃ p xs i v, x = .ref p /\ y = .int i /\ SqL K H p xs /\ atI xs i = some v /\ Q v H := rfl
theorem r_ixT {x y : V} : rIxT K x y H Q = ∃ p xs i v, x = .ref p /\ y = .int i /\ SqT K H p xs /\ atI xs i = some v /\ Q v H := rfl
theorem r_sl {f : V -> Option Int -> Option Int -> Hp -> VK -> Prop} {tl th : TO} : tSl f te tl th σ H Q = te σ H fun x H1 => tl σ H1 fun l H2 => th σ H2 fun u H3 => f x l u H3 Q := rfl
theorem r_part {U : Option Int -> Hp -> Prop} : tPart te σ H U = te σ H fun x H1 => ∃ i, x = .int i /\ U (some i) H1 := rfl
theorem r_nopart {U : Option Int -> Hp -> Prop} : tNoPart σ H U = U none H := rfl
theorem r_slL {x : V} {lo hi : Option Int} : rSlL K x lo hi H Q = ∃ a xs, x = .ref a /\ SqL K H a xs /\ ∀ p, H p = none -> Q (.ref p) (upd H p (.lst (cutV xs lo hi))) := rfl
theorem r_BM {T : String} {f : V -> List V -> Hp -> VK -> Prop} : tBM K T f te A σ H Q = te σ H fun x H1 => tyV K T x H1 /\ A σ H1 fun xs H2 => f x xs H2 Q := rfl
theorem r_append {x : V} {vs : List V} : rAppend x vs H Q = ∃ l xs y, x = .ref l /\ vs = [y] /\ H l = some (.lst xs) /\ xs.length < sizeLine /\ Q .non (upd H l (.lst (xs ++ [y]))) := rfl
theorem r_gsub {to ti : TE} {ts : TSet} {N : St -> Hp -> Prop} : gSub to ti ts v σ H N = to σ H fun o H1 => ti σ H1 fun i H2 => ts o i v H2 fun H3 => N σ H3 := rfl
theorem r_setL {o k : V} {N : Hp -> Prop} : rSetL o k v H N = ∃ p xs m j, o = .ref p /\ k = .int m /\ H p = some (.lst xs) /\ ixN xs.length m = some j /\ N (upd H p (.lst (xs.set j v))) := rfl
theorem r_Ne {x y : V} : rNe x y H Q = (scal x y = true /\ Q (.bl (!decide (x = y))) H) := rfl
theorem r_eqD {n : Nat} {x y : V} : rEqD K n x y H Q = ∃ a c b, x = .ref a /\ y = .ref c /\ EqD K H n x y b /\ Q (.bl b) H := rfl
theorem r_iList {Z : It -> Hp -> Prop} : iList K te σ H Z = te σ H fun x H1 => ∃ a, x = .ref a /\ (∃ xs, SqL K H1 a xs) /\ Z (Itl K a) H1 := rfl
theorem r_iTup {Z : It -> Hp -> Prop} : iTup K te σ H Z = te σ H fun x H1 => ∃ a, x = .ref a /\ (∃ xs, SqT K H1 a xs) /\ Z (Itt K a) H1 := rfl
theorem r_iRng1 {Z : It -> Hp -> Prop} : iRng1 A σ H Z = A σ H fun vs H1 => ∃ j : Int, vs = [.int j] /\ -(2 ^ 62) <= j /\ j < 2 ^ 62 /\ Z (Itr 0 j.toNat) H1 := rfl
theorem r_true : tTrue σ H R = R true H := rfl
end
theorem Same.new {H : Hp} {p : Addr} {o : HO} (h : H p = none) : Same H (upd H p o) := fun b u e => by rw [upd_ne (ne_of_none e h)]; exact e
theorem Same.newT {H H' : Hp} {p : Addr} {o : HO} (s : Same H H') (h : H' p = none) : Same H (upd H' p o) := s.trans (Same.new h)
theorem Same.over {H H' : Hp} {p : Addr} {o : HO} (s : Same H H') (h : H p = none) : Same H (upd H' p o) := fun b u e => by rw [upd_ne (ne_of_none e h)]; exact s b u e
theorem none_of_upd {H : Hp} {p D : Addr} {o : HO} (h : upd H p o D = none) : H D = none /\ D ≠ p := by
  by_cases e : D = p
  . subst e; rw [upd_same] at h; cases h
  . rw [upd_ne e] at h; exact ⟨h, e⟩
theorem Same.seqT {K : PySem.W.Frag} {H H' : Hp} {a : Addr} {xs : List V} (e : Same H H') (h : SqT K H a xs) : SqT K H' a xs := by
  rcases h with (h | ⟨o, h⟩) | h
  . exact .inl (.inl (e _ _ h))
  . exact .inl (.inr ⟨o, e _ _ h⟩)
  . exact .inr h
theorem hu9 {k : Nat} {A : Around} (hr : Room k A) : A.units + 8 < cLine := by have := hr.units; omega
section
variable {K : PySem.W.Frag} {wi : TI} {cp : Caps} {g : TG} {tc : TT} {te : TE} {σ : St} {H : Hp} {Q : VK}
theorem r_cxK {CX : CXT} {P : Program} {w : World} {mg : Str -> Option Value} {base : Heap} {N : List Str} {qual : Str} {scope : Scope} {f : Addr} {cd : Value} {A : Around} {outer : List Env} {s : Shared} {E : XK} : (cxOf CX P w K mg base N qual scope f cd A outer s H E).K = K := rfl
def CompW (J : It) (cp : Caps) (g : TG) (tc : TT) (te : TE) (σ : St) (H1 : Hp) (Q : VK) : Prop := ∃ W : Nat -> Nat -> List V -> St -> Hp -> Prop, (∃ m, W 0 m [] (cp.st σ) H1) /\ ∀ i m ys σ' H', W i m ys σ' H' ->
  ys.length < sizeLine /\ ((J.stop i H' /\ ∀ D, H' D = none -> Q (.ref D) (upd H' D (.lst ys))) \/ (J.go i H' /\ ∃ N : List V -> St -> Hp -> Prop, (∀ zs σ2 H2, N zs σ2 H2 -> ∃ m', m' < m /\ W (i + 1) m' zs σ2 H2) /\ ∀ x H2, J.yld i H' x H2 -> g x σ' H2 fun σ2 H3 => tc σ2 H3 fun b H4 =>
    if b = true then te σ2 H4 fun v H5 => N (ys ++ [v]) σ2 H5 else N ys σ2 H4))
theorem r_comp : tComp wi cp g tc te σ H Q = wi σ H fun J H1 => CompW J cp g tc te σ H1 Q := rfl
def ForW (J : It) (g : TG) (tb : TS) (D : Ends) (σ : St) (H1 : Hp) : Prop := ∃ W : Nat -> Nat -> St -> Hp -> Prop, (∃ m, W 0 m σ H1) /\ ∀ i m σ H, W i m σ H ->
  (J.stop i H /\ D.nx σ H) \/ (J.go i H /\ ∃ N : St -> Hp -> Prop, (∀ σ' H', N σ' H' -> ∃ m', m' < m /\ W (i + 1) m' σ' H') /\ ∀ x H', J.yld i H x H' -> g x σ H' fun σ2 H2 => tb { D with nx := N, ct := N, bk := D.nx } σ2 H2)
theorem r_for {tb : TS} {D : Ends} : tFor wi g tb D σ H = wi σ H fun J H1 => ForW J g tb D σ H1 := rfl
theorem forL {a : Addr} {xs : List V} {g : TG} {tb : TS} {D : Ends} {σ : St} {H : Hp} (Pv : Nat -> St -> Hp -> Prop) (h0 : Pv 0 σ H) (hl : ∀ i σ H, i <= xs.length -> Pv i σ H -> SqL K H a xs)
    (hs : ∀ i x σ H, xs[i]? = some x -> Pv i σ H -> g x σ H fun σ2 H2 => tb { D with nx := Pv (i + 1), ct := Pv (i + 1), bk := D.nx } σ2 H2) (hd : ∀ σ H, Pv xs.length σ H -> D.nx σ H) : ForW (Itl K a) g tb D σ H := for_list Pv h0 hl hs hd
theorem forT {a : Addr} {xs : List V} {g : TG} {tb : TS} {D : Ends} {σ : St} {H : Hp} (Pv : Nat -> St -> Hp -> Prop) (h0 : Pv 0 σ H) (hl : ∀ i σ H, i <= xs.length -> Pv i σ H -> SqT K H a xs)
    (hs : ∀ i x σ H, xs[i]? = some x -> Pv i σ H -> g x σ H fun σ2 H2 => tb { D with nx := Pv (i + 1), ct := Pv (i + 1), bk := D.nx } σ2 H2) (hd : ∀ σ H, Pv xs.length σ H -> D.nx σ H) : ForW (Itt K a) g tb D σ H := for_tup Pv h0 hl hs hd
theorem forR {lo : Int} {n : Nat} {g : TG} {tb : TS} {D : Ends} {σ : St} {H : Hp} (Pv : Nat -> St -> Hp -> Prop) (h0 : Pv 0 σ H)
    (hs : ∀ i σ H, i < n -> Pv i σ H -> g (.int (lo + i)) σ H fun σ2 H2 => tb { D with nx := Pv (i + 1), ct := Pv (i + 1), bk := D.nx } σ2 H2) (hd : ∀ σ H, Pv n σ H -> D.nx σ H) : ForW (Itr lo n) g tb D σ H := for_range Pv h0 hs hd
theorem compL {a : Addr} {xs : List V} (Pv : Nat -> List V -> St -> Hp -> Prop) (h0 : Pv 0 [] (cp.st σ) H) (hz : xs.length < sizeLine)
    (hl : ∀ i ys σ H, i <= xs.length -> Pv i ys σ H -> SqL K H a xs /\ ys.length <= i)
    (hs : ∀ i x ys σ H, xs[i]? = some x -> Pv i ys σ H -> g x σ H fun σ2 H2 => tc σ2 H2 fun b H3 => if b = true then te σ2 H3 fun v H4 => Pv (i + 1) (ys ++ [v]) σ2 H4 else Pv (i + 1) ys σ2 H3)
    (hd : ∀ ys σ H, Pv xs.length ys σ H -> ∀ D, H D = none -> Q (.ref D) (upd H D (.lst ys))) : CompW (Itl K a) cp g tc te σ H Q := comp_list Pv h0 hz hl hs hd
theorem compT {a : Addr} {xs : List V} (Pv : Nat -> List V -> St -> Hp -> Prop) (h0 : Pv 0 [] (cp.st σ) H) (hz : xs.length < sizeLine)
    (hl : ∀ i ys σ H, i <= xs.length -> Pv i ys σ H -> SqT K H a xs /\ ys.length <= i)
    (hs : ∀ i x ys σ H, xs[i]? = some x -> Pv i ys σ H -> g x σ H fun σ2 H2 => tc σ2 H2 fun b H3 => if b = true then te σ2 H3 fun v H4 => Pv (i + 1) (ys ++ [v]) σ2 H4 else Pv (i + 1) ys σ2 H3)
    (hd : ∀ ys σ H, Pv xs.length ys σ H -> ∀ D, H D = none -> Q (.ref D) (upd H D (.lst ys))) : CompW (Itt K a) cp g tc te σ H Q := comp_tup Pv h0 hz hl hs hd
theorem compR {lo : Int} {n : Nat} (Pv : Nat -> List V -> St -> Hp -> Prop) (h0 : Pv 0 [] (cp.st σ) H) (hz : n < sizeLine)
    (hl : ∀ i ys σ H, i <= n -> Pv i ys σ H -> ys.length <= i)
    (hs : ∀ i ys σ H, i < n -> Pv i ys σ H -> g (.int (lo + i)) σ H fun σ2 H2 => tc σ2 H2 fun b H3 => if b = true then te σ2 H3 fun v H4 => Pv (i + 1) (ys ++ [v]) σ2 H4 else Pv (i + 1) ys σ2 H3)
    (hd : ∀ ys σ H, Pv n ys σ H -> ∀ D, H D = none -> Q (.ref D) (upd H D (.lst ys))) : CompW (Itr lo n) cp g tc te σ H Q := comp_range Pv h0 hz hl hs hd
theorem compMapT {a : Addr} {xs : List V} {σ' : St} (f : V -> V) (e : cp.st σ = none :: σ') (hl : SqT K H a xs) (hz : xs.length < sizeLine) (hs : ∀ x ∈ xs, ∀ R : VK, R (f x) H -> te (some x :: σ') H R) (hd : ∀ D, H D = none -> Q (.ref D) (upd H D (.lst (xs.map f)))) :
    CompW (Itt K a) cp (gName 0) tTrue te σ H Q := by
  refine compT (xs := xs) (fun i ys σ2 H2 => H2 = H /\ ys = (xs.take i).map f /\ ∃ o, σ2 = o :: σ') ⟨rfl, by simp, none, e⟩ hz (fun i ys σ2 H2 hi h => ?_) (fun i x ys σ2 H2 hx h => ?_) (fun ys σ2 H2 h => ?_)
  . obtain ⟨rfl, rfl, _⟩ := h
    exact ⟨hl, by rw [List.length_map, List.length_take]; omega⟩
  . obtain ⟨rfl, rfl, o, rfl⟩ := h
    refine hs x (List.mem_of_getElem? hx) _ ⟨rfl, ?_, some x, rfl⟩
    rw [List.take_add_one, hx]; simp
  . obtain ⟨rfl, rfl, _⟩ := h
    rw [List.take_length]
    exact hd
theorem compMapL {a : Addr} {xs : List V} {σ' : St} (f : V -> V) (e : cp.st σ = none :: σ') (hl : SqL K H a xs) (hz : xs.length < sizeLine) (hs : ∀ x ∈ xs, ∀ R : VK, R (f x) H -> te (some x :: σ') H R) (hd : ∀ D, H D = none -> Q (.ref D) (upd H D (.lst (xs.map f)))) :
    CompW (Itl K a) cp (gName 0) tTrue te σ H Q := by
  refine compL (xs := xs) (fun i ys σ2 H2 => H2 = H /\ ys = (xs.take i).map f /\ ∃ o, σ2 = o :: σ') ⟨rfl, by simp, none, e⟩ hz (fun i ys σ2 H2 hi h => ?_) (fun i x ys σ2 H2 hx h => ?_) (fun ys σ2 H2 h => ?_)
  . obtain ⟨rfl, rfl, _⟩ := h
    exact ⟨hl, by rw [List.length_map, List.length_take]; omega⟩
  . obtain ⟨rfl, rfl, o, rfl⟩ := h
    refine hs x (List.mem_of_getElem? hx) _ ⟨rfl, ?_, some x, rfl⟩
    rw [List.take_add_one, hx]; simp
  . obtain ⟨rfl, rfl, _⟩ := h
    rw [List.take_length]
    exact hd
end
def tCut (t u : TS) : TS := fun D σ H => ∃ R : St -> Hp -> Prop, t { D with nx := R } σ H /\ ∀ σ' H', R σ' H' -> u D σ' H'
theorem pss_cut {X : Cx} {st : Stmt} {rest : List Stmt} {t u : TS} (h1 : PS X st t) (h2 : PSs X rest u) : PSs X (st :: rest) (tCut t u) := by
  intro pins s σ H D I h
  obtain ⟨R, ha, hb⟩ := h
  refine wpAny_execs_cons (thn (h1 pins s σ H { D with nx := R } I ha) fun f s1 q => ?_)
  cases f with
  | next =>
    obtain ⟨σ', H', I', q⟩ := q
    exact h2 pins s1 σ' H' D I' (hb σ' H' q)
  | ret v => exact q
  | brk => exact q
  | cont => exact q
theorem line1000 : 1000000 < sizeLine := by rw [sizeLine_eq]; decide
theorem mem_mapI {ns : List Int} {x : V} (h : x ∈ ns.map V.int) : ∃ n, n ∈ ns /\ x = .int n := by
  obtain ⟨n, hn, e⟩ := List.mem_map.mp h
  exact ⟨n, hn, e.symm⟩
theorem get_mapI {ns : List Int} {i : Nat} {x : V} (h : (ns.map V.int)[i]? = some x) : ∃ n, ns[i]? = some n /\ x = .int n := by
  rw [List.getElem?_map] at h
  cases e : ns[i]? with
  | none => rw [e] at h; cases h
  | some n => rw [e] at h; exact ⟨n, rfl, (Option.some.inj h).symm⟩
theorem ixN_of {n : Nat} {i : Int} (h0 : 0 <= i) (h1 : i < n) : ixN n i = some i.toNat := by
  unfold ixN; rw [if_pos h0, if_pos h1]
theorem atI_of {α : Type} {xs : List α} {i : Int} {v : α} (h0 : 0 <= i) (h : xs[i.toNat]? = some v) : atI xs i = some v := by
  have := atI_nat h
  rwa [show ((i.toNat : Nat) : Int) = i by omega] at this
theorem kit_self {K : PySem.W.Frag} {t : Value} : PySem.W.kitOne K t t = some true := by unfold PySem.W.kitOne; rw [if_pos (by simp)]
theorem kit_int_bool {K : PySem.W.Frag} : PySem.W.kitOne K (.type "int") (.type "bool") = some false := by
  first | rfl | decide +kernel | (unfold PySem.W.kitOne; kernel_rfl)
theorem rel_ty {n : String} : ∀ u, RelV (V.ty n) u -> u = .type n := fun _ h => h
end L2
set_option Elab.async false
set_option linter.all false
set_option maxRecDepth 100000
set_option maxHeartbeats 4000000
namespace L2
open PySem PySem.W PySem.Spec PySem.Calls PyProof.Rows
section
variable {prog : Program} {w : World} {A : Around} {E : Value -> Shared -> Prop} {s : Shared} {K : Frag} {x D : Addr} {ox : Obj}
structure ExcCls (K : Frag) (D : Addr) : Prop where
  ga : findIn K (.ref D) "__getattribute__" = some (some (.builtin "BaseException.__getattribute__"))
  hk : findIn K (.ref D) "__getattr__" = some none
  cl : (clsIn K D).isSome = true
  ca : findIn K (.ref D) "__class__" = some (some (.builtin "object.__class__"))
  gs : specialIn K (.builtin "object.__class__") "__get__" = some (some (.builtin "getset_descriptor.__get__"))
  tk : takesIn K (.builtin "object.__class__") = some true
  mo : mroIn K D (.type "object") = some true
  mb : mroIn K D (.type "BaseException") = some true
def ExcAt (x D : Addr) (h : Heap) : Prop := ∃ ox, h.get? x = some ox /\ ox.cls = .ref D
theorem ExcAt.type {M : Model} {h : Heap} (I : ExcAt x D h) : Looks M h (typeOf (.ref x)) (.ref D) := by
  obtain ⟨ox, h1, h2⟩ := I
  exact h2 ▸ (Looks.ld h1).andThen .now
theorem exc_find {M : Model} {h : Heap} (X : K.In h) (C : ExcCls K D) : Looks M h (Builtin.ObjectAttr.find (.ref x) (.ref D) "__class__") (.bind (.builtin "getset_descriptor.__get__") (.builtin "object.__class__")) :=
  (looks_findIn X C.ca).andThen ((show Looks M h (Builtin.ObjectAttr.getOf (some (.builtin "object.__class__"))) _ from looks_specialIn X C.gs).andThen
    ((show Looks M h (Builtin.ObjectAttr.dataDescriptor? (some (.builtin "object.__class__")) (some (.builtin "getset_descriptor.__get__"))) (some (.builtin "getset_descriptor.__get__", .builtin "object.__class__")) from (looks_takesIn X C.tk).andThen .now).andThen (Looks.tag .now)))
open Builtin Builtin.ObjectAttr Builtin.Getset_descriptor in
theorem exc_get {R : Result -> Shared -> Prop} {tp : Value} (X : K.In s.heap) (I : ExcAt x D s.heap) (hm : mroIn K D (.type "object") = some true) (h : R (.ok (.ret (.ref D))) s) : codeAny (model prog w) A (.call (.builtin "getset_descriptor.__get__") ⟨[.builtin "object.__class__", .ref x, tp], []⟩) R s := by
  have l0 := I.type (M := model prog w)
  have l1 := looks_mroIn (M := model prog w) X hm
  obtain ⟨_, _, _, _, _⟩ := s
  have sg := KF.slot_gs
  refine codeAny_call_builtin sg.plain KF.entry_gs (sg.check _ _ _ _ _ _ _ _ KF.type_class (KF.args_gs _ _ _) ?_)
  unfold Builtin.«getset_descriptor.__get__» descrGet
  rw [dga_obj]
  unfold descrGetter descrCheckInstance isInstance descrNameAndClass
  refine wpAny_bind (wpAny_pure ?_)
  simp only [KF.owner_class]
  repeat lk
  refine ⟨Code.quiet_builtin _ (by decide +kernel), codeAny_builtin KF.entry_class ?_⟩
  unfold Builtin.«object.__class__» shownTypeOf
  repeat lk
  exact h
theorem exc_check {M : Model} {nameV : Value} {Q : Unit -> Shared -> Prop} (X : K.In s.heap) (I : ExcAt x D s.heap) (C : ExcCls K D) (hq : Q () s) : wpAny M A (checkBuiltinCall "BaseException.__getattribute__" ⟨[.ref x, nameV], []⟩) Q E s := by
  have a1 := F.args_bexc_ga (.ref x) nameV
  have l0 := I.type (M := M)
  have l1 := looks_mroIn (M := M) X C.mb
  obtain ⟨_, _, _, _, _⟩ := s
  simp only [checkBuiltinCall, show builtinKind "BaseException.__getattribute__" = some .slot by decide +kernel, show splitId "BaseException.__getattribute__" = some ("BaseException", "__getattribute__") by decide +kernel, isInstance]
  repeat (first | lk | wp_step)
  exact hq
theorem exc_entry {tk : Tok} {Q : Fin -> Shared -> Prop} (X : K.In s.heap) (I : ExcAt x D s.heap) (C : ExcCls K D) (hq : Q (.done (.ret (.ref D))) s) : wpAny (model prog w) A (Builtin.«object.__getattribute__» ⟨[.ref x, .str "__class__" tk], []⟩) Q E s := by
  obtain ⟨hh, g, d, t, os⟩ := s
  have L0 := I.type (M := model prog w)
  have L1 := exc_find (M := model prog w) (x := x) X C
  unfold Builtin.«object.__getattribute__»
  refine wpAny_bind (wpAny_pure ?_)
  refine wpAny_bind (wpAny_pure ?_)
  refine wpAny_bind (L0.at ?_)
  refine wpAny_bind (L1.at ?_)
  show wpAny _ _ (Builtin.ObjectAttr.bindTo _ _ _ _) _ _ _
  unfold Builtin.ObjectAttr.bindTo
  dsimp only
  refine wpAny_bind (wpAny_holding (wpAny_call (exc_get (K := K) (s := ⟨hh, g, d, t, os⟩) X I C.mo ?_)))
  exact wpAny_pure hq
theorem exc_class {Q : Option Value -> Shared -> Prop} (X : K.In s.heap) (I : ExcAt x D s.heap) (C : ExcCls K D) (h : Q (some (.ref D)) { s with toks := s.toks + 1 }) : wpAny (model prog w) A (getAttr? (.ref x) "__class__") Q E s := by
  obtain ⟨hh, g, d, t, os⟩ := s
  have L0 := I.type (M := model prog w)
  have L1 := looks_findIn (M := model prog w) X C.ga
  have L2 := looks_findIn (M := model prog w) X C.hk
  unfold getAttr? getAttrBy? getAttrBy
  refine wpAny_bind (wpAny_mkText (wpAny_bind (wpAny_attempt (wpAny_holding (wpAny_bind (L0.at (wpAny_bind (L1.at ?_))))))))
  show wpAny _ _ (getAttrByItsOwn _ _ _ _ _ _) _ _ _
  unfold getAttrByItsOwn hookBefore
  refine wpAny_bind ?_
  rw [if_pos (by rfl)]
  refine L2.at (wpAny_bind (wpAny_attempt (wpAny_holding ?_)))
  unfold callGetattribute
  rw [if_neg (by decide)]
  unfold boundAndCalled
  have f3 := PySem.F.attr_ValueError.ga.bind (.ref x)
  refine wpAny_bind (wpAny_of_eq f3 ?_)
  refine wpAny_call (codeAny_call_builtin PySem.F.attr_ValueError.ga.plain F.entry_bexc_ga (exc_check (K := K) (s := ⟨hh, g, d, t + 1, os⟩) X I C (exc_entry (K := K) (s := ⟨hh, g, d, t + 1, os⟩) X I C ?_)))
  exact wpAny_pure (wpAny_pure h)
theorem kitx_exc (C : ExcCls K D) : KitX K (.ref x) (.ref D) (ExcAt x D) := by
  have cl := C.cl
  unfold clsIn at cl
  refine ⟨fun _ _ _ I => I.type, fun _ _ X _ => ?_, fun h tp dd its n sl X htp => ?_, fun X I k => exc_class X I C k⟩
  . split at cl
    . rename_i ho
      intro A' Q' E' s' k q
      exact wpAny_bind (wpAny_loadPart (k _ _ (X _ _ ho)) (wpAny_pure q))
    . cases cl
  . split at cl
    . rename_i ho
      cases hb : (Value.ref D == Value.ref tp) with
      | false => rfl
      | true =>
        obtain rfl : D = tp := Value.ref.inj (beq_iff_eq.mp hb)
        cases (X _ _ ho).symm.trans htp
    . cases cl
end
section
variable {P : Program} {w : World}
theorem ObjOk.there {H : Hp} {h : Heap} {a : Addr} {o : HO} (x : ObjOk P w H h a o) : ∃ ob, h.get? a = some ob := by
  induction o with
  | lst xs => obtain ⟨_, _, _, _, e⟩ := x; exact ⟨_, e⟩
  | tup xs => obtain ⟨_, _, _, ob, e, _⟩ := x; exact ⟨_, e⟩
  | dK kvs => obtain ⟨_, _, _, _, o, _, _, e, _⟩ := x; exact ⟨_, e⟩
  | dT kvs => obtain ⟨_, _, _, _, o, _, _, e, _⟩ := x; exact ⟨_, e⟩
  | set S n => obtain ⟨o, _, _, _, e, _⟩ := x; exact ⟨_, e⟩
  | ins C dx fs => obtain ⟨_, _, _, e, _⟩ := x; exact ⟨_, e⟩
  | own y => obtain ⟨_, e⟩ := x; exact ⟨_, e⟩
  | xd fs => obtain ⟨_, ⟨_, _, _, e, _⟩, _⟩ := x; exact ⟨_, e⟩
  | rng lo hi => obtain ⟨_, _, _, e⟩ := x; exact ⟨_, e⟩
  | frz ob u ih => obtain ⟨e, _⟩ := x; exact ⟨_, e⟩
  | tbl ps => exact ⟨_, (show h.get? a = some _ from x)⟩
  | met f y => exact ⟨_, (show h.get? a = some _ from x)⟩
  | ext φ => obtain ⟨_, ⟨_, e⟩, _⟩ := x; exact ⟨_, e⟩
structure Fly (P : Program) (w : World) (fs : List Addr) (H1 H' : Hp) (h1 g B : Heap) : Prop where
  un : Un fs [] H1 H' h1 g
  hok : HOk P w H' g
  cov : ∀ b o, g.get? b = some o -> (H' b ≠ none \/ ∃ o', h1.get? b = some o') -> b ∉ fs -> B.get? b = some o
theorem Fly.move {fs : List Addr} {H1 H' : Hp} {h1 g B h2 : Heap} (x : Fly P w fs H1 H' h1 g B) (frees : ∀ b ∈ fs, H' b = none) (st : B.StaysIn h2) (up : ∀ b ∈ fs, ∀ o, g.get? b = some o -> ∃ sl, h2.get? b = some { o with slots := sl }) : Fly P w fs H1 H' h1 h2 B := by
  have keep : ∀ b o, g.get? b = some o -> (H' b ≠ none \/ ∃ o', h1.get? b = some o') -> b ∉ fs -> h2.get? b = some o := fun b o e h n => st b o (x.cov b o e h n)
  have nfs : ∀ b u, H' b = some u -> b ∉ fs := fun b u e z => by rw [frees b z] at e; cases e
  refine ⟨⟨fun b o e n hb hx => ?_, fun b o e n hb hx => ?_, fun b o e n hx => x.un.free b o e n hx, fun b o e hx => ?_, x.un.tups, x.un.frzs, x.un.tbls⟩, fun b u e => ?_, fun b o e h n => ?_⟩
  . exact keep b o (x.un.keep b o e n hb hx) (.inr ⟨o, e⟩) hb
  . obtain ⟨sl, e1⟩ := x.un.slot b o e n hb hx
    obtain ⟨sl', e2⟩ := up b hb _ e1
    exact ⟨sl', e2⟩
  . obtain ⟨o', e1⟩ := x.un.there b o e hx
    by_cases hb : b ∈ fs
    . obtain ⟨sl', e2⟩ := up b hb _ e1
      exact ⟨_, e2⟩
    . exact ⟨o', keep b o' e1 (.inr ⟨o, e⟩) hb⟩
  . refine (x.hok b u e).stay (fun c v hc q => ?_) (fun _ q => q) fun _ _ q => q
    rcases hc with rfl | hc
    . exact keep c v q (.inl (by rw [e]; simp)) (nfs c u e)
    . exact keep c v q (.inl (by rw [hc]; simp)) (nfs c _ hc)
  . -- B has it still
    have ⟨o1, e1⟩ : ∃ o1, g.get? b = some o1 := by
      rcases h with h | ⟨o', h⟩
      . cases q : H' b with
        | none => exact absurd q h
        | some u => exact (x.hok b u q).there
      . exact x.un.there b o' h (by simp)
    have e2 := x.cov b o1 e1 h n
    have e3 := st b o1 e2
    rw [e] at e3
    cases e3
    exact e2
def CXe (P : Program) (w : World) : CXT := fun outer H s E e s' => ∃ (ea : Addr) (cls a0 : Value) (H' : Hp) (B : Heap), e = .ref ea /\ s'.os = s.os /\ AllBare s'.gens /\ Fly P w (frs outer) H H' s.heap s'.heap B /\ Heap.FlyingW B outer ea cls a0 s'.heap /\ E cls none H'
theorem fly_frees {X : Cx} {pins : List (Addr × Obj)} {σ : St} {H1 H' : Hp} {s1 : Shared} {g B : Heap} (I : Inv X pins σ H1 s1) (x : Fly P w (frs X.stack) H1 H' s1.heap g B) : ∀ b ∈ frs X.stack, H' b = none := fun b hb => by
  obtain ⟨_, o, ho, _⟩ := I.stack.mem hb
  exact x.un.free b o ho (I.stkFree b hb) (by simp)
theorem raiseE {K : PySem.W.Frag} {mg : Str -> Option Value} {base : Heap} {N : List Str} {qual : Str} {scope : Scope} {f : Addr} {cd : Value} {A : Around} {outer : List Env} {s : Shared} {H : Hp} {E : XK}
    {pins : List (Addr × Obj)} {σ : St} {H1 : Hp} {s1 : Shared} {h' : Heap} {ea : Addr} {cls : Value} {vs : List Value}
    (I : Inv (cxOf (CXe P w) P w K mg base N qual scope f cd A outer s H E) pins σ H1 s1) (hx : Heap.MadeExcOf s1.heap h' ea cls vs) (q : E cls none H1) :
    (cxOf (CXe P w) P w K mg base N qual scope f cd A outer s H E).xe (.ref ea) { s1 with heap := h' } := by
  have fr : (cxOf (CXe P w) P w K mg base N qual scope f cd A outer s H E).A.frames = some (envOfC qual scope s.heap.objs.size f cd :: outer) := I.ok.frames
  have hin : ∀ env ∈ (envOfC qual scope s.heap.objs.size f cd :: outer), ∀ b, env.frame = some b -> b ∈ frs (envOfC qual scope s.heap.objs.size f cd :: outer) := fun env he b hb => List.mem_filterMap.mpr ⟨env, he, hb⟩
  have stk := I.stack
  have fl : Fly P w (frs (envOfC qual scope s.heap.objs.size f cd :: outer)) H1 H1 s1.heap s1.heap (PySem.W.hideAll s1.heap (frs (envOfC qual scope s.heap.objs.size f cd :: outer))) := ⟨Un.refl, I.hok, fun b o e _ n => PySem.W.hideAll_get _ e n⟩
  refine wpAny_leaves_madeW (base := PySem.W.hideAll s1.heap (frs (envOfC qual scope s.heap.objs.size f cd :: outer))) (h := s1.heap) fr rfl (fun b o q => PySem.W.of_hideAll _ q) ?_ hx fun h'' t fw' ht hnt ups => ?_
  . exact PySem.W.funFrames_hide stk hin
  . have fl2 := fl.move (fly_frees (X := cxOf (CXe P w) P w K mg base N qual scope f cd A outer s H E) I fl) fw'.1 (fun b hb o e => by
      obtain ⟨_, o', ho', nf⟩ := stk.mem hb
      rw [e] at ho'; cases ho'
      exact ups b o (hx.keeps b o e) nf)
    have I2 : Inv (cxOf (CXe P w) P w K mg base N qual scope f cd A outer s H E) pins σ H1 { s1 with heap := h'' } := I.call' (s' := { s1 with heap := h'' }) rfl fl2.un fl2.hok I.bare (fun b hb => by cases hb)
    refine ⟨ea, cls, .ref t, H1, _, rfl, I2.os, I2.bare, ⟨I2.base, I2.hok, fun b o e h n => fl2.cov b o e ?_ (fun z => ?_)⟩, fw', q⟩
    . rcases h with h | ⟨o', h⟩
      . exact .inl h
      . obtain ⟨o2, e2⟩ := I.base.there b o' h (by show b ∉ ([] : List Addr); simp)
        exact .inr ⟨o2, e2⟩
    . rcases List.mem_cons.mp (I.stkSub b z) with e' | e'
      . rcases h with h | ⟨o', h⟩
        . exact h (by rw [e']; exact I2.free)
        . have := Heap.lt_size h
          rw [e'] at this
          exact absurd (Nat.lt_of_lt_of_le this I.ok.above) (Nat.lt_irrefl _)
      . exact n e'
end
theorem exc_obj {K : Frag} {h : Heap} {C : Addr} {bmB : List Value} {newId : String} (X : K.In h) (q : excIn K C bmB newId = true) :
    ∃ bm N nm q bs hdct sn sub ab col dd k0 k1 k2 k3 k5 mN, h.get? C = some (excClassObj nm q C N bs bm hdct sn sub ab col dd k0 k1 k2 k3 k5 newId) /\ h.Ns N mN /\ mN "__init__" = none /\ OwnTail h bmB bm := by
  delta excIn at q
  split at q
  case h_2 => cases q
  rename_i d0 c0 s0 hl
  split at q
  case h_2 => cases q
  rename_i B tl a0 a1 a2 a3 id0 a5 em es
  have g := X C _ hl
  repeat rw [Bool.and_eq_true] at q
  rcases q with ⟨⟨⟨⟨⟨e1, e2⟩, e3⟩, e4⟩, e5⟩, e6⟩
  cases eq_of_beq e1
  cases eq_of_beq e2
  rcases s0 with ⟨l0⟩
  cases es
  rcases c0 with ⟨f0, f1, f2, f3, f4, f5, f6, f7, f8, f9, f10⟩
  cases em
  cases f10
  . exact ⟨tl, f3, f0, f4, f1, f5, f6, f7, f8, f9, d0, a0, a1, a2, a3, a5, h.nsMap f3, g, .of_isNs (isNs_of_in X e5), nsMap_none_of_in X e5 (eq_of_beq e6), tail_of_in X e4⟩
  . cases e3
def bmV : List Value := [.type "ValueError", .type "Exception", .type "BaseException", .type "object"]
section
variable {P : Program} {w : World} {K : PySem.W.Frag} {mg : Str -> Option Value} {base : Heap} {N : List Str} {qual : Str} {scope : Scope} {f : Addr} {cd : Value} {A : Around} {outer : List Env} {s : Shared} {H : Hp} {E : XK}
def tRaise (C : Addr) (E : XK) (ta : TA) : TS := fun _ σ H => ta σ H fun vs H1 => vs.length <= sizeLine /\ E (.ref C) none H1
theorem ps_raise {x : Str} {C : Addr} {newId : String} {np cpos pos : Pos} {e₀ : Expr} {rest : List Expr} {ta : TA} (hm : mg x = some (.ref C)) (hx : excIn K C bmV newId = true) (hg : Gl (cxOf (CXe P w) P w K mg base N qual scope f cd A outer s H E) x)
    (hn : newId = "ValueError.__new__") (ha : PA (cxOf (CXe P w) P w K mg base N qual scope f cd A outer s H E) (e₀ :: rest) ta)
    (he : starEach (e₀ :: rest) (cxOf (CXe P w) P w K mg base N qual scope f cd A outer s H E).env = (false, eval e₀ (cxOf (CXe P w) P w K mg base N qual scope f cd A outer s H E).env) :: starEach rest (cxOf (CXe P w) P w K mg base N qual scope f cd A outer s H E).env := by rfl)
    (hplain : (backTo cpos (starEach rest (cxOf (CXe P w) P w K mg base N qual scope f cd A outer s H E).env)).any (·.1) = false := by rfl) (hd : (x == ("__debug__" : Str)) = false := by decide) :
    PS (cxOf (CXe P w) P w K mg base N qual scope f cd A outer s H E) (.Raise (some (.Call (.Name x np) (e₀ :: rest) [] cpos)) none pos) (tRaise C E ta) := by
  intro pins s1 σ H1 D I h
  subst hn
  obtain ⟨bm, Nc, nm, q, bs, hdct, sn, sub, ab, col, dd, k0, k1, k2, k3, k5, mN, hC, hN, hni, T⟩ := exc_obj I.mod.kin hx
  refine wpAny_Raise_call_subU (C := C) (nm := nm) (q := q) (N := Nc) (bs := bs) (bm := bm) (hdct := hdct) (sn := sn) (sub := sub) (ab := ab) (col := col) (dd := dd) (k0 := k0) (k1 := k1) (k2 := k2) (k3 := k3) (k5 := k5)
    PySem.F.excBase_ValueError (bmB := bmV) (by decide +kernel) PySem.F.excBase_ValueError (mN := mN) (T.hasType PySem.F.excBase_ValueError.hasBase) (I.ok.hd rfl) (by rw [he]; show (false || (backTo cpos (starEach rest _)).any (·.1)) = false; rw [hplain]; rfl) hni (ld_glob I hg hm ⟨rfl, ?_⟩ hd)
  have hA := ha cpos pins s1 σ H1 _ I h
  rw [he] at hA ⊢
  refine Calls.evalArgs_plain (thn hA fun us s2 ⟨vs, H2, I2, r2, hz, q2⟩ => ⟨rfl, by rw [<- r2.length]; exact hz, I2.bk _ _ hC, hN.keeps I2.bk, T.keeps I2.bk, fun h' e hm => raiseE I2 hm q2⟩)
end
end L2
set_option Elab.async false
set_option linter.all false
set_option maxRecDepth 100000
set_option maxHeartbeats 4000000
namespace L2
open PySem PySem.Spec PyProof.Rows
section
variable {X : Cx} {pins pins' : List (Addr × Obj)} {σ : St} {H : Hp} {s : Shared} {xe xe' : Value -> Shared -> Prop} {ea : Addr}
end
section
variable {X : Cx} {CX : CXT} {k : Nat} {f C : Addr} {fd : FuncData} {ps : List Str} {sp : Sp} {dvs : List V} {ds : List Value} {E : St -> XK} {x : Str} {p pos : Pos} {e : Expr} {es : List Expr} {t : TA}
end
def excO (ea C : Addr) : HO := .ext (ExcAt ea C)
theorem call_isinstE {X : Cx} : CallR X (.builtin "isinstance") (fun xs H Q => ∃ ea C c cv b, xs = [.ref ea, c] /\ H ea = some (excO ea C) /\ ExcCls X.K C /\ (∀ u, RelV c u -> u = cv) /\ PySem.W.kitOne X.K (.ref C) cv = some b /\ Q (.bl b) H) := by
  intro pins s σ H xs us Q I r h
  obtain ⟨ea, C, c, cv, b, rfl, hea, hC, hc, hk, q⟩ := h
  obtain ⟨u, w', rfl, rx, rc⟩ := vals2 r
  rw [hc _ rc]
  cases rx
  obtain ⟨p, _, _⟩ := (show ObjOk X.prog X.w H s.heap ea (.ext (ExcAt ea C)) from I.hok ea _ hea)
  exact PySem.W.kia_one (kitx_exc hC) I.kIn p hk (fun z => nomatch z) fun tk => ⟨.bl b, H, I.tok tk, rfl, q⟩
end L2
set_option Elab.async false
set_option linter.all false
set_option maxRecDepth 100000
set_option maxHeartbeats 4000000
namespace HT
open PySem PySem.Spec PyProof.Rows
open PySem.AutoSeq1 (wpAny_loadPart')
section
open PySem.SeqAt PySem.MeetsSeq PySem.MeetsSeq2 PySem.MeetsSeq3
theorem int_rmul_tup (a : Int) (t : Tok) (l : Addr) (items : Array Value) (n : Nat) (dd : Option Addr) (sl : Array (Option Value)) :
    Meets (Builtin.«int.__rmul__» ⟨[.int a t, .ref l], []⟩) (fun _ R s => s.heap.get? l = some { cls := .type "tuple", dict := dd, data := .seq items n, slots := sl } /\ R (.ok (.ret Value.notImplemented)) s) :=
  .of_wp fun prog w A R s h => by obtain ⟨hp, g, d, tk, os⟩ := s; obtain ⟨hl, h⟩ := h; wp_walk using wpAny_loadPart' hl; exact ⟨_, rfl, h⟩
theorem noFill_tuple_mul : fillsNumberSlot (.type "tuple") "mul" = pure false := by
  first | exact fillsNumberSlot_false (by decide +kernel) | (unfold fillsNumberSlot; kernel_rfl) | kernel_rfl
theorem repeat_tuple : seqRepeat? (.type "tuple") = pure (some (.builtin "tuple.__mul__")) := by
  unfold seqRepeat?
  rw [PySem.seqSlot_of (T := "tuple") (name := "__mul__") (id := "tuple.__mul__") F.slot_tuple_mul.lookup (by decide +kernel), PySem.seqSlot_of (T := "tuple") (name := "__rmul__") (id := "tuple.__rmul__") F.slot_tuple_rmul.lookup (by decide +kernel)]
  rfl
theorem tup_mul_one (l : Addr) (items : Array Value) (n : Nat) (dd : Option Addr) (sl : Array (Option Value)) (u : Tok) :
    Meets (Builtin.«tuple.__mul__» ⟨[.ref l, .int 1 u], []⟩) (fun _ R s => s.heap.get? l = some { cls := .type "tuple", dict := dd, data := .seq items n, slots := sl } /\ R (.ok (.ret (Value.ref l))) s) :=
  .of_wp fun prog w A R s h => by
    obtain ⟨hp, g, d, tk, os⟩ := s; obtain ⟨hl, h⟩ := h
    have f1 := AutoSeq1.idx_int
    unfold Builtin.«tuple.__mul__»
    wp_walk using wpAny_loadPart' hl
    exact ⟨_, rfl, h⟩
theorem tup_mul_none (l : Addr) (items : Array Value) (n : Nat) (dd : Option Addr) (sl : Array (Option Value)) (x : Int) (u : Tok) (h0 : ¬ items.isEmpty = true) (h1 : x <= 0) (h2 : -(2 ^ 63) <= x) :
    Meets (Builtin.«tuple.__mul__» ⟨[.ref l, .int x u], []⟩) (fun _ R s => s.heap.get? l = some { cls := .type "tuple", dict := dd, data := .seq items n, slots := sl } /\ R (.ok (.ret (Value.ref s.heap.objs.size))) { s with heap := s.heap.push { cls := .type "tuple", data := .seq #[] } }) :=
  .of_wp fun prog w A R s h => by
    obtain ⟨hp, g, d, tk, os⟩ := s; obtain ⟨hl, h⟩ := h
    have f1 := AutoSeq1.idx_int
    have c1 : (decide (x < -(2 ^ 63 : Int)) || decide (x >= 2 ^ 63)) = false := by simp; omega
    have c2 : (items.isEmpty || x == 1) = false := by simp at h0 ⊢; exact ⟨h0, by omega⟩
    have c3 : (decide (x <= 0) || items.isEmpty) = true := by simp [h1]
    unfold Builtin.«tuple.__mul__»
    wp_walk using wpAny_loadPart' hl
    rw [if_neg (by rw [c1]; exact Bool.false_ne_true)]
    wp_walk using wpAny_loadPart' hl
    rw [if_neg (by rw [c2]; exact Bool.false_ne_true)]
    rw [if_pos c3]
    wp_walk using wpAny_loadPart' hl
    exact ⟨_, rfl, h⟩
theorem tup_mul_many (l : Addr) (items : Array Value) (n : Nat) (dd : Option Addr) (sl : Array (Option Value)) (x : Int) (u : Tok) (h0 : ¬ items.isEmpty = true) (h1 : 1 < x) (h2 : x < 2 ^ 63) (h3 : items.size * x.toNat <= sizeLine) :
    Meets (Builtin.«tuple.__mul__» ⟨[.ref l, .int x u], []⟩) (fun _ R s => s.heap.get? l = some { cls := .type "tuple", dict := dd, data := .seq items n, slots := sl } /\ R (.ok (.ret (Value.ref s.heap.objs.size))) { s with heap := s.heap.push { cls := .type "tuple", data := .seq ((List.replicate x.toNat items).foldl (· ++ ·) #[]) } }) :=
  .of_wp fun prog w A R s h => by
    obtain ⟨hp, g, d, tk, os⟩ := s; obtain ⟨hl, h⟩ := h
    have f1 := AutoSeq1.idx_int
    have hs : sizeLine = 16777216 := sizeLine_eq
    have c1 : (decide (x < -(2 ^ 63 : Int)) || decide (x >= 2 ^ 63)) = false := by simp; omega
    have c2 : (items.isEmpty || x == 1) = false := by simp at h0 ⊢; exact ⟨h0, by omega⟩
    have c3 : (decide (x <= 0) || items.isEmpty) = false := by simp at h0 ⊢; exact ⟨by omega, h0⟩
    obtain ⟨k, rfl⟩ : ∃ k : Nat, x = (k : Int) := ⟨x.toNat, by omega⟩
    have c4 : ¬ ((items.size : Int) * (k : Int) > (2 ^ 63 - 1) / 8) := by
      rw [Int.toNat_natCast] at h3
      have : ((items.size * k : Nat) : Int) = (items.size : Int) * (k : Int) := by push_cast; rfl
      omega
    have c5 : Builtin.Tuple.tupleTooMany ((items.size : Int) * (k : Int)) = false := by
      unfold Builtin.Tuple.tupleTooMany
      rw [Int.toNat_natCast] at h3
      have : ((items.size * k : Nat) : Int) = (items.size : Int) * (k : Int) := by push_cast; rfl
      simp
      omega
    unfold Builtin.«tuple.__mul__»
    wp_walk using wpAny_loadPart' hl
    rw [if_neg (by rw [c1]; exact Bool.false_ne_true)]
    wp_walk using wpAny_loadPart' hl
    rw [if_neg (by rw [c2]; exact Bool.false_ne_true)]
    rw [if_neg (by rw [c3]; exact Bool.false_ne_true), if_neg c4, if_neg (by rw [c5]; exact Bool.false_ne_true)]
    wp_walk using wpAny_loadPart' hl
    have hz : ¬ (List.foldl (fun x1 x2 => x1 ++ x2) #[] (List.replicate ((k : Int)).toNat items)).size > sizeLine := by
      have := L2.foldl_rep items.toList k []
      rw [List.nil_append] at this
      have e : items.toList.toArray = items := by simp
      rw [e] at this
      rw [Int.toNat_natCast, this, List.size_toArray, L2.len_rep]
      rw [Int.toNat_natCast] at h3
      rw [Array.length_toList, Nat.mul_comm]
      omega
    rw [if_neg hz]
    wp_walk using wpAny_loadPart' hl
    exact ⟨_, rfl, h⟩
end
end HT
namespace L2
open PySem PySem.Spec PyProof.Rows
section
variable {X : Cx}
def rRepT (K : PySem.W.Frag) : R2 := fun x y H Q => ∃ l k xs, x = .ref l /\ y = .int k /\ SqT K H l xs /\ xs ≠ [] /\ -(2 ^ 63) <= k /\ k < 2 ^ 63 /\ xs.length * k.toNat <= sizeLine /\
  (k = 1 -> Q (.ref l) H) /\ (k ≠ 1 -> ∀ p, H p = none -> Q (.ref p) (upd H p (.tup (List.replicate k.toNat xs).flatten)))
theorem op_repT : OpR X (binaryOp .Mult) (rRepT X.K) := by
  intro pins s σ H x y v u Q I rx ry h
  obtain ⟨l, k, xs, rfl, rfl, hq, hne, h1, h2, hz, q1, q2⟩ := h
  cases rx
  obtain ⟨t, rfl⟩ := ry
  obtain ⟨its, r, p1, _⟩ := I.tuple hq
  have hlen := r.length
  have hn' : ¬ its.toArray.isEmpty = true := by
    intro z
    have : its = [] := by simpa using z
    exact hne (r.nil_iff.mp this)
  obtain ⟨⟨cls, dd, data, sl⟩, ho, hc, n, hd⟩ := id p1
  simp only at hc hd
  subst hc hd
  refine wpAny_binaryOp_repeat_ref (T := "tuple") (U := "int") (by decide) ⟨_, ho, rfl⟩ (fun s' => typeIs_int s' k t) HT.noFill_tuple_mul F.fills_int_mul F.slot_int_rmul HT.repeat_tuple F.slot_int_index.lookup
    (call_meets F.slot_int_rmul (typeIs_int s k t) F.entry_int_rmul (F.args_int_rmul_2 _ _) (HT.int_rmul_tup k t l its.toArray n dd sl) ⟨ho, rfl, ⟨_, ho, rfl⟩, ?_⟩)
  by_cases k1 : k = 1
  . subst k1
    exact call_meets F.slot_tuple_mul ⟨_, ho, rfl⟩ F.entry_tuple_mul (F.args_tuple_mul_2 _ _) (HT.tup_mul_one l its.toArray n dd sl t) ⟨ho, ⟨.ref l, H, I, rfl, q1 rfl⟩⟩
  . have fin : ∀ (ys : List Value), Vals (List.replicate k.toNat xs).flatten ys -> EP X pins σ Q (.ref s.heap.objs.size) { s with heap := s.heap.push { cls := .type "tuple", data := .seq ys.toArray } } := fun ys rv =>
      ⟨.ref s.heap.objs.size, _, I.laid (t' := s.toks) (o := .tup (List.replicate k.toNat xs).flatten) (fun b ob q => Heap.get?_push_of_some _ q) (Nat.le_refl _) ⟨by rw [len_rep, Nat.mul_comm]; exact hz, _, rv, IsTup.new _ _⟩, rfl, q2 k1 _ (I.hok.fresh (Nat.le_refl _))⟩
    by_cases k0 : k <= 0
    . refine call_meets F.slot_tuple_mul ⟨_, ho, rfl⟩ F.entry_tuple_mul (F.args_tuple_mul_2 _ _) (HT.tup_mul_none l its.toArray n dd sl k t hn' k0 h1) ⟨ho, ?_⟩
      exact fin [] (by rw [show k.toNat = 0 by omega]; exact .nil)
    . refine call_meets F.slot_tuple_mul ⟨_, ho, rfl⟩ F.entry_tuple_mul (F.args_tuple_mul_2 _ _) (HT.tup_mul_many l its.toArray n dd sl k t hn' (by omega) h2 (by rw [List.size_toArray, <- hlen]; exact hz)) ⟨ho, ?_⟩
      have e := foldl_rep its k.toNat []
      rw [List.nil_append] at e
      have e' : List.foldl (fun x1 x2 => x1 ++ x2) #[] (List.replicate k.toNat its.toArray) = (List.replicate k.toNat its).flatten.toArray := e
      rw [e']
      exact fin _ (r.rep k.toNat)
def rCatT2 (K : PySem.W.Frag) : R2 := fun x y H Q => ∃ a b xs ys, x = .ref a /\ y = .ref b /\ SqT K H a xs /\ SqT K H b ys /\ xs.length + ys.length <= sizeLine /\
  (xs = [] -> Q (.ref b) H) /\ (xs ≠ [] -> ys = [] -> Q (.ref a) H) /\ (xs ≠ [] -> ys ≠ [] -> ∀ p, H p = none -> Q (.ref p) (upd H p (.tup (xs ++ ys))))
theorem op_catT2 : OpR X (binaryOp .Add) (rCatT2 X.K) := by
  intro pins s σ H x y v u Q I rx ry h
  obtain ⟨a, b, xs, ys, rfl, rfl, ha, hb, hz, q0, q1, q2⟩ := h
  by_cases hx : xs = []
  . subst hx
    cases rx
    cases ry
    obtain ⟨its, r1, p1, _⟩ := I.tuple ha
    obtain ⟨its2, r2, p2, _⟩ := I.tuple hb
    have : its = [] := r1.nil_iff.mpr rfl
    subst this
    obtain ⟨⟨cls, dd, data, sl⟩, ho, hc, n, hd⟩ := id p1
    obtain ⟨⟨cls2, dd2, data2, sl2⟩, ho2, hc2, n2, hd2⟩ := id p2
    simp only at hc hd hc2 hd2
    subst hc hd hc2 hd2
    exact concat_meets ⟨_, ho, rfl⟩ ⟨_, ho2, rfl⟩ noFill_tuple_add seq_tuple_add PySem.F.slot_tuple_add PySem.F.entry_tuple_add (PySem.F.args_tuple_add_2 _ _)
      (PyProof.Rows.tuple_addW0 a b _ _ n n2 dd dd2 sl sl2 rfl) ⟨ho, ho2, ⟨.ref b, H, I, rfl, q0 rfl⟩⟩
  . exact op_catT pins s σ H _ _ v u Q I rx ry ⟨a, b, xs, ys, rfl, rfl, ha, hb, hx, hz, q1 hx, q2 hx⟩
end
section
variable {K : PySem.W.Frag} {H : Hp} {Q : VK}
end
theorem r_slT {K : PySem.W.Frag} {H : Hp} {Q : VK} {x : V} {lo hi : Option Int} : rSlT K x lo hi H Q = ∃ a xs, x = .ref a /\ SqT K H a xs /\
  ¬ (HT.sIx xs.length 0 lo = 0 /\ HT.sIx xs.length xs.length hi = xs.length) /\ ∀ p, H p = none -> Q (.ref p) (upd H p (.tup (cutV xs lo hi))) := rfl
inductive TyW (K : PySem.W.Frag) (H : Hp) : V -> Value -> Prop where
  | non : TyW K H .non (.type "NoneType")
  | bl (x : Bool) : TyW K H (.bl x) (.type "bool")
  | int (i : Int) : TyW K H (.int i) (.type "int")
  | str (x : Str) : TyW K H (.str x) (.type "str")
  | lst {a : Addr} {xs : List V} (e : SqL K H a xs) : TyW K H (.ref a) (.type "list")
  | tup {a : Addr} {xs : List V} (e : SqT K H a xs) : TyW K H (.ref a) (.type "tuple")
  | exc {a C : Addr} (e : H a = some (excO a C)) (c : ExcCls K C) : TyW K H (.ref a) (.ref C)
theorem call_isinstW {X : Cx} : CallR X (.builtin "isinstance") (fun xs H Q => ∃ x c cv t b, xs = [x, c] /\ TyW X.K H x t /\ (∀ u, RelV c u -> u = cv) /\ PySem.W.kitOne X.K t cv = some b /\ Q (.bl b) H) := by
  intro pins s σ H xs us Q I r h
  obtain ⟨x, c, cv, t, b, rfl, ty, hc, hk, q⟩ := h
  cases ty with
  | non => exact call_isinst pins s σ H _ us Q I r ⟨_, c, cv, _, b, rfl, .non, hc, hk, q⟩
  | bl y => exact call_isinst pins s σ H _ us Q I r ⟨_, c, cv, _, b, rfl, .bl y, hc, hk, q⟩
  | int y => exact call_isinst pins s σ H _ us Q I r ⟨_, c, cv, _, b, rfl, .int y, hc, hk, q⟩
  | str y => exact call_isinst pins s σ H _ us Q I r ⟨_, c, cv, _, b, rfl, .str y, hc, hk, q⟩
  | exc e hC => exact call_isinstE pins s σ H _ us Q I r ⟨_, _, c, cv, b, rfl, e, hC, hc, hk, q⟩
  | @lst a xs e =>
    obtain ⟨u, w', rfl, rx, rc⟩ := vals2 r
    rw [hc _ rc]
    cases rx
    obtain ⟨its, _, pl, _⟩ := I.list e
    obtain ⟨o, ho, hcl, _⟩ := pl.isList
    exact PySem.W.kia_one PySem.W.kitx_list I.kIn ⟨o, ho, hcl⟩ hk (fun z => nomatch z) fun tk => ⟨.bl b, H, I.tok tk, rfl, q⟩
  | @tup a xs e =>
    obtain ⟨u, w', rfl, rx, rc⟩ := vals2 r
    rw [hc _ rc]
    cases rx
    obtain ⟨its, _, ⟨o, ho, hcl, _⟩, _⟩ := I.tuple e
    exact PySem.W.kia_one PySem.W.kitx_tuple I.kIn ⟨o, ho, hcl⟩ hk (fun z => nomatch z) fun tk => ⟨.bl b, H, I.tok tk, rfl, q⟩
end L2
set_option Elab.async false
set_option linter.all false
set_option maxRecDepth 100000
set_option maxHeartbeats 4000000
namespace GW
def placeR (L : Int) : List Int -> Int
  | [] => 0
  | x :: r => placeR L r * L + x + 1
def place (L : Int) (w : List Int) : Int := placeR L w.reverse
def inW (L x : Int) : Bool := decide (0 <= x) && decide (x < L)
def isW (L : Int) (ws : List Int) : Bool := ws.all (inW L)
theorem inW_iff {L x : Int} : inW L x = true ↔ 0 <= x /\ x < L := by simp [inW]
theorem isW_iff {L : Int} {ws : List Int} : isW L ws = true ↔ ∀ x ∈ ws, 0 <= x /\ x < L := by simp [isW, inW_iff]
end GW
set_option Elab.async false
set_option linter.all false
set_option maxRecDepth 100000
set_option maxHeartbeats 4000000
namespace PySem
section
variable {prog : Program} {w : World} {A : Around} {E : Value -> Shared -> Prop} {s : Shared}
variable {I r : Addr} {T : String} {n : Nat} {wr : Addr -> Prop} {J : Nat -> List Value -> Heap -> Prop} {Fn : List Value -> Heap -> Prop} {R : Result -> Shared -> Prop} {res : Value}
end
end PySem
set_option Elab.async false
set_option linter.all false
set_option maxRecDepth 100000
set_option maxHeartbeats 4000000
namespace PySem
open Sem (wp)
open AutoSeq1 (wpAny_loadPart')
namespace F
end F
section
variable {prog : Program} {w : World} {A : Around} {E : Value -> Shared -> Prop} {s : Shared}
end
end PySem
namespace L2
open PySem PySem.Spec PyProof.Rows
section
variable {P : Program} {w : World} {K : PySem.W.Frag} {mg : Str -> Option Value} {base : Heap}
theorem Fun.okE {x qual : Str} {st : Stmt} {f : Addr} {fd : FuncData} {N ps : List Str} {k : Nat} {sp : Sp} (F : Fun K x qual st f fd) (S : FnScope N ps (defScope st)) (len : ∀ vs H Q E, sp vs H Q E -> vs.length = ps.length)
    (hbody : ∀ (cdv : Value) (A : Around) (outer : List Env) (s : Shared) (H : Hp) (vs : List V) (Q : VK) (E : XK), Room k (A.deeper (envOfC qual (defScope st) s.heap.objs.size f cdv)) -> sp vs H Q E ->
      ∃ t, PSs (cxOf (CXe P w) P w K mg base N qual (defScope st) f cdv A outer s H E) (defBody st) t /\ t { nx := fun _ H' => Q .non H', rt := Q } (start N vs) H) : FnOk P w K mg base (CXe P w) (k + 1) f fd ps sp := by
  obtain ⟨oc, od, kV, doc, pm, an, cdv, ct, osl, rfl, lk, hcd⟩ := F.ex
  exact fn_of lk hcd S len fun A outer s H vs Q E hr hsp => hbody cdv A outer s H vs Q E hr hsp
theorem passNev {X : Cx} : Passes (CXe P w) X E0 := fun _ _ _ _ _ _ _ h => by
  obtain ⟨_, _, _, _, _, _, _, _, _, _, q⟩ := h
  exact q.elim
end
section
variable {te ta tb : TE} {A : TA} {D : Ends} {σ : St} {H : Hp} {Q : VK} {K : PySem.W.Frag} {tbd ts : TS}
theorem r_raise {C : Addr} {E : XK} : tRaise C E A D σ H = A σ H fun vs H1 => vs.length <= sizeLine /\ E (.ref C) none H1 := rfl
end
section
variable {X : Cx} {tg : Expr}
end
end L2
namespace L2
open PySem PySem.Spec PyProof.Rows
theorem eqV_int (x y : Int) : eqV (.int x) (.int y) = decide (V.int x = V.int y) := by
  by_cases h : x = y
  . subst h; simp [eqV]
  . rw [decide_eq_false (fun z => h (by injection z))]; simp [eqV, h]
theorem EqD.ints {K : PySem.W.Frag} {H : Hp} {a c : Addr} {xs ys : List Int} (hq : (SqL K H a (xs.map V.int) /\ SqL K H c (ys.map V.int)) \/ (SqT K H a (xs.map V.int) /\ SqT K H c (ys.map V.int))) (n : Nat) : EqD K H (n + 1) (.ref a) (.ref c) (decide (xs = ys)) := by
  have := EqD.flat hq (fun x hx => by obtain ⟨_, _, rfl⟩ := mem_mapI hx; rfl) (fun x hx => by obtain ⟨_, _, rfl⟩ := mem_mapI hx; rfl) (fun x hx y hy => by obtain ⟨_, _, rfl⟩ := mem_mapI hx; obtain ⟨_, _, rfl⟩ := mem_mapI hy; exact eqV_int _ _) n
  have e : decide (xs.map V.int = ys.map V.int) = decide (xs = ys) := by
    rw [Bool.eq_iff_iff]
    simp only [decide_eq_true_eq]
    constructor
    . intro h
      exact (List.map_inj_right (fun a b h => by injection h)).mp h
    . intro h; rw [h]
  rw [e] at this
  exact this
end L2
namespace GW
end GW
namespace GW
end GW
namespace L2
open PySem PySem.Spec PyProof.Rows
end L2
namespace GW
end GW
namespace L2
open PySem PySem.Spec PyProof.Rows
end L2
namespace L2
open PySem PySem.Spec PyProof.Rows
end L2
namespace L2
open PySem PySem.Spec PyProof.Rows
section
variable {X : Cx} {K : PySem.W.Frag}
theorem ix_listK (h : X.K = K) : IxR X (rIxL K) := by subst h; exact ix_list
end
end L2
set_option Elab.async false
set_option linter.all false
set_option maxRecDepth 100000
set_option maxHeartbeats 4000000
namespace GW
def stepW (ways : List (List Int)) (r x : Int) : Int := (ways.getD r.toNat []).getD x.toNat 0
def walkW (ways : List (List Int)) (ws : List Int) : Int := ws.foldl (stepW ways) 0
structure Wf (L : Int) (marks : List Int) (ways : List (List Int)) : Prop where
  l1 : 1 <= L
  l6 : L <= 6
  n1 : 1 <= marks.length
  n40 : marks.length <= 40
  len : ways.length = marks.length
  rows : ∀ row ∈ ways, (row.length : Int) = L /\ ∀ x ∈ row, 0 <= x /\ x < marks.length
  mks : ∀ m ∈ marks, 0 <= m /\ m <= 1000000000
theorem stepW_of {ways : List (List Int)} {r x : Int} {row : List Int} {g : Int} (h1 : ways[r.toNat]? = some row) (h2 : row[x.toNat]? = some g) : stepW ways r x = g := by
  unfold stepW
  have e : ways.getD r.toNat [] = row := by rw [List.getD_eq_getElem?_getD, h1]; rfl
  rw [e, List.getD_eq_getElem?_getD, h2]; rfl
theorem Wf.row {L : Int} {marks : List Int} {ways : List (List Int)} (wf : Wf L marks ways) {r : Int} (h0 : 0 <= r) (h1 : r < marks.length) : ∃ row, ways[r.toNat]? = some row /\ row ∈ ways /\ (row.length : Int) = L := by
  have hlt : r.toNat < ways.length := by rw [wf.len]; omega
  exact ⟨ways[r.toNat], by simp [hlt], List.getElem_mem hlt, (wf.rows _ (List.getElem_mem hlt)).1⟩
theorem Wf.step {L : Int} {marks : List Int} {ways : List (List Int)} (wf : Wf L marks ways) {r x : Int} (h0 : 0 <= r) (h1 : r < marks.length) (x0 : 0 <= x) (x1 : x < L) : ∃ row g, ways[r.toNat]? = some row /\ row[x.toNat]? = some g /\ stepW ways r x = g /\ 0 <= g /\ g < marks.length := by
  obtain ⟨row, hr, hm, hl⟩ := wf.row h0 h1
  have hlt : x.toNat < row.length := by omega
  have hg : row[x.toNat]? = some row[x.toNat] := by simp [hlt]
  exact ⟨row, row[x.toNat], hr, hg, stepW_of hr hg, (wf.rows row hm).2 _ (List.getElem_mem hlt)⟩
theorem walkW_snoc (ways : List (List Int)) (ws : List Int) (x : Int) : walkW ways (ws ++ [x]) = stepW ways (walkW ways ws) x := by
  unfold walkW
  rw [List.foldl_append]; rfl
theorem walkW_take {ways : List (List Int)} {ws : List Int} {i : Nat} {x : Int} (h : ws[i]? = some x) : walkW ways (ws.take (i + 1)) = stepW ways (walkW ways (ws.take i)) x := by
  rw [List.take_add_one, h]
  exact walkW_snoc _ _ _
theorem Wf.walk {L : Int} {marks : List Int} {ways : List (List Int)} (wf : Wf L marks ways) {ws : List Int} (hw : isW L ws = true) : ∀ i, 0 <= walkW ways (ws.take i) /\ walkW ways (ws.take i) < marks.length := by
  intro i
  induction i with
  | zero => have := wf.n1; simp [walkW]; omega
  | succ i ih =>
    cases e : ws[i]? with
    | none =>
      have hle := List.getElem?_eq_none_iff.mp e
      rw [List.take_of_length_le (by omega)]
      rw [List.take_of_length_le hle] at ih
      exact ih
    | some x =>
      rw [walkW_take e]
      have hx := isW_iff.mp hw x (List.mem_of_getElem? e)
      obtain ⟨_, g, _, _, h, h0, h1⟩ := wf.step ih.1 ih.2 hx.1 hx.2
      rw [h]; exact ⟨h0, h1⟩
end GW
namespace L2
open PySem PySem.Spec PyProof.Rows GW
theorem atI_end {α : Type} {xs : List α} {v : α} (h : xs[xs.length - 1]? = some v) : atI xs (-1) = some v := by
  have hlt := (List.getElem?_eq_some_iff.mp h).1
  unfold atI ixN
  rw [if_neg (by omega), if_pos (by omega)]
  show xs[(-1 + (xs.length : Int)).toNat]? = some v
  rw [show (-1 + (xs.length : Int)).toNat = xs.length - 1 by omega]
  exact h
theorem atI_int {ns : List Int} {i : Int} {v : Int} (h0 : 0 <= i) (h : ns[i.toNat]? = some v) : atI (ns.map V.int) i = some (V.int v) := atI_of h0 (by rw [List.getElem?_map, h]; rfl)
end L2
namespace L2
open PySem PySem.Spec PyProof.Rows GW
end L2
set_option Elab.async false
set_option linter.all false
set_option maxRecDepth 100000
set_option maxHeartbeats 4000000
namespace PySem
open Sem (wp)
open AutoSeq1 (wpAny_loadPart')
section
variable {prog : Program} {w : World} {A : Around} {E : Value -> Shared -> Prop} {s : Shared}
end
end PySem
namespace L2
open PySem PySem.Spec PyProof.Rows
section
variable {X : Cx} {pins : List (Addr × Obj)} {σ : St} {H : Hp} {s : Shared}
theorem Inv.un2 {h' : Heap} {e it : Addr} (I : Inv X pins σ H s) (k : ∀ b o, b ≠ e -> b ≠ it -> s.heap.get? b = some o -> h'.get? b = some o) (f1 : FpOk X pins H e) (f2 : FpOk X pins H it) : Un (frs X.stack) [e, it] H H s.heap h' /\ HOk X.prog X.w H h' := by
  have ne : ∀ b u, H b = some u -> b ≠ e /\ b ≠ it := fun b u q => ⟨(fun z => by rw [z, f1.1] at q; cases q), (fun z => by rw [z, f2.1] at q; cases q)⟩
  have nch : ∀ {b : Addr}, b ∉ [e, it] -> b ≠ e /\ b ≠ it := fun hb => by simpa using hb
  refine ⟨⟨fun b o q _ _ hb => k b o (nch hb).1 (nch hb).2 q, fun b o q _ _ hb => ⟨o.slots, k b o (nch hb).1 (nch hb).2 q⟩, fun _ _ _ n _ => n, fun b o q hb => ⟨o, k b o (nch hb).1 (nch hb).2 q⟩, fun _ _ q => q, fun _ _ _ q => q, fun b ps q => ⟨#[], by rw [q]; simp⟩⟩, fun b u q => ?_⟩
  refine (I.hok b u q).stay (fun c v hc qv => ?_) (fun _ q => q) fun _ _ q => q
  have hne : c ≠ e /\ c ≠ it := by
    rcases hc with rfl | hc
    . exact ne _ _ q
    . exact ne _ _ hc
  exact k c v hne.1 hne.2 qv
theorem FpOk.ch {b : Addr} (f : FpOk X pins H b) : (b ∈ X.ex \/ X.s₀.heap.objs.size <= b) /\ b ≠ X.env.locals /\ (∀ x c, X.env.cells.lookup x = some c -> c ≠ b) /\ ∀ p ∈ X.pn ++ pins, p.1 ≠ b := ⟨f.2.2.2.1, f.2.1, f.2.2.2.2.1, f.2.2.2.2.2⟩
end
theorem r_gTup {K : PySem.W.Frag} {n : Nat} {t : TGs} {v : V} {σ : St} {H : Hp} {N : St -> Hp -> Prop} : gTup K n t v σ H N = ∃ a xs, v = .ref a /\ SqT K H a xs /\ xs.length = n /\ t xs σ H N := rfl
theorem r_gCons {t : TG} {u : TGs} {vs : List V} {σ : St} {H : Hp} {N : St -> Hp -> Prop} : gCons t u vs σ H N = ∃ v r, vs = v :: r /\ t v σ H fun σ' H' => u r σ' H' N := rfl
theorem r_gNil {vs : List V} {σ : St} {H : Hp} {N : St -> Hp -> Prop} : gNil vs σ H N = (vs = [] /\ N σ H) := rfl
section
variable {td ty tv tx : TE} {D : Ends} {σ : St} {H : Hp} {Q : VK}
theorem r_dget : tDGet td ty σ H Q = td σ H fun x H1 => ty σ H1 fun y H2 => ∃ a v, x = .ref a /\ DGet H2 a y (some v) /\ Q v H2 := rfl
theorem r_dput : sDPut td ty tv D σ H = tv σ H fun v H1 => td σ H1 fun x H2 => ty σ H2 fun y H3 => ∃ a H4, x = .ref a /\ DPut H3 a y v H4 /\ D.nx σ H4 := rfl
theorem r_dget1 : tDGet1 td ty σ H Q = td σ H fun x H1 => ∃ a, x = .ref a /\ IsD H1 a /\ ty σ H1 fun y H2 => ∃ o, DGet H2 a y o /\ Q (o.getD .non) H2 := rfl
end
end L2
namespace HT
open PySem PySem.Spec PyProof.Rows
section
open PySem.SeqAt PySem.MeetsSeq PySem.MeetsSeq2 PySem.MeetsSeq3
open PySem.AutoSeq1 (wpAny_loadPart')
end
end HT
namespace L2
open PySem PySem.Spec PyProof.Rows
end L2
set_option Elab.async false
set_option linter.all false
set_option maxRecDepth 100000
set_option maxHeartbeats 4000000
namespace GW
theorem nodup_len : ∀ (n : Nat) {l : List Int}, l.Nodup -> (∀ x ∈ l, 0 <= x /\ x < (n : Int)) -> l.length <= n
  | 0, l, _, h => by
    cases l with
    | nil => simp
    | cons x r => have := h x List.mem_cons_self; omega
  | n + 1, l, hn, h => by
    by_cases hm : (n : Int) ∈ l
    . have e := List.length_erase_of_mem hm
      have := nodup_len n (l := l.erase (n : Int)) (hn.erase _) (fun x hx => by
        have h1 := (hn.mem_erase_iff).mp hx
        have h2 := h x h1.2
        have h3 := h1.1
        omega)
      omega
    . have := nodup_len n hn (fun x hx => by
        have h2 := h x hx
        have : x ≠ n := fun z => hm (z ▸ hx)
        omega)
      omega
end GW
namespace L2
open PySem PySem.Spec PyProof.Rows GW
end L2
namespace L2
end L2
namespace L2
open PySem PySem.Spec PyProof.Rows
def ups (n : Nat) : List Int := (List.range n).map fun i : Nat => (i : Int)
end L2
namespace L2
open PySem PySem.Spec PyProof.Rows
def rNeD (K : PySem.W.Frag) (n : Nat) : R2 := fun x y H Q => ∃ a c b, x = .ref a /\ y = .ref c /\ EqD K H n x y b /\ Q (.bl (!b)) H
theorem r_neD {K : PySem.W.Frag} {n : Nat} {x y : V} {H : Hp} {Q : VK} : rNeD K n x y H Q = ∃ a c b, x = .ref a /\ y = .ref c /\ EqD K H n x y b /\ Q (.bl (!b)) H := rfl
theorem op_neD {X : Cx} (n : Nat) (hu : X.A.units + n < cLine) : OpR X (compareOp .NotEq) (rNeD X.K n) := by
  intro pins s σ H x y v u Q I rx ry h
  obtain ⟨a, c, b, rfl, rfl, h, q⟩ := h
  cases rx
  cases ry
  cases n with
  | zero => exact absurd (show false = true from h.1) Bool.false_ne_true
  | succ n =>
    rcases h with ⟨fx, _⟩ | ⟨a', c', xs, ys, e1, e2, hq, e, he, rfl⟩
    . exact absurd (show false = true from fx) Bool.false_ne_true
    . cases e1
      cases e2
      have key : ∀ (its its2 : List Value), Vals xs its -> Vals ys its2 -> ∀ j (h1 : j < its.toArray.size) (h2 : j < its2.toArray.size), SeqAt.EqAt X.A.in1 s its.toArray[j] its2.toArray[j] (e j) := fun its its2 r1 r2 j h1 h2 => by
        have l1 := r1.length
        have l2 := r2.length
        rw [List.size_toArray] at h1 h2
        obtain ⟨u1, g1, q1⟩ := r1.get (i := j) (x := xs[j]'(by omega)) (by simp [show j < xs.length by omega])
        obtain ⟨u2, g2, q2⟩ := r2.get (i := j) (x := ys[j]'(by omega)) (by simp [show j < ys.length by omega])
        have k1 : its.toArray[j]'(by rw [List.size_toArray]; exact h1) = u1 := by
          have := (List.getElem?_eq_some_iff.mp g1).2
          simpa using this
        have k2 : its2.toArray[j]'(by rw [List.size_toArray]; exact h2) = u2 := by
          have := (List.getElem?_eq_some_iff.mp g2).2
          simpa using this
        rw [k1, k2]
        exact (EqD.at I n X.A.in1 (by rw [in1_units]; omega) q1 q2 (he j _ _ (by simp [show j < xs.length by omega]) (by simp [show j < ys.length by omega]))).1
      have fin : EP X pins σ Q (.bool (!(decide (xs.length = ys.length) && (List.range (min xs.length ys.length)).all e))) s := ⟨.bl _, H, I, rfl, q⟩
      rcases hq with ⟨h1, h2⟩ | ⟨h1, h2⟩
      . obtain ⟨its, r1, p1, _⟩ := I.list h1
        obtain ⟨its2, r2, p2, _⟩ := I.list h2
        have l1 := r1.length
        have l2 := r2.length
        by_cases hl : xs.length = ys.length
        . have := SeqAt.RcNeAt.lists (e := e) p1.isList p2.isList (by rw [List.size_toArray, List.size_toArray]; omega) (by omega) (key its its2 r1 r2)
          rw [List.size_toArray, <- l1] at this
          rw [decide_eq_true hl, Bool.true_and, <- hl, Nat.min_self] at fin
          exact this _ _ _ _ fin
        . have := SeqAt.RcNeAt.lists_lengths (A := X.A) p1.isList p2.isList (by rw [List.size_toArray, List.size_toArray]; simp; omega) (by omega)
          rw [decide_eq_false hl, Bool.false_and] at fin
          exact this _ _ _ _ fin
      . obtain ⟨its, r1, p1, _⟩ := I.tuple h1
        obtain ⟨its2, r2, p2, _⟩ := I.tuple h2
        have l1 := r1.length
        have l2 := r2.length
        have := SeqAt.RcNeAt.tuples (e := e) (show s.heap.IsTuple a its.toArray from p1) (show s.heap.IsTuple c its2.toArray from p2) (by omega) (key its its2 r1 r2)
        rw [List.size_toArray, List.size_toArray, <- l1, <- l2, all_and] at this
        exact this _ _ _ _ fin
end L2
namespace L2
open PySem PySem.Spec PyProof.Rows
end L2
namespace L2
open PySem PySem.Spec PyProof.Rows
end L2
namespace GW
end GW
namespace L2
end L2
namespace L2
open PySem GW
end L2
namespace GW
end GW
namespace L2
open PySem GW
end L2
namespace GW
end GW
set_option Elab.async false
set_option linter.all false
set_option maxRecDepth 100000
set_option maxHeartbeats 4000000
namespace L2
open PySem PySem.Spec PyProof.Rows
theorem Vals.ofIx : ∀ {xs : List V} {us : List Value}, us.length = xs.length -> (∀ (i : Nat) (v : Value), us[i]? = some v -> ∃ x, xs[i]? = some x /\ RelV x v) -> Vals xs us
  | [], [], _, _ => .nil
  | [], _ :: _, h, _ => by simp at h
  | _ :: _, [], h, _ => by simp at h
  | x :: xs, u :: us, h, k => by
    refine .cons ?_ (Vals.ofIx (by simpa using h) fun i v hv => ?_)
    . obtain ⟨y, e, r⟩ := k 0 u rfl
      cases e
      exact r
    . obtain ⟨y, e, r⟩ := k (i + 1) v (by simpa using hv)
      exact ⟨y, by simpa using e, r⟩
end L2
namespace HT
open PySem PyProof.Rows
section
open PySem.SeqAt
open PySem.AutoSeq1 (wpAny_loadPart')
open PySem.MeetsSeq PySem.MeetsSeq2 PySem.MeetsSeq3
end
end HT
namespace L2
open PySem PySem.Spec PyProof.Rows
end L2
namespace L2
end L2
namespace GW
end GW
set_option Elab.async false
set_option linter.all false
set_option maxRecDepth 100000
set_option maxHeartbeats 4000000
namespace L2
open PySem PySem.Spec PyProof.Rows
def Itm (K : PySem.W.Frag) (a : Addr) (xs : List V) : It := ⟨fun i H => i < xs.length /\ SqL K H a xs, fun i H x H' => ∃ t v, H t = none /\ xs[i]? = some v /\ x = .ref t /\ H' = upd H t (.tup [.int i, v]), fun i H => i = xs.length /\ SqL K H a xs⟩
theorem turn_enumL {P : Program} {w : World} {K : PySem.W.Frag} {elts : List Expr} {x1} {tpos : Pos} (a e it : Addr) (hei : e ≠ it) (hai : a ≠ it) (hae : a ≠ e) (xs : List V) : Turn P w K (.Tuple elts x1 tpos) (Itm K a xs) [e, it] e (fun i h => ∃ old, IsEnum h e it (i : Nat) old /\ h.IsListIter it a i) where
  mem := by simp
  obj := fun i h st b hb => by
    obtain ⟨old, h1, o, h2, c, d⟩ := st
    rcases List.mem_cons.mp hb with rfl | hb
    . exact ⟨_, h1, fun v z => by cases z⟩
    . rw [List.mem_singleton.mp hb]
      exact ⟨o, h2, fun v z => by rw [d] at z; cases z⟩
  keep := fun i h h' st k => by
    obtain ⟨old, h1, h2⟩ := st
    exact ⟨old, k e (by simp) _ h1, h2.at fun o q => k it (by simp) o q⟩
  item := by
    intro X hP hw hK hc i pins s σ H E I hf st hg
    subst hP hw hK
    obtain ⟨hi, hq⟩ := hg
    obtain ⟨old, he, hit⟩ := st
    obtain ⟨its, rv, p, hz⟩ := I.list hq
    have hl := rv.length
    have pt : s.heap.IsList a its.toArray := p.isList
    have f1 := hf e (by simp)
    have f2 := hf it (by simp)
    have Dw := Draws.list (prog := X.prog) (w := X.w) (A := X.A.in1) (I.ok.hd hc) it a hai its.toArray
    refine wpAny_pyNext_enum_itemD Dw he ⟨hit, pt⟩ (by simp; omega) hei (by simp [hei, Ne.symm hae]) fun u h' tk hu heo hst' hget hsz hk => ?_
    have hT : s.heap.objs.size ≠ e := Nat.ne_of_gt (Heap.lt_size he)
    refine ⟨_, rfl, wpAny_letOwnedTupleGo_enum heo fun h2 he2 hs2 => ?_⟩
    have hk2 : ∀ b o, b ≠ e -> b ≠ it -> s.heap.get? b = some o -> h2.get? b = some o := fun b o h1 h3 q => (hs2.2 b h1).trans (hk b o h1 h3 q)
    obtain ⟨un, hok⟩ := I.un2 hk2 f1 f2
    have hn : H s.heap.objs.size = none := I.hok.fresh (Nat.le_refl _)
    have hv : xs[i]? = some xs[i] := by simp [hi]
    obtain ⟨u', hu', ru⟩ := rv.get hv
    have eu : u' = u := by
      have hu2 : its[i]? = some u := by simpa using hu
      rw [hu'] at hu2
      exact Option.some.inj hu2
    subst eu
    have hget2 : h2.get? s.heap.objs.size = some { cls := .type "tuple", data := .seq #[.int i tk, u'] } := (hs2.2 _ hT).trans hget
    have new : ObjOk X.prog X.w (upd H s.heap.objs.size (.tup [.int i, xs[i]])) h2 s.heap.objs.size (.tup [.int i, xs[i]]) := ⟨by have := line1000; simp; omega, [.int i tk, u'], .cons ⟨tk, rfl⟩ (.cons ru .nil), _, hget2, rfl, _, rfl⟩
    refine ⟨.ref s.heap.objs.size, upd H s.heap.objs.size (.tup [.int i, xs[i]]), I.call' (s' := { s with heap := h2, toks := tk + 1 }) (ch := [e, it]) rfl (un.track (Nat.le_refl _) hn) (hok.track hn new) I.bare (fun b hb => ?_), rfl, ⟨_, _, hn, hv, rfl, rfl⟩, ?_, fun b hb => ?_⟩
    . exact (hf b hb).ch
    . refine ⟨u', by simpa using he2, ?_⟩
      exact hst'.1.at fun o q => (hs2.2 it (Ne.symm hei)).trans q
    . have hb' := hf b hb
      have : ∃ o, s.heap.get? b = some o := by
        rcases List.mem_cons.mp hb with rfl | hb
        . exact ⟨_, he⟩
        . rw [List.mem_singleton.mp hb]
          obtain ⟨o, ho, _⟩ := hit
          exact ⟨o, ho⟩
      obtain ⟨o, ho⟩ := this
      rw [upd_ne (Nat.ne_of_lt (Heap.lt_size ho))]
      exact hb'.1
  done := by
    intro X hP hw hK hc i pins s σ H E I hf st hg
    subst hP hw hK
    obtain ⟨hi, hq⟩ := hg
    subst hi
    obtain ⟨old, he, hit⟩ := st
    obtain ⟨its, rv, p, hz⟩ := I.list hq
    have hl := rv.length
    have pt : s.heap.IsList a its.toArray := p.isList
    have Dw := Draws.list (prog := X.prog) (w := X.w) (A := X.A.in1) (I.ok.hd hc) it a hai its.toArray
    obtain ⟨f0, f1, f2, f3, f4, f5⟩ := hf it (by simp)
    refine wpAny_pyNext_enum_endD Dw he ⟨by rw [List.size_toArray, <- hl]; exact hit, pt⟩ fun h' eb => ⟨rfl, I.turned (t' := s.toks) (fun b o hb e => eb b o hb e) f0 f1 f3 f4 f5⟩
  self := fun A i s Q E st h => by
    obtain ⟨old, he, _⟩ := st
    exact wpAny_pyIter_enum he h
def iEnumL (K : PySem.W.Frag) (tl : TE) : TI := fun σ H R => tl σ H fun x H1 => ∃ a xs, x = .ref a /\ SqL K H1 a xs /\ R (Itm K a xs) H1
theorem r_iEnumL {K : PySem.W.Frag} {te : TE} {σ : St} {H : Hp} {Z : It -> Hp -> Prop} : iEnumL K te σ H Z = te σ H fun x H1 => ∃ a xs, x = .ref a /\ SqL K H1 a xs /\ Z (Itm K a xs) H1 := rfl
theorem pi_enumL {X : Cx} {elts : List Expr} {x1} {tpos : Pos} {e : Expr} {te : TE} {p pos : Pos} (hg : Gl X "enumerate") (hm : X.mg "enumerate" = none) (he : PE X e te) (hs : starEach [e] X.env = [(false, eval e X.env)] := by rfl) : PI X (.Tuple elts x1 tpos) (.Call (.Name "enumerate" p) [e] [] pos) (iEnumL X.K te) := by
  intro pins s σ H R I h
  refine Call_ (ld_blt I hg hm boot_enumerate (PyProof.Rows.callWith_type1 (thn (pa_cons he pa_nil hs pos pins s σ H (fun vs H1 => ∃ a xs, vs = [.ref a] /\ SqL X.K H1 a xs /\ R (Itm X.K a xs) H1) I ?_) fun us s1 ⟨vs, H1, I1, r1, q1⟩ => ?_) hs rfl))
  . show te σ H _
    have : (fun x H1 => ∃ a xs, x = V.ref a /\ SqL X.K H1 a xs /\ R (Itm X.K a xs) H1) = (fun x H1 => tNil σ H1 fun xs H2 => ∃ a ys, x :: xs = [V.ref a] /\ SqL X.K H2 a ys /\ R (Itm X.K a ys) H2) := by
      funext x H1
      simp [tNil]
    rw [<- this]
    exact h
  . obtain ⟨a, xs, rfl, hq, q⟩ := q1
    cases r1 with
    | cons r rr =>
      cases rr
      cases r
      obtain ⟨its, rv, p, hz⟩ := I1.list hq
      have pt : s1.heap.IsList a its.toArray := p.isList
      obtain ⟨oa, hoa, _⟩ := id pt
      have ha := Heap.lt_size hoa
      refine call_enumerate_list pt fun h' he' hit' hsz hk => ?_
      refine wpAny_pyIter_enum (s := { s1 with heap := h' }) he' ?_
      have I2 : Inv X pins σ H1 { s1 with heap := h' } := I1.kept (t' := s1.toks) hk
      refine ⟨s1.heap.objs.size + 1, [s1.heap.objs.size + 1, s1.heap.objs.size], _, _, H1, rfl, I2, turn_enumL a (s1.heap.objs.size + 1) s1.heap.objs.size (Nat.succ_ne_self _) (Nat.ne_of_lt ha) (Nat.ne_of_lt (Nat.lt_succ_of_lt ha)) xs, ⟨_, he', hit'⟩, fun b hb => ?_, q⟩
      have hle : s1.heap.objs.size <= b := by
        rcases List.mem_cons.mp hb with rfl | hb
        . omega
        . rw [List.mem_singleton.mp hb]; exact Nat.le_refl _
      exact I1.fpOk hle (I1.hok.fresh hle)
theorem forM {K : PySem.W.Frag} {a : Addr} {xs : List V} {g : TG} {tb : TS} {D : Ends} {σ : St} {H : Hp} (Pv : Nat -> St -> Hp -> Prop) (h0 : Pv 0 σ H) (hl : ∀ i σ H, i <= xs.length -> Pv i σ H -> SqL K H a xs)
    (hs : ∀ i v σ H t, xs[i]? = some v -> Pv i σ H -> H t = none -> g (.ref t) σ (upd H t (.tup [.int i, v])) fun σ2 H2 => tb { D with nx := Pv (i + 1), ct := Pv (i + 1), bk := D.nx } σ2 H2) (hd : ∀ σ H, Pv xs.length σ H -> D.nx σ H) : ForW (Itm K a xs) g tb D σ H := by
  refine ⟨fun i m σ H => m = xs.length - i /\ i <= xs.length /\ Pv i σ H, ⟨xs.length, by simp, Nat.zero_le _, h0⟩, ?_⟩
  rintro i m σ H ⟨rfl, hi, p⟩
  by_cases hlt : i < xs.length
  . refine .inr ⟨⟨hlt, hl i σ H hi p⟩, Pv (i + 1), fun σ' H' p' => ⟨xs.length - (i + 1), by omega, rfl, hlt, p'⟩, fun x H' y => ?_⟩
    obtain ⟨t, v, hn, hv, rfl, rfl⟩ := y
    exact hs i v σ H t hv p hn
  . have e : i = xs.length := by omega
    subst e
    exact .inl ⟨⟨rfl, hl _ σ H hi p⟩, hd σ H p⟩
end L2
namespace L2
open PySem PySem.Spec PyProof.Rows
def rng (i j : Int) : List Int := (List.range (j - i).toNat).map fun k : Nat => i + (k : Int)
end L2
namespace GW
open L2
end GW
namespace GW
end GW
namespace GW
open L2
end GW
namespace L2
open PySem PySem.Spec PyProof.Rows GW
end L2
namespace L2
end L2
namespace L2
end L2
namespace L2
open PySem PySem.Spec PyProof.Rows GW
end L2
namespace GW
end GW
namespace GW
open L2
end GW
set_option Elab.async false
set_option linter.all false
set_option maxRecDepth 100000
set_option maxHeartbeats 4000000
namespace GW
open L2
end GW
set_option Elab.async false
set_option linter.all false
set_option maxRecDepth 100000
set_option maxHeartbeats 4000000
namespace PySem
open Sem (wp)
def Heap.DEnt (h : Heap) (d : Addr) (es : Array DictEntry) (ep : Nat) : Prop := ∃ o, h.get? d = some o /\ o.ExactDict /\ o.data = .dict es ep
section
variable {prog : Program} {w : World} {A : Around} {E : Value -> Shared -> Prop} {s : Shared} {d it : Addr} {es : Array DictEntry} {i ep : Nat}
theorem Heap.DEnt.typeIs (h : s.heap.DEnt d es ep) : s.TypeIs (.ref d) "dict" := let ⟨o, ho, hc, _⟩ := h; ⟨o, ho, hc.1⟩
theorem Heap.DEnt.at {h h' : Heap} (x : h.DEnt d es ep) (e : ∀ o, h.get? d = some o -> h'.get? d = some o) : h'.DEnt d es ep := let ⟨o, ho, r⟩ := x; ⟨o, e _ ho, r⟩
theorem Heap.DEnt.lt_size {h : Heap} (x : h.DEnt d es ep) : d < h.objs.size := let ⟨_, ho, _⟩ := x; Heap.lt_size ho
theorem pyIter_dent {Q : Value -> Shared -> Prop} (hd : (d == sysModules) = false) (hm : s.heap.DEnt d es ep)
    (hQ : Q (.ref s.heap.objs.size) { s with heap := s.heap.push { cls := .type "dict_keyiterator", data := .fields #[.ref d, .int 0 0, .int es.size 0, .int ep 0] } }) : wpAny (model prog w) A (pyIter (.ref d)) Q E s := by
  have hT := hm.typeIs
  obtain ⟨o, ho, hc, hdat⟩ := id hm
  refine wpAny_pyIter_slot hT F.slot_dict_iter (wpAny_call_entry F.slot_dict_iter hT F.entry_dict_iter (?_ : wpAny _ _ (Builtin.«dict.__iter__» _) _ _ s) (F.args_dict_iter_1 _))
  unfold Builtin.«dict.__iter__»; refine wpAny_bind ?_
  unfold Builtin.Dict.dictSlotNone; refine wpAny_bind (wpAny_notOrdered_dict hT ?_)
  show wpAny _ _ (pure (Value.ref d)) _ _ s; refine wpAny_pure ?_
  show wpAny _ _ (Builtin.Dict.showsAll d >>= _) _ _ s; unfold Builtin.Dict.showsAll
  rw [if_neg (fun z => by rw [hd] at z; cases z)]
  refine wpAny_bind (wpAny_pure (wpAny_bind (wpAny_dictEntries ho hdat (wpAny_bind (wpAny_dictEpoch ho hdat ?_)))))
  refine wpAny_bind (wpAny_newObj_type (wpAny_pure ⟨_, rfl, "dict_keyiterator", _, ⟨_, Heap.get?_push_size _ rfl, rfl⟩, F.slot_dict_keyiterator_next.lookup, ?_⟩)); simpa [rawInt] using hQ
theorem pyNext_dent_item {Q : Option Value -> Shared -> Prop} (hit : s.heap.IsKeyIter it d i es.size ep) (hm : s.heap.DEnt d es ep) (hlt : i < es.size)
    (hQ : ∀ h', h'.IsKeyIter it d (i + 1) es.size ep -> Heap.SameBut it s.heap h' -> Q (some es[i].key) { s with heap := h' }) : wpAny (model prog w) A (pyNext (.ref it)) Q E s := by
  obtain ⟨o, ho, hc, hd⟩ := id hit
  obtain ⟨od, hod, hcd, hdd⟩ := id hm
  have hown : Builtin.Dict_items.ownsTuple "dict_keyiterator" = false := by decide
  unfold pyNext
  refine wpAny_bind (wpAny_attempt (wpAny_callSpecial?_slot (name := Str.ofString "__next__") hit.typeIs F.slot_dict_keyiterator_next (wpAny_call_entry F.slot_dict_keyiterator_next hit.typeIs F.entry_dict_keyiterator_next ?_ (F.args_dict_keyiterator_next_1 _))))
  refine wpAny_bind (wpAny_pure (wpAny_bind (wpAny_bind ?_)))
  first | refine wpAny_bind (wpAny_typeNameOfWhole_keyiter hit.typeIs (wpAny_pure (wpAny_bind (wpAny_fieldsOf ho hd ?_)))) | refine wpAny_bind (wpAny_typeNameOf_keyiter hit.typeIs (wpAny_pure (wpAny_bind (wpAny_fieldsOf ho hd ?_))))
  simp only [hown, Bool.false_eq_true, if_false]; show wpAny _ _ (if (Value.ref d == Value.none) = true then _ else _) _ _ s
  rw [if_neg (show ¬ ((Value.ref d == Value.none) = true) from fun z => Bool.false_ne_true z)]
  refine wpAny_bind (wpAny_pure (wpAny_bind (wpAny_dictEntries hod hdd ?_)))
  rw [if_neg (by simp)]; refine wpAny_bind (wpAny_pure (wpAny_bind (wpAny_dictEpoch hod hdd ?_)))
  rw [if_neg (by simp)]; refine wpAny_pure ?_
  simp only [show ¬ ((i : Int) < 0) from by omega, if_false, Int.toNat_natCast, Array.getElem?_eq_getElem hlt]; refine wpAny_bind ?_
  first | refine wpAny_bind (wpAny_typeNameOfWhole_keyiter hit.typeIs (wpAny_pure (wpAny_bind (wpAny_isOneOf_keyiter hit.typeIs ?_)))) | refine wpAny_bind (wpAny_typeNameOf_keyiter hit.typeIs (wpAny_pure (wpAny_bind (wpAny_isOneOf_keyiter hit.typeIs ?_))))
  show wpAny _ _ (setField (.ref it) 1 (rawInt ((i : Int) + 1)) >>= _) _ _ s; refine wpAny_bind (wpAny_setField ho hd (by simp) ?_)
  have hit' : (s.heap.update it (Obj.mapFields (·.setIfInBounds 1 (rawInt ((i : Int) + 1))))).IsKeyIter it d (i + 1) es.size ep := ⟨_, Heap.get?_update_self _ ho (Obj.isFreed_of_fields (Obj.data_mapFields hd _)), (Obj.cls_mapFields ..).trans hc, by rw [Obj.data_mapFields hd]; simp [rawInt]⟩
  refine wpAny_bind (wpAny_holding (wpAny_bind (wpAny_isOneOf_keyiter (s := { s with heap := s.heap.update it (Obj.mapFields (·.setIfInBounds 1 (rawInt ((i : Int) + 1)))) }) hit'.typeIs ?_)))
  show wpAny _ _ (pure es[i].key) _ _ _; exact wpAny_pure (wpAny_pure ⟨_, rfl, wpAny_pure (hQ _ hit' (Heap.SameBut.update ..))⟩)
theorem pyNext_dent_end {Q : Option Value -> Shared -> Prop} (hh : A.handled = none) (hit : s.heap.IsKeyIter it d i es.size ep) (hm : s.heap.DEnt d es ep) (hge : es.size <= i)
    (hQ : ∀ h', Heap.ExtBut it s.heap h' -> Q none { s with heap := h' }) : wpAny (model prog w) A (pyNext (.ref it)) Q E s := by
  obtain ⟨o, ho, hc, hd⟩ := id hit
  obtain ⟨od, hod, hcd, hdd⟩ := id hm
  have hown : Builtin.Dict_items.ownsTuple "dict_keyiterator" = false := by decide
  unfold pyNext
  refine wpAny_bind (wpAny_attempt (wpAny_callSpecial?_slot (name := Str.ofString "__next__") hit.typeIs F.slot_dict_keyiterator_next (wpAny_call_entry F.slot_dict_keyiterator_next hit.typeIs F.entry_dict_keyiterator_next ?_ (F.args_dict_keyiterator_next_1 _))))
  refine wpAny_bind (wpAny_pure (wpAny_bind (wpAny_bind ?_)))
  first | refine wpAny_bind (wpAny_typeNameOfWhole_keyiter hit.typeIs (wpAny_pure (wpAny_bind (wpAny_fieldsOf ho hd ?_)))) | refine wpAny_bind (wpAny_typeNameOf_keyiter hit.typeIs (wpAny_pure (wpAny_bind (wpAny_fieldsOf ho hd ?_))))
  simp only [hown, Bool.false_eq_true, if_false]; show wpAny _ _ (if (Value.ref d == Value.none) = true then _ else _) _ _ s
  rw [if_neg (show ¬ ((Value.ref d == Value.none) = true) from fun z => Bool.false_ne_true z)]
  refine wpAny_bind (wpAny_pure (wpAny_bind (wpAny_dictEntries hod hdd ?_)))
  rw [if_neg (by simp)]; refine wpAny_bind (wpAny_pure (wpAny_bind (wpAny_dictEpoch hod hdd ?_)))
  rw [if_neg (by simp)]; refine wpAny_pure ?_
  simp only [show ¬ ((i : Int) < 0) from by omega, if_false, Int.toNat_natCast, Array.getElem?_eq_none hge]; refine wpAny_bind ?_
  first | refine wpAny_bind (wpAny_typeNameOfWhole_keyiter hit.typeIs (wpAny_pure ?_)) | refine wpAny_bind (wpAny_typeNameOf_keyiter hit.typeIs (wpAny_pure ?_))
  show wpAny _ _ (setField (.ref it) 0 .none >>= _) _ _ s; refine wpAny_bind (wpAny_setField ho hd (by simp) ?_)
  show wpAny _ _ (newExc (.type "StopIteration") [] >>= _) _ _ _; refine wpAny_bind ?_
  simp only [newExc, newTuple]; refine wpAny_bind (wpAny_newObj_type ?_ (by size_fits))
  refine wpAny_bind (m := firstArgMember _ _) (wpAny_of_eq (a := Value.none) (by first | rfl | (simp only [firstArgMember]; rfl)) (wpAny_newObj_type ?_ (by size_fits)))
  simp only [raiseNew]; refine wpAny_bind (wpAny_handled ?_)
  rw [show A.in1.handled = none from hh]; refine wpAny_bind (wpAny_pure (wpAny_throw ?_))
  refine wpAny_bind (wpAny_isInstance (T := "StopIteration") (b := true) ⟨_, Heap.get?_push_size _ rfl, rfl⟩ isSubtype_stop (wpAny_pure (hQ _ (((Heap.SameBut.update ..).extBut.push _).push _))))
theorem Walks.dent (hh : A.handled = none) (I : Addr) (hne : d ≠ I) : Walks prog w A I [I, d] [I] es.size (fun i v => ∃ e, es[i]? = some e /\ v = e.key) (fun i h => h.IsKeyIter I d i es.size ep /\ h.DEnt d es ep) where
  sub := fun b hb => by simp at hb; simp [hb]
  frame := fun _ _ _ st hk => ⟨st.1.at fun o e => hk I (by simp) o e, st.2.at fun o e => hk d (by simp) o e⟩
  item := fun i s Q E hi st hQ => by
    refine pyNext_dent_item st.1 st.2 hi fun h' hit' hs' => ?_
    exact hQ _ h' s.toks ⟨es[i], by simp [hi], rfl⟩ ⟨hit', st.2.at fun o e => hs'.extBut d o hne e⟩ fun b o hb e => hs'.extBut b o (fun z => hb (by simp [z])) e
  done := fun s Q E st hQ => pyNext_dent_end hh st.1 st.2 (Nat.le_refl _) fun h' he' => hQ h' s.toks fun b o hb e => he' b o (fun z => hb (by simp [z])) e
  self := fun _ _ _ _ st hQ => wpAny_pyIter_keyiter st.1 hQ
theorem kdl_dent (lo : (d == sysModules) = false) : PySem.W.KdlSrc prog w "dict" d d es.size (fun i v => ∃ e, es[i]? = some e /\ v = e.key) (fun h => h.DEnt d es ep) where
  type := fun _ hm => hm.typeIs
  there := fun _ hm => ⟨hm.lt_size, hm.lt_size⟩
  keep := fun _ _ hm hk => hm.at fun o e => hk d (.inl rfl) o e
  notList := by decide
  notTuple := by decide
  hint := fun _ _ _ _ hm hq => PySem.W.kdl_hint_dict hm.typeIs hq
  iter := fun _ _ hh hm => ⟨_, _, (fun _ _ hq => pyIter_dent lo hm hq), Walks.dent hh _ (Nat.ne_of_lt hm.lt_size), ⟨⟨_, Heap.get?_push_size _ rfl, rfl, rfl⟩, hm.at fun o e => Heap.get?_push_of_some _ e⟩⟩
end
end PySem
namespace L2
open PySem PySem.Spec PyProof.Rows
theorem paired_get {α β : Type} {F : α -> β -> Prop} : ∀ {l : List α} {m : List β} {i : Nat} {a : α}, Paired F l m -> l[i]? = some a -> ∃ b, m[i]? = some b /\ F a b
  | _, _, _, _, .nil, e => by simp at e
  | _, _, 0, _, .cons r _, e => by simp at e; subst e; exact ⟨_, rfl, r⟩
  | _, _, i + 1, a, .cons _ t, e => by
    obtain ⟨b, h1, h2⟩ := paired_get (i := i) (a := a) t (by simpa using e)
    exact ⟨b, by simpa using h1, h2⟩
theorem dent_of {P : Program} {w : World} {H : Hp} {h : Heap} {a : Addr} {kvs : List (List Key × V)} (ok : HOk P w H h) (e : Rd H a (.dT kvs)) :
    ∃ o es ep, h.get? a = some o /\ o.ExactDict /\ o.data = .dict es ep /\ es.size = kvs.length /\ (a == sysModules) = false /\ kvs.length <= sizeLine /\
      ∀ (i : Nat) (k : List Key) (v : V), kvs[i]? = some (k, v) -> ∃ b en, es[i]? = some en /\ en.key = .ref b /\ H b = some (.tup (k.map kV)) := by
  obtain ⟨z, y, xs, r, o, es, ep, h1, h2, h3, h4, h5⟩ := (show ObjOk P w H h a (.dT kvs) from rd_of ok e)
  have hl := Paired.length r
  have hs : es.size = kvs.length := by rw [<- Array.length_toList, h4, List.length_map, hl]
  refine ⟨o, es, ep, h1, h2, h3, hs, y, z, fun i k v hk => ?_⟩
  obtain ⟨q, hq, e1, e2, _⟩ := paired_get r hk
  refine ⟨q.2.1, entryOfKey (tupleKind (mixKind P w)) q, ?_, rfl, e2⟩
  rw [<- Array.getElem?_toList, h4, List.getElem?_map, hq]; rfl
section
variable {X : Cx} {pins : List (Addr × Obj)} {σ : St} {H : Hp} {s : Shared} {a : Addr}
theorem Inv.freeze {kvs : List (List Key × V)} {o : Obj} (I : Inv X pins σ H s) (e : H a = some (.dT kvs)) (ho : s.heap.get? a = some o) : Inv X pins σ (upd H a (.frz o (.dT kvs))) s := by
  refine d_write (h' := s.heap) (t' := s.toks) I (by rw [e]; exact True.intro) ⟨rfl, fun _ _ => rfl⟩ ⟨o, ho⟩ ?_
  obtain ⟨z, y, xs, r, q⟩ := (show ObjOk X.prog X.w H s.heap a (.dT kvs) from I.hok a _ e)
  refine ⟨ho, z, y, xs, Paired.mapP r fun p x hx => ⟨hx.1, ?_, hx.2.2⟩, q⟩
  rw [upd_ne (fun z => by have h1 := hx.2.1; rw [z, e] at h1; cases h1)]
  exact hx.2.1
end
def Itd (o : Obj) (a : Addr) (kvs : List (List Key × V)) : It := ⟨fun i H => i < kvs.length /\ H a = some (.frz o (.dT kvs)), fun i H x H' => H' = H /\ ∃ b k v, kvs[i]? = some (k, v) /\ x = .ref b /\ H b = some (.tup (k.map kV)), fun i H => kvs.length <= i /\ H a = some (.frz o (.dT kvs))⟩
theorem turn_dictT {P : Program} {w : World} {K : PySem.W.Frag} {tg : Expr} {o : Obj} {a it : Addr} {kvs : List (List Key × V)} {es : Array DictEntry} {ep : Nat} (hai : a ≠ it) (hc : o.ExactDict) (hd : o.data = .dict es ep) (hs : es.size = kvs.length) :
    Turn P w K tg (Itd o a kvs) [it] it (fun i h => h.IsKeyIter it a i es.size ep) where
  mem := by simp
  obj := fun i h st b hb => by
    have e : b = it := by simpa using hb
    subst e
    obtain ⟨o, e, c, d⟩ := st
    exact ⟨o, e, fun v z => by rw [d] at z; cases z⟩
  keep := fun i h h' st k => st.at fun o e => k it (by simp) o e
  item := by
    intro X hP hw hK hcm i pins s σ H E I hf st hg
    subst hP hw hK
    obtain ⟨hi, hq⟩ := hg
    obtain ⟨hko, _⟩ := (show ObjOk X.prog X.w H s.heap a (.frz o (.dT kvs)) from I.hok a _ hq)
    obtain ⟨o', es', ep', g1, g2, g3, g4, g5, g6, g7⟩ := dent_of I.hok (.inr ⟨o, hq⟩)
    rw [hko] at g1
    cases g1
    rw [hd] at g3
    cases g3
    obtain ⟨kv, hkv⟩ : ∃ kv, kvs[i]? = some kv := ⟨kvs[i], by simp [hi]⟩
    obtain ⟨k, v⟩ := kv
    obtain ⟨b, en, e1, e2, e3⟩ := g7 i k v hkv
    obtain ⟨f0, f1, f2, f3, f4, f5⟩ := hf it (by simp)
    have hlt : i < es.size := by omega
    have ee : es[i] = en := by rw [Array.getElem?_eq_getElem hlt] at e1; exact Option.some.inj e1
    refine pyNext_dent_item st ⟨o, hko, hc, hd⟩ hlt fun h' st' sb => ?_
    have I1 : Inv X pins σ H { s with heap := h' } := I.turned (t' := s.toks) (fun b o hb e => (sb.2 b hb).trans e) f0 f1 f3 f4 f5
    obtain ⟨io, e, c, d⟩ := id st'
    exact ⟨_, rfl, go_of (s := { s with heap := h' }) e c d (by decide) ⟨.ref b, H, I1, (by rw [ee, e2]; rfl), ⟨rfl, b, k, v, hkv, rfl, e3⟩, st', fun b hb => (hf b hb).1⟩⟩
  done := by
    intro X hP hw hK hcm i pins s σ H E I hf st hg
    subst hP hw hK
    obtain ⟨hi, hq⟩ := hg
    obtain ⟨hko, _⟩ := (show ObjOk X.prog X.w H s.heap a (.frz o (.dT kvs)) from I.hok a _ hq)
    obtain ⟨f0, f1, f2, f3, f4, f5⟩ := hf it (by simp)
    exact pyNext_dent_end (I.ok.hd hcm) st ⟨o, hko, hc, hd⟩ (by omega) fun h' eb => ⟨rfl, I.turned (t' := s.toks) (fun b o hb e => eb b o hb e) f0 f1 f3 f4 f5⟩
  self := fun _ _ _ _ _ st h => wpAny_pyIter_keyiter st h
def iDictT (td : TE) : TI := fun σ H R => td σ H fun x H1 => ∃ a kvs, x = .ref a /\ H1 a = some (.dT kvs) /\ ∀ o, R (Itd o a kvs) (upd H1 a (.frz o (.dT kvs)))
theorem r_iDictT {te : TE} {σ : St} {H : Hp} {Z : It -> Hp -> Prop} : iDictT te σ H Z = te σ H fun x H1 => ∃ a kvs, x = .ref a /\ H1 a = some (.dT kvs) /\ ∀ o, Z (Itd o a kvs) (upd H1 a (.frz o (.dT kvs))) := rfl
theorem pi_dictT {X : Cx} {tg : Expr} {l : Expr} {tl : TE} (hl : PE X l tl) : PI X tg l (iDictT tl) := by
  intro pins s σ H R I h
  refine thn (hl pins s σ H _ I h) fun v s1 ⟨x, H1, I1, r1, q1⟩ => ?_
  obtain ⟨a, kvs, e, hq, q⟩ := q1
  subst e
  cases r1
  obtain ⟨o, es, ep, g1, g2, g3, g4, g5, g6, g7⟩ := dent_of I1.hok (.inl hq)
  have I2 := I1.freeze hq g1
  refine pyIter_dent g5 ⟨o, g1, g2, g3⟩ ?_
  refine ⟨s1.heap.objs.size, [s1.heap.objs.size], _, _, _, rfl, I2.kept (t' := s1.toks) fun b o e => Heap.get?_push_of_some _ e, turn_dictT (o := o) (kvs := kvs) (Nat.ne_of_lt (Heap.lt_size g1)) g2 g3 g4, ⟨_, Heap.get?_push_size _ rfl, rfl, rfl⟩, fun b hb => ?_, q o⟩
  have e : b = s1.heap.objs.size := by simpa using hb
  subst e
  exact I2.fpOk (Nat.le_refl _) (I2.hok.fresh (Nat.le_refl _))
theorem forD {o : Obj} {a : Addr} {kvs : List (List Key × V)} {g : TG} {tb : TS} {D : Ends} {σ : St} {H : Hp} (Pv : Nat -> St -> Hp -> Prop) (h0 : Pv 0 σ H) (hl : ∀ i σ H, i <= kvs.length -> Pv i σ H -> H a = some (.frz o (.dT kvs)))
    (hs : ∀ i k v b σ H, kvs[i]? = some (k, v) -> Pv i σ H -> H b = some (.tup (k.map kV)) -> g (.ref b) σ H fun σ2 H2 => tb { D with nx := Pv (i + 1), ct := Pv (i + 1), bk := D.nx } σ2 H2) (hd : ∀ σ H, Pv kvs.length σ H -> D.nx σ H) : ForW (Itd o a kvs) g tb D σ H := by
  refine ⟨fun i m σ H => m + i = kvs.length /\ Pv i σ H, ⟨kvs.length, by omega, h0⟩, fun i m σ H ⟨hm, hp⟩ => ?_⟩
  have hq := hl i σ H (by omega) hp
  by_cases hi : i < kvs.length
  . refine .inr ⟨⟨hi, hq⟩, Pv (i + 1), fun σ' H' h => ⟨m - 1, by omega, by omega, h⟩, fun x H' hy => ?_⟩
    obtain ⟨rfl, b, k, v, hk, rfl, hb⟩ := hy
    exact hs i k v b σ _ hk hp hb
  . have e : i = kvs.length := by omega
    subst e
    exact .inl ⟨⟨Nat.le_refl _, hq⟩, hd σ H hp⟩
theorem call_list_dictT {X : Cx} (hc : X.calm = true) : CallR X (.type "list") (fun xs H Q => ∃ p kvs, xs = [.ref p] /\ Rd H p (.dT kvs) /\ ∀ l rs, H l = none -> rs.length = kvs.length ->
    (∀ (i : Nat) (k : List Key) (v : V), kvs[i]? = some (k, v) -> ∃ b, rs[i]? = some (V.ref b) /\ H b = some (.tup (k.map kV))) -> Q (.ref l) (upd H l (.lst rs))) := by
  intro pins s σ H xs us Q I r h
  obtain ⟨p, kvs, rfl, hp, q⟩ := h
  obtain ⟨u, rfl, rx⟩ := vals1 r
  cases rx
  obtain ⟨o, es, ep, g1, g2, g3, g4, g5, g6, g7⟩ := dent_of I.hok hp
  refine PySem.W.kdl_call (kdl_dent (es := es) (ep := ep) g5) (I.ok.hd hc) ⟨o, g1, g2, g3⟩ (by omega) fun h' tk acc' c' hk hD hacc => ?_
  let f : DictEntry -> V := fun e => match e.key with | .ref b => V.ref b | _ => .non
  have hat : ∀ (i : Nat) (k : List Key) (v : V), kvs[i]? = some (k, v) -> ∃ b, (es.toList.map f)[i]? = some (V.ref b) /\ H b = some (.tup (k.map kV)) := fun i k v hkv => by
    obtain ⟨b, en, e1, e2, e3⟩ := g7 i k v hkv
    refine ⟨b, ?_, e3⟩
    rw [List.getElem?_map, Array.getElem?_toList, e1]
    show some (f en) = _
    simp only [f, e2]
  have hlen : (es.toList.map f).length = kvs.length := by rw [List.length_map, Array.length_toList, g4]
  have hv : Vals (es.toList.map f) acc'.toList := by
    refine Vals.ofIx (by rw [hlen, <- g4]; simpa using hacc.1) fun i v hv => ?_
    obtain ⟨e, he, rfl⟩ := hacc.2 i v (by simpa using hv)
    have hi : i < kvs.length := by rw [<- g4]; exact (Array.getElem?_eq_some_iff.mp he).1
    obtain ⟨b, en, e1, e2, e3⟩ := g7 i kvs[i].1 kvs[i].2 (by simp [hi])
    rw [he] at e1
    cases e1
    refine ⟨V.ref b, ?_, by rw [e2]; rfl⟩
    rw [List.getElem?_map, Array.getElem?_toList, he]
    show some (f e) = _
    simp only [f, e2]
  exact ⟨.ref _, _, I.laid (t' := tk) hk (Nat.le_refl _) (show ObjOk X.prog X.w _ h' _ (.lst (es.toList.map f)) from ⟨by rw [hlen]; exact g6, acc'.toList, c', hv, by simpa using hD⟩), rfl, q _ _ (I.hok.fresh (Nat.le_refl _)) hlen hat⟩
end L2
namespace HT
open PySem PyProof.Rows
section
open PySem.SeqAt
open PySem.AutoSeq1 (wpAny_loadPart')
open PySem.MeetsSeq PySem.MeetsSeq2 PySem.MeetsSeq3
end
end HT
namespace L2
open PySem PySem.Spec PyProof.Rows
end L2
set_option Elab.async false
set_option linter.all false
set_option maxRecDepth 100000
set_option maxHeartbeats 4000000
namespace GB
open GW
variable {α : Type} [DecidableEq α]
def walkF (step : α -> Int -> α) (a : α) (ws : List Int) : α := ws.foldl step a
def put (step : α -> Int -> α) (r : α) (w : List Int) (ents : List (α × List Int)) (x : Nat) : List (α × List Int) := if step r x ∈ ents.map (·.1) then ents else ents ++ [(step r x, w ++ [(x : Int)])]
structure B (L : Int) (step : α -> Int -> α) (st : α) (ok : α -> Prop) (ents : List (α × List Int)) (i : Nat) (top : Int) : Prop where
  hd : ents[0]? = some (st, [])
  il : i <= ents.length
  sh : ∀ (j : Nat) (e : α × List Int), ents[j]? = some e -> e.2.length <= j
  nod : (ents.map (·.1)).Nodup
  rng : ∀ e ∈ ents, ok e.1
  wd : ∀ e ∈ ents, isW L e.2 = true /\ walkF step st e.2 = e.1
  inc : ∀ (j k : Nat) (a b : α × List Int), j < k -> ents[j]? = some a -> ents[k]? = some b -> place L a.2 < place L b.2
  bnd : ∀ e ∈ ents, place L e.2 < top
  don : ∀ j, j < i -> ∀ e, ents[j]? = some e -> ∀ x : Int, 0 <= x -> x < L -> ∃ e' ∈ ents, e'.1 = step e.1 x /\ place L e'.2 <= place L (e.2 ++ [x])
variable {L : Int} {step : α -> Int -> α} {st : α} {ok : α -> Prop} {ents : List (α × List Int)} {i : Nat} {top : Int}
def walkR (ways : List (List Int)) (r : Int) (ws : List Int) : Int := ws.foldl (stepW ways) r
theorem walkR_cons (ways : List (List Int)) (r x : Int) (ws : List Int) : walkR ways r (x :: ws) = walkR ways (stepW ways r x) ws := rfl
theorem walkR_snoc (ways : List (List Int)) (r x : Int) (ws : List Int) : walkR ways r (ws ++ [x]) = stepW ways (walkR ways r ws) x := by
  unfold walkR
  rw [List.foldl_append]; rfl
theorem walkR_take {ways : List (List Int)} {ws : List Int} {i : Nat} {x r : Int} (h : ws[i]? = some x) : walkR ways r (ws.take (i + 1)) = stepW ways (walkR ways r (ws.take i)) x := by
  rw [List.take_add_one, h]
  exact walkR_snoc _ _ _ _
theorem walkR_in {L : Int} {marks : List Int} {ways : List (List Int)} (wf : Wf L marks ways) : ∀ (ws : List Int) {r : Int}, isW L ws = true -> 0 <= r -> r < marks.length -> 0 <= walkR ways r ws /\ walkR ways r ws < marks.length
  | [], r, _, h0, h1 => ⟨h0, h1⟩
  | x :: ws, r, hv, h0, h1 => by
    have hx := isW_iff.mp hv x List.mem_cons_self
    obtain ⟨_, g, _, _, h, g0, g1⟩ := wf.step h0 h1 hx.1 hx.2
    rw [walkR_cons, h]
    exact walkR_in wf ws (isW_iff.mpr fun y hy => isW_iff.mp hv y (List.mem_cons_of_mem _ hy)) g0 g1
end GB
namespace L2
open PySem PySem.Spec PyProof.Rows GW GB
def TK (H H' : Hp) : Prop := ∀ b xs, H b = some (.tup xs) -> H' b = some (.tup xs)
theorem TK.refl (H : Hp) : TK H H := fun _ _ h => h
theorem TK.of {H H' : Hp} (s : Same H H') : TK H H' := fun b xs h => s b _ h
theorem TK.new {H : Hp} {p : Addr} {o : HO} (h : H p = none) : TK H (upd H p o) := TK.of (Same.new h)
theorem TK.lst {H : Hp} {p : Addr} {o : HO} {xs : List V} (h : H p = some (.lst xs)) : TK H (upd H p o) := fun b ys e => by rw [upd_ne (fun z => by rw [z, h] at e; cases e)]; exact e
end L2
namespace L2
theorem r_dnewT {σ : St} {H : Hp} {Q : VK} : tDNewT σ H Q = ∀ p, H p = none -> Q (.ref p) (upd H p (.dT [])) := rfl
end L2
namespace GB
open GW
end GB
set_option Elab.async false
set_option linter.all false
set_option maxRecDepth 100000
set_option maxHeartbeats 4000000
namespace GB
open GW
theorem isW_take {L : Int} {w : List Int} (h : isW L w = true) (j : Nat) : isW L (w.take j) = true := isW_iff.mpr fun x hx => isW_iff.mp h x (List.mem_of_mem_take hx)
end GB
namespace L2
open GW
end L2
namespace L2
open PySem PySem.Spec PyProof.Rows GW
def LLs (H0 H : Hp) (xs : List V) (ws : List (List Int)) : Prop := ∃ ts : List Addr, xs = ts.map V.ref /\ ts.length = ws.length /\ ts.Nodup /\ (∀ (i : Nat) (t : Addr) (w : List Int), ts[i]? = some t -> ws[i]? = some w -> H t = some (.lst (w.map V.int))) /\ ∀ t ∈ ts, H0 t = none
theorem LLs.nil (H0 H : Hp) : LLs H0 H [] [] := ⟨[], rfl, rfl, List.nodup_nil, fun i t w h => by simp at h, fun t h => by simp at h⟩
theorem LLs.mono {H0 H H' : Hp} {xs : List V} {ws : List (List Int)} (h : LLs H0 H xs ws) (s : Same H H') : LLs H0 H' xs ws := by
  obtain ⟨ts, a, b, c, d, e⟩ := h
  exact ⟨ts, a, b, c, fun i t w h1 h2 => s _ _ (d i t w h1 h2), e⟩
theorem LLs.len {H0 H : Hp} {xs : List V} {ws : List (List Int)} (h : LLs H0 H xs ws) : xs.length = ws.length := by
  obtain ⟨ts, a, b, _⟩ := h
  rw [a, List.length_map, b]
theorem LLs.snoc {H0 H : Hp} {xs : List V} {ws : List (List Int)} {p : Addr} {w : List Int} (h : LLs H0 H xs ws) (h0 : H0 p = none) (hp : H p = none) : LLs H0 (upd H p (.lst (w.map V.int))) (xs ++ [.ref p]) (ws ++ [w]) := by
  obtain ⟨ts, a, b, c, d, e⟩ := h
  have hts : ∀ t ∈ ts, t ≠ p := fun t ht z => by
    obtain ⟨i, hi, ei⟩ := List.getElem_of_mem ht
    have := d i t ws[i] (by rw [List.getElem?_eq_getElem hi, ei]) (by simp [show i < ws.length by omega])
    rw [z, hp] at this; cases this
  refine ⟨ts ++ [p], by rw [a]; simp, by simp [b], ?_, fun i t v h1 h2 => ?_, fun t ht => ?_⟩
  . rw [List.nodup_append]
    refine ⟨c, by simp, fun x hx y hy => ?_⟩
    simp at hy; subst hy; exact hts x hx
  . by_cases hi : i < ts.length
    . rw [List.getElem?_append_left hi] at h1
      rw [List.getElem?_append_left (by omega)] at h2
      rw [upd_ne (hts t (List.mem_of_getElem? h1))]
      exact d i t v h1 h2
    . have := (List.getElem?_eq_some_iff.mp h1).1
      rw [List.length_append, List.length_singleton] at this
      have ei : i = ts.length := by omega
      subst ei
      rw [List.getElem?_append_right (Nat.le_refl _), Nat.sub_self] at h1
      rw [b, List.getElem?_append_right (Nat.le_refl _), Nat.sub_self] at h2
      simp at h1 h2
      subst h1 h2
      exact upd_same
  . rcases List.mem_append.mp ht with ht | ht
    . exact e t ht
    . rw [List.mem_singleton.mp ht]; exact h0
theorem Same.none {H H' : Hp} (s : Same H H') {p : Addr} (h : H' p = none) : H p = none := by
  cases e : H p with
  | none => rfl
  | some u => rw [s _ _ e] at h; cases h
end L2
namespace GW
end GW
namespace L2
open PySem GW
theorem LLs.off {H0 H : Hp} {xs : List V} {ws : List (List Int)} {p : Addr} {o u : HO} (h : LLs H0 H xs ws) (hp : H0 p = some u) : LLs H0 (upd H p o) xs ws := by
  obtain ⟨ts, a, b, c, d, e⟩ := h
  refine ⟨ts, a, b, c, fun i t w h1 h2 => ?_, e⟩
  rw [upd_ne (fun z => by have := e t (List.mem_of_getElem? h1); rw [z, hp] at this; cases this)]
  exact d i t w h1 h2
end L2
set_option Elab.async false
set_option linter.all false
set_option maxRecDepth 100000
set_option maxHeartbeats 4000000
namespace L2
open PySem PySem.Spec PyProof.Rows
section
variable {X : Cx} {pins : List (Addr × Obj)} {σ : St} {H : Hp} {s : Shared} {sc : Scope} {fp : List Addr}
end
section
variable {X : Cx} {tg iter elt : Expr} {ifs : List Expr} {sc : Scope} {pos : Pos} {wi : TI} {cp : Caps} {g : TG} {tc : TT} {te : TE}
end
end L2
namespace L2
open PySem PySem.Spec PyProof.Rows GW GB
end L2
namespace GB
open GW
end GB
set_option Elab.async false
set_option linter.all false
set_option maxRecDepth 100000
set_option maxHeartbeats 4000000
namespace L2
open PySem PySem.Spec PyProof.Rows GW
def WordsT (K : PySem.W.Frag) (H : Hp) (xs : List V) (ws : List (List Int)) : Prop := xs.length = ws.length /\ ∀ (i : Nat) (w : List Int), ws[i]? = some w -> ∃ t, xs[i]? = some (.ref t) /\ H t = some (.tup (w.map V.int))
theorem WordsT.nil {K : PySem.W.Frag} {H : Hp} : WordsT K H [] [] := ⟨rfl, fun i w h => by simp at h⟩
theorem WordsT.mono {K : PySem.W.Frag} {H H' : Hp} {xs : List V} {ws : List (List Int)} (h : WordsT K H xs ws) (k : TK H H') : WordsT K H' xs ws := by
  refine ⟨h.1, fun i w hw => ?_⟩
  obtain ⟨t, a, b⟩ := h.2 i w hw
  exact ⟨t, a, k _ _ b⟩
theorem WordsT.snoc {K : PySem.W.Frag} {H : Hp} {xs : List V} {ws : List (List Int)} (h : WordsT K H xs ws) {t : Addr} {w : List Int} (ht : H t = some (.tup (w.map V.int))) : WordsT K H (xs ++ [.ref t]) (ws ++ [w]) := by
  refine ⟨by rw [List.length_append, List.length_append, h.1]; rfl, fun i v hi => ?_⟩
  by_cases hil : i < ws.length
  . rw [List.getElem?_append_left hil] at hi
    rw [List.getElem?_append_left (by rw [h.1]; exact hil)]
    exact h.2 i v hi
  . have := (List.getElem?_eq_some_iff.mp hi).1
    rw [List.length_append, List.length_singleton] at this
    have ei : i = ws.length := by omega
    subst ei
    rw [List.getElem?_append_right (Nat.le_refl _), Nat.sub_self] at hi
    simp at hi
    subst hi
    refine ⟨t, ?_, ht⟩
    rw [List.getElem?_append_right (by rw [h.1]; exact Nat.le_refl _), h.1, Nat.sub_self]; rfl
theorem WordsT.at {K : PySem.W.Frag} {H : Hp} {xs : List V} {ws : List (List Int)} (h : WordsT K H xs ws) {i : Nat} {x : V} (hx : xs[i]? = some x) : ∃ t w, ws[i]? = some w /\ x = .ref t /\ H t = some (.tup (w.map V.int)) := by
  have hi : i < ws.length := by rw [<- h.1]; exact (List.getElem?_eq_some_iff.mp hx).1
  obtain ⟨t, a, b⟩ := h.2 i ws[i] (by simp [hi])
  rw [hx] at a
  exact ⟨t, ws[i], by simp [hi], Option.some.inj a, b⟩
theorem WordsT.eq {K : PySem.W.Frag} {H : Hp} {xs ys : List V} {ws : List (List Int)} {a b : Addr} (h : WordsT K H xs ws) (g : WordsT K H ys ws) (ha : SqL K H a xs) (hb : SqL K H b ys) (n : Nat) : EqD K H (n + 2) (.ref a) (.ref b) true := by
  refine .inr ⟨a, b, xs, ys, rfl, rfl, .inl ⟨ha, hb⟩, fun _ => true, fun i x y hx hy => ?_, by rw [h.1, g.1]; simp⟩
  obtain ⟨t, w, e1, rfl, e2⟩ := h.at hx
  obtain ⟨u, w', f1, rfl, f2⟩ := g.at hy
  rw [e1] at f1
  cases f1
  have := EqD.ints (K := K) (H := H) (a := t) (c := u) (xs := w) (ys := w) (.inr ⟨SqT.of e2, SqT.of f2⟩) n
  rw [decide_eq_true rfl] at this
  exact this
def rInW (K : PySem.W.Frag) (neg : Bool) : R2 := fun x y H Q => ∃ p t xs w ws, y = .ref p /\ x = .ref t /\ SqL K H p xs /\ WordsT K H xs ws /\ SqT K H t (w.map V.int) /\ Q (.bl (if neg then !decide (w ∈ ws) else decide (w ∈ ws))) H
theorem r_inW {K : PySem.W.Frag} {neg : Bool} {x y : V} {H : Hp} {Q : VK} : rInW K neg x y H Q = ∃ p t xs w ws, y = .ref p /\ x = .ref t /\ SqL K H p xs /\ WordsT K H xs ws /\ SqT K H t (w.map V.int) /\ Q (.bl (if neg then !decide (w ∈ ws) else decide (w ∈ ws))) H := rfl
theorem inW_core {X : Cx} {pins : List (Addr × Obj)} {σ : St} {H : Hp} {s : Shared} {p t : Addr} {xs : List V} {w : List Int} {ws : List (List Int)} (hu : X.A.units + 8 < cLine) (I : Inv X pins σ H s) (hp : SqL X.K H p xs) (hw : WordsT X.K H xs ws) (ht : SqT X.K H t (w.map V.int)) :
    ∃ (its : Array Value) (e : Value -> Bool), s.heap.IsList p its /\ (∀ y, y ∈ its -> SeqAt.EqAt X.A.in1 s y (.ref t) (e y)) /\ its.any e = decide (w ∈ ws) := by
  obtain ⟨its, r, pl, _⟩ := I.list hp
  have hl := r.length
  let e : Value -> Bool := fun y => @decide (∃ (i : Nat) (a : Addr), y = .ref a /\ xs[i]? = some (.ref a) /\ ws[i]? = some w) (Classical.propDecidable _)
  have ee : ∀ (i : Nat) (a : Addr) (v : List Int), xs[i]? = some (.ref a) -> ws[i]? = some v -> e (.ref a) = decide (v = w) := fun i a v hx hv => by
    obtain ⟨a', a1, a2⟩ := hw.2 i v hv
    rw [hx] at a1
    cases a1
    rw [Bool.eq_iff_iff]
    show @decide _ (Classical.propDecidable _) = true ↔ _
    rw [@decide_eq_true_iff _ (Classical.propDecidable _), decide_eq_true_eq]
    constructor
    . rintro ⟨j, b, hb, hxj, hwj⟩
      cases hb
      obtain ⟨b', b1, b2⟩ := hw.2 j w hwj
      rw [hxj] at b1
      cases b1
      rw [a2] at b2
      have := Option.some.inj b2
      injection this with this
      exact (List.map_inj_right (fun x y z => V.int.inj z)).mp this
    . rintro rfl
      exact ⟨i, a, rfl, hx, hv⟩
  refine ⟨its.toArray, e, pl.isList, fun y hy => ?_, ?_⟩
  . have hy' : y ∈ its := by simpa using hy
    obtain ⟨i, hi, ei⟩ := List.getElem_of_mem hy'
    have hix : i < xs.length := by omega
    obtain ⟨u, hu', ru⟩ := r.get (i := i) (x := xs[i]) (by simp [hix])
    rw [List.getElem?_eq_getElem hi, ei] at hu'
    cases hu'
    obtain ⟨a, v, e1, e2, e3⟩ := hw.at (i := i) (x := xs[i]) (by simp [hix])
    rw [e2] at ru
    cases ru
    rw [ee i a v (by rw [List.getElem?_eq_getElem hix, e2]) e1]
    exact (EqD.at (x := V.ref a) (y := V.ref t) I 2 X.A.in1 (by rw [in1_units]; omega) rfl rfl (EqD.ints (xs := v) (ys := w) (.inr ⟨SqT.of e3, ht⟩) 1)).1
  . rw [Bool.eq_iff_iff, decide_eq_true_eq]
    rw [show its.toArray.any e = its.any e by simp, List.any_eq_true]
    constructor
    . rintro ⟨y, hy, hey⟩
      obtain ⟨j, b, _, _, hwj⟩ := (@decide_eq_true_iff _ (Classical.propDecidable _)).mp hey
      exact List.mem_of_getElem? hwj
    . intro hm
      obtain ⟨i, hi, ei⟩ := List.getElem_of_mem hm
      obtain ⟨a, a1, a2⟩ := hw.2 i w (by rw [List.getElem?_eq_getElem hi, ei])
      obtain ⟨u, hu', ru⟩ := r.get a1
      cases ru
      refine ⟨.ref a, List.mem_of_getElem? hu', ?_⟩
      rw [ee i a w a1 (by rw [List.getElem?_eq_getElem hi, ei])]
      simp
theorem op_notInW {X : Cx} (hu : X.A.units + 8 < cLine) : OpR X (compareOp .NotIn) (rInW X.K true) := by
  intro pins s σ H x y v u Q I rx ry h
  obtain ⟨p, t, xs, w, ws, rfl, rfl, hp, hw, ht, q⟩ := h
  cases ry
  cases rx
  obtain ⟨its, e, h1, h2, h3⟩ := inW_core hu I hp hw ht
  refine SeqAt.notIn_listAt e h1 h2 ⟨.bl _, H, I, rfl, ?_⟩
  rw [h3]
  exact q
theorem rCatT2.ofS {K : PySem.W.Frag} {H : Hp} {Q : VK} {a b : Addr} {xs ys : List V} (ha : H a = some (.tup xs)) (hb : H b = some (.tup ys)) (hz : xs.length + ys.length <= sizeLine) (h : ∀ p H', Same H H' -> H' p = some (.tup (xs ++ ys)) -> Q (.ref p) H') : rCatT2 K (.ref a) (.ref b) H Q := by
  refine ⟨a, b, xs, ys, rfl, rfl, SqT.of ha, SqT.of hb, hz, fun e => ?_, fun _ e => ?_, fun _ _ p hp => h p _ (Same.new hp) upd_same⟩
  . subst e; exact h b H (Same.refl _) (by simpa using hb)
  . subst e; exact h a H (Same.refl _) (by simpa using ha)
end L2
namespace L2
open PySem PySem.Spec PyProof.Rows GW
end L2
namespace GW
def ins (s : List (List Int)) (w : List Int) : List (List Int) := if w ∈ s then s else s ++ [w]
theorem ins_len (s : List (List Int)) (w : List Int) : (ins s w).length <= s.length + 1 := by
  unfold ins; split
  . omega
  . simp
theorem insAll_len : ∀ (l s : List (List Int)), (l.foldl ins s).length <= s.length + l.length
  | [], s => by simp
  | w :: l, s => by
    have h1 := insAll_len l (ins s w)
    have h2 := ins_len s w
    rw [List.foldl_cons, List.length_cons]; omega
def extW (n : Nat) (w : List Int) : List (List Int) := (List.range n).map fun x : Nat => w ++ [(x : Int)]
def rowsW (n : Nat) (acc : List (List Int)) : List (List Int) := (acc.flatMap (extW n)).foldl ins (acc.foldl ins [])
end GW
namespace L2
open PySem PySem.Spec PyProof.Rows GW
def wkey (w : List Int) : List Key := w.map Sum.inl
theorem wkey_kV (w : List Int) : (wkey w).map kV = w.map V.int := by unfold wkey; rw [List.map_map]; rfl
theorem wkey_inj {v w : List Int} (h : wkey v = wkey w) : v = w := (List.map_inj_right (fun x y z => Sum.inl.inj z)).mp h
def KeysW (ws : List (List Int)) (kvs : List (List Key × V)) : Prop := kvs.map (·.1) = ws.map wkey
theorem KeysW.len {ws : List (List Int)} {kvs : List (List Key × V)} (h : KeysW ws kvs) : kvs.length = ws.length := by
  have := congrArg List.length h
  simpa using this
theorem KeysW.some_iff {ws : List (List Int)} {kvs : List (List Key × V)} (h : KeysW ws kvs) (w : List Int) : (valV kvs (wkey w)).isSome = decide (w ∈ ws) := by
  rw [<- valV_any, Bool.eq_iff_iff, decide_eq_true_eq, List.any_eq_true]
  constructor
  . rintro ⟨kv, hkv, e⟩
    have e := of_decide_eq_true e
    have : wkey w ∈ ws.map wkey := by rw [<- h, <- e]; exact List.mem_map.mpr ⟨kv, hkv, rfl⟩
    obtain ⟨q, hq, e2⟩ := List.mem_map.mp this
    exact wkey_inj e2 ▸ hq
  . intro hw
    have : wkey w ∈ kvs.map (·.1) := by rw [h]; exact List.mem_map.mpr ⟨w, hw, rfl⟩
    obtain ⟨kv, hkv, e⟩ := List.mem_map.mp this
    exact ⟨kv, hkv, decide_eq_true e⟩
theorem KeysW.put {ws : List (List Int)} {kvs : List (List Key × V)} (h : KeysW ws kvs) (w : List Int) (v : V) : KeysW (ins ws w) (putK kvs (wkey w) v) := by
  have hs := h.some_iff w
  unfold putK ins
  rw [valV_any, hs]
  by_cases hw : w ∈ ws
  . rw [if_pos hw, if_pos (show decide (w ∈ ws) = true from decide_eq_true hw)]
    unfold KeysW
    rw [<- h, List.map_map]
    refine List.map_congr_left fun kv _ => ?_
    show (if kv.1 = wkey w then (kv.1, v) else kv).1 = kv.1
    split <;> rfl
  . rw [if_neg hw, if_neg (show ¬ decide (w ∈ ws) = true by simp [hw])]
    unfold KeysW
    rw [List.map_append, List.map_append, h]; rfl
theorem KeysW.nil : KeysW [] [] := rfl
theorem KeysW.words {K : PySem.W.Frag} {H : Hp} {ws : List (List Int)} {kvs : List (List Key × V)} {rs : List V} (h : KeysW ws kvs) (hl : rs.length = kvs.length) (hr : ∀ (i : Nat) (k : List Key) (v : V), kvs[i]? = some (k, v) -> ∃ b, rs[i]? = some (V.ref b) /\ H b = some (.tup (k.map kV))) : WordsT K H rs ws := by
  refine ⟨by rw [hl, h.len], fun i w hw => ?_⟩
  have hi : i < kvs.length := by rw [h.len]; exact (List.getElem?_eq_some_iff.mp hw).1
  have e : (kvs.map (·.1))[i]? = some (wkey w) := by rw [h, List.getElem?_map, hw]; rfl
  rw [List.getElem?_map, List.getElem?_eq_getElem hi] at e
  have e : kvs[i].1 = wkey w := Option.some.inj e
  obtain ⟨b, b1, b2⟩ := hr i kvs[i].1 kvs[i].2 (by simp [hi])
  exact ⟨b, b1, by rw [b2, e, wkey_kV]⟩
end L2
set_option Elab.async false
set_option linter.all false
set_option maxRecDepth 100000
set_option maxHeartbeats 4000000
namespace L2
open PySem PySem.Spec PyProof.Rows
section
variable {M : Model} {A : Around} {E : Value -> Shared -> Prop} {s : Shared}
end
section
variable {X : Cx} {N : List Str} {sc : Scope} {C : Addr} {s₀ : Shared} {H₀ : Hp} {ex : List Addr} {xe : Value -> Shared -> Prop} {pins : List (Addr × Obj)} {σ : St} {H : Hp} {s : Shared}
end
section
variable {X : Cx} {tg iter elt : Expr} {ifs : List Expr} {sc : Scope} {pos : Pos} {wi : TI} {cp : Caps} {g : TG} {tc : TT} {te : TE}
end
end L2
set_option Elab.async false
set_option linter.all false
set_option maxRecDepth 100000
set_option maxHeartbeats 4000000
namespace PySem.W
open PySem PySem.Calls PyProof.Rows PyProof.V PySem.Spec
section
variable {prog : Program} {w : World} {A : Around} {E : Value -> Shared -> Prop} {s : Shared}
end
section
variable {prog : Program} {w : World} {A : Around} {E : Value -> Shared -> Prop} {s : Shared} {r d : Addr} {es : Array DictEntry} {ep : Nat} {od : Obj}
end
end PySem.W
set_option Elab.async false
set_option linter.all false
set_option maxRecDepth 100000
set_option maxHeartbeats 4000000
namespace L2
open PySem PySem.Spec PyProof.Rows
end L2
set_option Elab.async false
set_option linter.all false
set_option maxRecDepth 100000
set_option maxHeartbeats 4000000
namespace L2
open PySem PySem.Spec PyProof.Rows
theorem pe_gc {X : Cx} {x : Str} {n : Int} {pos : Pos} (hg : Gl X x) (hm : ∃ t, X.mg x = some (.int n t)) (hd : (x == ("__debug__" : Str)) = false := by decide) : PE X (.Name x pos) (tC (.int n)) := by
  obtain ⟨t, hm⟩ := hm
  exact pe_glob hg hm ⟨_, rfl⟩ hd
section
variable {K : PySem.W.Frag} {ta tv td ty tx : TE} {t : TA} {f m : Str} {σ : St} {H : Hp} {Q : VK} {D : Ends} {C : Addr} {sp : Sp} {dvs : List V} {E : XK}
theorem r_fld : tFld K ta f σ H Q = ta σ H fun x H1 => ∃ a C dx fs v, x = .ref a /\ H1 a = some (.ins C dx fs) /\ Cls K C /\ NoAttr K C f /\ fs.lookup f = some v /\ Q v H1 := rfl
theorem r_sFld : sFld K ta tv f D σ H = tv σ H fun y H1 => ta σ H1 fun x H2 => ∃ a C dx fs, x = .ref a /\ H2 a = some (.ins C dx fs) /\ Cls K C /\ NoAttr K C f /\ fs.length < 1000 /\ D.nx σ (upd H2 a (.ins C dx (putF f y fs))) := rfl
theorem r_meth : tMeth C m sp dvs E ta t σ H Q = ta σ H fun x H1 => ∃ a dx fs, x = .ref a /\ H1 a = some (.ins C dx fs) /\ fs.lookup m = none /\ t σ H1 fun vs H2 => sp (x :: (vs ++ dvs)) H2 Q E := rfl
theorem r_make : tMake C sp dvs E t σ H Q = t σ H fun vs H1 => ∀ x dx, H1 x = none -> H1 dx = none -> dx ≠ x -> sp (.ref x :: (vs ++ dvs)) (upd (upd H1 dx (.own x)) x (.ins C dx [])) (fun v H2 => v = .non /\ Q (.ref x) H2) E := rfl
theorem r_dget2 : tDGet2 td ty tx σ H Q = td σ H fun x H1 => ∃ a, x = .ref a /\ IsD H1 a /\ ty σ H1 fun y H2 => tx σ H2 fun z H3 => ∃ o, DGet H3 a y o /\ Q (o.getD z) H3 := rfl
end
def ents (es : List (List Int × Int)) : List (List Key × V) := es.map fun e => (wkey e.1, V.int e.2)
theorem ents_keys (es : List (List Int × Int)) : KeysW (es.map (·.1)) (ents es) := by unfold KeysW ents; rw [List.map_map, List.map_map]; rfl
theorem ents_none {es : List (List Int × Int)} {w : List Int} (h : w ∉ es.map (·.1)) : valV (ents es) (wkey w) = none := by
  have := (ents_keys es).some_iff w
  rw [decide_eq_false h] at this
  cases q : valV (ents es) (wkey w) with
  | none => rfl
  | some v => rw [q] at this; cases this
theorem ents_get : ∀ {es : List (List Int × Int)} {w : List Int} {m : Int}, (es.map (·.1)).Nodup -> (w, m) ∈ es -> valV (ents es) (wkey w) = some (.int m)
  | [], _, _, _, h => by cases h
  | e :: r, w, m, nd, h => by
    rw [List.map_cons, List.nodup_cons] at nd
    unfold valV ents
    rw [List.map_cons, List.find?_cons]
    by_cases hw : e.1 = w
    . have hem : e.2 = m := by
        rcases List.mem_cons.mp h with q | q
        . rw [<- q]
        . exact absurd (List.mem_map.mpr ⟨_, q, hw.symm⟩) nd.1
      rw [show decide ((wkey e.1, V.int e.2).1 = wkey w) = true from decide_eq_true (by rw [hw]), <- hem]; rfl
    . rw [show decide ((wkey e.1, V.int e.2).1 = wkey w) = false from decide_eq_false fun z => hw (wkey_inj z)]
      rcases List.mem_cons.mp h with q | q
      . exact absurd (by rw [<- q]) hw
      . exact ents_get nd.2 q
theorem ents_put {es : List (List Int × Int)} {w : List Int} {m : Int} (h : w ∉ es.map (·.1)) : putK (ents es) (wkey w) (.int m) = ents (es ++ [(w, m)]) := by
  unfold putK
  rw [valV_any, ents_none h, if_neg (by simp)]
  unfold ents
  rw [List.map_append]; rfl
theorem letters_ne : ¬ (("letters" : Str) = "marks") := by decide +kernel
def bflds (L : Int) (d : Addr) : List (Str × V) := putF "marks" (.ref d) (putF "letters" (.int L) [])
theorem bflds_letters (L : Int) (d : Addr) : (bflds L d).lookup ("letters" : Str) = some (.int L) := by
  unfold bflds
  rw [lookup_putF, if_neg letters_ne, lookup_putF, if_pos rfl]
theorem bflds_marks (L : Int) (d : Addr) : (bflds L d).lookup ("marks" : Str) = some (.ref d) := by
  unfold bflds
  rw [lookup_putF, if_pos rfl]
theorem bflds_no (L : Int) (d : Addr) {m : Str} (h1 : ¬ m = "marks") (h2 : ¬ m = "letters") : (bflds L d).lookup m = none := by
  unfold bflds
  rw [lookup_putF, if_neg h1, lookup_putF, if_neg h2]
  rfl
structure BookAt (C : Addr) (H : Hp) (p d : Addr) (L : Int) (es : List (List Int × Int)) : Prop where
  ob : ∃ dx, H p = some (.ins C dx (bflds L d))
  dc : H d = some (.dT (ents es))
  nd : (es.map (·.1)).Nodup
theorem BookAt.mono {C : Addr} {H H' : Hp} {p d : Addr} {L : Int} {es : List (List Int × Int)} (h : BookAt C H p d L es) (s : Same H H') : BookAt C H' p d L es := by
  obtain ⟨⟨dx, a⟩, b, c⟩ := h
  exact ⟨⟨dx, s _ _ a⟩, s _ _ b, c⟩
end L2
set_option Elab.async false
set_option linter.all false
set_option maxRecDepth 100000
set_option maxHeartbeats 4000000
namespace L2
open PySem PySem.Spec PyProof.Rows
end L2
set_option Elab.async false
set_option linter.all false
set_option maxRecDepth 100000
set_option maxHeartbeats 4000000
namespace L2
open PySem PySem.W PySem.Spec PySem.Calls PyProof.Rows
theorem rRepT.ofS {K : PySem.W.Frag} {H : Hp} {Q : VK} {l : Addr} {k : Int} {xs : List V} (hq : H l = some (.tup xs)) (hne : xs ≠ []) (h1 : -(2 ^ 63) <= k) (h2 : k < 2 ^ 63) (hz : xs.length * k.toNat <= sizeLine) (h : ∀ p H', Same H H' -> H' p = some (.tup (List.replicate k.toNat xs).flatten) -> Q (.ref p) H') : rRepT K (.ref l) (.int k) H Q := by
  refine ⟨l, k, xs, rfl, rfl, SqT.of hq, hne, h1, h2, hz, fun e => ?_, fun _ p hp => h p _ (Same.new hp) upd_same⟩
  subst e
  exact h l H (Same.refl _) (by simpa using hq)
end L2
set_option linter.all false
namespace PrimeO
end PrimeO
set_option Elab.async false
set_option linter.all false
set_option maxRecDepth 100000
set_option maxHeartbeats 4000000
namespace L2
open PySem PySem.Spec PyProof.Rows
theorem r_iRng2 {A : TA} {σ : St} {H : Hp} {Z : It -> Hp -> Prop} : iRng2 A σ H Z = A σ H fun vs H1 => ∃ i j : Int, vs = [.int i, .int j] /\ (-(2 ^ 62) <= i /\ i < 2 ^ 62 /\ -(2 ^ 62) <= j /\ j < 2 ^ 62) /\ Z (Itr i (j - i).toNat) H1 := rfl
section
variable {X : Cx} {CX CX' : CXT} {k k' : Nat} {f f' : Addr} {fd fd' : FuncData} {ps ps' : List Str} {sp sp' : Sp} {dvs dvs' : List V} {ds ds' : List Value} {x : Str} {p pos : Pos} {e : Expr} {es : List Expr} {t : TA}
end
end L2
set_option Elab.async false
set_option linter.all false
set_option maxRecDepth 100000
set_option maxHeartbeats 4000000
namespace PySem
open Sem (wp)
open PySem.F
section
variable {prog : Program} {w : World} {A : Around} {E : Value -> Shared -> Prop} {s : Shared}
end
section
variable {prog : Program} {w : World} {A : Around} {E : Value -> Shared -> Prop} {s : Shared}
end
end PySem
set_option Elab.async false
set_option linter.all false
set_option maxRecDepth 100000
set_option maxHeartbeats 4000000
namespace L2
open PySem PySem.Spec PyProof.Rows GW
end L2
set_option linter.all false
namespace Nest
def sl (row : List Int) (b i : Nat) : List Int := (row.take i).drop b
def outF (p e : Int) (s : List Int × Int) (x : Int) : List Int × Int := if x = e then (s.1, s.2 - 1) else (if s.2 = 0 then s.1 ++ [x] else s.1, if p <= x then s.2 + 1 else s.2)
def outS (p e : Int) (l : List Int) : List Int × Int := l.foldl (outF p e) ([], 0)
def outW (p e : Int) (l : List Int) : List Int := (outS p e l).1
def wd (p e : Int) (row : List Int) (i a : Nat) : List Int := outW p e (sl row (a + 1) i)
end Nest
set_option Elab.async false
set_option linter.all false
set_option maxRecDepth 100000
set_option maxHeartbeats 4000000
namespace L2
open PySem PySem.Spec PyProof.Rows GW
end L2
namespace HT
open PySem PySem.Spec PyProof.Rows L2
section
variable {prog : Program} {w : World} {A : Around} {E : Value -> Shared -> Prop} {s : Shared}
theorem getItem_tuple_whole {t sl : Addr} {items : Array Value} {vl vu : Value} {lo hi : Option Int} {Q : Value -> Shared -> Prop} (ht : IsTup s.heap t items) (hs : s.heap.IsSliceOf sl vl vu .none) (pl : IsPart vl lo) (pu : IsPart vu hi)
    (hw : sIx items.size 0 lo = 0 /\ sIx items.size items.size hi = items.size) (h : Q (.ref t) s) : wpAny (model prog w) A (getItem (.ref t) (.ref sl)) Q E s := by
  obtain ⟨os, hos, hcs, hds⟩ := id hs
  have hTs : s.TypeIs (.ref sl) "slice" := ⟨os, hos, hcs⟩
  unfold getItem
  try with_reducible refine wpAny_holding ?_
  first | refine wpAny_bind (wpAny_pure ?_) | skip
  refine wpAny_bind (wpAny_sequenceKey ht.typeIs (by decide) ?_)
  refine wpAny_bind (wpAny_callSpecial?_slot (name := Str.ofString "__getitem__") ht.typeIs PyProof.Rows.slot_tuple_getitem
    (wpAny_call_entry PyProof.Rows.slot_tuple_getitem ht.typeIs entry_tuple_getitem ?_ (args_tuple_getitem _ _)))
  show wpAny _ _ (Builtin.Tuple.tupleItemsOf (.ref t) >>= _) _ _ s
  refine wpAny_bind (tupleItemsOf_ ht ?_)
  refine wpAny_bind (wpAny_typeOf hTs ?_)
  rw [if_pos (by decide)]
  refine wpAny_bind (sliceApplied_gen hs pl pu ?_)
  rw [hw.1, hw.2]
  show wpAny _ _ (if ((((0 : Nat) : Int) == 0 && (1 : Int) == 1 && (items.size - 0) == items.size) = true) then _ else _) _ _ s
  rw [if_pos (by simp)]
  refine wpAny_bind ?_
  unfold Builtin.Tuple.tupleIsExact
  refine wpAny_bind (wpAny_typeOf ht.typeIs (wpAny_pure ?_))
  rw [if_pos (by decide)]
  refine wpAny_bind (wpAny_rule ?_)
  exact wpAny_pure ⟨_, rfl, wpAny_pure h⟩
end
end HT
namespace L2
open PySem PySem.Spec PyProof.Rows GW
def rSlT2 (K : PySem.W.Frag) : V -> Option Int -> Option Int -> Hp -> VK -> Prop := fun x lo hi H Q => ∃ a xs, x = .ref a /\ SqT K H a xs /\ ∀ p H', Same H H' -> SqT K H' p (cutV xs lo hi) -> Q (.ref p) H'
theorem r_slT2 {K : PySem.W.Frag} {x : V} {lo hi : Option Int} {H : Hp} {Q : VK} : rSlT2 K x lo hi H Q = ∃ a xs, x = .ref a /\ SqT K H a xs /\ ∀ p H', Same H H' -> SqT K H' p (cutV xs lo hi) -> Q (.ref p) H' := rfl
theorem sl_tup2 {X : Cx} : SlR X (rSlT2 X.K) := by
  intro pins s σ H x v vl vu lo hi sl Q I rx hs pl pu h
  obtain ⟨a, xs, rfl, hx, q⟩ := h
  by_cases hw : HT.sIx xs.length 0 lo = 0 /\ HT.sIx xs.length xs.length hi = xs.length
  . cases rx
    obtain ⟨its, r, ht, hz⟩ := I.tuple hx
    have hlen : its.toArray.size = xs.length := by rw [List.size_toArray]; exact r.length.symm
    refine ⟨"tuple", _, PyProof.Rows.slot_tuple_getitem.lookup, ht.typeIs, ?_⟩
    refine HT.getItem_tuple_whole ht hs pl pu (by rw [hlen]; exact hw) ⟨.ref a, H, I, rfl, q a H (Same.refl _) ?_⟩
    unfold cutV
    rw [hw.1, hw.2, List.drop_zero, Nat.sub_zero, List.take_length]
    exact hx
  . exact sl_tup pins s σ H (.ref a) v vl vu lo hi sl Q I rx hs pl pu ⟨a, xs, rfl, hx, hw, fun p hp => q p _ (Same.new hp) (SqT.of upd_same)⟩
end L2
namespace Nest
end Nest
set_option linter.all false
namespace Nest
end Nest
namespace L2
open PySem PySem.Spec PyProof.Rows
theorem op_catT2K {X : Cx} {K : PySem.W.Frag} (h : X.K = K) : OpR X (binaryOp .Add) (rCatT2 K) := by subst h; exact op_catT2
end L2
set_option Elab.async false
set_option linter.all false
set_option maxRecDepth 100000
set_option maxHeartbeats 4000000
namespace L2
open PySem PySem.W PySem.Spec PySem.Calls PyProof.Rows
def WordsL (K : PySem.W.Frag) (H : Hp) (xs : List V) (ws : List (List Int)) : Prop := xs.length = ws.length /\ ∀ (i : Nat) (w : List Int), ws[i]? = some w -> ∃ t, xs[i]? = some (.ref t) /\ H t = some (.lst (w.map V.int))
theorem WordsL.at {K : PySem.W.Frag} {H : Hp} {xs : List V} {ws : List (List Int)} (h : WordsL K H xs ws) {i : Nat} {x : V} (hx : xs[i]? = some x) : ∃ t w, ws[i]? = some w /\ x = .ref t /\ H t = some (.lst (w.map V.int)) := by
  have hi : i < ws.length := by rw [<- h.1]; exact (List.getElem?_eq_some_iff.mp hx).1
  obtain ⟨t, a, b⟩ := h.2 i ws[i] (by simp [hi])
  rw [hx] at a
  exact ⟨t, ws[i], by simp [hi], Option.some.inj a, b⟩
def rInL (K : PySem.W.Frag) (neg : Bool) : R2 := fun x y H Q => ∃ p t xs w ws, y = .ref p /\ x = .ref t /\ SqL K H p xs /\ WordsL K H xs ws /\ SqL K H t (w.map V.int) /\ Q (.bl (if neg then !decide (w ∈ ws) else decide (w ∈ ws))) H
theorem r_inL {K : PySem.W.Frag} {neg : Bool} {x y : V} {H : Hp} {Q : VK} : rInL K neg x y H Q = ∃ p t xs w ws, y = .ref p /\ x = .ref t /\ SqL K H p xs /\ WordsL K H xs ws /\ SqL K H t (w.map V.int) /\ Q (.bl (if neg then !decide (w ∈ ws) else decide (w ∈ ws))) H := rfl
theorem inL_core {X : Cx} {pins : List (Addr × Obj)} {σ : St} {H : Hp} {s : Shared} {p t : Addr} {xs : List V} {w : List Int} {ws : List (List Int)} (hu : X.A.units + 8 < cLine) (I : Inv X pins σ H s) (hp : SqL X.K H p xs) (hw : WordsL X.K H xs ws) (ht : SqL X.K H t (w.map V.int)) :
    ∃ (its : Array Value) (e : Value -> Bool), s.heap.IsList p its /\ (∀ y, y ∈ its -> SeqAt.EqAt X.A.in1 s y (.ref t) (e y)) /\ its.any e = decide (w ∈ ws) := by
  obtain ⟨its, r, pl, _⟩ := I.list hp
  have hl := r.length
  let e : Value -> Bool := fun y => @decide (∃ (i : Nat) (a : Addr), y = .ref a /\ xs[i]? = some (.ref a) /\ ws[i]? = some w) (Classical.propDecidable _)
  have ee : ∀ (i : Nat) (a : Addr) (v : List Int), xs[i]? = some (.ref a) -> ws[i]? = some v -> e (.ref a) = decide (v = w) := fun i a v hx hv => by
    obtain ⟨a', a1, a2⟩ := hw.2 i v hv
    rw [hx] at a1
    cases a1
    rw [Bool.eq_iff_iff]
    show @decide _ (Classical.propDecidable _) = true ↔ _
    rw [@decide_eq_true_iff _ (Classical.propDecidable _), decide_eq_true_eq]
    constructor
    . rintro ⟨j, b, hb, hxj, hwj⟩
      cases hb
      obtain ⟨b', b1, b2⟩ := hw.2 j w hwj
      rw [hxj] at b1
      cases b1
      rw [a2] at b2
      have := Option.some.inj b2
      injection this with this
      exact (List.map_inj_right (fun x y z => V.int.inj z)).mp this
    . rintro rfl
      exact ⟨i, a, rfl, hx, hv⟩
  refine ⟨its.toArray, e, pl.isList, fun y hy => ?_, ?_⟩
  . have hy' : y ∈ its := by simpa using hy
    obtain ⟨i, hi, ei⟩ := List.getElem_of_mem hy'
    have hix : i < xs.length := by omega
    obtain ⟨u, hu', ru⟩ := r.get (i := i) (x := xs[i]) (by simp [hix])
    rw [List.getElem?_eq_getElem hi, ei] at hu'
    cases hu'
    obtain ⟨a, v, e1, e2, e3⟩ := hw.at (i := i) (x := xs[i]) (by simp [hix])
    rw [e2] at ru
    cases ru
    rw [ee i a v (by rw [List.getElem?_eq_getElem hix, e2]) e1]
    exact (EqD.at (x := V.ref a) (y := V.ref t) I 2 X.A.in1 (by rw [in1_units]; omega) rfl rfl (EqD.ints (xs := v) (ys := w) (.inl ⟨SqL.of e3, ht⟩) 1)).1
  . rw [Bool.eq_iff_iff, decide_eq_true_eq]
    rw [show its.toArray.any e = its.any e by simp, List.any_eq_true]
    constructor
    . rintro ⟨y, hy, hey⟩
      obtain ⟨j, b, _, _, hwj⟩ := (@decide_eq_true_iff _ (Classical.propDecidable _)).mp hey
      exact List.mem_of_getElem? hwj
    . intro hm
      obtain ⟨i, hi, ei⟩ := List.getElem_of_mem hm
      obtain ⟨a, a1, a2⟩ := hw.2 i w (by rw [List.getElem?_eq_getElem hi, ei])
      obtain ⟨u, hu', ru⟩ := r.get a1
      cases ru
      refine ⟨.ref a, List.mem_of_getElem? hu', ?_⟩
      rw [ee i a w a1 (by rw [List.getElem?_eq_getElem hi, ei])]
      simp
theorem op_notInL {X : Cx} (hu : X.A.units + 8 < cLine) : OpR X (compareOp .NotIn) (rInL X.K true) := by
  intro pins s σ H x y v u Q I rx ry h
  obtain ⟨p, t, xs, w, ws, rfl, rfl, hp, hw, ht, q⟩ := h
  cases ry
  cases rx
  obtain ⟨its, e, h1, h2, h3⟩ := inL_core hu I hp hw ht
  refine SeqAt.notIn_listAt e h1 h2 ⟨.bl _, H, I, rfl, ?_⟩
  rw [h3]
  exact q
def rLIndexL (K : PySem.W.Frag) : V -> List V -> Hp -> VK -> Prop := fun x vs H Q => ∃ l xs t w ws, x = .ref l /\ vs = [.ref t] /\ H l = some (.lst xs) /\ WordsL K H xs ws /\ SqL K H t (w.map V.int) /\ w ∈ ws /\ xs.length < 1000000 /\ Q (.int (ws.idxOf w : Nat)) H
theorem r_lindexL {K : PySem.W.Frag} {x : V} {vs : List V} {H : Hp} {Q : VK} : rLIndexL K x vs H Q = ∃ l xs t w ws, x = .ref l /\ vs = [.ref t] /\ H l = some (.lst xs) /\ WordsL K H xs ws /\ SqL K H t (w.map V.int) /\ w ∈ ws /\ xs.length < 1000000 /\ Q (.int (ws.idxOf w : Nat)) H := rfl
theorem idxOf_le : ∀ {ws : List (List Int)} {m : Nat} {w : List Int}, ws[m]? = some w -> ws.idxOf w <= m
  | [], m, w, h => by simp at h
  | v :: ws, m, w, h => by
    rw [List.idxOf_cons]
    cases m with
    | zero =>
      have : v = w := by simpa using h
      simp [this]
    | succ m =>
      have := idxOf_le (ws := ws) (m := m) (w := w) (by simpa using h)
      cases e : (v == w) with
      | true => exact Nat.zero_le _
      | false => exact Nat.succ_le_succ this
theorem mt_lindexL {X : Cx} (hu : X.A.units + 8 < cLine) : MtM X "list.index" (rLIndexL X.K) := by
  intro pins s σ H x vs v us Q I rx rv h
  obtain ⟨l, xs, t, w, ws, rfl, rfl, hH, hw, ht, hmem, hlt, q⟩ := h
  cases rx
  obtain ⟨u, rfl, ry⟩ := vals1 rv
  cases ry
  obtain ⟨zz, its, n, r, hl, e⟩ := I.lstM hH
  let ev : Value -> Bool := fun y => @decide (∃ (i : Nat) (a : Addr), y = .ref a /\ xs[i]? = some (.ref a) /\ ws[i]? = some w) (Classical.propDecidable _)
  have ee : ∀ (i : Nat) (a : Addr) (v : List Int), xs[i]? = some (.ref a) -> ws[i]? = some v -> ev (.ref a) = decide (v = w) := fun i a v hx hv => by
    obtain ⟨a', a1, a2⟩ := hw.2 i v hv
    rw [hx] at a1
    cases a1
    rw [Bool.eq_iff_iff]
    show @decide _ (Classical.propDecidable _) = true ↔ _
    rw [@decide_eq_true_iff _ (Classical.propDecidable _), decide_eq_true_eq]
    constructor
    . rintro ⟨j, b, hb, hxj, hwj⟩
      cases hb
      obtain ⟨b', b1, b2⟩ := hw.2 j w hwj
      rw [hxj] at b1
      cases b1
      rw [a2] at b2
      have := Option.some.inj b2
      injection this with this
      exact (List.map_inj_right (fun x y z => V.int.inj z)).mp this
    . rintro rfl
      exact ⟨i, a, rfl, hx, hv⟩
  have hlen : xs.length = ws.length := hw.1
  have hrl : xs.length = its.length := r.length
  have get : ∀ (m : Nat) (hm : m < its.toArray.size), ∃ (a : Addr) (v : List Int), its.toArray[m] = .ref a /\ xs[m]? = some (.ref a) /\ ws[m]? = some v /\ H a = some (.lst (v.map V.int)) := fun m hm => by
    have hm' : m < xs.length := by rw [List.size_toArray] at hm; omega
    obtain ⟨a, v, e1, e2, e3⟩ := hw.at (i := m) (x := xs[m]) (by simp [hm'])
    have hx : xs[m]? = some (.ref a) := by rw [List.getElem?_eq_getElem hm', e2]
    obtain ⟨w', f1, f2⟩ := r.get hx
    have e4 : its.toArray[m] = w' := by
      have : its[m]? = some its.toArray[m] := by simp at hm; simp [hm]
      rw [f1] at this
      exact (Option.some.inj this).symm
    cases f2
    exact ⟨a, v, e4, hx, e1, e3⟩
  have hj : ws.idxOf w < ws.length := List.idxOf_lt_length_of_mem hmem
  have hjs : ws.idxOf w < its.toArray.size := by rw [List.size_toArray]; omega
  refine call_meets F.slot_list_index ⟨_, e, rfl⟩ F.entry_list_index (F.args_list_index_2 _ _) (SeqAt.list_indexAt l its.toArray n none #[] (.ref t) ev (ws.idxOf w) hjs (by omega) ?_ fun m hm hmj => ?_) ⟨e, fun y hy => ?_, ?_⟩
  . obtain ⟨a, v, e1, e2, e3, e4⟩ := get _ hjs
    rw [e1, ee _ a v e2 e3]
    have : ws[ws.idxOf w]? = some w := by rw [List.getElem?_eq_getElem hj, List.getElem_idxOf]
    rw [this] at e3
    cases e3
    simp
  . obtain ⟨a, v, e1, e2, e3, e4⟩ := get m hm
    rw [e1, ee _ a v e2 e3, decide_eq_false_iff_not]
    intro z
    have hm' : m < ws.length := by omega
    have : ws[m] = w := by rw [List.getElem?_eq_getElem hm'] at e3; rw [Option.some.inj e3]; exact z
    have h2 := idxOf_le (ws := ws) (m := m) (w := w) (by rw [List.getElem?_eq_getElem hm', this])
    omega
  . obtain ⟨m, hm, em⟩ := List.getElem_of_mem (show y ∈ its by simpa using hy)
    obtain ⟨a, v, e1, e2, e3, e4⟩ := get m (by rw [List.size_toArray]; exact hm)
    have : y = .ref a := by rw [<- em, <- e1]; simp
    rw [this, ee m a v e2 e3]
    exact (EqD.at (x := V.ref a) (y := V.ref t) I 2 _ (by rw [in1_units]; omega) rfl rfl (EqD.ints (xs := v) (ys := w) (.inl ⟨SqL.of e4, ht⟩) 1)).1
  . exact ⟨.int (ws.idxOf w : Nat), H, I.tok _, ⟨_, rfl⟩, q⟩
end L2
set_option Elab.async false
set_option linter.all false
set_option maxRecDepth 100000
set_option maxHeartbeats 4000000
namespace Mine
open PySem L2 GW GB
local macro_rules | `(tactic| walk_at "rd") => `(tactic| try simp only [↓r_seq, ↓r_next, ↓r_asg, ↓r_gname, ↓r_var, ↓r_c, ↓r_op, ↓r_un, ↓r_I, ↓r_I0, ↓r_U, ↓r_call, ↓r_cons, ↓r_nil, ↓r_ret, ↓r_drop, ↓r_if, ↓r_B, ↓r_test, ↓r_or, ↓r_not, ↓r_andV, ↓r_chain, ↓r_CB, ↓r_lst, ↓r_tup, ↓r_ixL, ↓r_ixT, ↓r_sl, ↓r_part, ↓r_nopart, ↓r_slL, ↓r_slT, ↓r_BM, ↓r_append, ↓r_gsub, ↓r_setL, ↓r_Ne, ↓r_eqD, ↓r_iList, ↓r_iTup, ↓r_iRng1, ↓r_true, ↓r_comp, ↓r_for, ↓r_raise, ↓r_neD, ↓r_gTup, ↓r_gCons, ↓r_gNil, ↓r_dget, ↓r_dput, ↓r_dget1, ↓r_iEnumL, ↓r_iDictT, ↓r_dnewT, ↓r_inW, r_inL, r_lindexL, ↓r_fld, ↓r_sFld, ↓r_meth, ↓r_make, ↓r_dget2, ↓r_iRng2, ↓r_slT2, r_cxK, L2.start, List.map_cons, List.map_nil, List.length_cons, List.length_nil, List.cons_append, List.nil_append, List.append_nil, List.replicate, List.getElem?_cons_zero, List.getElem?_cons_succ, List.set_cons_zero, List.set_cons_succ, Option.some.injEq, V.int.injEq, V.ref.injEq, V.bl.injEq, List.cons.injEq, and_true, true_and, and_assoc, exists_and_left, exists_eq_left', exists_eq_left, exists_eq_right, exists_eq, if_true, if_false, Bool.false_eq_true, decide_eq_true_eq, scal, Nat.reduceAdd, Nat.reduceSub, reduceCtorEq, Bool.not_true, Bool.not_false])
def top (i : Nat) : Stmt := PySem.Challenge.pw_guessroom_k37_the_guess.main.body.getD i (.Pass ⟨0, 0, 0, 0⟩)
abbrev s_rows_of : Stmt := top 13
theorem sc_rows_of : FnScope ["letters", "access", "rows", "word", "letter"] ["letters", "access"] (defScope s_rows_of) := ⟨rfl, rfl, rfl, by decide +kernel, rfl, by decide +kernel, by decide +kernel⟩
abbrev s_Book_told : Stmt := inClass (top 21) 3
theorem sc_Book_told : FnScope ["self", "word"] ["self", "word"] (defScope s_Book_told) := ⟨rfl, rfl, rfl, by decide +kernel, rfl, by decide +kernel, by decide +kernel⟩
abbrev s_marks_of : Stmt := top 14
theorem sc_marks_of : FnScope ["book", "word", "ends"] ["book", "word", "ends"] (defScope s_marks_of) := ⟨rfl, rfl, rfl, by decide +kernel, rfl, by decide +kernel, by decide +kernel⟩
abbrev s_marks_by_row : Stmt := top 15
theorem sc_marks_by_row : FnScope ["book", "letters", "access", "ends", "marks", "row"] ["book", "letters", "access", "ends"] (defScope s_marks_by_row) := ⟨rfl, rfl, rfl, by decide +kernel, rfl, by decide +kernel, by decide +kernel⟩
abbrev s_stranger : Stmt := top 16
theorem sc_stranger : FnScope ["book", "letters", "access", "ends", "marks", "known", "row"] ["book", "letters", "access", "ends"] (defScope s_stranger) := ⟨rfl, rfl, rfl, by decide +kernel, rfl, by decide +kernel, by decide +kernel⟩
abbrev s_ways_by_marks : Stmt := top 17
theorem sc_ways_by_marks : FnScope ["letters", "access", "marks", "rooms", "room", "word", "ways"] ["letters", "access", "marks"] (defScope s_ways_by_marks) := ⟨rfl, rfl, rfl, by decide +kernel, rfl, by decide +kernel, by decide +kernel⟩
abbrev s_guess_of : Stmt := top 18
theorem sc_guess_of : FnScope ["book", "letters", "access", "ends", "marks", "room_marks"] ["book", "letters", "access", "ends"] (defScope s_guess_of) := ⟨rfl, rfl, rfl, by decide +kernel, rfl, by decide +kernel, by decide +kernel⟩
abbrev s__law_cell_at : Stmt := top 23
theorem sc__law_cell_at : FnScope ["script", "k"] ["script", "k"] (defScope s__law_cell_at) := ⟨rfl, rfl, rfl, by decide +kernel, rfl, by decide +kernel, by decide +kernel⟩
abbrev s__law_house_by : Stmt := top 24
theorem sc__law_house_by : FnScope ["script", "head", "letters", "rooms", "pair", "some", "slots", "k", "cell", "marks", "ways", "room", "row"] ["script"] (defScope s__law_house_by) := ⟨rfl, rfl, rfl, by decide +kernel, rfl, by decide +kernel, by decide +kernel⟩
abbrev s__law_answer : Stmt := top 25
theorem sc__law_answer : FnScope ["house", "word", "room", "letter"] ["house", "word"] (defScope s__law_answer) := ⟨rfl, rfl, rfl, by decide +kernel, rfl, by decide +kernel, by decide +kernel⟩
abbrev s__law_line : Stmt := top 26
theorem sc__law_line : FnScope ["house", "word", "ends"] ["house", "word", "ends"] (defScope s__law_line) := ⟨rfl, rfl, rfl, by decide +kernel, rfl, by decide +kernel, by decide +kernel⟩
abbrev s__law_access_by : Stmt := top 27
theorem sc__law_access_by : FnScope ["house", "ends", "bit", "access", "turn", "lines", "found", "word", "letter"] ["house", "ends", "bit"] (defScope s__law_access_by) := ⟨rfl, rfl, rfl, by decide +kernel, rfl, by decide +kernel, by decide +kernel⟩
abbrev s__law_due : Stmt := top 28
theorem sc__law_due : FnScope ["house", "access", "ends", "lines", "ways", "word", "row", "letter"] ["house", "access", "ends"] (defScope s__law_due) := ⟨rfl, rfl, rfl, by decide +kernel, rfl, by decide +kernel, by decide +kernel⟩
abbrev s__law_numbers : Stmt := top 29
theorem sc__law_numbers : FnScope ["found", "size", "one"] ["found", "size"] (defScope s__law_numbers) := ⟨rfl, rfl, rfl, by decide +kernel, rfl, by decide +kernel, by decide +kernel⟩
abbrev s__law_kinds : Stmt := top 30
theorem sc__law_kinds : FnScope ["found", "rooms", "letters", "row"] ["found", "rooms", "letters"] (defScope s__law_kinds) := ⟨rfl, rfl, rfl, by decide +kernel, rfl, by decide +kernel, by decide +kernel⟩
abbrev s_Book_init : Stmt := inClass (top 21) 0
theorem sc_Book_init : FnScope ["self", "letters"] ["self", "letters"] (defScope s_Book_init) := ⟨rfl, rfl, rfl, by decide +kernel, rfl, by decide +kernel, by decide +kernel⟩
abbrev s_is_word : Stmt := top 7
theorem sc_is_word : FnScope ["letters", "word"] ["letters", "word"] (defScope s_is_word) := ⟨rfl, rfl, rfl, by decide +kernel, rfl, by decide +kernel, by decide +kernel⟩
abbrev s_check_word : Stmt := top 8
theorem sc_check_word : FnScope ["letters", "word"] ["letters", "word"] (defScope s_check_word) := ⟨rfl, rfl, rfl, by decide +kernel, rfl, by decide +kernel, by decide +kernel⟩
abbrev s_is_mark : Stmt := top 11
theorem sc_is_mark : FnScope ["number"] ["number"] (defScope s_is_mark) := ⟨rfl, rfl, rfl, by decide +kernel, rfl, by decide +kernel, by decide +kernel⟩
abbrev s_check_mark : Stmt := top 20
theorem sc_check_mark : FnScope ["mark"] ["mark"] (defScope s_check_mark) := ⟨rfl, rfl, rfl, by decide +kernel, rfl, by decide +kernel, by decide +kernel⟩
abbrev s_Book_check : Stmt := inClass (top 21) 1
theorem sc_Book_check : FnScope ["self", "word", "mark"] ["self", "word", "mark"] (defScope s_Book_check) := ⟨rfl, rfl, rfl, by decide +kernel, rfl, by decide +kernel, by decide +kernel⟩
abbrev s_Book_put : Stmt := inClass (top 21) 2
theorem sc_Book_put : FnScope ["self", "word", "mark"] ["self", "word", "mark"] (defScope s_Book_put) := ⟨rfl, rfl, rfl, by decide +kernel, rfl, by decide +kernel, by decide +kernel⟩
abbrev s__law_told : Stmt := top 31
theorem sc__law_told : FnScope ["house", "access", "ends", "more", "book", "size", "word", "letter", "row", "end"] ["house", "access", "ends", "more"] (defScope s__law_told) := ⟨rfl, rfl, rfl, by decide +kernel, rfl, by decide +kernel, by decide +kernel⟩
abbrev s_law : Stmt := top 32
theorem sc_law : FnScope ["script", "house", "head", "ends", "letter", "other", "access", "book", "handed", "found"] ["script"] (defScope s_law) := ⟨rfl, rfl, rfl, by decide +kernel, rfl, by decide +kernel, by decide +kernel⟩
def c_marks_of_0 : Caps := [("end", none), ("book", some 0), ("word", some 1)]
theorem nd_c_marks_of_0 : (Caps.names c_marks_of_0).Nodup := by decide +kernel
def c_stranger_0 : Caps := [("word", none), ("marks", some 4)]
theorem nd_c_stranger_0 : (Caps.names c_stranger_0).Nodup := by decide +kernel
def c_ways_by_marks_0 : Caps := [("letter", none), ("rooms", some 3), ("marks", some 2), ("word", some 5)]
theorem nd_c_ways_by_marks_0 : (Caps.names c_ways_by_marks_0).Nodup := by decide +kernel
def c_guess_of_0 : Caps := [("word", none), ("book", some 0)]
theorem nd_c_guess_of_0 : (Caps.names c_guess_of_0).Nodup := by decide +kernel
def c__law_house_by_0 : Caps := [("k", none)]
theorem nd_c__law_house_by_0 : (Caps.names c__law_house_by_0).Nodup := by decide +kernel
def c__law_house_by_1 : Caps := [("k", none), ("some", some 5), ("slots", some 6)]
theorem nd_c__law_house_by_1 : (Caps.names c__law_house_by_1).Nodup := by decide +kernel
def c__law_house_by_2 : Caps := [("slot", none), ("rooms", some 3)]
theorem nd_c__law_house_by_2 : (Caps.names c__law_house_by_2).Nodup := by decide +kernel
def c__law_line_0 : Caps := [("end", none), ("house", some 0), ("word", some 1)]
theorem nd_c__law_line_0 : (Caps.names c__law_line_0).Nodup := by decide +kernel
def c__law_access_by_0 : Caps := [("word", none), ("house", some 0), ("ends", some 1)]
theorem nd_c__law_access_by_0 : (Caps.names c__law_access_by_0).Nodup := by decide +kernel
def c__law_due_0 : Caps := [("word", none), ("house", some 0), ("ends", some 2)]
theorem nd_c__law_due_0 : (Caps.names c__law_due_0).Nodup := by decide +kernel
def c__law_due_1 : Caps := [("line", none)]
theorem nd_c__law_due_1 : (Caps.names c__law_due_1).Nodup := by decide +kernel
def c_is_word_0 : Caps := [("letter", none), ("letters", some 0)]
theorem nd_c_is_word_0 : (Caps.names c_is_word_0).Nodup := by decide +kernel
structure Txt (mg : Str -> Option Value) : Prop where
  all : mg "all" = none
  bool : mg "bool" = none
  enumerate : mg "enumerate" = none
  int : mg "int" = none
  isinstance : mg "isinstance" = none
  len : mg "len" = none
  list : mg "list" = none
  range : mg "range" = none
  tuple : mg "tuple" = none
structure Own (K : PySem.W.Frag) (mg : Str -> Option Value) (C_Book : Addr) : Prop where
  m_Book : mg "Book" = some (.ref C_Book)
  cl_Book : Cls K C_Book
  n_Book_letters : NoAttr K C_Book "letters"
  n_Book_marks : NoAttr K C_Book "marks"
  q_MOST_MARK : ∃ t, mg "MOST_MARK" = some (.int 1000000000 t)
structure Exs (K : PySem.W.Frag) (mg : Str -> Option Value) (C_AskError C_BadWord : Addr) : Prop where
  m_AskError : mg "AskError" = some (.ref C_AskError)
  m_BadWord : mg "BadWord" = some (.ref C_BadWord)
  x_BadWord : PySem.W.excIn K C_BadWord bmV "ValueError.__new__" = true
  c_BadWord : ExcCls K C_BadWord
  e_BadWord : PySem.W.exmOne K (.ref C_BadWord) (.ref C_AskError) = some true
  v_BadWord : PySem.W.kitOne K (.ref C_BadWord) (.type "ValueError") = some true
  k_BadWord_AskError : PySem.W.kitOne K (.ref C_BadWord) (.ref C_AskError) = some true
  k_BadWord_BadWord : PySem.W.kitOne K (.ref C_BadWord) (.ref C_BadWord) = some true
section
variable {P : Program} {w : World} {K : PySem.W.Frag} {mg : Str -> Option Value} {base : Heap}
variable {C_AskError C_BadWord C_Book : Addr}
def sp_is_word (K : PySem.W.Frag) : Sp := fun vs H Q _ => ∃ (L : Int) (a : Addr) (ws : List Int), vs = [.int L, .ref a] /\ SqT K H a (ws.map V.int) /\ ws.length <= 1000 /\ ∀ H', Same H H' -> Q (.bl (isW L ws)) H'
theorem ok_is_word {f : Addr} {fd : FuncData} (F : Fun K "is_word" "is_word" s_is_word f fd) (T : Txt mg)
    (W : Own K mg C_Book)
    (Z : Exs K mg C_AskError C_BadWord)
    : FnOk P w K mg base CX0 1 f fd ["letters", "word"] (sp_is_word K) := by
  refine F.ok sc_is_word (fun vs H Q E h => ?_) (fun cdv A outer s H vs Q E hr h => ?_)
  . obtain ⟨L, a, ws, rfl, _⟩ := h; rfl
  . obtain ⟨L, a, ws, rfl, hw, hz, k⟩ := h
    have hl := line1000
    refine ⟨_, (pss_one (ps_ret (pe_callB (call_all rfl) rfl T.all PyProof.Rows.boot_all (pa_cons (pe_comp rfl (blk_mk rfl) (cp := c_is_word_0) ⟨⟨rfl, rfl⟩, True.intro⟩ (pi_tup (pv 1)) (fun _ _ _ _ => (pg_name (i := 0) nd_c_is_word_0 rfl (Or.inl rfl))) (fun _ _ _ _ => pf_nil) (fun _ _ _ _ => (pe_chain op_le op_lt pe_int (pv 0) (pv 1)))) pa_nil)))), ?_⟩
    walk_at "rd"
    refine ⟨⟨_, hw⟩, compMapT (σ' := [some (.int L)]) (fun x => match x with | .int n => .bl (inW L n) | _ => .non) rfl hw (by rw [List.length_map]; omega) (fun x hx R hR => ?_) (fun D hD => ?_)⟩
    . obtain ⟨n, _, rfl⟩ := mem_mapI hx
      walk_at "rd"
      by_cases h0 : 0 <= n
      . simp only [h0, if_true]
        simpa [inW, h0] using hR
      . simp only [h0, if_false]
        simpa [inW, h0] using hR
    . refine ⟨D, rfl, ws.map (inW L), .inl (.inl ?_), ?_⟩
      . rw [upd_same, List.map_map, List.map_map]; rfl
      . have := k _ (Same.new hD (o := .lst ((ws.map V.int).map fun x => match x with | .int n => .bl (inW L n) | _ => .non)))
        simpa [isW, List.all_map] using this
def sp_check (K : PySem.W.Frag) (BW : Addr) : Sp := fun vs H Q E => ∃ (L : Int) (a : Addr) (ws : List Int), vs = [.int L, .ref a] /\ SqT K H a (ws.map V.int) /\ ws.length <= 1000 /\ (isW L ws = true -> ∀ H', Same H H' -> Q .non H') /\ (isW L ws = false -> ∀ H', Same H H' -> E (.ref BW) none H')
theorem ok_check_word {f : Addr} {fd : FuncData} (F : Fun K "check_word" "check_word" s_check_word f fd) (T : Txt mg)
    (W : Own K mg C_Book)
    (Z : Exs K mg C_AskError C_BadWord)
    {f_is_word : Addr} {fd_is_word : FuncData} (g_is_word : FnOk P w K mg base CX0 1 f_is_word fd_is_word ["letters", "word"] (sp_is_word K)) (F_is_word : Fun K "is_word" "is_word" s_is_word f_is_word fd_is_word) (b_is_word : Binds K fd_is_word ["letters", "word"] []) (m_is_word : mg "is_word" = some (.ref f_is_word))
    : FnOk P w K mg base (CXe P w) 2 f fd ["letters", "word"] (sp_check K C_BadWord) := by
  refine F.okE sc_check_word (fun vs H Q E h => ?_) (fun cdv A outer s H vs Q E hr h => ?_)
  . obtain ⟨L, a, ws, rfl, _⟩ := h; rfl
  . obtain ⟨L, a, ws, rfl, hw, hz, k, kE⟩ := h
    have hl := line1000
    refine ⟨_, (pss_one (ps_if (pt_not (pt_val (pe_call g_is_word (hr.mono (by decide)) rfl m_is_word F_is_word.kp b_is_word .nil pass0 (pa_cons (pv 0) (pa_cons (pv 1) pa_nil)))))
      (pss_one (ps_raise Z.m_BadWord Z.x_BadWord rfl rfl (pa_cons pe_str pa_nil)))
      pss_nil)), ?_⟩
    walk_at "rd"
    refine ⟨L, a, ws, rfl, hw, hz, fun H' s' => ?_⟩
    walk_at "rd"
    cases hv : isW L ws with
    | true =>
      simp only [Bool.not_true, Bool.false_eq_true, if_false]
      exact k hv H' s'
    | false =>
      simp only [Bool.not_false, if_true]
      exact ⟨by omega, kE hv H' s'⟩
def sp_is_mark : Sp := fun vs H Q _ => ∃ n : Int, vs = [.int n] /\ Q (.bl (decide (0 <= n) && decide (n <= 1000000000))) H
theorem ok_is_mark {f : Addr} {fd : FuncData} (F : Fun K "is_mark" "is_mark" s_is_mark f fd) (T : Txt mg)
    (W : Own K mg C_Book)
    (Z : Exs K mg C_AskError C_BadWord)
    : FnOk P w K mg base CX0 1 f fd ["number"] (sp_is_mark) := by
  refine F.ok sc_is_mark (fun vs H Q E h => ?_) (fun cdv A outer s H vs Q E hr h => ?_)
  . obtain ⟨n, rfl, _⟩ := h; rfl
  . obtain ⟨n, rfl, k⟩ := h
    refine ⟨_, (pss_one (ps_ret (pe_chain op_le op_le pe_int (pv 0) (pe_gc rfl W.q_MOST_MARK)))), ?_⟩
    walk_at "rd"
    by_cases h0 : 0 <= n
    . simp only [h0, if_true]
      simpa [h0] using k
    . simp only [h0, if_false]
      simpa [h0] using k
def sp_check_mark : Sp := fun vs H Q _ => ∃ n : Int, vs = [.int n] /\ 0 <= n /\ n <= 1000000000 /\ Q .non H
theorem ok_check_mark {f : Addr} {fd : FuncData} (F : Fun K "check_mark" "check_mark" s_check_mark f fd) (T : Txt mg)
    (W : Own K mg C_Book)
    (Z : Exs K mg C_AskError C_BadWord)
    {f_is_mark : Addr} {fd_is_mark : FuncData} (g_is_mark : FnOk P w K mg base CX0 1 f_is_mark fd_is_mark ["number"] (sp_is_mark)) (F_is_mark : Fun K "is_mark" "is_mark" s_is_mark f_is_mark fd_is_mark) (b_is_mark : Binds K fd_is_mark ["number"] []) (m_is_mark : mg "is_mark" = some (.ref f_is_mark))
    : FnOk P w K mg base CX0 2 f fd ["mark"] (sp_check_mark) := by
  refine F.ok sc_check_mark (fun vs H Q E h => ?_) (fun cdv A outer s H vs Q E hr h => ?_)
  . obtain ⟨n, rfl, _⟩ := h; rfl
  . obtain ⟨n, rfl, h0, h1, k⟩ := h
    refine ⟨_, (pss_one (ps_if (pt_not (pt_val (pe_call g_is_mark (hr.mono (by decide)) rfl m_is_mark F_is_mark.kp b_is_mark .nil pass0 (pa_cons (pv 0) pa_nil))))
      (pss_one ps_never)
      pss_nil)), ?_⟩
    walk_at "rd"
    refine ⟨n, rfl, ?_⟩
    walk_at "rd"
    simp only [h0, h1, decide_true, Bool.and_self, Bool.not_true, Bool.false_eq_true, if_false]
    exact k
def sp_book_init (C : Addr) : Sp := fun vs H Q _ => ∃ (p dx : Addr) (L : Int), vs = [.ref p, .int L] /\ H p = some (.ins C dx []) /\ ∀ (d : Addr) (H' : Hp), H d = none -> BookAt C H' p d L [] -> (∀ b o, H b = some o -> b ≠ p -> H' b = some o) -> Q .non H'
theorem ok_Book_init {f : Addr} {fd : FuncData} (F : Fun K "__init__" "Book.__init__" s_Book_init f fd) (T : Txt mg)
    (W : Own K mg C_Book)
    (Z : Exs K mg C_AskError C_BadWord)
    : FnOk P w K mg base CX0 1 f fd ["self", "letters"] (sp_book_init C_Book) := by
  refine F.ok sc_Book_init (fun vs H Q E h => ?_) (fun cdv A outer s H vs Q E hr h => ?_)
  . obtain ⟨p, dx, L, rfl, _⟩ := h; rfl
  . obtain ⟨p, dx, L, rfl, hp, k⟩ := h
    refine ⟨_, (pss_cons (ps_fld (pv 0) (pv 1) rfl)
      (pss_one (ps_fld (pv 0) pe_dnewT rfl))), ?_⟩
    walk_at "rd"
    refine ⟨_, _, _, hp, W.cl_Book, W.n_Book_letters, by decide, fun d hd => ?_⟩
    have hdp : d ≠ p := fun z => by rw [z, upd_same] at hd; cases hd
    rw [upd_ne hdp] at hd
    refine ⟨_, _, _, by rw [upd_ne (Ne.symm hdp)]; exact upd_same, W.cl_Book, W.n_Book_marks, by simp [putF], ?_⟩
    refine k d _ hd ⟨⟨_, upd_same⟩, by rw [upd_ne hdp]; exact upd_same, by simp⟩ fun b o hb hbp => ?_
    rw [upd_ne hbp, upd_ne (ne_of_none hb hd), upd_ne hbp]
    exact hb
def sp_book_check (C : Addr) : Sp := fun vs H Q _ => ∃ (p d t : Addr) (L m : Int) (w : List Int) (es : List (List Int × Int)), vs = [.ref p, .ref t, .int m] /\ BookAt C H p d L es /\ H t = some (.tup (w.map V.int)) /\ isW L w = true /\ w.length <= 600 /\ 0 <= m /\ m <= 1000000000 /\ ∀ H', Same H H' -> Q .non H'
theorem ok_Book_check {f : Addr} {fd : FuncData} (F : Fun K "check" "Book.check" s_Book_check f fd) (T : Txt mg)
    (W : Own K mg C_Book)
    (Z : Exs K mg C_AskError C_BadWord)
    {f_check_word : Addr} {fd_check_word : FuncData} (g_check_word : FnOk P w K mg base (CXe P w) 2 f_check_word fd_check_word ["letters", "word"] (sp_check K C_BadWord)) (F_check_word : Fun K "check_word" "check_word" s_check_word f_check_word fd_check_word) (b_check_word : Binds K fd_check_word ["letters", "word"] []) (m_check_word : mg "check_word" = some (.ref f_check_word))
    {f_check_mark : Addr} {fd_check_mark : FuncData} (g_check_mark : FnOk P w K mg base CX0 2 f_check_mark fd_check_mark ["mark"] (sp_check_mark)) (F_check_mark : Fun K "check_mark" "check_mark" s_check_mark f_check_mark fd_check_mark) (b_check_mark : Binds K fd_check_mark ["mark"] []) (m_check_mark : mg "check_mark" = some (.ref f_check_mark))
    : FnOk P w K mg base CX0 3 f fd ["self", "word", "mark"] (sp_book_check C_Book) := by
  refine F.ok sc_Book_check (fun vs H Q E h => ?_) (fun cdv A outer s H vs Q E hr h => ?_)
  . obtain ⟨p, d, t, L, m, wd, es, rfl, _⟩ := h; rfl
  . obtain ⟨p, d, t, L, m, wd, es, rfl, B, ht, hw, hwl, h0, h1, k⟩ := h
    have hln := line1000
    refine ⟨_, (pss_cons (ps_expr (pe_call g_check_word (hr.mono (by decide)) rfl m_check_word F_check_word.kp b_check_word .nil (passNev (P := P) (w := w)) (pa_cons (pe_fld (pv 0) rfl) (pa_cons (pv 1) pa_nil))))
      (pss_one (ps_expr (pe_call g_check_mark (hr.mono (by decide)) rfl m_check_mark F_check_mark.kp b_check_mark .nil pass0 (pa_cons (pv 2) pa_nil))))), ?_⟩
    obtain ⟨⟨dx, hp⟩, hd, nd⟩ := id B
    walk_at "rd"
    refine ⟨_, _, _, hp, W.cl_Book, W.n_Book_letters, _, bflds_letters _ _, ?_⟩
    refine ⟨L, t, wd, rfl, SqT.of ht, by omega, fun _ H1 s1 => ?_, fun z => by rw [hw] at z; cases z⟩
    walk_at "rd"
    exact ⟨m, rfl, h0, h1, k _ s1⟩
def putE (es : List (List Int × Int)) (v : List Int) (m : Int) : List (List Int × Int) := if v ∈ es.map (·.1) then es else es ++ [(v, m)]
theorem ents_again {es : List (List Int × Int)} {v : List Int} {m : Int} (nd : (es.map (·.1)).Nodup) (h : (v, m) ∈ es) : putK (ents es) (wkey v) (.int m) = ents es := by
  unfold putK
  rw [valV_any, ents_get nd h, if_pos (by simp)]
  unfold ents
  rw [List.map_map]
  refine List.map_congr_left fun e he => ?_
  show (if wkey e.1 = wkey v then (wkey e.1, V.int m) else (wkey e.1, V.int e.2)) = (wkey e.1, V.int e.2)
  split
  . rename_i z
    have e1 : e.1 = v := wkey_inj z
    have h1 := ents_get nd (show (e.1, e.2) ∈ es from he)
    rw [e1, ents_get nd h] at h1
    rw [Option.some.inj h1]
  . rfl
def sp_book_put37 (C : Addr) : Sp := fun vs H Q _ => ∃ (p d t : Addr) (L m : Int) (w : List Int) (es : List (List Int × Int)), vs = [.ref p, .ref t, .int m] /\ BookAt C H p d L es /\ H t = some (.tup (w.map V.int)) /\ isW L w = true /\ w.length <= 600 /\ 0 <= m /\ m <= 1000000000 /\ (∀ n, (w, n) ∈ es -> n = m) /\ es.length <= 100000 /\
  ∀ H', BookAt C H' p d L (putE es w m) -> (∀ b o, H b = some o -> b ≠ d -> H' b = some o) -> Q .non H'
theorem ok_Book_put {f : Addr} {fd : FuncData} (F : Fun K "put" "Book.put" s_Book_put f fd) (T : Txt mg)
    (W : Own K mg C_Book)
    (Z : Exs K mg C_AskError C_BadWord)
    {f_Book_check : Addr} {fd_Book_check : FuncData} (g_Book_check : FnOk P w K mg base CX0 3 f_Book_check fd_Book_check ["self", "word", "mark"] (sp_book_check C_Book)) (F_Book_check : Fun K "check" "Book.check" s_Book_check f_Book_check fd_Book_check) (b_Book_check : Binds K fd_Book_check ["self", "word", "mark"] []) (m_Book_check : Meth K C_Book "check" f_Book_check)
    : FnOk P w K mg base CX0 4 f fd ["self", "word", "mark"] (sp_book_put37 C_Book) := by
  refine F.ok sc_Book_put (fun vs H Q E h => ?_) (fun cdv A outer s H vs Q E hr h => ?_)
  . obtain ⟨p, d, t, L, m, wd, es, rfl, _⟩ := h; rfl
  . obtain ⟨p, d, t, L, m, wd, es, rfl, B, ht, hw, hwl, h0, h1, hsame, hl, k⟩ := h
    have hln := line1000
    refine ⟨_, (pss_cons (ps_expr (pe_meth (pv 0) W.cl_Book m_Book_check g_Book_check (hr.mono (by decide)) b_Book_check .nil pass0 (pa_cons (pv 1) (pa_cons (pv 2) pa_nil))))
      (pss_cons (ps_if (pt_cmpR op_ne (pe_dget2 (hu_of hr) (pe_fld (pv 0) rfl) (pv 1) (pv 2) ⟨by rfl, by rfl, by rfl, by rfl⟩) (pv 2) (nomark _))
      (pss_one ps_never)
      pss_nil)
      (pss_one (ps_dput (hu_of hr) (pe_fld (pv 0) rfl) (pv 1) (pv 2) rfl)))), ?_⟩
    obtain ⟨⟨dx, hp⟩, hd, nd⟩ := id B
    walk_at "rd"
    refine ⟨_, _, hp, bflds_no _ _ (by decide +kernel) (by decide +kernel), p, d, t, L, m, wd, es, rfl, B, ht, hw, hwl, h0, h1, fun H1 s1 => ?_⟩
    have hp1 := s1 _ _ hp
    have hd1 := s1 _ _ hd
    have ht1 : H1 t = some (.tup ((wkey wd).map kV)) := by rw [wkey_kV]; exact s1 _ _ ht
    have hel : (ents es).length = es.length := by unfold ents; rw [List.length_map]
    have hpd : p ≠ d := fun z => by rw [z, hd1] at hp1; cases hp1
    have hg := DGet.t hd1 ht1
    walk_at "rd"
    by_cases hn : wd ∈ es.map (·.1)
    . obtain ⟨e, he, rfl⟩ := List.mem_map.mp hn
      have hm : e.2 = m := hsame e.2 he
      rw [ents_get nd (show (e.1, e.2) ∈ es from he)] at hg
      refine ⟨_, _, _, hp1, W.cl_Book, W.n_Book_marks, _, bflds_marks _ _, d, rfl, .inr ⟨_, .inl hd1⟩, _, hg, rfl, ?_⟩
      rw [if_neg (by simp [hm])]
      refine ⟨_, _, _, hp1, W.cl_Book, W.n_Book_marks, _, bflds_marks _ _, d, rfl, _, DPut.t hd1 ht1 (by omega), ?_⟩
      rw [ents_again nd (show (e.1, m) ∈ es from hm ▸ he)]
      exact k _ ⟨⟨dx, by rw [upd_ne hpd]; exact hp1⟩, by unfold putE; rw [if_pos hn]; exact upd_same, by unfold putE; rw [if_pos hn]; exact nd⟩ fun b o hb hbd => by rw [upd_ne hbd]; exact s1 _ _ hb
    . rw [ents_none hn] at hg
      refine ⟨_, _, _, hp1, W.cl_Book, W.n_Book_marks, _, bflds_marks _ _, d, rfl, .inr ⟨_, .inl hd1⟩, none, hg, rfl, ?_⟩
      rw [if_neg (by simp)]
      refine ⟨_, _, _, hp1, W.cl_Book, W.n_Book_marks, _, bflds_marks _ _, d, rfl, _, DPut.t hd1 ht1 (by omega), ?_⟩
      rw [ents_put hn]
      refine k _ ⟨⟨dx, by rw [upd_ne hpd]; exact hp1⟩, by unfold putE; rw [if_neg hn]; exact upd_same, ?_⟩ fun b o hb hbd => by rw [upd_ne hbd]; exact s1 _ _ hb
      unfold putE
      rw [if_neg hn, List.map_append, List.nodup_append]
      refine ⟨nd, by simp, fun a ha b hb z => ?_⟩
      rw [List.map_singleton, List.mem_singleton] at hb
      exact hn (by have e : a = wd := z.trans hb; rw [<- e]; exact ha)
def sp_book_told (C : Addr) : Sp := fun vs H Q _ => ∃ (p d t : Addr) (L : Int) (w : List Int) (es : List (List Int × Int)), vs = [.ref p, .ref t] /\ BookAt C H p d L es /\ H t = some (.tup (w.map V.int)) /\ (w ∉ es.map (·.1) -> Q .non H) /\ ∀ m, (w, m) ∈ es -> Q (.int m) H
theorem ok_Book_told {f : Addr} {fd : FuncData} (F : Fun K "told" "Book.told" s_Book_told f fd) (T : Txt mg)
    (W : Own K mg C_Book)
    (Z : Exs K mg C_AskError C_BadWord)
    : FnOk P w K mg base CX0 1 f fd ["self", "word"] (sp_book_told C_Book) := by
  refine F.ok sc_Book_told (fun vs H Q E h => ?_) (fun cdv A outer s H vs Q E hr h => ?_)
  . obtain ⟨p, d, t, L, wd, es, rfl, _⟩ := h; rfl
  . obtain ⟨p, d, t, L, wd, es, rfl, B, ht, kn, ks⟩ := h
    refine ⟨_, (pss_one (ps_ret (pe_dget1 (hu_of hr) (pe_fld (pv 0) rfl) (pv 1) ⟨by rfl, by rfl, by rfl, by rfl⟩))), ?_⟩
    obtain ⟨⟨dx, hp⟩, hd, nd⟩ := id B
    have ht1 : H t = some (.tup ((wkey wd).map kV)) := by rw [wkey_kV]; exact ht
    walk_at "rd"
    refine ⟨_, _, _, hp, W.cl_Book, W.n_Book_marks, _, bflds_marks _ _, d, rfl, .inr ⟨_, .inl hd⟩, _, DGet.t hd ht1, ?_⟩
    by_cases hm : wd ∈ es.map (·.1)
    . obtain ⟨e, he, rfl⟩ := List.mem_map.mp hm
      rw [ents_get nd (show (e.1, e.2) ∈ es from he)]
      exact ks e.2 he
    . rw [ents_none hm]
      exact kn hm
def sp_rowsof (K : PySem.W.Frag) : Sp := fun vs H Q _ => ∃ (L : Nat) (a : Addr) (xs : List V) (acc : List (List Int)), vs = [.int L, .ref a] /\ L <= 6 /\ SqL K H a xs /\ WordsT K H xs acc /\ acc.length <= 100 /\ (∀ w ∈ acc, w.length <= 100) /\ ∀ l rs H', Same H H' -> H l = none -> H' l = some (.lst rs) -> WordsT K H' rs (rowsW L acc) -> Q (.ref l) H'
theorem ok_rows_of {f : Addr} {fd : FuncData} (F : Fun K "rows_of" "rows_of" s_rows_of f fd) (T : Txt mg)
    (W : Own K mg C_Book)
    (Z : Exs K mg C_AskError C_BadWord)
    : FnOk P w K mg base CX0 1 f fd ["letters", "access"] (sp_rowsof K) := by
  refine F.ok sc_rows_of (fun vs H Q E h => ?_) (fun cdv A outer s H vs Q E hr h => ?_)
  . obtain ⟨L, a, xs, acc, rfl, _⟩ := h; rfl
  . obtain ⟨L, a, xs, acc, rfl, hL, ha, hw, hal, hwl, k⟩ := h
    have hl := line1000
    refine ⟨_, (pss_cons (ps_set (i := 2) sc_rows_of.nd rfl (Or.inl rfl) pe_dnewT)
      (pss_cons (ps_for PassesOwn.never rfl (pi_list (pv 1)) (pg_name (i := 3) sc_rows_of.nd rfl (Or.inl rfl))
      (pss_one (ps_dput (hu_of hr) (pv 2) (pv 3) pe_bl rfl)))
      (pss_cons (ps_for PassesOwn.never rfl (pi_list (pv 1)) (pg_name (i := 3) sc_rows_of.nd rfl (Or.inl rfl))
      (pss_one (ps_for PassesOwn.never rfl (pi_range1 rfl T.range (pa_cons (pv 0) pa_nil)) (pg_name (i := 4) sc_rows_of.nd rfl (Or.inl rfl))
      (pss_one (ps_dput (hu_of hr) (pv 2) (pe_op op_catT2 (pv 3) (pe_tup (pa_cons (pv 4) pa_nil))) pe_bl rfl)))))
      (pss_one (ps_ret (pe_callTy (call_list_dictT rfl) rfl T.list PyProof.Rows.boot_list (pa_cons (pv 2) pa_nil))))))), ?_⟩
    walk_at "rd"
    intro p hp
    have sp := Same.new (o := .dT []) hp
    refine ⟨⟨_, sp.seq ha⟩, ?_⟩
    obtain ⟨Pv, hPv⟩ : ∃ Pv : Nat -> St -> Hp -> Prop, ∀ i σ' H', Pv i σ' H' ↔ (∃ (kvs : List (List Key × V)) (o : Option V), Same H H' /\ H' p = some (.dT kvs) /\ KeysW ((acc.take i).foldl ins []) kvs /\ σ' = [some (.int L), some (.ref a), some (.ref p), o, none]) := ⟨_, fun _ _ _ => Iff.rfl⟩
    refine forL (xs := xs) Pv ((hPv _ _ _).mpr ⟨[], none, sp, upd_same, by rw [List.take_zero]; exact KeysW.nil, rfl⟩) (fun i σ' H' _ h' => by obtain ⟨_, _, s', _⟩ := (hPv _ _ _).mp h'; exact s'.seq ha) (fun i x σ' H' hx h' => ?_) (fun σ' H' h' => ?_)
    . obtain ⟨kvs, o, s', hd, hk, rfl⟩ := (hPv _ _ _).mp h'
      obtain ⟨t, w, hwi, rfl, ht⟩ := hw.at hx
      have hlen : kvs.length <= 100 := by
        have := insAll_len (acc.take i) []
        rw [hk.len]; simp at this ⊢; omega
      walk_at "rd"
      refine ⟨_, DPut.t (k := wkey w) hd (by rw [wkey_kV]; exact s' _ _ ht) (by omega), (hPv _ _ _).mpr ⟨_, _, s'.over hp, upd_same, ?_, rfl⟩⟩
      rw [List.take_add_one, hwi, Option.toList_some, List.foldl_append]
      exact hk.put w _
    . obtain ⟨kvs, o, s', hd, hk, rfl⟩ := (hPv _ _ _).mp h'
      rw [hw.1, List.take_length] at hk
      walk_at "rd"
      refine ⟨⟨_, s'.seq ha⟩, ?_⟩
      obtain ⟨Pw, hPw⟩ : ∃ Pv : Nat -> St -> Hp -> Prop, ∀ i σ' H', Pv i σ' H' ↔ (∃ (kvs : List (List Key × V)) (o o' : Option V), Same H H' /\ H' p = some (.dT kvs) /\ KeysW (((acc.take i).flatMap (extW L)).foldl ins (acc.foldl ins [])) kvs /\ σ' = [some (.int L), some (.ref a), some (.ref p), o, o']) := ⟨_, fun _ _ _ => Iff.rfl⟩
      refine forL (xs := xs) Pw ((hPw _ _ _).mpr ⟨kvs, _, _, s', hd, by rw [List.take_zero]; exact hk, rfl⟩) (fun i σ' H' _ h' => by obtain ⟨_, _, _, s', _⟩ := (hPw _ _ _).mp h'; exact s'.seq ha) (fun i x σ2 H2 hx h2 => ?_) (fun σ2 H2 h2 => ?_)
      . obtain ⟨kvs, o, o', s2, hd, hk, rfl⟩ := (hPw _ _ _).mp h2
        obtain ⟨t, w, hwi, rfl, ht⟩ := hw.at hx
        have hwlen := hwl w (List.mem_of_getElem? hwi)
        have ht2 := s2 _ _ ht
        walk_at "rd"
        refine ⟨by omega, by omega, ?_⟩
        rw [Int.toNat_natCast]
        obtain ⟨Py, hPy⟩ : ∃ Pv : Nat -> St -> Hp -> Prop, ∀ j σ' H', Pv j σ' H' ↔ (∃ (kvs : List (List Key × V)) (o' : Option V), Same H H' /\ H' p = some (.dT kvs) /\ KeysW (((List.range j).map fun x : Nat => w ++ [(x : Int)]).foldl ins (((acc.take i).flatMap (extW L)).foldl ins (acc.foldl ins []))) kvs /\ σ' = [some (.int L), some (.ref a), some (.ref p), some (.ref t), o']) := ⟨_, fun _ _ _ => Iff.rfl⟩
        refine forR Py ((hPy _ _ _).mpr ⟨kvs, _, s2, hd, hk, rfl⟩) (fun j σ3 H3 hj h3 => ?_) (fun σ3 H3 h3 => ?_)
        . obtain ⟨kvs, o', s3, hd, hk, rfl⟩ := (hPy _ _ _).mp h3
          have ej : (0 : Int) + (j : Nat) = (j : Int) := by omega
          rw [ej]
          have ht3 := s3 _ _ ht
          have hlen : kvs.length <= 10000 := by
            have h1 := insAll_len ((List.range j).map fun x : Nat => w ++ [(x : Int)]) (((acc.take i).flatMap (extW L)).foldl ins (acc.foldl ins []))
            have h2 := insAll_len ((acc.take i).flatMap (extW L)) (acc.foldl ins [])
            have h3 := insAll_len acc []
            have h4 : ((acc.take i).flatMap (extW L)).length <= 600 := by
              rw [List.length_flatMap]
              have : (acc.take i).map (fun a => (extW L a).length) = (acc.take i).map (fun _ => L) := List.map_congr_left fun a _ => by simp [extW]
              rw [this, List.map_const', List.sum_replicate_nat]
              have : (acc.take i).length <= 100 := by rw [List.length_take]; omega
              exact Nat.le_trans (Nat.mul_le_mul this hL) (by omega)
            rw [hk.len]
            simp at h1 h3
            omega
          walk_at "rd"
          refine ⟨by omega, fun p1 hp1 => ?_⟩
          refine rCatT2.ofS (Same.new hp1 _ _ ht3) upd_same (by simp; omega) fun q H4 s4 hq => ?_
          have s34 := (Same.new (o := .tup [V.int (j : Int)]) hp1).trans s4
          have hq' : H4 q = some (.tup ((wkey (w ++ [(j : Int)])).map kV)) := by rw [wkey_kV, hq]; simp
          refine ⟨_, DPut.t (k := wkey (w ++ [(j : Int)])) (s34 _ _ hd) hq' (by omega), (hPy _ _ _).mpr ⟨_, _, (s3.trans s34).over hp, upd_same, ?_, rfl⟩⟩
          rw [List.range_succ, List.map_append, List.foldl_append]
          exact hk.put _ _
        . obtain ⟨kvs, o', s3, hd, hk, rfl⟩ := (hPy _ _ _).mp h3
          refine (hPw _ _ _).mpr ⟨kvs, _, _, s3, hd, ?_, rfl⟩
          rw [List.take_add_one, hwi, Option.toList_some, List.flatMap_append, List.foldl_append]
          simpa [extW] using hk
      . obtain ⟨kvs, o, o', s2, hd, hk, rfl⟩ := (hPw _ _ _).mp h2
        rw [hw.1, List.take_length] at hk
        walk_at "rd"
        refine ⟨kvs, .inl hd, fun l rs hln hrl hrs => ?_⟩
        exact k l rs _ (s2.newT hln) (Same.none s2 hln) upd_same ((hk.words (K := K) hrl hrs).mono (TK.new hln))
def mkO (es : List (List Int × Int)) (w : List Int) : Option Int := (es.find? fun e => decide (e.1 = w)).map (·.2)
def oV : Option Int -> V
  | some m => .int m
  | none => .non
theorem mkO_some : ∀ {es : List (List Int × Int)} {w : List Int} {m : Int}, (es.map (·.1)).Nodup -> (w, m) ∈ es -> mkO es w = some m
  | [], _, _, _, h => by cases h
  | e :: es, w, m, nd, h => by
    rw [List.map_cons, List.nodup_cons] at nd
    unfold mkO
    rw [List.find?_cons]
    rcases List.mem_cons.mp h with h | h
    . subst h
      simp
    . have hne : e.1 ≠ w := fun z => nd.1 (by rw [z]; exact List.mem_map_of_mem (f := (·.1)) h)
      rw [decide_eq_false hne]
      exact mkO_some nd.2 h
theorem mkO_none {es : List (List Int × Int)} {w : List Int} (h : w ∉ es.map (·.1)) : mkO es w = none := by
  unfold mkO
  rw [List.find?_eq_none.mpr fun e he z => h (by have := of_decide_eq_true z; rw [<- this]; exact List.mem_map_of_mem (f := (·.1)) he)]
  rfl
def sp_marksof (K : PySem.W.Frag) (C : Addr) : Sp := fun vs H Q _ => ∃ (p d t a : Addr) (L : Int) (w : List Int) (es : List (List Int × Int)) (xs : List V) (ends : List (List Int)), vs = [.ref p, .ref t, .ref a] /\ BookAt C H p d L es /\ H t = some (.tup (w.map V.int)) /\ w.length <= 100 /\ SqL K H a xs /\ WordsT K H xs ends /\ ends.length <= 100 /\ (∀ e ∈ ends, e.length <= 100) /\ ∀ l H', Same H H' -> H' l = some (.lst (ends.map fun e => oV (mkO es (w ++ e)))) -> Q (.ref l) H'
theorem ok_marks_of {f : Addr} {fd : FuncData} (F : Fun K "marks_of" "marks_of" s_marks_of f fd) (T : Txt mg)
    (W : Own K mg C_Book)
    (Z : Exs K mg C_AskError C_BadWord)
    {f_Book_told : Addr} {fd_Book_told : FuncData} (g_Book_told : FnOk P w K mg base CX0 1 f_Book_told fd_Book_told ["self", "word"] (sp_book_told C_Book)) (F_Book_told : Fun K "told" "Book.told" s_Book_told f_Book_told fd_Book_told) (b_Book_told : Binds K fd_Book_told ["self", "word"] []) (m_Book_told : Meth K C_Book "told" f_Book_told)
    : FnOk P w K mg base CX0 2 f fd ["book", "word", "ends"] (sp_marksof K C_Book) := by
  refine F.ok sc_marks_of (fun vs H Q E h => ?_) (fun cdv A outer s H vs Q E hr h => ?_)
  . obtain ⟨p, d, t, a, L, wd, es, xs, ends, rfl, _⟩ := h; rfl
  . obtain ⟨p, d, t, a, L, wd, es, xs, ends, rfl, B, ht, hwl, ha, hE, hel, hew, k⟩ := h
    have hl := line1000
    refine ⟨_, (pss_one (ps_ret (pe_comp rfl (blk_mk rfl) (cp := c_marks_of_0) ⟨⟨rfl, rfl⟩, ⟨⟨rfl, rfl⟩, True.intro⟩⟩ (pi_list (pv 2)) (fun _ _ _ _ => (pg_name (i := 0) nd_c_marks_of_0 rfl (Or.inl rfl))) (fun _ _ _ _ => pf_nil) (fun _ _ _ _ => (pe_meth (pv 1) W.cl_Book m_Book_told g_Book_told (hr.mono (by decide)) b_Book_told .nil pass0 (pa_cons (pe_op (op_catT2K (K := K) rfl) (pv 2) (pv 0)) pa_nil)))))), ?_⟩
    walk_at "rd"
    obtain ⟨⟨dx, hp⟩, hd, nd⟩ := id B
    refine ⟨⟨_, ha⟩, compL (xs := xs) (fun i ys σ' H' => Same H H' /\ ys = (ends.take i).map (fun e => oV (mkO es (wd ++ e))) /\ ∃ o, σ' = [o, some (.ref p), some (.ref t)]) ⟨Same.refl _, rfl, none, rfl⟩ (by rw [hE.1]; omega) (fun i ys σ' H' hi h' => ⟨h'.1.seq ha, by rw [h'.2.1, List.length_map, List.length_take]; omega⟩) (fun i x ys σ' H' hx h' => ?_) (fun ys σ' H' h' D hD => ?_)⟩
    . obtain ⟨s1, rfl, o, rfl⟩ := h'
      obtain ⟨te, e, hei, rfl, hte⟩ := hE.at hx
      have hel' := hew e (List.mem_of_getElem? hei)
      have et : ends.take (i + 1) = ends.take i ++ [e] := by rw [List.take_add_one, hei]; rfl
      walk_at "rd"
      refine ⟨_, _, s1 _ _ hp, bflds_no _ _ (by decide +kernel) (by decide +kernel), rCatT2.ofS (s1 _ _ ht) (s1 _ _ hte) (by simp; omega) fun q H2 s2 hq => ?_⟩
      have s12 := s1.trans s2
      refine ⟨p, d, q, L, wd ++ e, es, rfl, B.mono s12, by rw [List.map_append]; exact hq, fun hm => ⟨s12, ?_, _, rfl⟩, fun m hm => ⟨s12, ?_, _, rfl⟩⟩
      . rw [et, List.map_append, List.map_singleton, mkO_none hm]; rfl
      . rw [et, List.map_append, List.map_singleton, mkO_some nd hm]; rfl
    . obtain ⟨s1, rfl, o, rfl⟩ := h'
      rw [hE.1, List.take_length]
      exact k D _ (s1.newT hD) upd_same
def MarksD (H : Hp) (f : List Int -> List V) (ks : List (List Int)) (kvs : List (List Key × V)) : Prop := kvs.length = ks.length /\ ∀ (i : Nat) (w : List Int), ks[i]? = some w -> ∃ t, kvs[i]? = some (wkey w, .ref t) /\ H t = some (.tup (f w))
theorem MarksD.nil {H : Hp} {f : List Int -> List V} : MarksD H f [] [] := ⟨rfl, fun i w h => by simp at h⟩
theorem MarksD.mono {H H' : Hp} {f : List Int -> List V} {ks : List (List Int)} {kvs : List (List Key × V)} (h : MarksD H f ks kvs) (s : ∀ t ys, H t = some (.tup ys) -> H' t = some (.tup ys)) : MarksD H' f ks kvs := ⟨h.1, fun i w hi => by
  obtain ⟨t, a, b⟩ := h.2 i w hi
  exact ⟨t, a, s _ _ b⟩⟩
theorem MarksD.snoc {H : Hp} {f : List Int -> List V} {ks : List (List Int)} {kvs : List (List Key × V)} {w : List Int} {t : Addr} (h : MarksD H f ks kvs) (ht : H t = some (.tup (f w))) : MarksD H f (ks ++ [w]) (kvs ++ [(wkey w, .ref t)]) := by
  refine ⟨by simp [h.1], fun i r hi => ?_⟩
  by_cases hl : i < ks.length
  . rw [List.getElem?_append_left hl] at hi
    rw [List.getElem?_append_left (by rw [h.1]; exact hl)]
    exact h.2 i r hi
  . have := (List.getElem?_eq_some_iff.mp hi).1
    rw [List.length_append, List.length_singleton] at this
    have e : i = ks.length := by omega
    subst e
    rw [List.getElem?_append_right (Nat.le_refl _), Nat.sub_self] at hi
    simp at hi
    subst hi
    exact ⟨t, by rw [<- h.1]; simp, ht⟩
theorem MarksD.keys {H : Hp} {f : List Int -> List V} {ks : List (List Int)} {kvs : List (List Key × V)} (h : MarksD H f ks kvs) : KeysW ks kvs := by
  refine List.ext_getElem? fun i => ?_
  rw [List.getElem?_map, List.getElem?_map]
  cases e : ks[i]? with
  | none =>
    have : kvs[i]? = none := List.getElem?_eq_none (by rw [h.1]; exact List.getElem?_eq_none_iff.mp e)
    rw [this]; rfl
  | some w =>
    obtain ⟨t, a, _⟩ := h.2 i w e
    rw [a]; rfl
theorem ins_nodup {s : List (List Int)} {w : List Int} (h : s.Nodup) : (ins s w).Nodup := by
  unfold ins
  split
  . exact h
  . rename_i hw
    rw [List.nodup_append]
    refine ⟨h, by simp, fun a ha b hb z => ?_⟩
    rw [List.mem_singleton.mp hb] at z
    exact hw (z ▸ ha)
theorem insAll_nodup : ∀ {l s : List (List Int)}, s.Nodup -> (l.foldl ins s).Nodup
  | [], _, h => h
  | w :: l, s, h => by rw [List.foldl_cons]; exact insAll_nodup (ins_nodup h)
theorem rowsW_nodup (n : Nat) (acc : List (List Int)) : (rowsW n acc).Nodup := insAll_nodup (insAll_nodup List.nodup_nil)
theorem ext_len (n : Nat) : ∀ (acc : List (List Int)), (acc.flatMap (extW n)).length <= acc.length * n
  | [] => by simp
  | w :: acc => by
    rw [List.flatMap_cons, List.length_append, List.length_cons, Nat.succ_mul]
    have h1 := ext_len n acc
    have h2 : (extW n w).length = n := by unfold extW; simp
    omega
theorem rowsW_len (n : Nat) (acc : List (List Int)) : (rowsW n acc).length <= acc.length + acc.length * n := by
  unfold rowsW
  have h1 := insAll_len (acc.flatMap (extW n)) (acc.foldl ins [])
  have h2 := insAll_len acc []
  have h3 := ext_len n acc
  simp at h2
  omega
theorem ins_wlen {s : List (List Int)} {w : List Int} {m : Nat} (h : ∀ v ∈ s, v.length <= m) (hw : w.length <= m) : ∀ v ∈ ins s w, v.length <= m := fun v hv => by
  unfold ins at hv
  split at hv
  . exact h v hv
  . rcases List.mem_append.mp hv with hv | hv
    . exact h v hv
    . rw [List.mem_singleton.mp hv]; exact hw
theorem insAll_wlen {m : Nat} : ∀ {l s : List (List Int)}, (∀ v ∈ s, v.length <= m) -> (∀ v ∈ l, v.length <= m) -> ∀ v ∈ l.foldl ins s, v.length <= m
  | [], _, h, _ => h
  | w :: l, s, h, hl => by rw [List.foldl_cons]; exact insAll_wlen (ins_wlen h (hl w (by simp))) (fun v hv => hl v (by simp [hv]))
theorem rowsW_wlen {n m : Nat} {acc : List (List Int)} (h : ∀ w ∈ acc, w.length <= m) : ∀ w ∈ rowsW n acc, w.length <= m + 1 := by
  unfold rowsW
  refine insAll_wlen (insAll_wlen (by simp) fun v hv => by have := h v hv; omega) fun v hv => ?_
  obtain ⟨u, hu, hv⟩ := List.mem_flatMap.mp hv
  unfold extW at hv
  obtain ⟨x, _, rfl⟩ := List.mem_map.mp hv
  have := h u hu
  rw [List.length_append, List.length_singleton]
  omega
def sp_mbr (K : PySem.W.Frag) (C : Addr) : Sp := fun vs H Q _ => ∃ (p d a b : Addr) (L : Int) (N : Nat) (es : List (List Int × Int)) (xs ys : List V) (acc ends : List (List Int)), vs = [.ref p, .int N, .ref a, .ref b] /\ BookAt C H p d L es /\ N <= 6 /\ SqL K H a xs /\ WordsT K H xs acc /\ acc.length <= 64 /\ (∀ w ∈ acc, w.length <= 64) /\ SqL K H b ys /\ WordsT K H ys ends /\ ends.length <= 50 /\ (∀ e ∈ ends, e.length <= 50) /\ ∀ l kvs H', Same H H' -> H l = none -> H' l = some (.dT kvs) -> MarksD H' (fun w => ends.map fun e => oV (mkO es (w ++ e))) (rowsW N acc) kvs -> Q (.ref l) H'
theorem ok_marks_by_row {f : Addr} {fd : FuncData} (F : Fun K "marks_by_row" "marks_by_row" s_marks_by_row f fd) (T : Txt mg)
    (W : Own K mg C_Book)
    (Z : Exs K mg C_AskError C_BadWord)
    {f_rows_of : Addr} {fd_rows_of : FuncData} (g_rows_of : FnOk P w K mg base CX0 1 f_rows_of fd_rows_of ["letters", "access"] (sp_rowsof K)) (F_rows_of : Fun K "rows_of" "rows_of" s_rows_of f_rows_of fd_rows_of) (b_rows_of : Binds K fd_rows_of ["letters", "access"] []) (m_rows_of : mg "rows_of" = some (.ref f_rows_of))
    {f_marks_of : Addr} {fd_marks_of : FuncData} (g_marks_of : FnOk P w K mg base CX0 2 f_marks_of fd_marks_of ["book", "word", "ends"] (sp_marksof K C_Book)) (F_marks_of : Fun K "marks_of" "marks_of" s_marks_of f_marks_of fd_marks_of) (b_marks_of : Binds K fd_marks_of ["book", "word", "ends"] []) (m_marks_of : mg "marks_of" = some (.ref f_marks_of))
    : FnOk P w K mg base CX0 3 f fd ["book", "letters", "access", "ends"] (sp_mbr K C_Book) := by
  refine F.ok sc_marks_by_row (fun vs H Q E h => ?_) (fun cdv A outer s H vs Q E hr h => ?_)
  . obtain ⟨p, d, a, b, L, N, es, xs, ys, acc, ends, rfl, _⟩ := h; rfl
  . obtain ⟨p, d, a, b, L, N, es, xs, ys, acc, ends, rfl, B, hN, ha, hA, hal, haw, hb, hE, hel, hew, k⟩ := h
    have hl := line1000
    refine ⟨_, (pss_cons (ps_set (i := 4) sc_marks_by_row.nd rfl (Or.inl rfl) pe_dnewT)
      (pss_cons (ps_for PassesOwn.never rfl (pi_list (pe_call g_rows_of (hr.mono (by decide)) rfl m_rows_of F_rows_of.kp b_rows_of .nil pass0 (pa_cons (pv 1) (pa_cons (pv 2) pa_nil)))) (pg_name (i := 5) sc_marks_by_row.nd rfl (Or.inl rfl))
      (pss_one (ps_dput (hu_of hr) (pv 4) (pv 5) (pe_callTy call_tuple_of rfl T.tuple PyProof.Rows.boot_tuple (pa_cons (pe_call g_marks_of (hr.mono (by decide)) rfl m_marks_of F_marks_of.kp b_marks_of .nil pass0 (pa_cons (pv 0) (pa_cons (pv 5) (pa_cons (pv 3) pa_nil)))) pa_nil)) rfl)))
      (pss_one (ps_ret (pv 4))))), ?_⟩
    walk_at "rd"
    intro m hm
    have s0 := Same.new hm (o := .dT [])
    refine ⟨N, a, xs, acc, rfl, hN, s0.seq ha, hA.mono (fun _ _ z => s0 _ _ z), by omega, fun w hw => by have := haw w hw; omega, fun r rs H1 s1 hr0 hr1 hW => ⟨r, rfl, ⟨_, SqL.of hr1⟩, ?_⟩⟩
    have hm1 := s1 _ _ (show upd H m (.dT []) m = some (.dT []) from upd_same)
    have s01 := s0.trans s1
    have hrlen := rowsW_len N acc
    have hrw := rowsW_wlen (n := N) haw
    have hnd := rowsW_nodup N acc
    have hrl : (rowsW N acc).length <= 500 := by
      have : acc.length * N <= 64 * 6 := Nat.mul_le_mul hal hN
      omega
    have kk := k
    generalize rowsW N acc = rw' at hW hrl hrw hnd kk
    clear k hrlen
    obtain ⟨Pv, hPv⟩ : ∃ Pv : Nat -> St -> Hp -> Prop, ∀ i σ' H', Pv i σ' H' ↔ (∃ (kvs : List (List Key × V)) (o : Option V), Same H H' /\ H' r = some (.lst rs) /\ TK H1 H' /\ H' m = some (.dT kvs) /\ MarksD H' (fun w => ends.map fun e => oV (mkO es (w ++ e))) (rw'.take i) kvs /\ σ' = [some (.ref p), some (.int N), some (.ref a), some (.ref b), some (.ref m), o]) := ⟨_, fun _ _ _ => Iff.rfl⟩
    refine forL (xs := rs) Pv ((hPv _ _ _).mpr ⟨[], none, s01, hr1, TK.refl _, hm1, by rw [List.take_zero]; exact MarksD.nil, rfl⟩) (fun i σ' H' _ h' => by obtain ⟨_, _, _, h2, _⟩ := (hPv _ _ _).mp h'; exact SqL.of h2) (fun i x σ' H' hx h' => ?_) (fun σ' H' h' => ?_)
    . obtain ⟨kvs, o, s', hr', tk, hm', hM, rfl⟩ := (hPv _ _ _).mp h'
      obtain ⟨t, w, hwi, rfl, ht⟩ := hW.at hx
      have hi := (List.getElem?_eq_some_iff.mp hwi).1
      have hwl := hrw w (List.mem_of_getElem? hwi)
      have et : rw'.take (i + 1) = rw'.take i ++ [w] := by rw [List.take_add_one, hwi]; rfl
      have hno : w ∉ rw'.take i := fun z => by
        obtain ⟨j, hj, ej⟩ := List.getElem_of_mem z
        rw [List.length_take] at hj
        rw [List.getElem_take] at ej
        have := (List.getElem_inj (h₀ := (show j < rw'.length by omega)) (h₁ := hi) hnd).mp (by rw [ej]; exact ((List.getElem?_eq_some_iff.mp hwi).2).symm)
        omega
      have hv : valV kvs (wkey w) = none := by
        have := hM.keys.some_iff w
        rw [decide_eq_false hno] at this
        cases e : valV kvs (wkey w) with
        | none => rfl
        | some v => rw [e] at this; cases this
      have hkl : kvs.length <= 500 := by rw [hM.1, List.length_take]; omega
      walk_at "rd"
      refine ⟨p, d, t, b, L, w, es, ys, ends, rfl, B.mono s', tk _ _ ht, by omega, s'.seq hb, hE.mono (fun _ _ z => s' _ _ z), by omega, fun e he => by have := hew e he; omega, fun l H2 s2 hl2 => ⟨l, rfl, _, .inl ⟨SqL.of hl2, fun t2 ht2 => ?_⟩⟩⟩
      have s3 := s2.newT ht2 (o := .tup (ends.map fun e => oV (mkO es (w ++ e))))
      refine ⟨_, DPut.t (k := wkey w) (s3 _ _ hm') (by rw [wkey_kV]; exact s3 _ _ (tk _ _ ht)) (by omega), (hPv _ _ _).mpr ⟨_, _, (s'.trans s3).over hm, ?_, fun c zs z => ?_, upd_same, ?_, rfl⟩⟩
      . rw [upd_ne (fun z => by rw [z, hm'] at hr'; cases hr')]; exact s3 _ _ hr'
      . rw [upd_ne (fun e => by have := tk _ _ z; rw [e, hm'] at this; cases this)]; exact s3 _ _ (tk _ _ z)
      . rw [putK_new _ hv, et]
        exact ((hM.mono fun c zs z => s3 _ _ z).snoc (t := t2) upd_same).mono fun c zs z => by
          rw [upd_ne (fun e => by rw [e, s3 _ _ hm'] at z; cases z)]; exact z
    . obtain ⟨kvs, o, s', hr', tk, hm', hM, rfl⟩ := (hPv _ _ _).mp h'
      rw [hW.1, List.take_length] at hM
      walk_at "rd"
      exact kk m kvs _ s' hm hm' hM
theorem MarksD.get {H : Hp} {f : List Int -> List V} {ks : List (List Int)} {kvs : List (List Key × V)} (h : MarksD H f ks kvs) {w : List Int} (hw : w ∈ ks) : ∃ t, valV kvs (wkey w) = some (.ref t) /\ H t = some (.tup (f w)) := by
  have hs := h.keys.some_iff w
  rw [decide_eq_true hw] at hs
  unfold valV at hs ⊢
  cases e : kvs.find? (fun kv => decide (kv.1 = wkey w)) with
  | none => rw [e] at hs; cases hs
  | some kv =>
    have h1 : kv.1 = wkey w := by have := List.find?_some e; simpa using this
    obtain ⟨i, hi, ei⟩ := List.getElem_of_mem (List.mem_of_find?_eq_some e)
    have hi' : i < ks.length := by rw [<- h.1]; exact hi
    obtain ⟨t, a, b⟩ := h.2 i ks[i] (by simp [hi'])
    rw [List.getElem?_eq_getElem hi, ei] at a
    have ea := Option.some.inj a
    rw [ea] at h1
    have : ks[i] = w := wkey_inj h1
    rw [this] at b
    exact ⟨t, by rw [ea]; rfl, b⟩
theorem mem_insW {s : List (List Int)} {w v : List Int} : v ∈ ins s w ↔ v ∈ s \/ v = w := by
  unfold ins
  split
  . rename_i h
    exact ⟨.inl, fun z => z.elim id fun e => e ▸ h⟩
  . simp
theorem mem_insAllW : ∀ {l s : List (List Int)} {v : List Int}, v ∈ l.foldl ins s ↔ v ∈ s \/ v ∈ l
  | [], s, v => by simp
  | w :: l, s, v => by
    rw [List.foldl_cons, mem_insAllW, mem_insW, List.mem_cons, or_assoc]
theorem acc_in_rows {n : Nat} {acc : List (List Int)} {w : List Int} (h : w ∈ acc) : w ∈ rowsW n acc := by
  unfold rowsW
  exact mem_insAllW.mpr (.inl (mem_insAllW.mpr (.inr h)))
def sp_strange (K : PySem.W.Frag) (C : Addr) : Sp := fun vs H Q _ => ∃ (p d a b : Addr) (L : Int) (N : Nat) (es : List (List Int × Int)) (xs ys : List V) (acc ends : List (List Int)) (g : List Int -> List Int), vs = [.ref p, .int N, .ref a, .ref b] /\ BookAt C H p d L es /\ N <= 6 /\ SqL K H a xs /\ WordsT K H xs acc /\ acc.length <= 64 /\ (∀ w ∈ acc, w.length <= 64) /\ SqL K H b ys /\ WordsT K H ys ends /\ ends.length <= 50 /\ (∀ e ∈ ends, e.length <= 50) /\ (∀ w ∈ rowsW N acc, (ends.map fun e => oV (mkO es (w ++ e))) = (g w).map V.int) /\ (∀ w t H', (rowsW N acc).find? (fun w => decide (g w ∉ acc.map g)) = some w -> Same H H' -> H' t = some (.tup (w.map V.int)) -> Q (.ref t) H') /\ ∀ H', (rowsW N acc).find? (fun w => decide (g w ∉ acc.map g)) = none -> Same H H' -> Q .non H'
theorem ok_stranger {f : Addr} {fd : FuncData} (F : Fun K "stranger" "stranger" s_stranger f fd) (T : Txt mg)
    (W : Own K mg C_Book)
    (Z : Exs K mg C_AskError C_BadWord)
    {f_marks_by_row : Addr} {fd_marks_by_row : FuncData} (g_marks_by_row : FnOk P w K mg base CX0 3 f_marks_by_row fd_marks_by_row ["book", "letters", "access", "ends"] (sp_mbr K C_Book)) (F_marks_by_row : Fun K "marks_by_row" "marks_by_row" s_marks_by_row f_marks_by_row fd_marks_by_row) (b_marks_by_row : Binds K fd_marks_by_row ["book", "letters", "access", "ends"] []) (m_marks_by_row : mg "marks_by_row" = some (.ref f_marks_by_row))
    : FnOk P w K mg base CX0 4 f fd ["book", "letters", "access", "ends"] (sp_strange K C_Book) := by
  refine F.ok sc_stranger (fun vs H Q E h => ?_) (fun cdv A outer s H vs Q E hr h => ?_)
  . obtain ⟨p, d, a, b, L, N, es, xs, ys, acc, ends, g, rfl, _⟩ := h; rfl
  . obtain ⟨p, d, a, b, L, N, es, xs, ys, acc, ends, g, rfl, B, hN, ha, hA, hal, haw, hb, hE, hel, hew, hg, k, kn⟩ := h
    have hl := line1000
    refine ⟨_, (pss_cons (ps_set (i := 4) sc_stranger.nd rfl (Or.inr rfl) (pe_call g_marks_by_row (hr.mono (by decide)) rfl m_marks_by_row F_marks_by_row.kp b_marks_by_row .nil pass0 (pa_cons (pv 0) (pa_cons (pv 1) (pa_cons (pv 2) (pa_cons (pv 3) pa_nil))))))
      (pss_cons (ps_setC (i := 5) sc_stranger.nd rfl rfl rfl (blk_mk rfl) (cp := c_stranger_0) ⟨⟨rfl, rfl⟩, True.intro⟩ (pi_list (pv 2)) (fun _ _ _ _ => (pg_name (i := 0) nd_c_stranger_0 rfl (Or.inl rfl))) (fun _ _ _ _ => pf_nil) (fun _ _ _ _ => (pe_dget (hu_of hr) (pv 1) (pv 0) (fun _ _ => rfl))))
      (pss_cons (ps_for PassesOwn.never rfl (pi_dictT (pv 4)) (pg_name (i := 6) sc_stranger.nd rfl (Or.inl rfl))
      (pss_one (ps_if (pt_cmpR (op_notInW (hu9 hr)) (pe_dget (hu_of hr) (pv 4) (pv 6) (fun _ _ => rfl)) (pv 5) rfl)
      (pss_one (ps_ret (pv 6)))
      pss_nil)))
      (pss_one (ps_ret pe_non))))), ?_⟩
    walk_at "rd"
    refine ⟨p, d, a, b, L, N, es, xs, ys, acc, ends, rfl, B, hN, ha, hA, hal, haw, hb, hE, hel, hew, fun m kvs H1 s1 hm0 hm hM => ?_⟩
    walk_at "rd"
    have kk := k
    have kkn := kn
    have hin : ∀ w ∈ acc, w ∈ rowsW N acc := fun w h => acc_in_rows h
    generalize rowsW N acc = rw' at hM hg kk kkn hin
    clear k kn
    have ha1 := s1.seq ha
    have hA1 : WordsT K H1 xs acc := hA.mono (TK.of s1)
    refine ⟨⟨_, ha1⟩, compL (xs := xs) (fun i ys σ' H' => H' = H1 /\ WordsT K H1 ys ((acc.take i).map g) /\ ∃ o, σ' = [o, some (.ref m)]) ⟨rfl, WordsT.nil, none, rfl⟩ (by rw [hA.1]; omega) (fun i ys σ' H' hi h' => ⟨by rw [h'.1]; exact ha1, by rw [h'.2.1.1, List.length_map, List.length_take]; omega⟩) (fun i x ys σ' H' hx h' => ?_) (fun ys σ' H' h' D hD => ?_)⟩
    . obtain ⟨rfl, hY, o, rfl⟩ := h'
      obtain ⟨t, w, hwi, rfl, ht⟩ := hA1.at hx
      have hwm := List.mem_of_getElem? hwi
      obtain ⟨u, hu1, hu2⟩ := hM.get (hin w hwm)
      have et : acc.take (i + 1) = acc.take i ++ [w] := by rw [List.take_add_one, hwi]; rfl
      rw [hg w (hin w hwm)] at hu2
      walk_at "rd"
      have hdg : DGet H' m (.ref t) (some (.ref u)) := by rw [<- hu1]; exact DGet.t (k := wkey w) hm (by rw [wkey_kV]; exact ht)
      refine ⟨_, hdg, ?_, _, rfl⟩
      rw [et, List.map_append]
      exact hY.snoc hu2
    . obtain ⟨rfl, hY, o, rfl⟩ := h'
      rw [hA.1, List.take_length] at hY
      have sD := Same.new hD (o := .lst ys)
      have hm2 := sD _ _ hm
      refine ⟨kvs, hm2, fun oo => ?_⟩
      have hDm : D ≠ m := fun z => by rw [z, hm] at hD; cases hD
      obtain ⟨HF, hHF⟩ : ∃ HF : Hp, HF = upd (upd H' D (.lst ys)) m (.frz oo (.dT kvs)) := ⟨_, rfl⟩
      rw [<- hHF]
      have hmF : HF m = some (.frz oo (.dT kvs)) := by rw [hHF]; exact upd_same
      have tkF : TK H' HF := fun c zs z => by rw [hHF, upd_ne (fun e => by rw [e, hm] at z; cases z)]; exact sD _ _ z
      have hDF : HF D = some (.lst ys) := by rw [hHF, upd_ne hDm]; exact upd_same
      have sF : Same H HF := by rw [hHF]; exact (s1.trans sD).over hm0
      obtain ⟨Pv, hPv⟩ : ∃ Pv : Nat -> St -> Hp -> Prop, ∀ i σ' H', Pv i σ' H' ↔ (H' = HF /\ (∀ w ∈ rw'.take i, g w ∈ acc.map g) /\ ∃ o, σ' = [some (.ref p), some (.int N), some (.ref a), some (.ref b), some (.ref m), some (.ref D), o]) := ⟨_, fun _ _ _ => Iff.rfl⟩
      refine forD Pv ((hPv _ _ _).mpr ⟨rfl, (fun w hw => by rw [List.take_zero] at hw; cases hw), none, rfl⟩) (fun i σ2 H2 _ h2 => by rw [((hPv _ _ _).mp h2).1]; exact hmF) (fun i k0 v0 bb σ2 H2 hkv h2 hbb => ?_) (fun σ2 H2 h2 => ?_)
      . obtain ⟨rfl, hall, o2, rfl⟩ := (hPv _ _ _).mp h2
        have hi : i < rw'.length := by rw [<- hM.1]; exact (List.getElem?_eq_some_iff.mp hkv).1
        have hwi : rw'[i]? = some rw'[i] := by simp [hi]
        obtain ⟨t, e1, e2⟩ := hM.2 i _ hwi
        have hwm := List.mem_of_getElem? hwi
        rw [hkv] at e1
        cases e1
        replace e2 : H' t = some (.tup ((g rw'[i]).map V.int)) := by rw [<- hg _ hwm]; exact e2
        rw [wkey_kV] at hbb
        have et : rw'.take (i + 1) = rw'.take i ++ [rw'[i]] := by rw [List.take_add_one, hwi]; rfl
        walk_at "rd"
        obtain ⟨t', hv1, hv2⟩ := hM.get hwm
        replace hv2 : H' t' = some (.tup ((g rw'[i]).map V.int)) := by rw [<- hg _ hwm]; exact hv2
        refine ⟨V.ref t', .inr ⟨kvs, wkey rw'[i], bb, .inr ⟨oo, hmF⟩, rfl, by rw [wkey_kV]; exact hbb, hv1.symm⟩, t', rfl, _, SqL.of hDF, g rw'[i], acc.map g, hY.mono tkF, SqT.of (tkF _ _ hv2), ?_⟩
        by_cases hmem : g rw'[i] ∈ acc.map g
        . rw [if_neg (by rw [decide_eq_true hmem]; decide)]
          refine (hPv _ _ _).mpr ⟨rfl, fun w hw => ?_, _, rfl⟩
          rw [et] at hw
          rcases List.mem_append.mp hw with hw | hw
          . exact hall w hw
          . rw [List.mem_singleton.mp hw]; exact hmem
        . rw [if_pos (by rw [decide_eq_false hmem]; rfl)]
          refine kk rw'[i] bb _ (List.find?_eq_some_iff_getElem.mpr ⟨decide_eq_true hmem, i, hi, rfl, fun j hj => ?_⟩) sF hbb
          have := hall rw'[j] (List.mem_iff_getElem?.mpr ⟨j, by rw [List.getElem?_take, if_pos hj]; simp [show j < rw'.length by omega]⟩)
          rw [decide_eq_false (not_not_intro this)]
          rfl
      . obtain ⟨rfl, hall, o2, rfl⟩ := (hPv _ _ _).mp h2
        rw [hM.1, List.take_length] at hall
        walk_at "rd"
        refine kkn _ (List.find?_eq_none.mpr fun w hw => ?_) sF
        simp [hall w hw]
def eI (g : List Int -> List Int) (acc : List (List Int)) (i : Nat) : List (List Int × Int) := (List.range i).map fun j => (g (acc.getD j []), (j : Int))
theorem eI_succ (g : List Int -> List Int) (acc : List (List Int)) (i : Nat) : eI g acc (i + 1) = eI g acc i ++ [(g (acc.getD i []), (i : Int))] := by unfold eI; rw [List.range_succ, List.map_append]; rfl
theorem eI_keys (g : List Int -> List Int) (acc : List (List Int)) {i : Nat} (hi : i <= acc.length) : (eI g acc i).map (·.1) = (acc.map g).take i := by
  refine List.ext_getElem? fun j => ?_
  unfold eI
  rw [List.map_map, List.getElem?_map, List.getElem?_take, List.getElem?_map]
  by_cases hj : j < i
  . rw [if_pos hj, List.getElem?_range hj]
    have hj' : j < acc.length := by omega
    simp [List.getD_eq_getElem?_getD, hj']
  . rw [if_neg hj, List.getElem?_eq_none (by simp; omega)]; rfl
theorem eI_mem {g : List Int -> List Int} {acc : List (List Int)} {x : List Int} (hx : x ∈ acc.map g) : (x, (((acc.map g).idxOf x : Nat) : Int)) ∈ eI g acc acc.length := by
  unfold eI
  have hlt : (acc.map g).idxOf x < (acc.map g).length := List.idxOf_lt_length_of_mem hx
  rw [List.length_map] at hlt
  refine List.mem_map.mpr ⟨(acc.map g).idxOf x, List.mem_range.mpr hlt, ?_⟩
  have h1 : (acc.map g)[(acc.map g).idxOf x]'(by rw [List.length_map]; exact hlt) = x := List.getElem_idxOf _
  rw [List.getElem_map] at h1
  rw [List.getD_eq_getElem?_getD, List.getElem?_eq_getElem hlt]
  show (g _, _) = _
  rw [Option.getD_some, h1]
theorem ext_in_rows {n : Nat} {acc : List (List Int)} {w : List Int} {x : Nat} (h : w ∈ acc) (hx : x < n) : w ++ [(x : Int)] ∈ rowsW n acc := by
  unfold rowsW
  refine mem_insAllW.mpr (.inr (List.mem_flatMap.mpr ⟨w, h, ?_⟩))
  unfold extW
  exact List.mem_map.mpr ⟨x, List.mem_range.mpr hx, rfl⟩
theorem nodup_take37 {l : List (List Int)} {i : Nat} (hi : i < l.length) (nd : l.Nodup) : l[i] ∉ l.take i := fun z => by
  obtain ⟨j, hj, ej⟩ := List.getElem_of_mem z
  rw [List.length_take] at hj
  rw [List.getElem_take] at ej
  have := (List.getElem_inj (h₀ := (show j < l.length by omega)) (h₁ := hi) nd).mp ej
  omega
def sp_waysm (K : PySem.W.Frag) : Sp := fun vs H Q _ => ∃ (N : Nat) (a m : Addr) (xs : List V) (acc : List (List Int)) (kvs : List (List Key × V)) (g : List Int -> List Int), vs = [.int N, .ref a, .ref m] /\ N <= 6 /\ SqL K H a xs /\ WordsT K H xs acc /\ acc.length <= 64 /\ (∀ w ∈ acc, w.length <= 64) /\ H m = some (.dT kvs) /\ MarksD H (fun w => (g w).map V.int) (rowsW N acc) kvs /\ (acc.map g).Nodup /\ (∀ w ∈ acc, ∀ x : Nat, x < N -> g (w ++ [(x : Int)]) ∈ acc.map g) /\ ∀ t ys H', Same H H' -> H' t = some (.tup ys) -> WordsT K H' ys (acc.map fun w => (List.range N).map fun x : Nat => (((acc.map g).idxOf (g (w ++ [(x : Int)])) : Nat) : Int)) -> Q (.ref t) H'
theorem ok_ways_by_marks {f : Addr} {fd : FuncData} (F : Fun K "ways_by_marks" "ways_by_marks" s_ways_by_marks f fd) (T : Txt mg)
    (W : Own K mg C_Book)
    (Z : Exs K mg C_AskError C_BadWord)
    : FnOk P w K mg base CX0 1 f fd ["letters", "access", "marks"] (sp_waysm K) := by
  refine F.ok sc_ways_by_marks (fun vs H Q E h => ?_) (fun cdv A outer s H vs Q E hr h => ?_)
  . obtain ⟨N, a, m, xs, acc, kvs, g, rfl, _⟩ := h; rfl
  . obtain ⟨N, a, m, xs, acc, kvs, g, rfl, hN, ha, hA, hal, haw, hm, hM, hnd, hin, k⟩ := h
    have hl := line1000
    refine ⟨_, (pss_cons (ps_set (i := 3) sc_ways_by_marks.nd rfl (Or.inr rfl) pe_dnewT)
      (pss_cons (ps_for PassesOwn.never rfl (pi_enumL rfl T.enumerate (pv 1)) (pg_tup rfl (pgs_cons (pg_name (i := 4) sc_ways_by_marks.nd rfl (Or.inl rfl)) (pgs_cons (pg_name (i := 5) sc_ways_by_marks.nd rfl (Or.inr rfl)) pgs_nil)))
      (pss_one (ps_dput (hu_of hr) (pv 3) (pe_dget (hu_of hr) (pv 2) (pv 5) (fun _ _ => rfl)) (pv 4) rfl)))
      (pss_cons (ps_set (i := 6) sc_ways_by_marks.nd rfl (Or.inl rfl) (pe_lst pa_nil))
      (pss_cons (ps_for PassesOwn.never rfl (pi_list (pv 1)) (pg_name (i := 5) sc_ways_by_marks.nd rfl (Or.inr rfl))
      (pss_one (ps_expr (pe_bm PySem.F.plainAttrs_list PySem.F.slot_list_append PySem.F.type_list_append mt_append (pv 6) (pa_cons (pe_callTy call_tuple_of rfl T.tuple PyProof.Rows.boot_tuple (pa_cons (pe_comp rfl (blk_mk rfl) (cp := c_ways_by_marks_0) ⟨⟨rfl, rfl⟩, ⟨⟨rfl, rfl⟩, ⟨⟨rfl, rfl⟩, True.intro⟩⟩⟩ (pi_range1 rfl T.range (pa_cons (pv 0) pa_nil)) (fun _ _ _ _ => (pg_name (i := 0) nd_c_ways_by_marks_0 rfl (Or.inl rfl))) (fun _ _ _ _ => pf_nil) (fun _ _ _ _ => (pe_dget1 (hu_of hr) (pv 1) (pe_dget (hu_of hr) (pv 2) (pe_op (op_catT2K (K := K) rfl) (pv 3) (pe_tup (pa_cons (pv 0) pa_nil))) (fun _ _ => rfl)) ⟨by rfl, by rfl, by rfl, by rfl⟩))) pa_nil)) pa_nil)))))
      (pss_one (ps_ret (pe_callTy call_tuple_of rfl T.tuple PyProof.Rows.boot_tuple (pa_cons (pv 6) pa_nil)))))))), ?_⟩
    walk_at "rd"
    intro p hp
    have s0 := Same.new hp (o := .dT [])
    have hkn : ∀ i, i <= acc.length -> ((eI g acc i).map (·.1)).Nodup := fun i hi => by rw [eI_keys g acc hi]; exact hnd.sublist (List.take_sublist _ _)
    refine ⟨_, s0.seq ha, ?_⟩
    obtain ⟨Pv, hPv⟩ : ∃ Pv : Nat -> St -> Hp -> Prop, ∀ i σ' H', Pv i σ' H' ↔ (∃ o1 o2 : Option V, Same H H' /\ H' p = some (.dT (ents (eI g acc i))) /\ σ' = [some (.int N), some (.ref a), some (.ref m), some (.ref p), o1, o2, none]) := ⟨_, fun _ _ _ => Iff.rfl⟩
    have hpm : p ≠ m := fun z => by rw [z, hm] at hp; cases hp
    refine forM Pv ((hPv _ _ _).mpr ⟨none, none, s0, upd_same, rfl⟩) (fun i σ' H' _ h' => by obtain ⟨_, _, s', _⟩ := (hPv _ _ _).mp h'; exact s'.seq ha) (fun i v σ' H' t hv h' ht => ?_) (fun σ' H' h' => ?_)
    . obtain ⟨o1, o2, s', hp', rfl⟩ := (hPv _ _ _).mp h'
      obtain ⟨tw, w, hwi, rfl, htw⟩ := hA.at hv
      have hwm := List.mem_of_getElem? hwi
      have hi := (List.getElem?_eq_some_iff.mp hwi).1
      have sT := s'.newT ht (o := .tup [.int i, .ref tw])
      obtain ⟨u, hu1, hu2⟩ := hM.get (acc_in_rows (n := N) hwm)
      have hgd : acc.getD i [] = w := by rw [List.getD_eq_getElem?_getD, hwi]; rfl
      have hno : g w ∉ (eI g acc i).map (·.1) := by
        rw [eI_keys g acc (by omega)]
        have := nodup_take37 (l := acc.map g) (i := i) (by rw [List.length_map]; exact hi) hnd
        rw [List.getElem_map, (List.getElem?_eq_some_iff.mp hwi).2] at this
        exact this
      walk_at "rd"
      have hdg : DGet (upd H' t (.tup [V.int i, V.ref tw])) m (.ref tw) (some (.ref u)) := by rw [<- hu1]; exact DGet.t (k := wkey w) (sT _ _ hm) (by rw [wkey_kV]; exact sT _ _ htw)
      have hle : (ents (eI g acc i)).length = i := by unfold ents eI; rw [List.length_map, List.length_map, List.length_range]
      refine ⟨_, SqT.of upd_same, rfl, V.int i, _, rfl, V.ref tw, _, rfl, rfl, V.ref u, hdg, _, DPut.t (k := wkey (g w)) (Same.new ht _ _ hp') (by rw [wkey_kV]; exact sT _ _ hu2) (by omega), (hPv _ _ _).mpr ⟨_, _, sT.over hp, by rw [upd_same, ents_put hno, eI_succ, hgd], rfl⟩⟩
    . obtain ⟨o1, o2, s', hp', rfl⟩ := (hPv _ _ _).mp h'
      rw [hA.1] at hp'
      walk_at "rd"
      refine ⟨by omega, fun q hq => ⟨⟨_, (s'.newT hq).seq ha⟩, ?_⟩⟩
      have sq := s'.newT hq (o := .lst [])
      have hqH : H q = none := s'.none hq
      have hpq : p ≠ q := fun z => by rw [z, hq] at hp'; cases hp'
      obtain ⟨Pw, hPw⟩ : ∃ Pv : Nat -> St -> Hp -> Prop, ∀ i σ2 H2, Pv i σ2 H2 ↔ (∃ (ys : List V) (o : Option V), Same H H2 /\ H2 p = some (.dT (ents (eI g acc acc.length))) /\ H2 q = some (.lst ys) /\ WordsT K H2 ys ((acc.take i).map fun w => (List.range N).map fun x : Nat => (((acc.map g).idxOf (g (w ++ [(x : Int)])) : Nat) : Int)) /\ σ2 = [some (.int N), some (.ref a), some (.ref m), some (.ref p), o1, o, some (.ref q)]) := ⟨_, fun _ _ _ => Iff.rfl⟩
      refine forL (xs := xs) Pw ((hPw _ _ _).mpr ⟨[], _, sq, Same.new hq _ _ hp', upd_same, WordsT.nil, rfl⟩) (fun i σ2 H2 _ h2 => by obtain ⟨_, _, s2, _⟩ := (hPw _ _ _).mp h2; exact s2.seq ha) (fun i x σ2 H2 hx h2 => ?_) (fun σ2 H2 h2 => ?_)
      . obtain ⟨ys, o, s2, hp2, hq2, hY, rfl⟩ := (hPw _ _ _).mp h2
        obtain ⟨tw, w, hwi, rfl, htw⟩ := hA.at hx
        have hwm := List.mem_of_getElem? hwi
        have hwl := haw w hwm
        have et : acc.take (i + 1) = acc.take i ++ [w] := by rw [List.take_add_one, hwi]; rfl
        have hyl : ys.length <= 64 := by rw [hY.1, List.length_map, List.length_take]; omega
        walk_at "rd"
        refine ⟨.inl ⟨rfl, _, SqL.of hq2⟩, by omega, by omega, ?_⟩
        rw [Int.toNat_natCast]
        obtain ⟨Pc, hPc⟩ : ∃ Pc : Nat -> List V -> St -> Hp -> Prop, ∀ j us σ4 H4, Pc j us σ4 H4 ↔ (Same H2 H4 /\ us = ((List.range j).map fun x : Nat => (((acc.map g).idxOf (g (w ++ [(x : Int)])) : Nat) : Int)).map V.int /\ ∃ o, σ4 = [o, some (.ref p), some (.ref m), some (.ref tw)]) := ⟨_, fun _ _ _ _ => Iff.rfl⟩
        refine compR Pc ((hPc _ _ _ _).mpr ⟨Same.refl _, rfl, none, rfl⟩) (by omega) (fun j us σ4 H4 _ h4 => ?_) (fun j us σ4 H4 hj h4 => ?_) (fun us σ4 H4 h4 D hD => ?_)
        . obtain ⟨_, rfl, _⟩ := (hPc _ _ _ _).mp h4
          rw [List.length_map, List.length_map, List.length_range]; omega
        . obtain ⟨s4, rfl, o4, rfl⟩ := (hPc _ _ _ _).mp h4
          rw [Int.zero_add]
          have s24 := s2.trans s4
          obtain ⟨u, hu1, hu2⟩ := hM.get (ext_in_rows (n := N) hwm hj)
          have hmem := eI_mem (hin w hwm j hj)
          walk_at "rd"
          refine ⟨.inr ⟨_, .inl (s4 _ _ hp2)⟩, by omega, fun p1 hp1 => rCatT2.ofS (Same.new hp1 _ _ (s24 _ _ htw)) upd_same (by simp; omega) fun q3 H5 s5 hq5 => ?_⟩
          have s45 := (Same.new hp1 (o := .tup [V.int j])).trans s5
          have s25 := s24.trans s45
          have hdg : DGet H5 m (.ref q3) (some (.ref u)) := by rw [<- hu1]; exact DGet.t (k := wkey (w ++ [(j : Int)])) (s25 _ _ hm) (by rw [wkey_kV, List.map_append]; exact hq5)
          refine ⟨_, hdg, _, DGet.t (k := wkey (g (w ++ [(j : Int)]))) ((s4.trans s45) _ _ hp2) (by rw [wkey_kV]; exact s25 _ _ hu2), (hPc _ _ _ _).mpr ⟨s4.trans s45, ?_, _, rfl⟩⟩
          rw [ents_get (hkn _ (Nat.le_refl _)) hmem, List.range_succ, List.map_append, List.map_append]
          rfl
        . obtain ⟨s4, rfl, o4, rfl⟩ := (hPc _ _ _ _).mp h4
          refine ⟨D, rfl, _, .inl ⟨SqL.of upd_same, fun t ht => ?_⟩⟩
          have sDt := (s4.newT hD).newT ht (o := .tup (((List.range N).map fun x : Nat => (((acc.map g).idxOf (g (w ++ [(x : Int)])) : Nat) : Int)).map V.int))
          have hq5 := sDt _ _ hq2
          refine ⟨_, hq5, by omega, (hPw _ _ _).mpr ⟨ys ++ [.ref t], _, (s2.trans sDt).over hqH, by rw [upd_ne hpq]; exact sDt _ _ hp2, upd_same, ?_, rfl⟩⟩
          rw [et, List.map_append]
          exact ((hY.mono (TK.of sDt)).snoc upd_same).mono (TK.lst hq5)
      . obtain ⟨ys, o, s2, hp2, hq2, hY, rfl⟩ := (hPw _ _ _).mp h2
        rw [hA.1, List.take_length] at hY
        walk_at "rd"
        exact ⟨_, .inl ⟨SqL.of hq2, fun t ht => k t ys _ (s2.newT ht) upd_same (hY.mono (TK.of (Same.new ht)))⟩⟩
def sp_guess (K : PySem.W.Frag) (C : Addr) : Sp := fun vs H Q _ => ∃ (p d a b : Addr) (L : Int) (N : Nat) (es : List (List Int × Int)) (xs ys : List V) (acc ends : List (List Int)) (g : List Int -> List Int) (f : List Int -> Int), vs = [.ref p, .int N, .ref a, .ref b] /\ BookAt C H p d L es /\ N <= 6 /\ SqL K H a xs /\ WordsT K H xs acc /\ acc.length <= 64 /\ (∀ w ∈ acc, w.length <= 64) /\ SqL K H b ys /\ WordsT K H ys ends /\ ends.length <= 50 /\ (∀ e ∈ ends, e.length <= 50) /\ (∀ w ∈ rowsW N acc, (ends.map fun e => oV (mkO es (w ++ e))) = (g w).map V.int) /\ (acc.map g).Nodup /\ (∀ w ∈ acc, ∀ x : Nat, x < N -> g (w ++ [(x : Int)]) ∈ acc.map g) /\ (∀ w ∈ acc, mkO es w = some (f w)) /\ ∀ h tm tw zs H', Same H H' -> H' h = some (.tup [.int N, .ref tm, .ref tw]) -> H' tm = some (.tup ((acc.map f).map V.int)) -> H' tw = some (.tup zs) -> WordsT K H' zs (acc.map fun w => (List.range N).map fun x : Nat => (((acc.map g).idxOf (g (w ++ [(x : Int)])) : Nat) : Int)) -> Q (.ref h) H'
theorem ok_guess_of {f : Addr} {fd : FuncData} (F : Fun K "guess_of" "guess_of" s_guess_of f fd) (T : Txt mg)
    (W : Own K mg C_Book)
    (Z : Exs K mg C_AskError C_BadWord)
    {f_Book_told : Addr} {fd_Book_told : FuncData} (g_Book_told : FnOk P w K mg base CX0 1 f_Book_told fd_Book_told ["self", "word"] (sp_book_told C_Book)) (F_Book_told : Fun K "told" "Book.told" s_Book_told f_Book_told fd_Book_told) (b_Book_told : Binds K fd_Book_told ["self", "word"] []) (m_Book_told : Meth K C_Book "told" f_Book_told)
    {f_marks_by_row : Addr} {fd_marks_by_row : FuncData} (g_marks_by_row : FnOk P w K mg base CX0 3 f_marks_by_row fd_marks_by_row ["book", "letters", "access", "ends"] (sp_mbr K C_Book)) (F_marks_by_row : Fun K "marks_by_row" "marks_by_row" s_marks_by_row f_marks_by_row fd_marks_by_row) (b_marks_by_row : Binds K fd_marks_by_row ["book", "letters", "access", "ends"] []) (m_marks_by_row : mg "marks_by_row" = some (.ref f_marks_by_row))
    {f_ways_by_marks : Addr} {fd_ways_by_marks : FuncData} (g_ways_by_marks : FnOk P w K mg base CX0 1 f_ways_by_marks fd_ways_by_marks ["letters", "access", "marks"] (sp_waysm K)) (F_ways_by_marks : Fun K "ways_by_marks" "ways_by_marks" s_ways_by_marks f_ways_by_marks fd_ways_by_marks) (b_ways_by_marks : Binds K fd_ways_by_marks ["letters", "access", "marks"] []) (m_ways_by_marks : mg "ways_by_marks" = some (.ref f_ways_by_marks))
    : FnOk P w K mg base CX0 4 f fd ["book", "letters", "access", "ends"] (sp_guess K C_Book) := by
  refine F.ok sc_guess_of (fun vs H Q E h => ?_) (fun cdv A outer s H vs Q E hr h => ?_)
  . obtain ⟨p, d, a, b, L, N, es, xs, ys, acc, ends, g, f, rfl, _⟩ := h; rfl
  . obtain ⟨p, d, a, b, L, N, es, xs, ys, acc, ends, g, f, rfl, B, hN, ha, hA, hal, haw, hb, hE, hel, hew, hg, hnd, hin, hf, k⟩ := h
    have hl := line1000
    refine ⟨_, (pss_cons (ps_set (i := 4) sc_guess_of.nd rfl (Or.inl rfl) (pe_call g_marks_by_row (hr.mono (by decide)) rfl m_marks_by_row F_marks_by_row.kp b_marks_by_row .nil pass0 (pa_cons (pv 0) (pa_cons (pv 1) (pa_cons (pv 2) (pa_cons (pv 3) pa_nil))))))
      (pss_cons (ps_set (i := 5) sc_guess_of.nd rfl (Or.inl rfl) (pe_callTy call_tuple_of rfl T.tuple PyProof.Rows.boot_tuple (pa_cons (pe_comp rfl (blk_mk rfl) (cp := c_guess_of_0) ⟨⟨rfl, rfl⟩, True.intro⟩ (pi_list (pv 2)) (fun _ _ _ _ => (pg_name (i := 0) nd_c_guess_of_0 rfl (Or.inl rfl))) (fun _ _ _ _ => pf_nil) (fun _ _ _ _ => (pe_meth (pv 1) W.cl_Book m_Book_told g_Book_told (hr.mono (by decide)) b_Book_told .nil pass0 (pa_cons (pv 0) pa_nil)))) pa_nil)))
      (pss_one (ps_ret (pe_tup (pa_cons (pv 1) (pa_cons (pv 5) (pa_cons (pe_call g_ways_by_marks (hr.mono (by decide)) rfl m_ways_by_marks F_ways_by_marks.kp b_ways_by_marks .nil pass0 (pa_cons (pv 1) (pa_cons (pv 2) (pa_cons (pv 4) pa_nil)))) pa_nil)))))))), ?_⟩
    walk_at "rd"
    refine ⟨p, d, a, b, L, N, es, xs, ys, acc, ends, rfl, B, hN, ha, hA, hal, haw, hb, hE, hel, hew, fun m kvs H1 s1 hm0 hm hM => ?_⟩
    have hA1 : WordsT K H1 xs acc := hA.mono (TK.of s1)
    have B1 := B.mono s1
    obtain ⟨⟨dx, hob⟩, hdc, nd⟩ := id B1
    refine ⟨⟨_, s1.seq ha⟩, compL (xs := xs) (fun i us σ' H' => H' = H1 /\ us = ((acc.take i).map f).map V.int /\ ∃ o, σ' = [o, some (.ref p)]) ⟨rfl, rfl, none, rfl⟩ (by rw [hA.1]; omega) (fun i us σ' H' hi h' => ⟨by rw [h'.1]; exact s1.seq ha, by rw [h'.2.1, List.length_map, List.length_map, List.length_take]; omega⟩) (fun i x us σ' H' hx h' => ?_) (fun us σ' H' h' D hD => ?_)⟩
    . obtain ⟨rfl, rfl, o, rfl⟩ := h'
      obtain ⟨t, w, hwi, rfl, ht⟩ := hA1.at hx
      have hfw := hf w (List.mem_of_getElem? hwi)
      have et : acc.take (i + 1) = acc.take i ++ [w] := by rw [List.take_add_one, hwi]; rfl
      walk_at "rd"
      refine ⟨_, _, hob, bflds_no _ _ (by decide +kernel) (by decide +kernel), p, d, t, L, w, es, rfl, B1, ht, fun hn => ?_, fun v hv => ?_⟩
      . rw [mkO_none hn] at hfw; cases hfw
      . rw [mkO_some nd hv] at hfw
        cases hfw
        refine ⟨rfl, ?_, _, rfl⟩
        rw [et, List.map_append, List.map_append]
        rfl
    . obtain ⟨rfl, rfl, o, rfl⟩ := h'
      rw [hA.1, List.take_length]
      refine ⟨D, rfl, _, .inl ⟨SqL.of upd_same, fun tm htm => ?_⟩⟩
      have sD := (Same.new hD (o := .lst ((acc.map f).map V.int))).newT htm (o := .tup ((acc.map f).map V.int))
      have s2 := s1.trans sD
      refine ⟨N, a, m, xs, acc, kvs, g, rfl, hN, s2.seq ha, hA.mono (TK.of s2), hal, haw, sD _ _ hm, ⟨hM.1, fun i w hi => ?_⟩, hnd, hin, fun tw zs H3 s3 htw hz => ⟨by omega, fun h hh => ?_⟩⟩
      . obtain ⟨t, e1, e2⟩ := hM.2 i w hi
        refine ⟨t, e1, ?_⟩
        have := sD _ _ e2
        show _ = some (HO.tup ((g w).map V.int))
        rw [<- hg w (List.mem_of_getElem? hi)]
        exact this
      . have sh := Same.new hh (o := .tup [.int N, .ref tm, .ref tw])
        exact k h tm tw zs _ (s2.trans (s3.trans sh)) upd_same ((s3.trans sh) _ _ upd_same) (sh _ _ htw) (hz.mono (TK.of sh))
def cell (ns : List Int) (k : Nat) : Int := ns.getD k 0
def sp_cell (K : PySem.W.Frag) : Sp := fun vs H Q _ => ∃ (a : Addr) (ns : List Int) (k : Nat), vs = [.ref a, .int k] /\ SqL K H a (ns.map V.int) /\ Q (.int (cell ns k)) H
theorem ok__law_cell_at {f : Addr} {fd : FuncData} (F : Fun K "_law_cell_at" "_law_cell_at" s__law_cell_at f fd) (T : Txt mg)
    (W : Own K mg C_Book)
    (Z : Exs K mg C_AskError C_BadWord)
    : FnOk P w K mg base CX0 1 f fd ["script", "k"] (sp_cell K) := by
  refine F.ok sc__law_cell_at (fun vs H Q E h => ?_) (fun cdv A outer s H vs Q E hr h => ?_)
  . obtain ⟨a, ns, k, rfl, _⟩ := h; rfl
  . obtain ⟨a, ns, k, rfl, hs, q⟩ := h
    refine ⟨_, (pss_cons (ps_if (pt_cmpR op_lt (pv 1) (pe_callB call_len_seq (by rfl) T.len PySem.boot_len (pa_cons (pv 0) pa_nil)) (nomark _))
      (pss_one (ps_ret (pe_ix ix_list (pv 0) (pv 1) (fun _ _ => rfl))))
      pss_nil)
      (pss_one (ps_ret pe_int))), ?_⟩
    walk_at "rd"
    refine ⟨_, .inl hs, ?_⟩
    rw [List.length_map]
    refine ite2 (fun hk => ?_) (fun hk => ?_)
    . have hk' : k < ns.length := by simpa using hk
      refine ⟨_, hs, V.int (cell ns k), ?_, q⟩
      refine atI_nat ?_
      rw [List.getElem?_map]
      unfold cell
      rw [List.getD_eq_getElem?_getD]
      simp [hk']
    . have hk' : ¬ k < ns.length := by simpa using hk
      have : cell ns k = 0 := by
        unfold cell
        rw [List.getD_eq_getElem?_getD, List.getElem?_eq_none (by omega)]; rfl
      rw [<- this]
      exact q
def HouL (K : PySem.W.Frag) (H : Hp) (h : Addr) (L : Int) (marks : List Int) (ways : List (List Int)) : Prop := ∃ (m w' : Addr) (xs : List V), H h = some (.tup [.int L, .ref m, .ref w']) /\ H m = some (.lst (marks.map V.int)) /\ H w' = some (.lst xs) /\ WordsL K H xs ways
theorem HouL.mono {K : PySem.W.Frag} {H H' : Hp} {h : Addr} {L : Int} {marks : List Int} {ways : List (List Int)} (x : HouL K H h L marks ways) (s : Same H H') : HouL K H' h L marks ways := by
  obtain ⟨m, w', xs, a, b, c, d⟩ := x
  exact ⟨m, w', xs, s _ _ a, s _ _ b, s _ _ c, d.1, fun i w hi => by
    obtain ⟨t, e1, e2⟩ := d.2 i w hi
    exact ⟨t, e1, s _ _ e2⟩⟩
def markW (marks : List Int) (r : Int) : Int := marks.getD r.toNat 0
theorem markW_at {marks : List Int} {r : Int} (h0 : 0 <= r) (h1 : r < marks.length) : atI (marks.map V.int) r = some (V.int (markW marks r)) := by
  have hlt : r.toNat < marks.length := by omega
  refine atI_int h0 ?_
  unfold markW
  rw [List.getD_eq_getElem?_getD]
  simp [hlt]
def sp_ans37 (K : PySem.W.Frag) : Sp := fun vs H Q _ => ∃ (h a : Addr) (L : Int) (marks : List Int) (ways : List (List Int)) (ws : List Int), vs = [.ref h, .ref a] /\ HouL K H h L marks ways /\ Wf L marks ways /\ H a = some (.tup (ws.map V.int)) /\ isW L ws = true /\ Q (.int (markW marks (walkW ways ws))) H
theorem ok__law_answer {f : Addr} {fd : FuncData} (F : Fun K "_law_answer" "_law_answer" s__law_answer f fd) (T : Txt mg)
    (W : Own K mg C_Book)
    (Z : Exs K mg C_AskError C_BadWord)
    : FnOk P w K mg base CX0 1 f fd ["house", "word"] (sp_ans37 K) := by
  refine F.ok sc__law_answer (fun vs H Q E h => ?_) (fun cdv A outer s H vs Q E hr h => ?_)
  . obtain ⟨h, a, L, marks, ways, ws, rfl, _⟩ := h; rfl
  . obtain ⟨h, a, L, marks, ways, ws, rfl, hh, wf, ha, hv, k⟩ := h
    have hn1 := wf.n1
    refine ⟨_, (pss_cons (ps_set (i := 2) sc__law_answer.nd rfl (Or.inl rfl) pe_int)
      (pss_cons (ps_for PassesOwn.never rfl (pi_tup (pv 1)) (pg_name (i := 3) sc__law_answer.nd rfl (Or.inl rfl))
      (pss_one (ps_set (i := 2) sc__law_answer.nd rfl (Or.inl rfl) (pe_ix ix_list (pe_ix ix_list (pe_ix ix_tup (pv 0) pe_int (fun _ _ => rfl)) (pv 2) (fun _ _ => rfl)) (pv 3) (fun _ _ => rfl)))))
      (pss_one (ps_ret (pe_ix ix_list (pe_ix ix_tup (pv 0) pe_int (fun _ _ => rfl)) (pv 2) (fun _ _ => rfl)))))), ?_⟩
    obtain ⟨m, w', xs, q1, q2, q3, q4⟩ := id hh
    walk_at "rd"
    refine ⟨⟨_, SqT.of ha⟩, forT (xs := ws.map V.int) (fun i σ2 H2 => H2 = H /\ ∃ o, σ2 = [some (.ref h), some (.ref a), some (.int (walkR ways 0 (ws.take i))), o]) ⟨rfl, none, by simp [walkR]⟩ (fun i σ2 H2 _ h => by rw [h.1]; exact SqT.of ha) (fun i x σ2 H2 hx h => ?_) (fun σ2 H2 h => ?_)⟩
    . obtain ⟨rfl, o, rfl⟩ := h
      obtain ⟨n, hn, rfl⟩ := get_mapI hx
      have hin := isW_iff.mp hv n (List.mem_of_getElem? hn)
      have hwk := walkR_in wf (ws.take i) (isW_take hv i) (show (0 : Int) <= 0 by omega) (by omega)
      obtain ⟨row, g, r1, r2, r3, r4, r5⟩ := wf.step hwk.1 hwk.2 hin.1 hin.2
      obtain ⟨t, z1, z2⟩ := q4.2 _ _ r1
      walk_at "rd"
      refine ⟨_, SqT.of q1, _, rfl, w', rfl, _, SqL.of q3, V.ref t, by rw [show walkR ways 0 (ws.take i) = ((walkR ways 0 (ws.take i)).toNat : Int) by omega]; exact atI_nat z1, t, rfl, _, SqL.of z2, _, atI_int hin.1 r2, ?_⟩
      rw [walkR_take hn, r3]
      exact ⟨rfl, _, rfl⟩
    . obtain ⟨rfl, o, rfl⟩ := h
      rw [List.length_map, List.take_length]
      have wk := walkR_in wf ws hv (show (0 : Int) <= 0 by omega) (by omega)
      walk_at "rd"
      exact ⟨_, SqT.of q1, _, rfl, m, rfl, _, SqL.of q2, _, markW_at wk.1 wk.2, k⟩
def lineW (marks : List Int) (ways ends : List (List Int)) (w : List Int) : List Int := ends.map fun e => markW marks (walkW ways (w ++ e))
def sp_line37 (K : PySem.W.Frag) : Sp := fun vs H Q _ => ∃ (h a b : Addr) (L : Int) (marks : List Int) (ways : List (List Int)) (w : List Int) (xs : List V) (ends : List (List Int)), vs = [.ref h, .ref a, .ref b] /\ HouL K H h L marks ways /\ Wf L marks ways /\ H a = some (.tup (w.map V.int)) /\ isW L w = true /\ w.length <= 100 /\ SqL K H b xs /\ WordsT K H xs ends /\ ends.length <= 50 /\ (∀ e ∈ ends, e.length <= 50 /\ isW L e = true) /\ ∀ l H', Same H H' -> H l = none -> H' l = some (.lst ((lineW marks ways ends w).map V.int)) -> Q (.ref l) H'
theorem ok__law_line {f : Addr} {fd : FuncData} (F : Fun K "_law_line" "_law_line" s__law_line f fd) (T : Txt mg)
    (W : Own K mg C_Book)
    (Z : Exs K mg C_AskError C_BadWord)
    {f__law_answer : Addr} {fd__law_answer : FuncData} (g__law_answer : FnOk P w K mg base CX0 1 f__law_answer fd__law_answer ["house", "word"] (sp_ans37 K)) (F__law_answer : Fun K "_law_answer" "_law_answer" s__law_answer f__law_answer fd__law_answer) (b__law_answer : Binds K fd__law_answer ["house", "word"] []) (m__law_answer : mg "_law_answer" = some (.ref f__law_answer))
    : FnOk P w K mg base CX0 2 f fd ["house", "word", "ends"] (sp_line37 K) := by
  refine F.ok sc__law_line (fun vs H Q E h => ?_) (fun cdv A outer s H vs Q E hr h => ?_)
  . obtain ⟨h, a, b, L, marks, ways, wd, xs, ends, rfl, _⟩ := h; rfl
  . obtain ⟨h, a, b, L, marks, ways, wd, xs, ends, rfl, hh, wf, ha, hv, hwl, hb, hE, hel, hew, k⟩ := h
    have hl := line1000
    refine ⟨_, (pss_one (ps_ret (pe_comp rfl (blk_mk rfl) (cp := c__law_line_0) ⟨⟨rfl, rfl⟩, ⟨⟨rfl, rfl⟩, True.intro⟩⟩ (pi_list (pv 2)) (fun _ _ _ _ => (pg_name (i := 0) nd_c__law_line_0 rfl (Or.inl rfl))) (fun _ _ _ _ => pf_nil) (fun _ _ _ _ => (pe_call g__law_answer (hr.mono (by decide)) rfl m__law_answer F__law_answer.kp b__law_answer .nil pass0 (pa_cons (pv 1) (pa_cons (pe_op (op_catT2K (K := K) rfl) (pv 2) (pv 0)) pa_nil))))))), ?_⟩
    walk_at "rd"
    refine ⟨⟨_, hb⟩, compL (xs := xs) (fun i us σ' H' => Same H H' /\ us = ((ends.take i).map fun e => markW marks (walkW ways (wd ++ e))).map V.int /\ ∃ o, σ' = [o, some (.ref h), some (.ref a)]) ⟨Same.refl _, rfl, none, rfl⟩ (by rw [hE.1]; omega) (fun i us σ' H' hi h' => ⟨h'.1.seq hb, by rw [h'.2.1, List.length_map, List.length_map, List.length_take]; omega⟩) (fun i x us σ' H' hx h' => ?_) (fun us σ' H' h' D hD => ?_)⟩
    . obtain ⟨s1, rfl, o, rfl⟩ := h'
      obtain ⟨te, e, hei, rfl, hte⟩ := hE.at hx
      have hel' := hew e (List.mem_of_getElem? hei)
      have et : ends.take (i + 1) = ends.take i ++ [e] := by rw [List.take_add_one, hei]; rfl
      walk_at "rd"
      refine rCatT2.ofS (s1 _ _ ha) (s1 _ _ hte) (by simp; omega) fun q H2 s2 hq => ?_
      have s12 := s1.trans s2
      refine ⟨h, q, L, marks, ways, wd ++ e, rfl, hh.mono s12, wf, by rw [List.map_append]; exact hq, isW_iff.mpr fun y hy => ?_, s12, ?_, _, rfl⟩
      . rcases List.mem_append.mp hy with hy | hy
        . exact isW_iff.mp hv y hy
        . exact isW_iff.mp hel'.2 y hy
      . rw [et, List.map_append, List.map_append]; rfl
    . obtain ⟨s1, rfl, o, rfl⟩ := h'
      rw [hE.1, List.take_length]
      exact k D _ (s1.newT hD) (s1.none hD) upd_same
def sp_numb37 (K : PySem.W.Frag) : Sp := fun vs H Q _ => ∃ (a : Addr) (xs : List Int), vs = [.ref a, .int xs.length] /\ SqT K H a (xs.map V.int) /\ Q (.bl true) H
theorem ok__law_numbers {f : Addr} {fd : FuncData} (F : Fun K "_law_numbers" "_law_numbers" s__law_numbers f fd) (T : Txt mg)
    (W : Own K mg C_Book)
    (Z : Exs K mg C_AskError C_BadWord)
    : FnOk P w K mg base CX0 1 f fd ["found", "size"] (sp_numb37 K) := by
  refine F.ok sc__law_numbers (fun vs H Q E h => ?_) (fun cdv A outer s H vs Q E hr h => ?_)
  . obtain ⟨a, xs, rfl, _⟩ := h; rfl
  . obtain ⟨a, xs, rfl, ha, k⟩ := h
    refine ⟨_, (pss_cons (ps_if (PW.pt (pw_or (pt_not (pt_val (pe_callB call_isinstW rfl T.isinstance PyProof.Rows.boot_isinstance (pa_cons (pv 0) (pa_cons (pe_bltn (v := .ty "tuple") rfl T.tuple PyProof.Rows.boot_tuple rfl) pa_nil))))) (pw_or1 (pt_cmpR op_ne (pe_callB call_len_seq (by rfl) T.len PySem.boot_len (pa_cons (pv 0) pa_nil)) (pv 1) (nomark _)))))
      (pss_one (ps_ret pe_bl))
      pss_nil)
      (pss_cons (ps_for PassesOwn.never rfl (pi_tup (pv 0)) (pg_name (i := 2) sc__law_numbers.nd rfl (Or.inl rfl))
      (pss_one (ps_if (PW.pt (pw_or (pt_not (pt_val (pe_callB call_isinstW rfl T.isinstance PyProof.Rows.boot_isinstance (pa_cons (pv 2) (pa_cons (pe_bltn (v := .ty "int") rfl T.int PyProof.Rows.boot_int rfl) pa_nil))))) (pw_or1 (pt_val (pe_callB call_isinstW rfl T.isinstance PyProof.Rows.boot_isinstance (pa_cons (pv 2) (pa_cons (pe_bltn (v := .ty "bool") rfl T.bool PyProof.Rows.boot_bool rfl) pa_nil)))))))
      (pss_one (ps_ret pe_bl))
      pss_nil)))
      (pss_one (ps_ret pe_bl)))), ?_⟩
    walk_at "rd"
    refine ⟨_, _, .tup ha, rel_ty, _, kit_self, ?_⟩
    rw [if_neg (by decide)]
    refine ⟨_, .inr ha, ?_⟩
    rw [if_neg (by simp)]
    refine ⟨⟨_, ha⟩, forT (xs := xs.map V.int) (fun i σ2 H2 => H2 = H /\ ∃ o, σ2 = [some (.ref a), some (.int xs.length), o]) ⟨rfl, none, rfl⟩ (fun i σ2 H2 _ h => by rw [h.1]; exact ha) (fun i x σ2 H2 hx h => ?_) (fun σ2 H2 h => ?_)⟩
    . obtain ⟨rfl, o, rfl⟩ := h
      obtain ⟨n, hn, rfl⟩ := get_mapI hx
      walk_at "rd"
      refine ⟨_, _, .int _, rel_ty, _, kit_self, ?_⟩
      rw [if_neg (by decide)]
      refine ⟨_, _, .int _, rel_ty, _, kit_int_bool, ?_⟩
      rw [if_neg (by decide)]
      first | exact ⟨rfl, _, rfl⟩ | exact ⟨_, rfl⟩
    . obtain ⟨rfl, o, rfl⟩ := h
      walk_at "rd"
      exact k
def sp_kinds37 (K : PySem.W.Frag) : Sp := fun vs H Q _ => ∃ (h tm tw : Addr) (L n : Nat) (marks : List Int) (zs : List V) (ways : List (List Int)), vs = [.ref h, .int n, .int L] /\ H h = some (.tup [.int L, .ref tm, .ref tw]) /\ H tm = some (.tup (marks.map V.int)) /\ H tw = some (.tup zs) /\ WordsT K H zs ways /\ marks.length = n /\ ways.length = n /\ (∀ r ∈ ways, r.length = L) /\ ∀ H', Same H H' -> Q (.bl true) H'
theorem ok__law_kinds {f : Addr} {fd : FuncData} (F : Fun K "_law_kinds" "_law_kinds" s__law_kinds f fd) (T : Txt mg)
    (W : Own K mg C_Book)
    (Z : Exs K mg C_AskError C_BadWord)
    {f__law_numbers : Addr} {fd__law_numbers : FuncData} (g__law_numbers : FnOk P w K mg base CX0 1 f__law_numbers fd__law_numbers ["found", "size"] (sp_numb37 K)) (F__law_numbers : Fun K "_law_numbers" "_law_numbers" s__law_numbers f__law_numbers fd__law_numbers) (b__law_numbers : Binds K fd__law_numbers ["found", "size"] []) (m__law_numbers : mg "_law_numbers" = some (.ref f__law_numbers))
    : FnOk P w K mg base CX0 2 f fd ["found", "rooms", "letters"] (sp_kinds37 K) := by
  refine F.ok sc__law_kinds (fun vs H Q E h => ?_) (fun cdv A outer s H vs Q E hr h => ?_)
  . obtain ⟨h, tm, tw, L, n, marks, zs, ways, rfl, _⟩ := h; rfl
  . obtain ⟨h, tm, tw, L, n, marks, zs, ways, rfl, q1, q2, q3, q4, rfl, hwn, hrl, k⟩ := h
    refine ⟨_, (pss_cons (ps_if (PW.pt (pw_or (pt_not (pt_val (pe_callB call_isinstW rfl T.isinstance PyProof.Rows.boot_isinstance (pa_cons (pv 0) (pa_cons (pe_bltn (v := .ty "tuple") rfl T.tuple PyProof.Rows.boot_tuple rfl) pa_nil))))) (pw_or (pt_cmpR op_ne (pe_callB call_len_seq (by rfl) T.len PySem.boot_len (pa_cons (pv 0) pa_nil)) pe_int (nomark _)) (pw_or1 (pt_not (pt_val (pe_call g__law_numbers (hr.mono (by decide)) rfl m__law_numbers F__law_numbers.kp b__law_numbers .nil pass0 (pa_cons (pe_ix ix_tup (pv 0) pe_int (fun _ _ => rfl)) (pa_cons (pv 1) pa_nil)))))))))
      (pss_one (ps_ret pe_bl))
      pss_nil)
      (pss_cons (ps_if (PW.pt (pw_or (pt_not (pt_val (pe_call g__law_numbers (hr.mono (by decide)) rfl m__law_numbers F__law_numbers.kp b__law_numbers .nil pass0 (pa_cons (pe_slice sl_tup2 (pv 0) po_none (po_some pe_int)) (pa_cons pe_int pa_nil))))) (pw_or (pt_not (pt_val (pe_callB call_isinstW rfl T.isinstance PyProof.Rows.boot_isinstance (pa_cons (pe_ix ix_tup (pv 0) pe_int (fun _ _ => rfl)) (pa_cons (pe_bltn (v := .ty "tuple") rfl T.tuple PyProof.Rows.boot_tuple rfl) pa_nil))))) (pw_or1 (pt_cmpR op_ne (pe_callB call_len_seq (by rfl) T.len PySem.boot_len (pa_cons (pe_ix ix_tup (pv 0) pe_int (fun _ _ => rfl)) pa_nil)) (pv 1) (nomark _))))))
      (pss_one (ps_ret pe_bl))
      pss_nil)
      (pss_cons (ps_for PassesOwn.never rfl (pi_tup (pe_ix ix_tup (pv 0) pe_int (fun _ _ => rfl))) (pg_name (i := 3) sc__law_kinds.nd rfl (Or.inl rfl))
      (pss_one (ps_if (pt_not (pt_val (pe_call g__law_numbers (hr.mono (by decide)) rfl m__law_numbers F__law_numbers.kp b__law_numbers .nil pass0 (pa_cons (pv 3) (pa_cons (pv 2) pa_nil)))))
      (pss_one (ps_ret pe_bl))
      pss_nil)))
      (pss_one (ps_ret pe_bl))))), ?_⟩
    walk_at "rd"
    have h1 := SqT.of (K := K) q1
    refine ⟨_, _, .tup h1, rel_ty, _, kit_self, ?_⟩
    rw [if_neg (by decide)]
    refine ⟨_, .inr h1, ?_⟩
    rw [if_neg (by simp)]
    refine ⟨_, h1, _, rfl, tm, marks, rfl, SqT.of q2, _, rfl, ?_⟩
    rw [if_neg (by decide)]
    refine ⟨_, h1, fun t1 H1 s1 ht1 => ⟨t1, [(L : Int)], rfl, ht1, _, rfl, ?_⟩⟩
    rw [if_neg (by decide)]
    have h1' := s1.seqT h1
    have q3' := SqT.of (K := K) (s1 _ _ q3)
    have q4' := q4.mono (TK.of s1)
    refine ⟨_, h1', _, rfl, _, _, .tup q3', rel_ty, _, kit_self, ?_⟩
    rw [if_neg (by decide)]
    refine ⟨_, h1', _, rfl, tw, rfl, _, .inr q3', ?_⟩
    rw [if_neg (by rw [q4.1, hwn]; simp)]
    refine ⟨_, h1', _, rfl, tw, rfl, ⟨_, q3'⟩, forT (xs := zs) (fun i σ2 H2 => H2 = H1 /\ ∃ o, σ2 = [some (.ref h), some (.int marks.length), some (.int L), o]) ⟨rfl, none, rfl⟩ (fun i σ2 H2 _ h => by rw [h.1]; exact q3') (fun i x σ2 H2 hx h' => ?_) (fun σ2 H2 h' => ?_)⟩
    . obtain ⟨rfl, o, rfl⟩ := h'
      obtain ⟨t, r, hri, rfl, ht⟩ := q4'.at hx
      have := hrl r (List.mem_of_getElem? hri)
      walk_at "rd"
      refine ⟨t, r, by rw [this], SqT.of ht, _, rfl, ?_⟩
      rw [if_neg (by decide)]
      first | exact ⟨rfl, _, rfl⟩ | exact ⟨_, rfl⟩
    . obtain ⟨rfl, o, rfl⟩ := h'
      walk_at "rd"
      exact k _ s1
structure Tells (L : Int) (marks : List Int) (ways : List (List Int)) (es : List (List Int × Int)) : Prop where
  ans : ∀ x ∈ es, isW L x.1 = true /\ x.2 = markW marks (walkW ways x.1)
theorem putE_mem {es : List (List Int × Int)} {w : List Int} {m : Int} {x : List Int × Int} (h : x ∈ putE es w m) : x ∈ es \/ x = (w, m) := by
  unfold putE at h
  split at h
  . exact .inl h
  . rcases List.mem_append.mp h with h | h
    . exact .inl h
    . exact .inr (List.mem_singleton.mp h)
theorem putE_key {es : List (List Int × Int)} {w : List Int} {m : Int} : w ∈ (putE es w m).map (·.1) := by
  unfold putE
  split
  . rename_i h; exact h
  . simp
theorem putE_old {es : List (List Int × Int)} {w v : List Int} {m : Int} (h : v ∈ es.map (·.1)) : v ∈ (putE es w m).map (·.1) := by
  unfold putE
  split
  . exact h
  . rw [List.map_append]; exact List.mem_append_left _ h
theorem putE_len (es : List (List Int × Int)) (w : List Int) (m : Int) : (putE es w m).length <= es.length + 1 := by
  unfold putE
  split
  . omega
  . simp
theorem Tells.put {L : Int} {marks : List Int} {ways : List (List Int)} {es : List (List Int × Int)} {w : List Int} (h : Tells L marks ways es) (hw : isW L w = true) : Tells L marks ways (putE es w (markW marks (walkW ways w))) := ⟨fun x hx => by
  rcases putE_mem hx with hx | rfl
  . exact h.ans x hx
  . exact ⟨hw, rfl⟩⟩
theorem flat_rep37 (d : Nat) (e : Int) : (List.replicate d [V.int e]).flatten = (List.replicate d e).map V.int := by
  induction d with
  | zero => rfl
  | succ d ih => rw [List.replicate_succ, List.flatten_cons, ih, List.replicate_succ]; rfl
theorem markW_in {L : Int} {marks : List Int} {ways : List (List Int)} (wf : Wf L marks ways) {w : List Int} (hw : isW L w = true) : 0 <= markW marks (walkW ways w) /\ markW marks (walkW ways w) <= 1000000000 := by
  have h := wf.walk hw w.length
  rw [List.take_length] at h
  have hlt : (walkW ways w).toNat < marks.length := by omega
  unfold markW
  rw [List.getD_eq_getElem?_getD, List.getElem?_eq_getElem hlt]
  exact wf.mks _ (List.getElem_mem hlt)
def sp_told37 (K : PySem.W.Frag) (C : Addr) : Sp := fun vs H Q _ => ∃ (h a b : Addr) (L n : Nat) (marks : List Int) (ways : List (List Int)) (xs ys : List V) (acc ends : List (List Int)), vs = [.ref h, .ref a, .ref b, .int n] /\ HouL K H h L marks ways /\ Wf L marks ways /\ n <= 9 /\ SqL K H a xs /\ WordsT K H xs acc /\ acc.length <= 64 /\ (∀ w ∈ acc, w.length <= 64 /\ isW L w = true) /\ SqL K H b ys /\ WordsT K H ys ends /\ ends.length <= 50 /\ (∀ e ∈ ends, e.length <= 50 /\ isW L e = true) /\ ∀ p d es H', Same H H' -> BookAt C H' p d L es -> Tells L marks ways es -> (∀ w ∈ rowsW L acc, ∀ e ∈ ends, w ++ e ∈ es.map (·.1)) -> es.length <= 50000 -> Q (.ref p) H'
theorem ok__law_told {f : Addr} {fd : FuncData} (F : Fun K "_law_told" "_law_told" s__law_told f fd) (T : Txt mg)
    (W : Own K mg C_Book)
    (Z : Exs K mg C_AskError C_BadWord)
    {f__law_answer : Addr} {fd__law_answer : FuncData} (g__law_answer : FnOk P w K mg base CX0 1 f__law_answer fd__law_answer ["house", "word"] (sp_ans37 K)) (F__law_answer : Fun K "_law_answer" "_law_answer" s__law_answer f__law_answer fd__law_answer) (b__law_answer : Binds K fd__law_answer ["house", "word"] []) (m__law_answer : mg "_law_answer" = some (.ref f__law_answer))
    {f_Book_init : Addr} {fd_Book_init : FuncData} (g_Book_init : FnOk P w K mg base CX0 1 f_Book_init fd_Book_init ["self", "letters"] (sp_book_init C_Book)) (F_Book_init : Fun K "__init__" "Book.__init__" s_Book_init f_Book_init fd_Book_init) (b_Book_init : Binds K fd_Book_init ["self", "letters"] []) (m_Book_init : Mk K C_Book f_Book_init)
    {f_Book_put : Addr} {fd_Book_put : FuncData} (g_Book_put : FnOk P w K mg base CX0 4 f_Book_put fd_Book_put ["self", "word", "mark"] (sp_book_put37 C_Book)) (F_Book_put : Fun K "put" "Book.put" s_Book_put f_Book_put fd_Book_put) (b_Book_put : Binds K fd_Book_put ["self", "word", "mark"] []) (m_Book_put : Meth K C_Book "put" f_Book_put)
    : FnOk P w K mg base CX0 5 f fd ["house", "access", "ends", "more"] (sp_told37 K C_Book) := by
  refine F.ok sc__law_told (fun vs H Q E h => ?_) (fun cdv A outer s H vs Q E hr h => ?_)
  . obtain ⟨h, a, b, L, n, marks, ways, xs, ys, acc, ends, rfl, _⟩ := h; rfl
  . obtain ⟨h, a, b, L, n, marks, ways, xs, ys, acc, ends, rfl, hh, wf, hn9, ha, hA, hal, haw, hb, hE, hel, hew, k⟩ := h
    have hl := line1000
    have hL6 := wf.l6
    refine ⟨_, (pss_cons (ps_set (i := 4) sc__law_told.nd rfl (Or.inl rfl) (pe_make m_Book_init g_Book_init (hr.mono (by decide)) rfl W.m_Book b_Book_init .nil pass0 (pa_cons (pe_ix ix_tup (pv 0) pe_int (fun _ _ => rfl)) pa_nil)))
      (pss_cons (ps_for PassesOwn.never rfl (pi_range1 rfl T.range (pa_cons (pv 3) pa_nil)) (pg_name (i := 5) sc__law_told.nd rfl (Or.inl rfl))
      (pss_one (ps_expr (pe_meth (pv 4) W.cl_Book m_Book_put g_Book_put (hr.mono (by decide)) b_Book_put .nil pass0 (pa_cons (pe_op op_repT (pe_tup (pa_cons pe_int pa_nil)) (pv 5)) (pa_cons (pe_call g__law_answer (hr.mono (by decide)) rfl m__law_answer F__law_answer.kp b__law_answer .nil pass0 (pa_cons (pv 0) (pa_cons (pe_op op_repT (pe_tup (pa_cons pe_int pa_nil)) (pv 5)) pa_nil))) pa_nil))))))
      (pss_cons (ps_for PassesOwn.never rfl (pi_list (pv 1)) (pg_name (i := 6) sc__law_told.nd rfl (Or.inl rfl))
      (pss_one (ps_for PassesOwn.never rfl (pi_range2 rfl T.range (pa_cons (pe_un un_neg pe_int) (pa_cons (pe_ix ix_tup (pv 0) pe_int (fun _ _ => rfl)) pa_nil))) (pg_name (i := 7) sc__law_told.nd rfl (Or.inl rfl))
      (pss_cons (ps_set (i := 8) sc__law_told.nd rfl (Or.inl rfl) (pv 6))
      (pss_cut (ps_if (pt_cmpR op_ge (pv 7) pe_int (nomark _))
      (pss_one (ps_set (i := 8) sc__law_told.nd rfl (Or.inl rfl) (pe_op op_catT2 (pv 6) (pe_tup (pa_cons (pv 7) pa_nil)))))
      pss_nil)
      (pss_one (ps_for PassesOwn.never rfl (pi_list (pv 2)) (pg_name (i := 9) sc__law_told.nd rfl (Or.inl rfl))
      (pss_one (ps_expr (pe_meth (pv 4) W.cl_Book m_Book_put g_Book_put (hr.mono (by decide)) b_Book_put .nil pass0 (pa_cons (pe_op op_catT2 (pv 8) (pv 9)) (pa_cons (pe_call g__law_answer (hr.mono (by decide)) rfl m__law_answer F__law_answer.kp b__law_answer .nil pass0 (pa_cons (pv 0) (pa_cons (pe_op op_catT2 (pv 8) (pv 9)) pa_nil))) pa_nil))))))))))))
      (pss_one (ps_ret (pv 4)))))), ?_⟩
    obtain ⟨tm, tw, zs, q1, q2, q3, q4⟩ := id hh
    walk_at "rd"
    refine ⟨_, SqT.of q1, _, rfl, ?_⟩
    intro pb dx hpb hdx hne
    refine ⟨pb, dx, L, rfl, upd_same, fun d H1 hd1 B keep => ⟨rfl, ?_⟩⟩
    have s1 : Same H H1 := fun c o' hc => keep c o' (by rw [upd_ne (fun z => by rw [z, hpb] at hc; cases hc), upd_ne (fun z => by rw [z, hdx] at hc; cases hc)]; exact hc) (fun z => by rw [z, hpb] at hc; cases hc)
    have hdH : H d = none := (none_of_upd (none_of_upd hd1).1).1
    refine ⟨by omega, by omega, ?_⟩
    rw [Int.toNat_natCast]
    have hL1 := wf.l1
    obtain ⟨G, hG⟩ : ∃ G : Nat -> List (List Int × Int) -> Hp -> Prop, ∀ N es H', G N es H' ↔ (Same H H' /\ BookAt C_Book H' pb d L es /\ Tells L marks ways es /\ es.length <= N) := ⟨_, fun _ _ _ => Iff.rfl⟩
    have put : ∀ (N : Nat) (es : List (List Int × Int)) (H' H2 : Hp) (t : Addr) (w : List Int) (R : Hp -> Prop), G N es H' -> Same H' H2 -> H2 t = some (.tup (w.map V.int)) -> isW L w = true -> w.length <= 200 -> N <= 60000 -> (∀ H3, G (N + 1) (putE es w (markW marks (walkW ways w))) H3 -> TK H2 H3 -> R H3) -> sp_book_put37 C_Book [.ref pb, .ref t, .int (markW marks (walkW ways w))] H2 (fun _ H3 => R H3) E0 := fun N es H' H2 t w R hg s2 ht hw hwl hN kR => by
      obtain ⟨s', B', T', hlen⟩ := (hG _ _ _).mp hg
      have hm := markW_in wf hw
      refine ⟨pb, d, t, L, _, w, es, rfl, B'.mono s2, ht, hw, by omega, hm.1, hm.2, fun v hv => (T'.ans _ hv).2, by omega, fun H3 B3 keep3 => kR H3 ((hG _ _ _).mpr ⟨fun c o hc => keep3 c o (s2 _ _ (s' _ _ hc)) (fun z => by rw [z, hdH] at hc; cases hc), B3, T'.put hw, by have := putE_len es w (markW marks (walkW ways w)); omega⟩) (fun c zs' z => keep3 c _ z (fun e => by rw [e, (B'.mono s2).dc] at z; cases z))⟩
    have B0 : G 0 [] H1 := (hG _ _ _).mpr ⟨s1, B, ⟨fun x hx => by cases hx⟩, Nat.le_refl _⟩
    obtain ⟨Pv, hPv⟩ : ∃ Pv : Nat -> St -> Hp -> Prop, ∀ i σ' H', Pv i σ' H' ↔ (∃ (es : List (List Int × Int)) (o : Option V), G i es H' /\ σ' = [some (.ref h), some (.ref a), some (.ref b), some (.int n), some (.ref pb), o, none, none, none, none]) := ⟨_, fun _ _ _ => Iff.rfl⟩
    refine forR Pv ((hPv _ _ _).mpr ⟨[], none, B0, rfl⟩) (fun i σ' H' hi h' => ?_) (fun σ' H' h' => ?_)
    . obtain ⟨es, o, hg, rfl⟩ := (hPv _ _ _).mp h'
      obtain ⟨s', B', T', hlen⟩ := (hG _ _ _).mp hg
      obtain ⟨⟨dx2, hob⟩, _, _⟩ := id B'
      rw [Int.zero_add]
      have hw0 : isW L (List.replicate i (0 : Int)) = true := isW_iff.mpr fun x hx => by rw [(List.mem_replicate.mp hx).2]; omega
      walk_at "rd"
      refine ⟨_, _, hob, bflds_no _ _ (by decide +kernel) (by decide +kernel), by omega, fun p1 hp1 => rRepT.ofS upd_same (by simp) (by omega) (by omega) (by simp; omega) fun t1 H2 s2 ht1 => ⟨by omega, fun p2 hp2 => rRepT.ofS upd_same (by simp) (by omega) (by omega) (by simp; omega) fun t2 H3 s3 ht2 => ?_⟩⟩
      rw [Int.toNat_natCast, flat_rep37] at ht1 ht2
      have s12 := (Same.new hp1 (o := .tup [V.int 0])).trans s2
      have s23 := (Same.new hp2 (o := .tup [V.int 0])).trans s3
      exact ⟨h, t2, L, marks, ways, List.replicate i 0, rfl, hh.mono ((s'.trans s12).trans s23), wf, ht2, hw0, put i es H' H3 t1 (List.replicate i 0) _ hg (s12.trans s23) (s23 _ _ ht1) hw0 (by simp; omega) (by omega) fun H4 hg4 _ => (hPv _ _ _).mpr ⟨_, _, hg4, rfl⟩⟩
    . obtain ⟨es, o, hg, rfl⟩ := (hPv _ _ _).mp h'
      obtain ⟨s', B', T', hlen⟩ := (hG _ _ _).mp hg
      walk_at "rd"
      refine ⟨⟨_, s'.seq ha⟩, ?_⟩
      obtain ⟨Pw, hPw⟩ : ∃ Pv : Nat -> St -> Hp -> Prop, ∀ i σ2 H2, Pv i σ2 H2 ↔ (∃ (es : List (List Int × Int)) (o1 o2 o3 o4 : Option V), G (9 + i * 400) es H2 /\ (∀ w ∈ acc.take i, ∀ r ∈ w :: extW L w, ∀ e ∈ ends, r ++ e ∈ es.map (·.1)) /\ σ2 = [some (.ref h), some (.ref a), some (.ref b), some (.int n), some (.ref pb), o, o1, o2, o3, o4]) := ⟨_, fun _ _ _ => Iff.rfl⟩
      have hg9 : G (9 + 0 * 400) es H' := (hG _ _ _).mpr ⟨s', B', T', by omega⟩
      refine forL (xs := xs) Pw ((hPw _ _ _).mpr ⟨es, none, none, none, none, hg9, (fun w hw => by rw [List.take_zero] at hw; cases hw), rfl⟩) (fun i σ2 H2 _ h2 => by obtain ⟨_, _, _, _, _, hg2, _⟩ := (hPw _ _ _).mp h2; exact ((hG _ _ _).mp hg2).1.seq ha) (fun i x σ2 H2 hx h2 => ?_) (fun σ2 H2 h2 => ?_)
      . clear hg9 hg s' B' T' hlen h'
        obtain ⟨es, o1, o2, o3, o4, hg, hks, rfl⟩ := (hPw _ _ _).mp h2
        obtain ⟨t, w, hwi, rfl, ht⟩ := hA.at hx
        have hwm := List.mem_of_getElem? hwi
        have hwl := haw w hwm
        have hi : i < acc.length := (List.getElem?_eq_some_iff.mp hwi).1
        have et : acc.take (i + 1) = acc.take i ++ [w] := by rw [List.take_add_one, hwi]; rfl
        obtain ⟨s2, _, _, _⟩ := (hG _ _ _).mp hg
        walk_at "rd"
        refine ⟨_, SqT.of (s2 _ _ q1), _, rfl, L, rfl, by omega, by omega, by omega, by omega, ?_⟩
        rw [show ((L : Int) - -1).toNat = L + 1 by omega]
        have hrl : (w :: extW L w).length = L + 1 := by unfold extW; simp
        obtain ⟨Py, hPy⟩ : ∃ Pv : Nat -> St -> Hp -> Prop, ∀ j σ3 H3, Pv j σ3 H3 ↔ (∃ (es : List (List Int × Int)) (o2 o3 o4 : Option V), G (9 + i * 400 + j * 50) es H3 /\ (∀ w ∈ acc.take i, ∀ r ∈ w :: extW L w, ∀ e ∈ ends, r ++ e ∈ es.map (·.1)) /\ (∀ r ∈ (w :: extW L w).take j, ∀ e ∈ ends, r ++ e ∈ es.map (·.1)) /\ σ3 = [some (.ref h), some (.ref a), some (.ref b), some (.int n), some (.ref pb), o, some (.ref t), o2, o3, o4]) := ⟨_, fun _ _ _ => Iff.rfl⟩
        refine forR Py ((hPy _ _ _).mpr ⟨es, _, _, _, by rw [Nat.zero_mul, Nat.add_zero]; exact hg, hks, (fun r hr1 => by rw [List.take_zero] at hr1; cases hr1), rfl⟩) (fun j σ3 H3 hj h3 => ?_) (fun σ3 H3 h3 => ?_)
        . clear hks hg s2
          obtain ⟨es, o2, o3, o4, hg, hks, hkr, rfl⟩ := (hPy _ _ _).mp h3
          obtain ⟨s3, _, _, _⟩ := (hG _ _ _).mp hg
          obtain ⟨r, hr0, hrL, hrW⟩ : ∃ r, (w :: extW L w)[j]? = some r /\ r.length <= 65 /\ isW L r = true := by
            cases j with
            | zero => exact ⟨w, rfl, by omega, hwl.2⟩
            | succ j =>
              refine ⟨w ++ [(j : Int)], ?_, by rw [List.length_append, List.length_singleton]; omega, isW_iff.mpr fun y hy => ?_⟩
              . rw [List.getElem?_cons_succ]
                unfold extW
                rw [List.getElem?_map, List.getElem?_range (by omega)]
                rfl
              . rcases List.mem_append.mp hy with hy | hy
                . exact isW_iff.mp hwl.2 y hy
                . rw [List.mem_singleton.mp hy]; omega
          have etj : (w :: extW L w).take (j + 1) = (w :: extW L w).take j ++ [r] := by rw [List.take_add_one, hr0]; rfl
          walk_at "rd"
          obtain ⟨R, hR⟩ : ∃ R : St -> Hp -> Prop, ∀ σ' H', R σ' H' ↔ (∃ (tr : Addr) (o4 : Option V), Same H3 H' /\ H' tr = some (.tup (r.map V.int)) /\ σ' = [some (.ref h), some (.ref a), some (.ref b), some (.int n), some (.ref pb), o, some (.ref t), some (.int (-1 + (j : Int))), some (.ref tr), o4]) := ⟨_, fun _ _ => Iff.rfl⟩
          refine ⟨R, ?_, fun σ4 H4 h4 => ?_⟩
          . walk_at "rd"
            refine ite2 (fun hj0 => ?_) (fun hj0 => ?_)
            . obtain ⟨j, rfl⟩ : ∃ j', j = j' + 1 := ⟨j - 1, by omega⟩
              have hr' : r = w ++ [(j : Int)] := by
                rw [List.getElem?_cons_succ] at hr0
                unfold extW at hr0
                rw [List.getElem?_map, List.getElem?_range (by omega)] at hr0
                exact (Option.some.inj hr0).symm
              refine ⟨by omega, fun p1 hp1 => rCatT2.ofS (Same.new hp1 _ _ (s3 _ _ ht)) upd_same (by simp; omega) fun tr H4 s4 htr => (hR _ _).mpr ⟨tr, _, (Same.new hp1).trans s4, ?_, rfl⟩⟩
              rw [hr', List.map_append]
              rw [show (-1 : Int) + ((j + 1 : Nat) : Int) = (j : Int) by omega] at htr
              exact htr
            . have hj' : j = 0 := by omega
              subst hj'
              cases hr0
              exact (hR _ _).mpr ⟨t, _, Same.refl _, s3 _ _ ht, rfl⟩
          . obtain ⟨tr, o4', s4, htr, rfl⟩ := (hR _ _).mp h4
            have s34 := s3.trans s4
            walk_at "rd"
            refine ⟨⟨_, s34.seq hb⟩, ?_⟩
            obtain ⟨Pz, hPz⟩ : ∃ Pv : Nat -> St -> Hp -> Prop, ∀ q σ5 H5, Pv q σ5 H5 ↔ (∃ (es : List (List Int × Int)) (o4 : Option V), G (9 + i * 400 + j * 50 + q) es H5 /\ TK H4 H5 /\ (∀ w ∈ acc.take i, ∀ r ∈ w :: extW L w, ∀ e ∈ ends, r ++ e ∈ es.map (·.1)) /\ (∀ r ∈ (w :: extW L w).take j, ∀ e ∈ ends, r ++ e ∈ es.map (·.1)) /\ (∀ e ∈ ends.take q, r ++ e ∈ es.map (·.1)) /\ σ5 = [some (.ref h), some (.ref a), some (.ref b), some (.int n), some (.ref pb), o, some (.ref t), some (.int (-1 + (j : Int))), some (.ref tr), o4]) := ⟨_, fun _ _ _ => Iff.rfl⟩
            have hg4 : G (9 + i * 400 + j * 50 + 0) es H4 := by
              obtain ⟨a1, a2, a3, a4⟩ := (hG _ _ _).mp hg
              exact (hG _ _ _).mpr ⟨a1.trans s4, a2.mono s4, a3, a4⟩
            refine forL (xs := ys) Pz ((hPz _ _ _).mpr ⟨es, _, hg4, TK.refl _, hks, hkr, (fun e he => by rw [List.take_zero] at he; cases he), rfl⟩) (fun q σ5 H5 _ h5 => by obtain ⟨_, _, hg5, _⟩ := (hPz _ _ _).mp h5; exact ((hG _ _ _).mp hg5).1.seq hb) (fun q y σ5 H5 hy h5 => ?_) (fun σ5 H5 h5 => ?_)
            . obtain ⟨es5, o5, hg5, tk5, k1, k2, k3, rfl⟩ := (hPz _ _ _).mp h5
              obtain ⟨s5, B5, _, _⟩ := (hG _ _ _).mp hg5
              obtain ⟨⟨dx5, hob5⟩, _, _⟩ := id B5
              obtain ⟨te, e, hei, rfl, hte⟩ := hE.at hy
              have hel' := hew e (List.mem_of_getElem? hei)
              have hq : q < ends.length := (List.getElem?_eq_some_iff.mp hei).1
              have etq : ends.take (q + 1) = ends.take q ++ [e] := by rw [List.take_add_one, hei]; rfl
              have hre : isW L (r ++ e) = true := isW_iff.mpr fun y hy' => by
                rcases List.mem_append.mp hy' with hy' | hy'
                . exact isW_iff.mp hrW y hy'
                . exact isW_iff.mp hel'.2 y hy'
              walk_at "rd"
              refine ⟨_, _, hob5, bflds_no _ _ (by decide +kernel) (by decide +kernel), rCatT2.ofS (tk5 _ _ htr) (s5 _ _ hte) (by simp; omega) fun t1 H6 s6 ht1 => rCatT2.ofS (s6 _ _ (tk5 _ _ htr)) (s6 _ _ (s5 _ _ hte)) (by simp; omega) fun t2 H7 s7 ht2 => ?_⟩
              refine ⟨h, t2, L, marks, ways, r ++ e, rfl, hh.mono (s5.trans (s6.trans s7)), wf, by rw [List.map_append]; exact ht2, hre, put _ es5 H5 H7 t1 (r ++ e) _ hg5 (s6.trans s7) (by rw [List.map_append]; exact s7 _ _ ht1) hre (by rw [List.length_append]; omega) (by omega) fun H8 hg8 tk8 => (hPz _ _ _).mpr ⟨_, _, hg8, fun c zs' z => tk8 _ _ ((s6.trans s7) _ _ (tk5 _ _ z)), fun v hv r' hr' e' he' => putE_old (k1 v hv r' hr' e' he'), fun r' hr' e' he' => putE_old (k2 r' hr' e' he'), fun e' he' => ?_, rfl⟩⟩
              rw [etq] at he'
              rcases List.mem_append.mp he' with he' | he'
              . exact putE_old (k3 e' he')
              . rw [List.mem_singleton.mp he']; exact putE_key
            . obtain ⟨es5, o5, hg5, tk5, k1, k2, k3, rfl⟩ := (hPz _ _ _).mp h5
              rw [hE.1, List.take_length] at k3
              refine (hPy _ _ _).mpr ⟨es5, _, _, _, ?_, k1, fun r' hr' => ?_, rfl⟩
              . obtain ⟨a1, a2, a3, a4⟩ := (hG _ _ _).mp hg5
                rw [hE.1] at a4
                exact (hG _ _ _).mpr ⟨a1, a2, a3, by omega⟩
              . rw [etj] at hr'
                rcases List.mem_append.mp hr' with hr' | hr'
                . exact k2 r' hr'
                . rw [List.mem_singleton.mp hr']; exact k3
        . obtain ⟨es', o2', o3', o4', hg', hks', hkr', rfl⟩ := (hPy _ _ _).mp h3
          refine (hPw _ _ _).mpr ⟨es', _, _, _, _, ?_, fun v hv => ?_, rfl⟩
          . obtain ⟨a1, a2, a3, a4⟩ := (hG _ _ _).mp hg'
            exact (hG _ _ _).mpr ⟨a1, a2, a3, by
              have : (L + 1) * 50 <= 7 * 50 := Nat.mul_le_mul (by omega) (Nat.le_refl _)
              omega⟩
          . rw [et] at hv
            rcases List.mem_append.mp hv with hv | hv
            . exact hks' v hv
            . rw [List.mem_singleton.mp hv]
              rw [<- hrl, List.take_length] at hkr'
              exact hkr'
      . obtain ⟨es, o1, o2, o3, o4, hg2, hks, rfl⟩ := (hPw _ _ _).mp h2
        obtain ⟨s2, B2, T2, hlen2⟩ := (hG _ _ _).mp hg2
        rw [hA.1, List.take_length] at hks
        rw [hA.1] at hlen2
        walk_at "rd"
        refine k pb d es _ s2 B2 T2 (fun r hr1 e he => ?_) (by omega)
        unfold rowsW at hr1
        rcases mem_insAllW.mp hr1 with hr1 | hr1
        . rcases mem_insAllW.mp hr1 with hr1 | hr1
          . cases hr1
          . exact hks r hr1 r (by simp) e he
        . obtain ⟨w, hw, hr1⟩ := List.mem_flatMap.mp hr1
          exact hks w hw r (List.mem_cons_of_mem _ hr1) e he
theorem cutV_mid37 (xs : List V) (m n : Nat) (h : m <= n) (hn : n <= xs.length) : cutV xs (some (m : Int)) (some (n : Int)) = (xs.take n).drop m := by
  unfold cutV
  rw [HT.sIx_nat, HT.sIx_nat, show min m xs.length = m from by omega, show min n xs.length = n from by omega, List.drop_take]
def sp_house37 (K : PySem.W.Frag) : Sp := fun vs H Q _ => ∃ (a : Addr) (ns : List Int), vs = [.ref a] /\ SqL K H a (ns.map V.int) /\ ns.length <= 63 /\ ∀ (h : Addr) (L : Nat) (marks : List Int) (ways : List (List Int)) (H' : Hp), Same H H' -> HouL K H' h L marks ways -> Wf L marks ways -> L <= 2 -> marks.length <= 5 -> Q (.ref h) H'
theorem ok__law_house_by {f : Addr} {fd : FuncData} (F : Fun K "_law_house_by" "_law_house_by" s__law_house_by f fd) (T : Txt mg)
    (W : Own K mg C_Book)
    (Z : Exs K mg C_AskError C_BadWord)
    {f__law_cell_at : Addr} {fd__law_cell_at : FuncData} (g__law_cell_at : FnOk P w K mg base CX0 1 f__law_cell_at fd__law_cell_at ["script", "k"] (sp_cell K)) (F__law_cell_at : Fun K "_law_cell_at" "_law_cell_at" s__law_cell_at f__law_cell_at fd__law_cell_at) (b__law_cell_at : Binds K fd__law_cell_at ["script", "k"] []) (m__law_cell_at : mg "_law_cell_at" = some (.ref f__law_cell_at))
    : FnOk P w K mg base CX0 2 f fd ["script"] (sp_house37 K) := by
  refine F.ok sc__law_house_by (fun vs H Q E h => ?_) (fun cdv A outer s H vs Q E hr h => ?_)
  . obtain ⟨a, ns, rfl, _⟩ := h; rfl
  . obtain ⟨a, ns, rfl, hs, hz, k⟩ := h
    have hl := line1000
    refine ⟨_, (pss_cons (ps_set (i := 1) sc__law_house_by.nd rfl (Or.inl rfl) (pe_op op_mod (pe_call g__law_cell_at (hr.mono (by decide)) rfl m__law_cell_at F__law_cell_at.kp b__law_cell_at .nil pass0 (pa_cons (pv 0) (pa_cons pe_int pa_nil))) (pe_op op_pow pe_int pe_int)))
      (pss_cons (ps_set (i := 2) sc__law_house_by.nd rfl (Or.inl rfl) (pe_op op_add pe_int (pe_op op_mod (pv 1) pe_int)))
      (pss_cons (ps_set (i := 3) sc__law_house_by.nd rfl (Or.inr rfl) (pe_op op_add pe_int (pe_op op_mod (pe_op op_fdiv (pv 1) pe_int) pe_int)))
      (pss_cons (ps_set (i := 4) sc__law_house_by.nd rfl (Or.inl rfl) (pe_lst (pa_cons (pe_op op_mod (pe_call g__law_cell_at (hr.mono (by decide)) rfl m__law_cell_at F__law_cell_at.kp b__law_cell_at .nil pass0 (pa_cons (pv 0) (pa_cons pe_int pa_nil))) pe_int) (pa_cons (pe_op op_mod (pe_call g__law_cell_at (hr.mono (by decide)) rfl m__law_cell_at F__law_cell_at.kp b__law_cell_at .nil pass0 (pa_cons (pv 0) (pa_cons pe_int pa_nil))) pe_int) pa_nil))))
      (pss_cons (ps_set (i := 5) sc__law_house_by.nd rfl (Or.inr rfl) (pe_lst (pa_cons (pe_ix ix_list (pv 4) pe_int (fun _ _ => rfl)) (pa_cons (pe_ix ix_list (pv 4) pe_int (fun _ _ => rfl)) (pa_cons (pe_op op_mod (pe_op op_add (pe_ix ix_list (pv 4) pe_int (fun _ _ => rfl)) pe_int) pe_int) pa_nil)))))
      (pss_cons (ps_set (i := 6) sc__law_house_by.nd rfl (Or.inr rfl) (pe_comp rfl (blk_mk rfl) (cp := c__law_house_by_0) True.intro (pi_range1 rfl T.range (pa_cons (pe_op op_mul (pv 3) (pe_op op_add (pv 2) pe_int)) pa_nil)) (fun _ _ _ _ => (pg_name (i := 0) nd_c__law_house_by_0 rfl (Or.inl rfl))) (fun _ _ _ _ => pf_nil) (fun _ _ _ _ => pe_int)))
      (pss_cons (ps_for PassesOwn.never rfl (pi_enumL rfl T.enumerate (pv 0)) (pg_tup rfl (pgs_cons (pg_name (i := 7) sc__law_house_by.nd rfl (Or.inl rfl)) (pgs_cons (pg_name (i := 8) sc__law_house_by.nd rfl (Or.inl rfl)) pgs_nil)))
      (pss_one (ps_asg (pe_op op_mod (pe_op op_add (pe_op op_mul (pe_ix ix_list (pv 6) (pe_op op_mod (pv 7) (pe_callB call_len_seq (by rfl) T.len PySem.boot_len (pa_cons (pv 6) pa_nil))) (fun _ _ => rfl)) pe_int) (pv 8)) pe_int) (pg_sub (pv 6) (pe_op op_mod (pv 7) (pe_callB call_len_seq (by rfl) T.len PySem.boot_len (pa_cons (pv 6) pa_nil))) set_list))))
      (pss_cons (ps_setC (i := 9) sc__law_house_by.nd rfl rfl rfl (blk_mk rfl) (cp := c__law_house_by_1) ⟨⟨rfl, rfl⟩, ⟨⟨rfl, rfl⟩, True.intro⟩⟩ (pi_range1 rfl T.range (pa_cons (pv 3) pa_nil)) (fun _ _ _ _ => (pg_name (i := 0) nd_c__law_house_by_1 rfl (Or.inl rfl))) (fun _ _ _ _ => pf_nil) (fun _ _ _ _ => (pe_ix (ix_listK (K := K) rfl) (pv 1) (pe_op op_mod (pe_ix (ix_listK (K := K) rfl) (pv 2) (pv 0) (fun _ _ => rfl)) pe_int) (fun _ _ => rfl))))
      (pss_cons (ps_set (i := 10) sc__law_house_by.nd rfl (Or.inl rfl) (pe_lst pa_nil))
      (pss_cons (ps_for PassesOwn.never rfl (pi_range1 rfl T.range (pa_cons (pv 3) pa_nil)) (pg_name (i := 11) sc__law_house_by.nd rfl (Or.inl rfl))
      (pss_cons (ps_set (i := 12) sc__law_house_by.nd rfl (Or.inl rfl) (pe_slice sl_list (pv 6) (po_some (pe_op op_add (pv 3) (pe_op op_mul (pv 11) (pv 2)))) (po_some (pe_op op_add (pv 3) (pe_op op_mul (pe_op op_add (pv 11) pe_int) (pv 2))))))
      (pss_one (ps_expr (pe_bm PySem.F.plainAttrs_list PySem.F.slot_list_append PySem.F.type_list_append mt_append (pv 10) (pa_cons (pe_comp rfl (blk_mk rfl) (cp := c__law_house_by_2) ⟨⟨rfl, rfl⟩, True.intro⟩ (pi_list (pv 12)) (fun _ _ _ _ => (pg_name (i := 0) nd_c__law_house_by_2 rfl (Or.inl rfl))) (fun _ _ _ _ => pf_nil) (fun _ _ _ _ => (pe_op op_mod (pe_op op_fdiv (pv 0) pe_int) (pv 1)))) pa_nil))))))
      (pss_one (ps_ret (pe_tup (pa_cons (pv 2) (pa_cons (pv 9) (pa_cons (pv 10) pa_nil)))))))))))))))), ?_⟩
    walk_at "rd"
    refine ⟨a, ns, 0, rfl, hs, (show CPow 10 9 from ⟨by omega, by omega, by decide⟩), _, rfl, by decide, ?_⟩
    have hd0 := Int.emod_nonneg (cell ns 0) (show (10 : Int) ^ Int.toNat 9 ≠ 0 by decide)
    generalize cell ns 0 % 10 ^ Int.toNat 9 = hd at hd0 ⊢
    have g0 := Int.emod_nonneg hd (show (2 : Int) ≠ 0 by decide)
    have g1 := Int.emod_lt_of_pos hd (show (0 : Int) < 2 by decide)
    have g2 := Int.emod_nonneg (hd / 2) (show (5 : Int) ≠ 0 by decide)
    have g3 := Int.emod_lt_of_pos (hd / 2) (show (0 : Int) < 5 by decide)
    obtain ⟨L, hL, hL1, hL2⟩ : ∃ L : Nat, 1 + hd % 2 = (L : Int) /\ 1 <= L /\ L <= 2 := ⟨(1 + hd % 2).toNat, by omega, by omega, by omega⟩
    obtain ⟨n, hn, hn1, hn5⟩ : ∃ L : Nat, 1 + hd / 2 % 5 = (L : Int) /\ 1 <= L /\ L <= 5 := ⟨(1 + hd / 2 % 5).toNat, by omega, by omega, by omega⟩
    rw [hL, hn]
    have c10 := Int.emod_nonneg (cell ns 1) (show (1000000001 : Int) ≠ 0 by decide)
    have c11 := Int.emod_lt_of_pos (cell ns 1) (show (0 : Int) < 1000000001 by decide)
    have c20 := Int.emod_nonneg (cell ns 2) (show (1000000001 : Int) ≠ 0 by decide)
    have c21 := Int.emod_lt_of_pos (cell ns 2) (show (0 : Int) < 1000000001 by decide)
    refine ⟨by decide, ⟨by decide, by decide⟩, by decide, a, ns, 1, rfl, hs, _, rfl, by decide, a, ns, 2, rfl, hs, _, rfl, by decide, by omega, fun p1 hp1 => ?_⟩
    generalize cell ns 1 % 1000000001 = v1 at c10 c11 ⊢
    generalize cell ns 2 % 1000000001 = v2 at c20 c21 ⊢
    have c30 := Int.emod_nonneg (v1 + 1) (show (1000000001 : Int) ≠ 0 by decide)
    have c31 := Int.emod_lt_of_pos (v1 + 1) (show (0 : Int) < 1000000001 by decide)
    obtain ⟨M, hM, hM15⟩ : ∃ M : Nat, M = n * (L + 1) /\ M <= 15 := ⟨_, rfl, Nat.mul_le_mul hn5 (show L + 1 <= 3 by omega)⟩
    have hMi : (n : Int) * ((L : Int) + 1) = (M : Int) := by rw [hM]; simp
    refine ⟨_, SqL.of upd_same, _, rfl, _, SqL.of upd_same, _, rfl, _, SqL.of upd_same, _, rfl, _, rfl, by decide, by omega, fun p2 hp2 => ?_⟩
    generalize (v1 + 1) % 1000000001 = v3 at c30 c31 ⊢
    rw [hMi]
    refine ⟨.inl ⟨by omega, by omega⟩, by omega, by omega, ?_⟩
    rw [Int.toNat_natCast]
    have s1 := (Same.new hp1 (o := .lst [V.int v1, V.int v2])).newT hp2 (o := .lst [V.int v1, V.int v2, V.int v3])
    have hS1 : upd (upd H p1 (.lst [V.int v1, V.int v2])) p2 (.lst [V.int v1, V.int v2, V.int v3]) p2 = some (.lst [V.int v1, V.int v2, V.int v3]) := upd_same
    have hp2H : H p2 = none := (none_of_upd hp2).1
    generalize upd (upd H p1 (.lst [V.int v1, V.int v2])) p2 (.lst [V.int v1, V.int v2, V.int v3]) = H1 at s1 hS1 ⊢
    refine compR (fun i ys σ' H' => H' = H1 /\ ys = (List.replicate i (0 : Int)).map V.int /\ ∃ o, σ' = [o]) ⟨rfl, rfl, none, rfl⟩ (by omega) (fun i ys σ' H' _ h' => by rw [h'.2.1, List.length_map, List.length_replicate]; omega) (fun i ys σ' H' hi h' => ?_) (fun ys σ' H' h' D hD => ?_)
    . obtain ⟨rfl, rfl, o, rfl⟩ := h'
      walk_at "rd"
      refine ⟨?_, _, rfl⟩
      have e1 : List.map V.int (List.replicate i 0) ++ [V.int 0] = List.map V.int (List.replicate (i + 1) 0) := by rw [List.replicate_succ', List.map_append]; rfl
      rw [e1, List.replicate_succ]
      rfl
    obtain ⟨rfl, rfl, o, rfl⟩ := h'
    have sD := s1.newT hD (o := .lst ((List.replicate M (0 : Int)).map V.int))
    have hDH : H D = none := s1.none hD
    have hDS : D ≠ p2 := fun z => by rw [z, hS1] at hD; cases hD
    refine ⟨_, sD.seq hs, ?_⟩
    obtain ⟨Pv, hPv⟩ : ∃ Pv : Nat -> St -> Hp -> Prop, ∀ i σ' H'', Pv i σ' H'' ↔ (∃ (sl : List Int) (o1 o2 : Option V), sl.length = M /\ Same H H'' /\ H'' D = some (.lst (sl.map V.int)) /\ H'' p2 = some (.lst [V.int v1, V.int v2, V.int v3]) /\ σ' = [some (.ref a), some (.int hd), some (.int L), some (.int n), some (.ref p1), some (.ref p2), some (.ref D), o1, o2, none, none, none, none]) := ⟨_, fun _ _ _ => Iff.rfl⟩
    have hM1 : 1 <= M := by rw [hM]; exact Nat.mul_pos (by omega) (by omega)
    refine forM Pv ((hPv _ _ _).mpr ⟨List.replicate M 0, none, none, by simp, sD, upd_same, Same.new hD _ _ hS1, rfl⟩) (fun i σ' H2 _ h2 => by obtain ⟨_, _, _, _, s2, _⟩ := (hPv _ _ _).mp h2; exact s2.seq hs) (fun i v σ' H2 t hv h2 ht => ?_) (fun σ' H2 h2 => ?_)
    . obtain ⟨sl, o1, o2, hsl, s2, hD2, hS2, rfl⟩ := (hPv _ _ _).mp h2
      obtain ⟨c, hc, rfl⟩ := get_mapI hv
      have sT := s2.newT ht (o := .tup [V.int i, V.int c])
      have sT' := Same.new ht (o := .tup [V.int i, V.int c])
      have j0 := Int.emod_nonneg (i : Int) (show (M : Int) ≠ 0 by omega)
      have j1 := Int.emod_lt_of_pos (i : Int) (show (0 : Int) < M by omega)
      obtain ⟨j, hj⟩ : ∃ j : Nat, (i : Int) % (M : Int) = j := ⟨((i : Int) % (M : Int)).toNat, by omega⟩
      obtain ⟨sv, hx⟩ : ∃ sv, sl[(j : Int).toNat]? = some sv := ⟨sl[j], by simp [show j < sl.length by omega]⟩
      walk_at "rd"
      refine ⟨_, SqT.of upd_same, rfl, V.int i, _, rfl, V.int c, _, rfl, rfl, _, .inl (SqL.of (sT' _ _ hD2)), _, rfl, ?_⟩
      rw [List.length_map, hsl, hj]
      refine ⟨by omega, _, SqL.of (sT' _ _ hD2), _, atI_int (by omega) hx, _, rfl, .inr ⟨by decide, by decide⟩, c, rfl, by decide, _, .inl (SqL.of (sT' _ _ hD2)), _, rfl, ?_⟩
      rw [List.length_map, hsl, hj]
      refine ⟨by omega, _, sT' _ _ hD2, j, ?_, (hPv _ _ _).mpr ⟨sl.set j ((sv * 31 + c) % 2147483647), _, _, by rw [List.length_set]; exact hsl, sT.over hDH, by rw [upd_same, List.map_set], ?_, rfl⟩⟩
      . rw [ixN_of (by omega) (by rw [List.length_map]; omega)]; simp
      . rw [upd_ne (Ne.symm hDS)]; exact sT' _ _ hS2
    . obtain ⟨sl, o1, o2, hsl, s2, hD2, hS2, rfl⟩ := (hPv _ _ _).mp h2
      walk_at "rd"
      refine ⟨by omega, by omega, ?_⟩
      rw [Int.toNat_natCast]
      obtain ⟨Pc, hPc⟩ : ∃ Pc : Nat -> List V -> St -> Hp -> Prop, ∀ j ys σ4 H4, Pc j ys σ4 H4 ↔ (H4 = H2 /\ ∃ (ms : List Int) (o : Option V), ys = ms.map V.int /\ ms.length = j /\ (∀ x ∈ ms, 0 <= x /\ x <= 1000000000) /\ σ4 = [o, some (.ref p2), some (.ref D)]) := ⟨_, fun _ _ _ _ => Iff.rfl⟩
      refine compR Pc ((hPc _ _ _ _).mpr ⟨rfl, [], none, rfl, rfl, (fun x hx => by cases hx), rfl⟩) (by omega) (fun j ys σ4 H4 _ h4 => ?_) (fun j ys σ4 H4 hj h4 => ?_) (fun ys σ4 H4 h4 D2 hD2' => ?_)
      . obtain ⟨_, ms, o, rfl, hml, _⟩ := (hPc _ _ _ _).mp h4
        rw [List.length_map]; omega
      . obtain ⟨rfl, ms, o, rfl, hml, hmr, rfl⟩ := (hPc _ _ _ _).mp h4
        rw [Int.zero_add]
        have hjM : j < sl.length := by rw [hsl, hM]; exact Nat.lt_of_lt_of_le hj (Nat.le_mul_of_pos_right _ (by omega))
        have hx : sl[(j : Int).toNat]? = some sl[j] := by simp [hjM]
        have e0 := Int.emod_nonneg sl[j] (show (3 : Int) ≠ 0 by decide)
        have e1 := Int.emod_lt_of_pos sl[j] (show (0 : Int) < 3 by decide)
        obtain ⟨v, hv, v0, v1'⟩ : ∃ v : Int, atI [V.int v1, V.int v2, V.int v3] (sl[j] % 3) = some (V.int v) /\ 0 <= v /\ v <= 1000000000 := by
          have : sl[j] % 3 = 0 \/ sl[j] % 3 = 1 \/ sl[j] % 3 = 2 := by omega
          rcases this with z | z | z <;> rw [z] <;> exact ⟨_, rfl, by omega, by omega⟩
        walk_at "rd"
        refine ⟨_, SqL.of hD2, _, atI_int (by omega) hx, _, rfl, by decide, _, SqL.of hS2, _, hv, (hPc _ _ _ _).mpr ⟨rfl, ms ++ [v], _, by simp, by simp [hml], fun z hz' => ?_, rfl⟩⟩
        rcases List.mem_append.mp hz' with h | h
        . exact hmr z h
        . rw [List.mem_singleton.mp h]; exact ⟨v0, v1'⟩
      . obtain ⟨rfl, ms, o, rfl, hml, hmr, rfl⟩ := (hPc _ _ _ _).mp h4
        refine ⟨by omega, fun pw hpw => ⟨by omega, by omega, ?_⟩⟩
        have hpwH : H pw = none := s2.none (none_of_upd hpw).1
        have s5 := (Same.new hD2' (o := .lst (ms.map V.int))).newT hpw (o := .lst [])
        have hG : upd (upd H4 D2 (.lst (ms.map V.int))) pw (.lst []) pw = some (.lst []) := upd_same
        have hGD : upd (upd H4 D2 (.lst (ms.map V.int))) pw (.lst []) D2 = some (.lst (ms.map V.int)) := Same.new hpw _ _ upd_same
        have hDp : D ≠ pw := fun z => by
          have := (none_of_upd hpw).1
          rw [<- z, hD2] at this; cases this
        have hD2p : D2 ≠ pw := fun z => by rw [<- z, upd_same] at hpw; cases hpw
        have hD5 := s5 _ _ hD2
        have s05 := s2.trans s5
        generalize upd (upd H4 D2 (.lst (ms.map V.int))) pw (.lst []) = HG at s5 hG hGD hD5 s05 ⊢
        obtain ⟨Pz, hPz⟩ : ∃ Pv : Nat -> St -> Hp -> Prop, ∀ i σ6 H6, Pv i σ6 H6 ↔ (∃ (xs : List V) (ways : List (List Int)) (o3 o4 : Option V), Same H H6 /\ H6 D = some (.lst (sl.map V.int)) /\ H6 D2 = some (.lst (ms.map V.int)) /\ H6 pw = some (.lst xs) /\ LLs HG H6 xs ways /\ (∀ u, H6 u = none -> HG u = none) /\ ways.length = i /\ (∀ r ∈ ways, r.length = L /\ ∀ x ∈ r, 0 <= x /\ x < (n : Int)) /\ σ6 = [some (.ref a), some (.int hd), some (.int L), some (.int n), some (.ref p1), some (.ref p2), some (.ref D), o1, o2, some (.ref D2), some (.ref pw), o3, o4]) := ⟨_, fun _ _ _ => Iff.rfl⟩
        refine forR Pz ((hPz _ _ _).mpr ⟨[], [], none, none, s05, hD5, hGD, hG, LLs.nil _ _, fun u hu => hu, rfl, (fun r hr1 => by cases hr1), rfl⟩) (fun i σ6 H6 hi h6 => ?_) (fun σ6 H6 h6 => ?_)
        . obtain ⟨xs, ways, o3, o4, s6, hD6, hm6, hw6, hLL, hN, hwl, hwr, rfl⟩ := (hPz _ _ _).mp h6
          rw [Int.zero_add]
          walk_at "rd"
          have hb : n + (i + 1) * L <= M := by
            rw [hM]
            rcases (show L = 1 \/ L = 2 by omega) with z | z <;> subst z <;> omega
          have hb1 : n + i * L + L = n + (i + 1) * L := by rw [Nat.succ_mul]; omega
          have e1 : (n : Int) + (i : Int) * (L : Int) = ((n + i * L : Nat) : Int) := by simp
          have e2 : (n : Int) + ((i : Int) + 1) * (L : Int) = ((n + (i + 1) * L : Nat) : Int) := by simp
          rw [e1, e2]
          refine ⟨.inl ⟨by omega, by omega⟩, .inl ⟨by omega, by omega⟩, _, SqL.of hD6, fun p3 hp3 => ?_⟩
          rw [cutV_mid37 _ _ _ (by omega) (by rw [List.length_map]; omega), <- List.map_take, <- List.map_drop]
          have hrsl : ((sl.take (n + (i + 1) * L)).drop (n + i * L)).length = L := by rw [List.length_drop, List.length_take]; omega
          generalize (sl.take (n + (i + 1) * L)).drop (n + i * L) = rs at hrsl ⊢
          have s7 := Same.new hp3 (o := .lst (rs.map V.int))
          refine ⟨.inl ⟨rfl, _, SqL.of (s7 _ _ hw6)⟩, ⟨_, SqL.of upd_same⟩, ?_⟩
          obtain ⟨f, hf⟩ : ∃ f : V -> V, ∀ c : Int, f (V.int c) = .int (c / 3 % (n : Int)) := ⟨fun x => match x with | .int c => .int (c / 3 % (n : Int)) | _ => .non, fun _ => rfl⟩
          refine compMapL (xs := rs.map V.int) (σ' := [some (.int n)]) f rfl (SqL.of upd_same) (by rw [List.length_map]; omega) (fun x hx R hR => ?_) (fun D3 hD3 => ?_)
          . obtain ⟨c, hc, rfl⟩ := List.mem_map.mp hx
            rw [hf] at hR
            walk_at "rd"
            exact ⟨⟨by decide, by decide⟩, by omega, hR⟩
          have em : (rs.map V.int).map f = (rs.map fun c => c / 3 % (n : Int)).map V.int := by
            rw [List.map_map, List.map_map]
            exact List.map_congr_left fun c _ => hf c
          rw [em]
          have s8 := s7.newT hD3 (o := .lst ((rs.map fun c => c / 3 % (n : Int)).map V.int))
          have hxl : xs.length = i := by rw [<- hwl]; exact LLs.len hLL
          have hD3G : HG D3 = none := hN _ (none_of_upd hD3).1
          have L8 := LLs.off ((hLL.mono s7).snoc (w := rs.map fun c => c / 3 % (n : Int)) hD3G hD3) (o := .lst (xs ++ [V.ref D3])) hG
          refine ⟨_, s8 _ _ hw6, by omega, (hPz _ _ _).mpr ⟨xs ++ [V.ref D3], ways ++ [rs.map fun c => c / 3 % (n : Int)], _, _, (s6.trans s8).over hpwH, by rw [upd_ne hDp]; exact s8 _ _ hD6, by rw [upd_ne hD2p]; exact s8 _ _ hm6, upd_same, L8, fun u hu => hN u (none_of_upd (none_of_upd (none_of_upd hu).1).1).1, by simp [hwl], fun r hr1 => ?_, rfl⟩⟩
          rcases List.mem_append.mp hr1 with hr1 | hr1
          . exact hwr r hr1
          . rw [List.mem_singleton.mp hr1]
            refine ⟨by rw [List.length_map]; exact hrsl, fun x hx => ?_⟩
            obtain ⟨c, _, rfl⟩ := List.mem_map.mp hx
            exact ⟨Int.emod_nonneg _ (by omega), Int.emod_lt_of_pos _ (by omega)⟩
        . obtain ⟨xs, ways, o3, o4, s6, hD6, hm6, hw6, hLL, hN, hwl, hwr, rfl⟩ := (hPz _ _ _).mp h6
          walk_at "rd"
          refine ⟨by omega, fun h hh => ?_⟩
          have sh := Same.new hh (o := .tup [.int L, .ref D2, .ref pw])
          have hW : WordsL K H6 xs ways := by
            obtain ⟨ts, e1, e2, e3, e4, e5⟩ := hLL
            refine ⟨by rw [e1, List.length_map, e2], fun i w hi => ?_⟩
            have hl' : i < ts.length := by rw [e2]; exact (List.getElem?_eq_some_iff.mp hi).1
            exact ⟨ts[i], by rw [e1, List.getElem?_map]; simp [hl'], e4 i _ w (by simp [hl']) hi⟩
          refine k h L ms ways _ (s6.trans sh) ⟨D2, pw, xs, upd_same, sh _ _ hm6, sh _ _ hw6, hW.1, fun i w hi => ?_⟩ ⟨by omega, by omega, by omega, by omega, by omega, fun r hr1 => ⟨by have := (hwr r hr1).1; omega, fun x hx => by have := (hwr r hr1).2 x hx; omega⟩, hmr⟩ hL2 (by omega)
          obtain ⟨t, f1, f2⟩ := hW.2 i w hi
          exact ⟨t, f1, sh _ _ f2⟩
theorem WordsL.mono37 {K : PySem.W.Frag} {H H' : Hp} {xs : List V} {ws : List (List Int)} (h : WordsL K H xs ws) (s : Same H H') : WordsL K H' xs ws := ⟨h.1, fun i w hi => by
  obtain ⟨t, a, b⟩ := h.2 i w hi
  exact ⟨t, a, s _ _ b⟩⟩
theorem WordsL.snoc37 {K : PySem.W.Frag} {H : Hp} {xs : List V} {ws : List (List Int)} {t : Addr} {w : List Int} (h : WordsL K H xs ws) (ht : H t = some (.lst (w.map V.int))) : WordsL K H (xs ++ [.ref t]) (ws ++ [w]) := by
  refine ⟨by simp [h.1], fun i r hi => ?_⟩
  by_cases hl : i < ws.length
  . rw [List.getElem?_append_left hl] at hi
    rw [List.getElem?_append_left (by rw [h.1]; exact hl)]
    exact h.2 i r hi
  . have := (List.getElem?_eq_some_iff.mp hi).1
    rw [List.length_append, List.length_singleton] at this
    have e : i = ws.length := by omega
    subst e
    rw [List.getElem?_append_right (Nat.le_refl _), Nat.sub_self] at hi
    simp at hi
    subst hi
    exact ⟨t, by rw [<- h.1]; simp, ht⟩
def sp_due37 (K : PySem.W.Frag) : Sp := fun vs H Q _ => ∃ (h a b : Addr) (L : Nat) (marks : List Int) (ways : List (List Int)) (xs ys : List V) (acc ends : List (List Int)), vs = [.ref h, .ref a, .ref b] /\ HouL K H h L marks ways /\ Wf L marks ways /\ SqL K H a xs /\ WordsT K H xs acc /\ acc.length <= 64 /\ (∀ w ∈ acc, w.length <= 64 /\ isW L w = true) /\ SqL K H b ys /\ WordsT K H ys ends /\ 1 <= ends.length /\ ends.length <= 50 /\ (∀ e ∈ ends, e.length <= 50 /\ isW L e = true) /\ (∀ w ∈ acc, ∀ x : Nat, x < L -> lineW marks ways ends (w ++ [(x : Int)]) ∈ acc.map (lineW marks ways ends)) /\ ∀ t tm tw zs H', Same H H' -> H' t = some (.tup [.int L, .ref tm, .ref tw]) -> H' tm = some (.tup ((acc.map fun w => (lineW marks ways ends w).headD 0).map V.int)) -> H' tw = some (.tup zs) -> WordsT K H' zs (acc.map fun w => (List.range L).map fun x : Nat => (((acc.map (lineW marks ways ends)).idxOf (lineW marks ways ends (w ++ [(x : Int)])) : Nat) : Int)) -> Q (.ref t) H'
theorem ok__law_due {f : Addr} {fd : FuncData} (F : Fun K "_law_due" "_law_due" s__law_due f fd) (T : Txt mg)
    (W : Own K mg C_Book)
    (Z : Exs K mg C_AskError C_BadWord)
    {f__law_line : Addr} {fd__law_line : FuncData} (g__law_line : FnOk P w K mg base CX0 2 f__law_line fd__law_line ["house", "word", "ends"] (sp_line37 K)) (F__law_line : Fun K "_law_line" "_law_line" s__law_line f__law_line fd__law_line) (b__law_line : Binds K fd__law_line ["house", "word", "ends"] []) (m__law_line : mg "_law_line" = some (.ref f__law_line))
    : FnOk P w K mg base CX0 3 f fd ["house", "access", "ends"] (sp_due37 K) := by
  refine F.ok sc__law_due (fun vs H Q E h => ?_) (fun cdv A outer s H vs Q E hr h => ?_)
  . obtain ⟨h, a, b, L, marks, ways, xs, ys, acc, ends, rfl, _⟩ := h; rfl
  . obtain ⟨h, a, b, L, marks, ways, xs, ys, acc, ends, rfl, hh, wf, ha, hA, hal, haw, hb, hE, he1, hel, hew, hin, k⟩ := h
    have hl := line1000
    refine ⟨_, (pss_cons (ps_setC (i := 3) sc__law_due.nd rfl rfl rfl (blk_mk rfl) (cp := c__law_due_0) ⟨⟨rfl, rfl⟩, ⟨⟨rfl, rfl⟩, True.intro⟩⟩ (pi_list (pv 1)) (fun _ _ _ _ => (pg_name (i := 0) nd_c__law_due_0 rfl (Or.inl rfl))) (fun _ _ _ _ => pf_nil) (fun _ _ _ _ => (pe_call g__law_line (hr.mono (by decide)) rfl m__law_line F__law_line.kp b__law_line .nil pass0 (pa_cons (pv 1) (pa_cons (pv 0) (pa_cons (pv 2) pa_nil))))))
      (pss_cons (ps_set (i := 4) sc__law_due.nd rfl (Or.inl rfl) (pe_lst pa_nil))
      (pss_cons (ps_for PassesOwn.never rfl (pi_list (pv 1)) (pg_name (i := 5) sc__law_due.nd rfl (Or.inl rfl))
      (pss_cons (ps_set (i := 6) sc__law_due.nd rfl (Or.inl rfl) (pe_lst pa_nil))
      (pss_cons (ps_for PassesOwn.never rfl (pi_range1 rfl T.range (pa_cons (pe_ix ix_tup (pv 0) pe_int (fun _ _ => rfl)) pa_nil)) (pg_name (i := 7) sc__law_due.nd rfl (Or.inl rfl))
      (pss_one (ps_expr (pe_bm PySem.F.plainAttrs_list PySem.F.slot_list_append PySem.F.type_list_append mt_append (pv 6) (pa_cons (pe_bm PySem.F.plainAttrs_list PySem.F.slot_list_index PySem.F.type_list_index (mt_lindexL (hu9 hr)) (pv 3) (pa_cons (pe_call g__law_line (hr.mono (by decide)) rfl m__law_line F__law_line.kp b__law_line .nil pass0 (pa_cons (pv 0) (pa_cons (pe_op op_catT2 (pv 5) (pe_tup (pa_cons (pv 7) pa_nil))) (pa_cons (pv 2) pa_nil)))) pa_nil)) pa_nil)))))
      (pss_one (ps_expr (pe_bm PySem.F.plainAttrs_list PySem.F.slot_list_append PySem.F.type_list_append mt_append (pv 4) (pa_cons (pe_callTy call_tuple_of rfl T.tuple PyProof.Rows.boot_tuple (pa_cons (pv 6) pa_nil)) pa_nil)))))))
      (pss_one (ps_ret (pe_tup (pa_cons (pe_ix ix_tup (pv 0) pe_int (fun _ _ => rfl)) (pa_cons (pe_callTy call_tuple_of rfl T.tuple PyProof.Rows.boot_tuple (pa_cons (pe_comp rfl (blk_mk rfl) (cp := c__law_due_1) True.intro (pi_list (pv 3)) (fun _ _ _ _ => (pg_name (i := 0) nd_c__law_due_1 rfl (Or.inl rfl))) (fun _ _ _ _ => pf_nil) (fun _ _ _ _ => (pe_ix (ix_listK (K := K) rfl) (pv 0) pe_int (fun _ _ => rfl)))) pa_nil)) (pa_cons (pe_callTy call_tuple_of rfl T.tuple PyProof.Rows.boot_tuple (pa_cons (pv 4) pa_nil)) pa_nil))))))))), ?_⟩
    walk_at "rd"
    obtain ⟨tm0, tw0, zs0, q1, q2, q3, q4⟩ := id hh
    have hL6 := wf.l6
    have hisx : ∀ w ∈ acc, ∀ x : Nat, x < L -> isW L (w ++ [(x : Int)]) = true := fun w hw x hx => isW_iff.mpr fun y hy => by
      rcases List.mem_append.mp hy with hy | hy
      . exact isW_iff.mp (haw w hw).2 y hy
      . rw [List.mem_singleton.mp hy]; omega
    refine ⟨⟨_, ha⟩, compL (xs := xs) (fun i zs σ' H' => Same H H' /\ WordsL K H' zs ((acc.take i).map (lineW marks ways ends)) /\ ∃ o, σ' = [o, some (.ref h), some (.ref b)]) ⟨Same.refl _, ⟨rfl, fun i w hi => by simp at hi⟩, none, rfl⟩ (by rw [hA.1]; omega) (fun i zs σ' H' hi h' => ⟨h'.1.seq ha, by rw [h'.2.1.1, List.length_map, List.length_take]; omega⟩) (fun i x zs σ' H' hx h' => ?_) (fun zs σ' H' h' D hD => ?_)⟩
    . obtain ⟨s', hZ, o, rfl⟩ := h'
      obtain ⟨t, w, hwi, rfl, ht⟩ := hA.at hx
      have hwm := List.mem_of_getElem? hwi
      have et : acc.take (i + 1) = acc.take i ++ [w] := by rw [List.take_add_one, hwi]; rfl
      walk_at "rd"
      refine ⟨h, t, b, L, marks, ways, w, ys, ends, rfl, hh.mono s', wf, s' _ _ ht, (haw w hwm).2, by have := (haw w hwm).1; omega, s'.seq hb, hE.mono (TK.of s'), hel, hew, fun l H2 s2 hl0 hl2 => ⟨s'.trans s2, ?_, _, rfl⟩⟩
      rw [et, List.map_append]
      exact WordsL.snoc37 (WordsL.mono37 hZ s2) hl2
    obtain ⟨s', hZ, o, rfl⟩ := h'
    rw [hA.1, List.take_length] at hZ
    have sD := s'.newT hD (o := .lst zs)
    have hDL : upd H' D (.lst zs) D = some (.lst zs) := upd_same
    have hZL := WordsL.mono37 hZ (Same.new hD (o := .lst zs))
    generalize upd H' D (.lst zs) = HL at sD hDL hZL ⊢
    have hzl : zs.length = acc.length := by rw [hZL.1, List.length_map]
    refine ⟨by omega, fun pw hpw => ⟨⟨_, (sD.newT hpw).seq ha⟩, ?_⟩⟩
    obtain ⟨Pw, hPw⟩ : ∃ Pv : Nat -> St -> Hp -> Prop, ∀ i σ2 H2, Pv i σ2 H2 ↔ (∃ (us : List V) (o5 o6 o7 : Option V), Same HL H2 /\ H2 pw = some (.lst us) /\ WordsT K H2 us ((acc.take i).map fun w => (List.range L).map fun x : Nat => (((acc.map (lineW marks ways ends)).idxOf (lineW marks ways ends (w ++ [(x : Int)])) : Nat) : Int)) /\ σ2 = [some (.ref h), some (.ref a), some (.ref b), some (.ref D), some (.ref pw), o5, o6, o7]) := ⟨_, fun _ _ _ => Iff.rfl⟩
    refine forL (xs := xs) Pw ((hPw _ _ _).mpr ⟨[], none, none, none, Same.new hpw, upd_same, WordsT.nil, rfl⟩) (fun i σ2 H2 _ h2 => by obtain ⟨_, _, _, _, s2, _⟩ := (hPw _ _ _).mp h2; exact (sD.trans s2).seq ha) (fun i x σ2 H2 hx h2 => ?_) (fun σ2 H2 h2 => ?_)
    . obtain ⟨us, o5, o6, o7, s2, hw2, hU, rfl⟩ := (hPw _ _ _).mp h2
      obtain ⟨t, w, hwi, rfl, ht⟩ := hA.at hx
      have hwm := List.mem_of_getElem? hwi
      have et : acc.take (i + 1) = acc.take i ++ [w] := by rw [List.take_add_one, hwi]; rfl
      have sH2 := sD.trans s2
      walk_at "rd"
      refine ⟨by omega, fun pr hpr => ⟨_, SqT.of ((sH2.newT hpr) _ _ q1), _, rfl, L, rfl, by omega, by omega, ?_⟩⟩
      rw [Int.toNat_natCast]
      have hprw : pr ≠ pw := fun z => by rw [z, hw2] at hpr; cases hpr
      have hprL : HL pr = none := s2.none hpr
      have hwl := (haw w hwm).1
      obtain ⟨Pz, hPz⟩ : ∃ Pv : Nat -> St -> Hp -> Prop, ∀ j σ3 H3, Pv j σ3 H3 ↔ (∃ o7 : Option V, Same HL H3 /\ TK H2 H3 /\ H3 pw = some (.lst us) /\ H3 pr = some (.lst (((List.range j).map fun x : Nat => (((acc.map (lineW marks ways ends)).idxOf (lineW marks ways ends (w ++ [(x : Int)])) : Nat) : Int)).map V.int)) /\ σ3 = [some (.ref h), some (.ref a), some (.ref b), some (.ref D), some (.ref pw), some (.ref t), some (.ref pr), o7]) := ⟨_, fun _ _ _ => Iff.rfl⟩
      refine forR Pz ((hPz _ _ _).mpr ⟨_, s2.newT hpr, TK.of (Same.new hpr), Same.new hpr _ _ hw2, upd_same, rfl⟩) (fun j σ3 H3 hj h3 => ?_) (fun σ3 H3 h3 => ?_)
      . obtain ⟨o7', s3, tk3, hw3, hp3, rfl⟩ := (hPz _ _ _).mp h3
        rw [Int.zero_add]
        have sH3 := sD.trans s3
        walk_at "rd"
        refine ⟨.inl ⟨rfl, _, SqL.of hp3⟩, .inl ⟨rfl, _, SqL.of (s3 _ _ hDL)⟩, by omega, fun p1 hp1 => rCatT2.ofS (Same.new hp1 _ _ (sH3 _ _ ht)) upd_same (by simp; omega) fun q H4 s4 hq => ?_⟩
        have s34 := (Same.new hp1 (o := .tup [V.int j])).trans s4
        have sH4 := sH3.trans s34
        refine ⟨h, q, b, L, marks, ways, w ++ [(j : Int)], ys, ends, rfl, hh.mono sH4, wf, by rw [List.map_append]; exact hq, hisx w hwm j hj, by rw [List.length_append, List.length_singleton]; omega, sH4.seq hb, hE.mono (TK.of sH4), hel, hew, fun l H5 s5 hl0 hl5 => ?_⟩
        have s35 := s34.trans s5
        refine ⟨zs, l, rfl, (s3.trans s35) _ _ hDL, _, _, WordsL.mono37 hZL (s3.trans s35), SqL.of hl5, hin w hwm j hj, by omega, _, s35 _ _ hp3, by rw [List.length_map, List.length_map, List.length_range]; omega, (hPz _ _ _).mpr ⟨_, (s3.trans s35).over hprL, fun c zs' z => ?_, by rw [upd_ne (Ne.symm hprw)]; exact s35 _ _ hw3, by rw [upd_same, List.range_succ, List.map_append, List.map_append]; rfl, rfl⟩⟩
        have := tk3 _ _ z
        rw [upd_ne (fun e => by rw [e, hp3] at this; cases this)]
        exact s35 _ _ this
      . obtain ⟨o7', s3, tk3, hw3, hp3, rfl⟩ := (hPz _ _ _).mp h3
        walk_at "rd"
        refine ⟨.inl ⟨rfl, _, SqL.of hw3⟩, _, .inl ⟨SqL.of hp3, fun tt htt => ?_⟩⟩
        have st := Same.new htt (o := .tup (((List.range L).map fun x : Nat => (((acc.map (lineW marks ways ends)).idxOf (lineW marks ways ends (w ++ [(x : Int)])) : Nat) : Int)).map V.int))
        have hw4 := st _ _ hw3
        have hul : us.length <= 64 := by rw [hU.1, List.length_map, List.length_take]; omega
        refine ⟨_, hw4, by omega, (hPw _ _ _).mpr ⟨us ++ [.ref tt], _, _, _, (s3.trans st).over hpw, upd_same, ?_, rfl⟩⟩
        rw [et, List.map_append]
        exact (((hU.mono tk3).mono (TK.of st)).snoc upd_same).mono (TK.lst hw4)
    . obtain ⟨us, o5, o6, o7, s2, hw2, hU, rfl⟩ := (hPw _ _ _).mp h2
      rw [hA.1, List.take_length] at hU
      walk_at "rd"
      have sH2 := sD.trans s2
      refine ⟨_, SqT.of (sH2 _ _ q1), _, rfl, ⟨_, SqL.of (s2 _ _ hDL)⟩, ?_⟩
      have hZ2 := WordsL.mono37 hZL s2
      refine compL (xs := zs) (fun i ms σ' H' => H' = H2 /\ ms = ((acc.take i).map fun w => (lineW marks ways ends w).headD 0).map V.int /\ ∃ o, σ' = [o]) ⟨rfl, rfl, none, rfl⟩ (by omega) (fun i ms σ' H' hi h' => ⟨by rw [h'.1]; exact SqL.of (s2 _ _ hDL), by rw [h'.2.1, List.length_map, List.length_map, List.length_take]; omega⟩) (fun i x ms σ' H' hx h' => ?_) (fun ms σ' H' h' D2 hD2 => ?_)
      . obtain ⟨rfl, rfl, o, rfl⟩ := h'
        have hi : i < acc.length := by rw [<- hzl]; exact (List.getElem?_eq_some_iff.mp hx).1
        have hwi : acc[i]? = some acc[i] := by simp [hi]
        obtain ⟨tl, hz1, hz2⟩ := hZ2.2 i (lineW marks ways ends acc[i]) (by rw [List.getElem?_map, hwi]; rfl)
        rw [hx] at hz1
        cases hz1
        have et : acc.take (i + 1) = acc.take i ++ [acc[i]] := by rw [List.take_add_one, hwi]; rfl
        have h0 : (lineW marks ways ends acc[i])[((0 : Nat) : Int).toNat]? = some ((lineW marks ways ends acc[i]).headD 0) := by
          unfold lineW
          cases ends with
          | nil => simp at he1
          | cons e es => rfl
        generalize (acc[i]) = w at h0 hz2 et
        walk_at "rd"
        refine ⟨_, SqL.of hz2, _, (atI_int (by omega) h0 : atI _ ((0 : Nat) : Int) = _), ?_⟩
        first
          | (refine ⟨rfl, ?_, _, rfl⟩; rw [et, List.map_append, List.map_append]; rfl)
          | (refine ⟨?_, _, rfl⟩; rw [et, List.map_append, List.map_append]; rfl)
      . obtain ⟨rfl, rfl, o, rfl⟩ := h'
        rw [hzl, List.take_length]
        refine ⟨D2, rfl, _, .inl ⟨SqL.of upd_same, fun tm htm => ?_⟩⟩
        have s3 := (Same.new hD2 (o := .lst ((acc.map fun w => (lineW marks ways ends w).headD 0).map V.int))).newT htm (o := .tup ((acc.map fun w => (lineW marks ways ends w).headD 0).map V.int))
        refine ⟨_, .inl ⟨SqL.of (s3 _ _ hw2), fun tw htw => ⟨by omega, fun hh2 hhh => ?_⟩⟩⟩
        have s4 := (Same.new htw (o := .tup us)).newT hhh (o := .tup [.int L, .ref tm, .ref tw])
        exact k hh2 tm tw us _ (sH2.trans (s3.trans s4)) upd_same (s4 _ _ upd_same) (Same.new hhh _ _ upd_same) (hU.mono (TK.of (s3.trans s4)))
theorem EqD.nil37 {K : PySem.W.Frag} {H : Hp} {a c : Addr} {xs : List V} (h : SqL K H a xs) (hc : SqL K H c []) : EqD K H 8 (.ref a) (.ref c) (decide (xs = [])) := .inr ⟨a, c, xs, [], rfl, rfl, .inl ⟨h, hc⟩, fun _ => true, fun i x y h1 h2 => by simp at h2, by cases xs <;> simp⟩
theorem lineW_room {marks : List Int} {ways ends : List (List Int)} (w : List Int) : lineW marks ways ends w = (fun r => ends.map fun e => markW marks (walkR ways r e)) (walkW ways w) := by
  unfold lineW
  show _ = ends.map fun e => markW marks (walkR ways (walkW ways w) e)
  refine List.map_congr_left fun e _ => ?_
  unfold walkR walkW
  rw [List.foldl_append]
theorem few37 {L : Int} {marks : List Int} {ways ends acc : List (List Int)} (wf : Wf L marks ways) (hw : ∀ w ∈ acc, isW L w = true) (hn : (acc.map (lineW marks ways ends)).Nodup) : acc.length <= marks.length := by
  have h1 : (acc.map (walkW ways)).Nodup := by
    have e : acc.map (lineW marks ways ends) = (acc.map (walkW ways)).map fun r => ends.map fun e => markW marks (walkR ways r e) := by
      rw [List.map_map]
      exact List.map_congr_left fun w _ => lineW_room w
    rw [e] at hn
    exact List.Pairwise.of_map _ (fun a b h z => h (by rw [z])) hn
  have h2 := nodup_len marks.length h1 fun x hx => by
    obtain ⟨w, hw', rfl⟩ := List.mem_map.mp hx
    have hn1 := wf.n1
    exact walkR_in wf w (hw w hw') (show (0 : Int) <= 0 by omega) (by omega)
  rwa [List.length_map] at h2
def sp_access37 (K : PySem.W.Frag) : Sp := fun vs H Q _ => ∃ (h b : Addr) (bit : Int) (L : Nat) (marks : List Int) (ways : List (List Int)) (ys : List V) (ends : List (List Int)), vs = [.ref h, .ref b, .int bit] /\ HouL K H h L marks ways /\ Wf L marks ways /\ (bit = 0 \/ bit = 1) /\ marks.length <= 5 /\ SqL K H b ys /\ WordsT K H ys ends /\ ends.length <= 50 /\ (∀ e ∈ ends, e.length <= 50 /\ isW L e = true) /\ ∀ l xs acc H', Same H H' -> H' l = some (.lst xs) -> WordsT K H' xs acc -> acc.length <= 6 -> (∀ w ∈ acc, w.length <= 64 /\ isW L w = true) -> (acc.map (lineW marks ways ends)).Nodup -> (∀ w ∈ acc, ∀ x : Nat, x < L -> lineW marks ways ends (w ++ [(x : Int)]) ∈ acc.map (lineW marks ways ends)) -> Q (.ref l) H'
theorem ok__law_access_by {f : Addr} {fd : FuncData} (F : Fun K "_law_access_by" "_law_access_by" s__law_access_by f fd) (T : Txt mg)
    (W : Own K mg C_Book)
    (Z : Exs K mg C_AskError C_BadWord)
    {f__law_line : Addr} {fd__law_line : FuncData} (g__law_line : FnOk P w K mg base CX0 2 f__law_line fd__law_line ["house", "word", "ends"] (sp_line37 K)) (F__law_line : Fun K "_law_line" "_law_line" s__law_line f__law_line fd__law_line) (b__law_line : Binds K fd__law_line ["house", "word", "ends"] []) (m__law_line : mg "_law_line" = some (.ref f__law_line))
    : FnOk P w K mg base CX0 3 f fd ["house", "ends", "bit"] (sp_access37 K) := by
  refine F.ok sc__law_access_by (fun vs H Q E h => ?_) (fun cdv A outer s H vs Q E hr h => ?_)
  . obtain ⟨h, b, bit, L, marks, ways, ys, ends, rfl, _⟩ := h; rfl
  . obtain ⟨h, b, bit, L, marks, ways, ys, ends, rfl, hh, wf, hbit, hm5, hb, hE, hel, hew, k⟩ := h
    have hl := line1000
    have hL6 := wf.l6
    have hn1 := wf.n1
    refine ⟨_, (pss_cons (ps_set (i := 3) sc__law_access_by.nd rfl (Or.inl rfl) (pe_lst (pa_cons (pe_tup pa_nil) pa_nil)))
      (pss_cons (ps_for PassesOwn.never rfl (pi_range1 rfl T.range (pa_cons (pe_callB call_len_seq (by rfl) T.len PySem.boot_len (pa_cons (pe_ix ix_tup (pv 0) pe_int (fun _ _ => rfl)) pa_nil)) pa_nil)) (pg_name (i := 4) sc__law_access_by.nd rfl (Or.inl rfl))
      (pss_cons (ps_setC (i := 5) sc__law_access_by.nd rfl rfl rfl (blk_mk rfl) (cp := c__law_access_by_0) ⟨⟨rfl, rfl⟩, ⟨⟨rfl, rfl⟩, True.intro⟩⟩ (pi_list (pv 3)) (fun _ _ _ _ => (pg_name (i := 0) nd_c__law_access_by_0 rfl (Or.inl rfl))) (fun _ _ _ _ => pf_nil) (fun _ _ _ _ => (pe_call g__law_line (hr.mono (by decide)) rfl m__law_line F__law_line.kp b__law_line .nil pass0 (pa_cons (pv 1) (pa_cons (pv 0) (pa_cons (pv 2) pa_nil))))))
      (pss_cons (ps_set (i := 6) sc__law_access_by.nd rfl (Or.inl rfl) (pe_lst pa_nil))
      (pss_cons (ps_for PassesOwn.never rfl (pi_list (pv 3)) (pg_name (i := 7) sc__law_access_by.nd rfl (Or.inl rfl))
      (pss_one (ps_for PassesOwn.never rfl (pi_range1 rfl T.range (pa_cons (pe_ix ix_tup (pv 0) pe_int (fun _ _ => rfl)) pa_nil)) (pg_name (i := 8) sc__law_access_by.nd rfl (Or.inl rfl))
      (pss_one (ps_if (pt_cmpR (op_notInL (hu9 hr)) (pe_call g__law_line (hr.mono (by decide)) rfl m__law_line F__law_line.kp b__law_line .nil pass0 (pa_cons (pv 0) (pa_cons (pe_op op_catT2 (pv 7) (pe_tup (pa_cons (pv 8) pa_nil))) (pa_cons (pv 1) pa_nil)))) (pv 5) rfl)
      (pss_one (ps_expr (pe_bm PySem.F.plainAttrs_list PySem.F.slot_list_append PySem.F.type_list_append mt_append (pv 6) (pa_cons (pe_op op_catT2 (pv 7) (pe_tup (pa_cons (pv 8) pa_nil))) pa_nil))))
      pss_nil)))))
      (pss_cons (ps_if (pt_cmpR (op_eqD 8 (hu9 hr)) (pv 6) (pe_lst pa_nil) (nomark _))
      (pss_one (ps_ret (pv 3)))
      pss_nil)
      (pss_one (ps_expr (pe_bm PySem.F.plainAttrs_list PySem.F.slot_list_append PySem.F.type_list_append mt_append (pv 3) (pa_cons (pe_ix ix_list (pv 6) (pe_un un_neg (pv 2)) (fun _ _ => rfl)) pa_nil)))))))))
      (pss_one (ps_ret (pv 3))))), ?_⟩
    obtain ⟨tm0, tw0, zs0, q1, q2, q3, q4⟩ := id hh
    walk_at "rd"
    refine ⟨by omega, fun t0 ht0 => ⟨by omega, fun pa hpa => ?_⟩⟩
    have s0 := (Same.new ht0 (o := .tup [])).newT hpa (o := .lst [V.ref t0])
    have hpaH : H pa = none := (Same.new ht0 (o := .tup [])).none hpa
    have hpt0 : upd (upd H t0 (.tup [])) pa (.lst [V.ref t0]) t0 = some (.tup []) := Same.new hpa _ _ upd_same
    have hpa0 : upd (upd H t0 (.tup [])) pa (.lst [V.ref t0]) pa = some (.lst [V.ref t0]) := upd_same
    generalize upd (upd H t0 (.tup [])) pa (.lst [V.ref t0]) = H0 at s0 hpt0 hpa0 ⊢
    refine ⟨_, SqT.of (s0 _ _ q1), _, rfl, tm0, rfl, _, .inl (SqL.of (s0 _ _ q2)), by omega, by rw [List.length_map]; omega, ?_⟩
    rw [List.length_map, Int.toNat_natCast]
    obtain ⟨Pv, hPv⟩ : ∃ Pv : Nat -> St -> Hp -> Prop, ∀ i σ2 H2, Pv i σ2 H2 ↔ (∃ (xs : List V) (acc : List (List Int)) (o4 o5 o6 o7 o8 : Option V), Same H H2 /\ H2 pa = some (.lst xs) /\ WordsT K H2 xs acc /\ acc.length = i + 1 /\ (∀ w ∈ acc, w.length <= i /\ isW L w = true) /\ (acc.map (lineW marks ways ends)).Nodup /\ σ2 = [some (.ref h), some (.ref b), some (.int bit), some (.ref pa), o4, o5, o6, o7, o8]) := ⟨_, fun _ _ _ => Iff.rfl⟩
    refine forR Pv ((hPv _ _ _).mpr ⟨[V.ref t0], [[]], none, none, none, none, none, s0, hpa0, ⟨rfl, fun i w hi => ?_⟩, rfl, fun w hw => ?_, by simp, rfl⟩) (fun i σ2 H2 hi h2 => ?_) (fun σ2 H2 h2 => ?_)
    . match i, hi with
      | 0, hi => cases hi; exact ⟨t0, rfl, hpt0⟩
    . rw [List.mem_singleton.mp hw]; exact ⟨Nat.zero_le _, rfl⟩
    . obtain ⟨xs, acc, o4, o5, o6, o7, o8, s2, ha2, hA, hal, haw, hnd, rfl⟩ := (hPv _ _ _).mp h2
      walk_at "rd"
      refine ⟨⟨_, SqL.of ha2⟩, compL (xs := xs) (fun j zs σ' H' => Same H2 H' /\ WordsL K H' zs ((acc.take j).map (lineW marks ways ends)) /\ ∃ o, σ' = [o, some (.ref h), some (.ref b)]) ⟨Same.refl _, ⟨rfl, fun i w hi => by simp at hi⟩, none, rfl⟩ (by rw [hA.1]; omega) (fun j zs σ' H' hj h' => ⟨SqL.of (h'.1 _ _ ha2), by rw [h'.2.1.1, List.length_map, List.length_take]; omega⟩) (fun j x zs σ' H' hx h' => ?_) (fun zs σ' H' h' D hD => ?_)⟩
      . obtain ⟨s', hZ, o, rfl⟩ := h'
        obtain ⟨t, w, hwi, rfl, ht⟩ := hA.at hx
        have hwm := List.mem_of_getElem? hwi
        have et : acc.take (j + 1) = acc.take j ++ [w] := by rw [List.take_add_one, hwi]; rfl
        walk_at "rd"
        refine ⟨h, t, b, L, marks, ways, w, ys, ends, rfl, hh.mono (s2.trans s'), wf, s' _ _ ht, (haw w hwm).2, by have := (haw w hwm).1; omega, (s2.trans s').seq hb, hE.mono (TK.of (s2.trans s')), hel, hew, fun l H3 s3 hl0 hl3 => ⟨s'.trans s3, ?_, _, rfl⟩⟩
        rw [et, List.map_append]
        exact WordsL.snoc37 (WordsL.mono37 hZ s3) hl3
      obtain ⟨s', hZ, o, rfl⟩ := h'
      rw [hA.1, List.take_length] at hZ
      have sD : Same H2 (upd H' D (.lst zs)) := s'.newT hD
      have hDL : upd H' D (.lst zs) D = some (.lst zs) := upd_same
      have hZL := WordsL.mono37 hZ (Same.new hD (o := .lst zs))
      generalize upd H' D (.lst zs) = HL at sD hDL hZL ⊢
      clear hZ hD s'
      walk_at "rd"
      refine ⟨by omega, fun pf hpf => ?_⟩
      have sF := sD.newT hpf (o := .lst [])
      have hpfa : pf ≠ pa := fun z => by rw [z, sD _ _ ha2] at hpf; cases hpf
      have hpfH : H2 pf = none := sD.none hpf
      have hisx : ∀ w ∈ acc, ∀ x : Nat, x < L -> isW L (w ++ [(x : Int)]) = true := fun w hw x hx => isW_iff.mpr fun y hy => by
        rcases List.mem_append.mp hy with hy | hy
        . exact isW_iff.mp (haw w hw).2 y hy
        . rw [List.mem_singleton.mp hy]; omega
      obtain ⟨Pw, hPw⟩ : ∃ Pv : Nat -> St -> Hp -> Prop, ∀ j σ3 H3, Pv j σ3 H3 ↔ (∃ (fs : List V) (fw : List (List Int)) (o7 o8 : Option V), Same HL H3 /\ H3 pf = some (.lst fs) /\ WordsT K H3 fs fw /\ fw.length <= j * 6 /\ (∀ f ∈ fw, f.length <= i + 1 /\ isW L f = true /\ lineW marks ways ends f ∉ acc.map (lineW marks ways ends)) /\ (∀ w ∈ acc.take j, ∀ x : Nat, x < L -> lineW marks ways ends (w ++ [(x : Int)]) ∉ acc.map (lineW marks ways ends) -> w ++ [(x : Int)] ∈ fw) /\ σ3 = [some (.ref h), some (.ref b), some (.int bit), some (.ref pa), some (.int (0 + (i : Nat))), some (.ref D), some (.ref pf), o7, o8]) := ⟨_, fun _ _ _ => Iff.rfl⟩
      refine ⟨⟨_, SqL.of (sF _ _ ha2)⟩, forL (xs := xs) Pw ((hPw _ _ _).mpr ⟨[], [], o7, o8, Same.new hpf, upd_same, WordsT.nil, Nat.zero_le _, (fun f hf => by cases hf), (fun w hw => by rw [List.take_zero] at hw; cases hw), rfl⟩) (fun j σ3 H3 _ h3 => by obtain ⟨_, _, _, _, s3, _⟩ := (hPw _ _ _).mp h3; exact SqL.of ((sD.trans s3) _ _ ha2)) (fun j x σ3 H3 hx h3 => ?_) (fun σ3 H3 h3 => ?_)⟩
      . obtain ⟨fs, fw, o7', o8', s3, hf3, hF, hfl, hfg, hfa, rfl⟩ := (hPw _ _ _).mp h3
        obtain ⟨t, w, hwi, rfl, ht⟩ := hA.at hx
        have hwm := List.mem_of_getElem? hwi
        have hjl : j < acc.length := (List.getElem?_eq_some_iff.mp hwi).1
        have hwl := (haw w hwm).1
        have et : acc.take (j + 1) = acc.take j ++ [w] := by rw [List.take_add_one, hwi]; rfl
        have s23 := sD.trans s3
        have sH3 := s2.trans s23
        walk_at "rd"
        refine ⟨_, SqT.of (sH3 _ _ q1), _, rfl, L, rfl, by omega, by omega, ?_⟩
        rw [Int.toNat_natCast]
        obtain ⟨Pz, hPz⟩ : ∃ Pv : Nat -> St -> Hp -> Prop, ∀ m σ4 H4, Pv m σ4 H4 ↔ (∃ (fs : List V) (fw : List (List Int)) (o8 : Option V), Same HL H4 /\ H4 pf = some (.lst fs) /\ WordsT K H4 fs fw /\ fw.length <= j * 6 + m /\ (∀ f ∈ fw, f.length <= i + 1 /\ isW L f = true /\ lineW marks ways ends f ∉ acc.map (lineW marks ways ends)) /\ (∀ v ∈ acc.take j, ∀ x : Nat, x < L -> lineW marks ways ends (v ++ [(x : Int)]) ∉ acc.map (lineW marks ways ends) -> v ++ [(x : Int)] ∈ fw) /\ (∀ x : Nat, x < m -> lineW marks ways ends (w ++ [(x : Int)]) ∉ acc.map (lineW marks ways ends) -> w ++ [(x : Int)] ∈ fw) /\ σ4 = [some (.ref h), some (.ref b), some (.int bit), some (.ref pa), some (.int (0 + (i : Nat))), some (.ref D), some (.ref pf), some (.ref t), o8]) := ⟨_, fun _ _ _ => Iff.rfl⟩
        refine forR Pz ((hPz _ _ _).mpr ⟨fs, fw, o8', s3, hf3, hF, by omega, hfg, hfa, (fun x hx => absurd hx (Nat.not_lt_zero _)), rfl⟩) (fun m σ4 H4 hm h4 => ?_) (fun σ4 H4 h4 => ?_)
        . obtain ⟨fs, fw, o8', s4, hf4, hF4, hfl4, hfg4, hfa4, hfm4, rfl⟩ := (hPz _ _ _).mp h4
          rw [Int.zero_add]
          have s24 := sD.trans s4
          have sH4 := s2.trans s24
          walk_at "rd"
          refine ⟨by omega, fun p1 hp1 => rCatT2.ofS (Same.new hp1 _ _ (s24 _ _ ht)) upd_same (by simp; omega) fun q H5 s5 hq => ?_⟩
          have s45 := (Same.new hp1 (o := .tup [V.int m])).trans s5
          have sH5 := sH4.trans s45
          refine ⟨h, q, b, L, marks, ways, w ++ [(m : Int)], ys, ends, rfl, hh.mono sH5, wf, by rw [List.map_append]; exact hq, hisx w hwm m hm, by rw [List.length_append, List.length_singleton]; omega, sH5.seq hb, hE.mono (TK.of sH5), hel, hew, fun l H6 s6 hl0 hl6 => ?_⟩
          have s46 := s45.trans s6
          walk_at "rd"
          refine ⟨_, SqL.of ((s4.trans s46) _ _ hDL), lineW marks ways ends (w ++ [(m : Int)]), acc.map (lineW marks ways ends), WordsL.mono37 hZL (s4.trans s46), SqL.of hl6, ?_⟩
          by_cases hin : lineW marks ways ends (w ++ [(m : Int)]) ∈ acc.map (lineW marks ways ends)
          . rw [if_neg (by rw [decide_eq_true hin]; decide)]
            refine (hPz _ _ _).mpr ⟨fs, fw, _, s4.trans s46, s46 _ _ hf4, hF4.mono (TK.of s46), by omega, hfg4, hfa4, fun x hx hne => ?_, rfl⟩
            by_cases e : x = m
            . subst e; exact absurd hin hne
            . exact hfm4 x (by omega) hne
          . rw [if_pos (by rw [decide_eq_false hin]; rfl)]
            refine ⟨.inl ⟨rfl, _, SqL.of (s46 _ _ hf4)⟩, by omega, fun p2 hp2 => rCatT2.ofS (Same.new hp2 _ _ ((s24.trans s46) _ _ ht)) upd_same (by simp; omega) fun q2 H7 s7 hq2 => ?_⟩
            have s67 := (Same.new hp2 (o := .tup [V.int m])).trans s7
            have s47 := s46.trans s67
            have hf7 := s47 _ _ hf4
            have hlen : fs.length < 1000 := by rw [hF4.1]; omega
            refine ⟨_, hf7, by omega, (hPz _ _ _).mpr ⟨fs ++ [.ref q2], fw ++ [w ++ [(m : Int)]], _, (s4.trans s47).over hpf, upd_same, ((hF4.mono (TK.of s47)).snoc (by rw [List.map_append]; exact hq2)).mono (TK.lst hf7), by rw [List.length_append, List.length_singleton]; omega, fun f hf => ?_, fun v hv x hx hne => List.mem_append_left _ (hfa4 v hv x hx hne), fun x hx hne => ?_, rfl⟩⟩
            . rcases List.mem_append.mp hf with hf | hf
              . exact hfg4 f hf
              . rw [List.mem_singleton.mp hf]
                exact ⟨by rw [List.length_append, List.length_singleton]; omega, hisx w hwm m hm, hin⟩
            . by_cases e : x = m
              . subst e; exact List.mem_append_right _ (List.mem_singleton.mpr rfl)
              . exact List.mem_append_left _ (hfm4 x (by omega) hne)
        . obtain ⟨fs, fw, o8', s4, hf4, hF4, hfl4, hfg4, hfa4, hfm4, rfl⟩ := (hPz _ _ _).mp h4
          refine (hPw _ _ _).mpr ⟨fs, fw, _, _, s4, hf4, hF4, by omega, hfg4, fun v hv x hx hne => ?_, rfl⟩
          rw [et] at hv
          rcases List.mem_append.mp hv with hv | hv
          . exact hfa4 v hv x hx hne
          . rw [List.mem_singleton.mp hv] at hne ⊢; exact hfm4 x hx hne
      . obtain ⟨fs, fw, o7', o8', s3, hf3, hF, hfl, hfg, hfa, rfl⟩ := (hPw _ _ _).mp h3
        rw [hA.1] at hfl hfa
        rw [List.take_length] at hfa
        have s23 := sD.trans s3
        walk_at "rd"
        refine ⟨Nat.zero_le _, fun p hp => ⟨_, EqD.nil37 (SqL.of (Same.new hp _ _ hf3)) (SqL.of upd_same), ?_⟩⟩
        have sP := s23.newT hp (o := .lst [])
        have haP := sP _ _ ha2
        by_cases hfn : fs = []
        . rw [if_pos (by simp [hfn])]
          have hw0 : fw = [] := List.length_eq_zero_iff.mp (by rw [<- hF.1, hfn]; rfl)
          exact k pa xs acc _ (s2.trans sP) haP (hA.mono (TK.of sP)) (by omega) (fun w hw => ⟨by have := (haw w hw).1; omega, (haw w hw).2⟩) hnd (fun w hw x hx => Decidable.byContradiction fun hne => by have := hfa w hw x hx hne; rw [hw0] at this; cases this)
        . rw [if_neg (by simp [hfn])]
          have hfl0 : 0 < fs.length := List.length_pos_iff.mpr hfn
          obtain ⟨v, hv, kk, hk⟩ : ∃ v, atI fs (-bit) = some v /\ ∃ kk : Nat, fs[kk]? = some v := by
            rcases hbit with rfl | rfl
            . exact ⟨fs[0], (atI_nat (j := 0) (by simp [hfl0]) : atI fs ((0 : Nat) : Int) = _), 0, by simp [hfl0]⟩
            . have hlt : fs.length - 1 < fs.length := by omega
              exact ⟨fs[fs.length - 1], atI_end (by simp [hlt]), fs.length - 1, by simp [hlt]⟩
          obtain ⟨tf, f, hfi, rfl, htf⟩ := hF.at hk
          have hfm := hfg f (List.mem_of_getElem? hfi)
          have hlen : xs.length < 1000 := by rw [hA.1]; omega
          refine ⟨.inl ⟨rfl, _, SqL.of haP⟩, _, SqL.of (Same.new hp _ _ hf3), _, hv, _, haP, by omega, (hPv _ _ _).mpr ⟨xs ++ [.ref tf], acc ++ [f], _, _, _, _, _, (s2.trans sP).over hpaH, upd_same, ((hA.mono (TK.of sP)).snoc (Same.new hp _ _ htf)).mono (TK.lst haP), by rw [List.length_append, List.length_singleton]; omega, fun w hw => ?_, ?_, rfl⟩⟩
          . rcases List.mem_append.mp hw with hw | hw
            . exact ⟨by have := (haw w hw).1; omega, (haw w hw).2⟩
            . rw [List.mem_singleton.mp hw]; exact ⟨hfm.1, hfm.2.1⟩
          . rw [List.map_append]
            exact List.nodup_append.mpr ⟨hnd, by simp, fun a ha c hc z => by
              simp at hc
              subst z
              rw [hc] at ha
              exact hfm.2.2 ha⟩
    . obtain ⟨xs, acc, o4, o5, o6, o7, o8, s2, ha2, hA, hal, haw, hnd, rfl⟩ := (hPv _ _ _).mp h2
      have := few37 wf (fun w hw => (haw w hw).2) hnd
      omega
theorem WordsT.eq37 {K : PySem.W.Frag} {H : Hp} {xs ys : List V} {ws : List (List Int)} {a b : Addr} (h : WordsT K H xs ws) (g : WordsT K H ys ws) (ha : SqT K H a xs) (hb : SqT K H b ys) (n : Nat) : EqD K H (n + 2) (.ref a) (.ref b) true := by
  refine .inr ⟨a, b, xs, ys, rfl, rfl, .inr ⟨ha, hb⟩, fun _ => true, fun i x y hx hy => ?_, by rw [h.1, g.1]; simp⟩
  obtain ⟨t, w, e1, rfl, e2⟩ := h.at hx
  obtain ⟨u, w', f1, rfl, f2⟩ := g.at hy
  rw [e1] at f1
  cases f1
  have := EqD.ints (K := K) (H := H) (a := t) (c := u) (xs := w) (ys := w) (.inr ⟨SqT.of e2, SqT.of f2⟩) n
  rw [decide_eq_true rfl] at this
  exact this
theorem hous_eq37 {K : PySem.W.Frag} {H : Hp} {a m w a' m' w' : Addr} {L : Int} {ms : List Int} {zs zs' : List V} {ws : List (List Int)} (h1 : H a = some (.tup [.int L, .ref m, .ref w])) (h2 : H m = some (.tup (ms.map V.int))) (h3 : H w = some (.tup zs)) (h4 : WordsT K H zs ws) (g1 : H a' = some (.tup [.int L, .ref m', .ref w'])) (g2 : H m' = some (.tup (ms.map V.int))) (g3 : H w' = some (.tup zs')) (g4 : WordsT K H zs' ws) : EqD K H 8 (.ref a) (.ref a') true := by
  refine .inr ⟨a, a', _, _, rfl, rfl, .inr ⟨SqT.of h1, SqT.of g1⟩, fun _ => true, fun i x y hx hy => ?_, by simp⟩
  match i, hx, hy with
  | 0, hx, hy => cases hx; cases hy; exact .inl ⟨rfl, rfl, (eqV_self rfl).symm⟩
  | 1, hx, hy =>
    cases hx; cases hy
    have := EqD.ints (K := K) (H := H) (a := m) (c := m') (xs := ms) (ys := ms) (.inr ⟨SqT.of h2, SqT.of g2⟩) 6
    rw [decide_eq_true rfl] at this
    exact this
  | 2, hx, hy => cases hx; cases hy; exact WordsT.eq37 h4 g4 (SqT.of h3) (SqT.of g3) 5
  | n + 3, hx, hy => cases hx
theorem tells_line {L : Nat} {marks : List Int} {ways : List (List Int)} {es : List (List Int × Int)} {ends : List (List Int)} {w : List Int} (nd : (es.map (·.1)).Nodup) (T : Tells L marks ways es) (hk : ∀ e ∈ ends, w ++ e ∈ es.map (·.1)) {e : List Int} (he : e ∈ ends) : mkO es (w ++ e) = some (markW marks (walkW ways (w ++ e))) := by
  obtain ⟨x, hx, h1⟩ := List.mem_map.mp (hk e he)
  have hxe : x = (w ++ e, x.2) := by rw [<- h1]
  have h2 := (T.ans x hx).2
  rw [hxe] at hx h2
  rw [mkO_some nd hx]
  exact congrArg some h2
theorem cut_take37 (xs : List V) (m : Nat) : cutV xs none (some (m : Int)) = xs.take m := by
  unfold cutV
  rw [HT.sIx_nat, HT.sIx_none, List.drop_zero, Nat.sub_zero, List.take_eq_take_iff]
  omega
theorem WordsT.take37 {K : PySem.W.Frag} {H : Hp} {xs : List V} {ws : List (List Int)} (h : WordsT K H xs ws) (n : Nat) : WordsT K H (xs.take n) (ws.take n) := ⟨by rw [List.length_take, List.length_take, h.1], fun i w hi => by
  rw [List.getElem?_take] at hi ⊢
  split at hi
  . rename_i hk
    rw [if_pos hk]; exact h.2 i w hi
  . cases hi⟩
def spLaw (K : PySem.W.Frag) : Sp := fun vs H Q _ => ∃ (a : Addr) (ns : List Int), vs = [.ref a] /\ SqL K H a (ns.map V.int) /\ ns.length <= 63 /\ ∀ H', Q (.bl true) H'
theorem ok_law {f : Addr} {fd : FuncData} (F : Fun K "law" "law" s_law f fd) (T : Txt mg)
    (W : Own K mg C_Book)
    (Z : Exs K mg C_AskError C_BadWord)
    {f_stranger : Addr} {fd_stranger : FuncData} (g_stranger : FnOk P w K mg base CX0 4 f_stranger fd_stranger ["book", "letters", "access", "ends"] (sp_strange K C_Book)) (F_stranger : Fun K "stranger" "stranger" s_stranger f_stranger fd_stranger) (b_stranger : Binds K fd_stranger ["book", "letters", "access", "ends"] []) (m_stranger : mg "stranger" = some (.ref f_stranger))
    {f_guess_of : Addr} {fd_guess_of : FuncData} (g_guess_of : FnOk P w K mg base CX0 4 f_guess_of fd_guess_of ["book", "letters", "access", "ends"] (sp_guess K C_Book)) (F_guess_of : Fun K "guess_of" "guess_of" s_guess_of f_guess_of fd_guess_of) (b_guess_of : Binds K fd_guess_of ["book", "letters", "access", "ends"] []) (m_guess_of : mg "guess_of" = some (.ref f_guess_of))
    {f__law_cell_at : Addr} {fd__law_cell_at : FuncData} (g__law_cell_at : FnOk P w K mg base CX0 1 f__law_cell_at fd__law_cell_at ["script", "k"] (sp_cell K)) (F__law_cell_at : Fun K "_law_cell_at" "_law_cell_at" s__law_cell_at f__law_cell_at fd__law_cell_at) (b__law_cell_at : Binds K fd__law_cell_at ["script", "k"] []) (m__law_cell_at : mg "_law_cell_at" = some (.ref f__law_cell_at))
    {f__law_house_by : Addr} {fd__law_house_by : FuncData} (g__law_house_by : FnOk P w K mg base CX0 2 f__law_house_by fd__law_house_by ["script"] (sp_house37 K)) (F__law_house_by : Fun K "_law_house_by" "_law_house_by" s__law_house_by f__law_house_by fd__law_house_by) (b__law_house_by : Binds K fd__law_house_by ["script"] []) (m__law_house_by : mg "_law_house_by" = some (.ref f__law_house_by))
    {f__law_access_by : Addr} {fd__law_access_by : FuncData} (g__law_access_by : FnOk P w K mg base CX0 3 f__law_access_by fd__law_access_by ["house", "ends", "bit"] (sp_access37 K)) (F__law_access_by : Fun K "_law_access_by" "_law_access_by" s__law_access_by f__law_access_by fd__law_access_by) (b__law_access_by : Binds K fd__law_access_by ["house", "ends", "bit"] []) (m__law_access_by : mg "_law_access_by" = some (.ref f__law_access_by))
    {f__law_due : Addr} {fd__law_due : FuncData} (g__law_due : FnOk P w K mg base CX0 3 f__law_due fd__law_due ["house", "access", "ends"] (sp_due37 K)) (F__law_due : Fun K "_law_due" "_law_due" s__law_due f__law_due fd__law_due) (b__law_due : Binds K fd__law_due ["house", "access", "ends"] []) (m__law_due : mg "_law_due" = some (.ref f__law_due))
    {f__law_kinds : Addr} {fd__law_kinds : FuncData} (g__law_kinds : FnOk P w K mg base CX0 2 f__law_kinds fd__law_kinds ["found", "rooms", "letters"] (sp_kinds37 K)) (F__law_kinds : Fun K "_law_kinds" "_law_kinds" s__law_kinds f__law_kinds fd__law_kinds) (b__law_kinds : Binds K fd__law_kinds ["found", "rooms", "letters"] []) (m__law_kinds : mg "_law_kinds" = some (.ref f__law_kinds))
    {f__law_told : Addr} {fd__law_told : FuncData} (g__law_told : FnOk P w K mg base CX0 5 f__law_told fd__law_told ["house", "access", "ends", "more"] (sp_told37 K C_Book)) (F__law_told : Fun K "_law_told" "_law_told" s__law_told f__law_told fd__law_told) (b__law_told : Binds K fd__law_told ["house", "access", "ends", "more"] []) (m__law_told : mg "_law_told" = some (.ref f__law_told))
    : FnOk P w K mg base CX0 6 f fd ["script"] (spLaw K) := by
  refine F.ok sc_law (fun vs H Q E h => ?_) (fun cdv A outer s H vs Q E hr h => ?_)
  . obtain ⟨a, ns, rfl, _⟩ := h; rfl
  . obtain ⟨a, ns, rfl, hs, hz, k⟩ := h
    have hl := line1000
    refine ⟨_, (pss_cons (ps_set (i := 1) sc_law.nd rfl (Or.inl rfl) (pe_call g__law_house_by (hr.mono (by decide)) rfl m__law_house_by F__law_house_by.kp b__law_house_by .nil pass0 (pa_cons (pv 0) pa_nil)))
      (pss_cons (ps_set (i := 2) sc_law.nd rfl (Or.inl rfl) (pe_op op_fdiv (pe_op op_mod (pe_call g__law_cell_at (hr.mono (by decide)) rfl m__law_cell_at F__law_cell_at.kp b__law_cell_at .nil pass0 (pa_cons (pv 0) (pa_cons pe_int pa_nil))) (pe_op op_pow pe_int pe_int)) pe_int))
      (pss_cons (ps_set (i := 3) sc_law.nd rfl (Or.inl rfl) (pe_lst (pa_cons (pe_tup pa_nil) pa_nil)))
      (pss_cut (ps_for PassesOwn.never rfl (pi_range1 rfl T.range (pa_cons (pe_ix ix_tup (pv 1) pe_int (fun _ _ => rfl)) pa_nil)) (pg_name (i := 4) sc_law.nd rfl (Or.inl rfl))
      (pss_cons (ps_expr (pe_bm PySem.F.plainAttrs_list PySem.F.slot_list_append PySem.F.type_list_append mt_append (pv 3) (pa_cons (pe_tup (pa_cons (pv 4) pa_nil)) pa_nil)))
      (pss_one (ps_for PassesOwn.never rfl (pi_range1 rfl T.range (pa_cons (pe_ix ix_tup (pv 1) pe_int (fun _ _ => rfl)) pa_nil)) (pg_name (i := 5) sc_law.nd rfl (Or.inl rfl))
      (pss_one (ps_expr (pe_bm PySem.F.plainAttrs_list PySem.F.slot_list_append PySem.F.type_list_append mt_append (pv 3) (pa_cons (pe_tup (pa_cons (pv 4) (pa_cons (pv 5) pa_nil))) pa_nil))))))))
      (pss_cons (ps_set (i := 3) sc_law.nd rfl (Or.inl rfl) (pe_slice sl_list (pv 3) po_none (po_some (pe_ix ix_list (pe_lst (pa_cons (pe_callB call_len_seq (by rfl) T.len PySem.boot_len (pa_cons (pv 3) pa_nil)) (pa_cons (pe_op op_add pe_int (pe_op op_mod (pe_op op_fdiv (pv 2) pe_int) (pe_callB call_len_seq (by rfl) T.len PySem.boot_len (pa_cons (pv 3) pa_nil)))) pa_nil))) (pe_op op_mod (pv 2) pe_int) (fun _ _ => rfl)))))
      (pss_cut (ps_set (i := 6) sc_law.nd rfl (Or.inl rfl) (pe_call g__law_access_by (hr.mono (by decide)) rfl m__law_access_by F__law_access_by.kp b__law_access_by .nil pass0 (pa_cons (pv 1) (pa_cons (pv 3) (pa_cons (pe_op op_mod (pe_op op_fdiv (pv 2) pe_int) pe_int) pa_nil)))))
      (pss_cons (ps_set (i := 7) sc_law.nd rfl (Or.inl rfl) (pe_call g__law_told (hr.mono (by decide)) rfl m__law_told F__law_told.kp b__law_told .nil pass0 (pa_cons (pv 1) (pa_cons (pv 6) (pa_cons (pv 3) (pa_cons (pe_ix ix_list (pe_lst (pa_cons pe_int (pa_cons pe_int pa_nil))) (pe_op op_mod (pe_op op_fdiv (pv 2) pe_int) pe_int) (fun _ _ => rfl)) pa_nil))))))
      (pss_cut (ps_set (i := 8) sc_law.nd rfl (Or.inl rfl) (pe_lst (pa_cons (pe_callTy call_list_of rfl T.list PyProof.Rows.boot_list (pa_cons (pv 6) pa_nil)) (pa_cons (pe_callTy call_list_of rfl T.list PyProof.Rows.boot_list (pa_cons (pv 3) pa_nil)) pa_nil))))
      (pss_cons (ps_set (i := 9) sc_law.nd rfl (Or.inl rfl) (pe_call g_guess_of (hr.mono (by decide)) rfl m_guess_of F_guess_of.kp b_guess_of .nil pass0 (pa_cons (pv 7) (pa_cons (pe_ix ix_tup (pv 1) pe_int (fun _ _ => rfl)) (pa_cons (pe_ix ix_list (pv 8) pe_int (fun _ _ => rfl)) (pa_cons (pe_ix ix_list (pv 8) pe_int (fun _ _ => rfl)) pa_nil))))))
      (pss_cons (ps_if (PW.pt (pw_or (pt_not (pt_val (pe_call g__law_kinds (hr.mono (by decide)) rfl m__law_kinds F__law_kinds.kp b__law_kinds .nil pass0 (pa_cons (pv 9) (pa_cons (pe_callB call_len_seq (by rfl) T.len PySem.boot_len (pa_cons (pv 6) pa_nil)) (pa_cons (pe_ix ix_tup (pv 1) pe_int (fun _ _ => rfl)) pa_nil)))))) (pw_or1 (pt_cmpR (op_neD 8 (hu9 hr)) (pv 9) (pe_call g__law_due (hr.mono (by decide)) rfl m__law_due F__law_due.kp b__law_due .nil pass0 (pa_cons (pv 1) (pa_cons (pv 6) (pa_cons (pv 3) pa_nil)))) (nomark _)))))
      (pss_one (ps_ret pe_bl))
      pss_nil)
      (pss_cons (ps_if (pt_cmpR op_notN (pe_call g_stranger (hr.mono (by decide)) rfl m_stranger F_stranger.kp b_stranger .nil pass0 (pa_cons (pv 7) (pa_cons (pe_ix ix_tup (pv 1) pe_int (fun _ _ => rfl)) (pa_cons (pe_ix ix_list (pv 8) pe_int (fun _ _ => rfl)) (pa_cons (pe_ix ix_list (pv 8) pe_int (fun _ _ => rfl)) pa_nil))))) pe_non (nomark _))
      (pss_one (ps_ret pe_bl))
      pss_nil)
      (pss_one (ps_ret (pe_and (pe_cmpR (op_eqD 8 (hu9 hr)) (pe_ix ix_list (pv 8) pe_int (fun _ _ => rfl)) (pv 6) (nomark _)) (pe_one (pe_cmpR (op_eqD 8 (hu9 hr)) (pe_ix ix_list (pv 8) pe_int (fun _ _ => rfl)) (pv 3) (nomark _))))))))))))))))), ?_⟩
    walk_at "rd"
    refine ⟨a, ns, rfl, hs, hz, fun h L marks ways H1 s1 hh wf hL2 hm5 => ?_⟩
    obtain ⟨tm0, tw0, zs0, q1, q2, q3, q4⟩ := id hh
    have hL1 := wf.l1
    refine ⟨a, ns, 0, rfl, s1.seq hs, (show CPow 10 9 from ⟨by omega, by omega, by decide⟩), _, rfl, by decide, ⟨by decide, by decide⟩, by omega, fun t0 ht0 => ⟨by omega, fun pe hpe => ?_⟩⟩
    have hd0 : 0 <= cell ns 0 % 10 ^ Int.toNat 9 / 10 := Int.ediv_nonneg (Int.emod_nonneg _ (by decide)) (by decide)
    generalize cell ns 0 % 10 ^ Int.toNat 9 / 10 = hd at hd0 ⊢
    have sE := (Same.new ht0 (o := .tup [])).newT hpe (o := .lst [V.ref t0])
    have hpeN : H1 pe = none := (Same.new ht0 (o := .tup [])).none hpe
    have hpe0 : upd (upd H1 t0 (.tup [])) pe (.lst [V.ref t0]) pe = some (.lst [V.ref t0]) := upd_same
    have hE0 : WordsT K (upd (upd H1 t0 (.tup [])) pe (.lst [V.ref t0])) [V.ref t0] [[]] := ⟨rfl, fun i w hi => by
      match i, hi with
      | 0, hi => cases hi; exact ⟨t0, rfl, Same.new hpe _ _ upd_same⟩⟩
    generalize upd (upd H1 t0 (.tup [])) pe (.lst [V.ref t0]) = HE at sE hpe0 hE0 ⊢
    obtain ⟨R3, hR3⟩ : ∃ R : St -> Hp -> Prop, ∀ σ' H', R σ' H' ↔ (∃ (es : List V) (ew : List (List Int)) (o4 o5 : Option V), Same H1 H' /\ H' pe = some (.lst es) /\ WordsT K H' es ([] :: ew) /\ ew.length <= 6 /\ (∀ e ∈ ew, e.length <= 2 /\ isW L e = true) /\ σ' = [some (.ref a), some (.ref h), some (.int hd), some (.ref pe), o4, o5, none, none, none, none]) := ⟨_, fun _ _ => Iff.rfl⟩
    refine ⟨R3, ?_, fun σ3 H3 h3 => ?_⟩
    . walk_at "rd"
      refine ⟨_, SqT.of (sE _ _ q1), _, rfl, L, rfl, by omega, by omega, ?_⟩
      rw [Int.toNat_natCast]
      obtain ⟨Pv, hPv⟩ : ∃ Pv : Nat -> St -> Hp -> Prop, ∀ i σ' H', Pv i σ' H' ↔ (∃ (es : List V) (ew : List (List Int)) (o4 o5 : Option V), Same H1 H' /\ H' pe = some (.lst es) /\ WordsT K H' es ([] :: ew) /\ ew.length <= i * 3 /\ (∀ e ∈ ew, e.length <= 2 /\ isW L e = true) /\ σ' = [some (.ref a), some (.ref h), some (.int hd), some (.ref pe), o4, o5, none, none, none, none]) := ⟨_, fun _ _ _ => Iff.rfl⟩
      refine forR Pv ((hPv _ _ _).mpr ⟨_, [], none, none, sE, hpe0, hE0, Nat.zero_le _, (fun e he => by cases he), rfl⟩) (fun i σ' H' hi h' => ?_) (fun σ' H' h' => ?_)
      . obtain ⟨es, ew, o4, o5, s', hp', hW, hwl, hwg, rfl⟩ := (hPv _ _ _).mp h'
        rw [Int.zero_add]
        have hesl : es.length = ew.length + 1 := hW.1
        have hi1 : isW L [(i : Int)] = true := isW_iff.mpr fun y hy => by rw [List.mem_singleton.mp hy]; omega
        walk_at "rd"
        refine ⟨.inl ⟨rfl, _, SqL.of hp'⟩, by omega, fun p hp => ⟨_, Same.new hp _ _ hp', by omega, ?_⟩⟩
        have sX := (s'.newT hp (o := .tup [V.int i])).over hpeN (o := .lst (es ++ [V.ref p]))
        have hWX : WordsT K (upd (upd H' p (.tup [V.int i])) pe (.lst (es ++ [V.ref p]))) (es ++ [V.ref p]) ([] :: (ew ++ [[(i : Int)]])) := ((hW.mono (TK.new hp)).snoc (w := [(i : Int)]) upd_same).mono (TK.lst (Same.new hp _ _ hp'))
        have hpX : upd (upd H' p (.tup [V.int i])) pe (.lst (es ++ [V.ref p])) pe = some (.lst (es ++ [V.ref p])) := upd_same
        generalize upd (upd H' p (.tup [V.int i])) pe (.lst (es ++ [V.ref p])) = HX at sX hWX hpX ⊢
        refine ⟨_, SqT.of (sX _ _ q1), _, rfl, L, rfl, by omega, by omega, ?_⟩
        rw [Int.toNat_natCast]
        obtain ⟨Pz, hPz⟩ : ∃ Pv : Nat -> St -> Hp -> Prop, ∀ j σ' H', Pv j σ' H' ↔ (∃ (es : List V) (ew : List (List Int)) (o5 : Option V), Same H1 H' /\ H' pe = some (.lst es) /\ WordsT K H' es ([] :: ew) /\ ew.length <= i * 3 + 1 + j /\ (∀ e ∈ ew, e.length <= 2 /\ isW L e = true) /\ σ' = [some (.ref a), some (.ref h), some (.int hd), some (.ref pe), some (.int i), o5, none, none, none, none]) := ⟨_, fun _ _ _ => Iff.rfl⟩
        refine forR Pz ((hPz _ _ _).mpr ⟨_, ew ++ [[(i : Int)]], o5, sX, hpX, hWX, by rw [List.length_append, List.length_singleton]; omega, fun e he => ?_, rfl⟩) (fun j σ2 H2 hj h2 => ?_) (fun σ2 H2 h2 => ?_)
        . rcases List.mem_append.mp he with he | he
          . exact hwg e he
          . rw [List.mem_singleton.mp he]; exact ⟨by simp, hi1⟩
        . obtain ⟨es2, ew2, o52, s2, hp2, hW2, hwl2, hwg2, rfl⟩ := (hPz _ _ _).mp h2
          rw [Int.zero_add]
          have hesl2 : es2.length = ew2.length + 1 := hW2.1
          walk_at "rd"
          refine ⟨.inl ⟨rfl, _, SqL.of hp2⟩, by omega, fun q hq => ⟨_, Same.new hq _ _ hp2, by omega, (hPz _ _ _).mpr ⟨es2 ++ [V.ref q], ew2 ++ [[(i : Int), (j : Int)]], _, (s2.newT hq).over hpeN, upd_same, ((hW2.mono (TK.new hq)).snoc (w := [(i : Int), (j : Int)]) upd_same).mono (TK.lst (Same.new hq _ _ hp2)), by rw [List.length_append, List.length_singleton]; omega, fun e he => ?_, rfl⟩⟩⟩
          rcases List.mem_append.mp he with he | he
          . exact hwg2 e he
          . rw [List.mem_singleton.mp he]
            exact ⟨by simp, isW_iff.mpr fun y hy => by simp at hy; rcases hy with rfl | rfl <;> omega⟩
        . obtain ⟨es2, ew2, o52, s2, hp2, hW2, hwl2, hwg2, rfl⟩ := (hPz _ _ _).mp h2
          exact (hPv _ _ _).mpr ⟨es2, ew2, _, _, s2, hp2, hW2, by omega, hwg2, rfl⟩
      . obtain ⟨es, ew, o4, o5, s', hp', hW, hwl, hwg, rfl⟩ := (hPv _ _ _).mp h'
        exact (hR3 _ _).mpr ⟨es, ew, o4, o5, s', hp', hW, by omega, hwg, rfl⟩
    . obtain ⟨es, ew, o4, o5, s3, hp3, hW3, hwl3, hwg3, rfl⟩ := (hR3 _ _).mp h3
      have hel : es.length = ew.length + 1 := hW3.1
      walk_at "rd"
      obtain ⟨R5, hR5⟩ : ∃ R : St -> Hp -> Prop, ∀ σ' H', R σ' H' ↔ (∃ (p2 pa : Addr) (ys xs : List V) (ends acc : List (List Int)), Same H1 H' /\ H' p2 = some (.lst ys) /\ WordsT K H' ys ([] :: ends) /\ ends.length <= 6 /\ (∀ e ∈ ends, e.length <= 2 /\ isW L e = true) /\ H' pa = some (.lst xs) /\ WordsT K H' xs acc /\ acc.length <= 6 /\ (∀ w ∈ acc, w.length <= 64 /\ isW L w = true) /\ (acc.map (lineW marks ways ([] :: ends))).Nodup /\ (∀ w ∈ acc, ∀ x : Nat, x < L -> lineW marks ways ([] :: ends) (w ++ [(x : Int)]) ∈ acc.map (lineW marks ways ([] :: ends))) /\ σ' = [some (.ref a), some (.ref h), some (.int hd), some (.ref p2), o4, o5, some (.ref pa), none, none, none]) := ⟨_, fun _ _ => Iff.rfl⟩
      have hm2 := Int.emod_nonneg hd (show (2 : Int) ≠ 0 by decide)
      have hm2' := Int.emod_lt_of_pos hd (show (0 : Int) < 2 by decide)
      have hb0 := Int.emod_nonneg (hd / 20) (show (2 : Int) ≠ 0 by decide)
      have hb1 := Int.emod_lt_of_pos (hd / 20) (show (0 : Int) < 2 by decide)
      have he0 := Int.emod_nonneg (hd / 2) (show ((es.length : Int)) ≠ 0 by omega)
      have he1 := Int.emod_lt_of_pos (hd / 2) (show (0 : Int) < (es.length : Int) by omega)
      refine ⟨_, .inl (SqL.of hp3), ⟨by decide, by decide⟩, _, .inl (SqL.of hp3), by omega, by omega, fun p hp => ⟨by decide, _, SqL.of upd_same, ?_⟩⟩
      obtain ⟨m, hm, hm1⟩ : ∃ m : Nat, atI [V.int (es.length : Int), V.int (1 + hd / 2 % (es.length : Int))] (hd % 2) = some (V.int (m : Nat)) /\ 1 <= m := by
        have : hd % 2 = 0 \/ hd % 2 = 1 := by omega
        rcases this with e | e
        . rw [e]; exact ⟨es.length, rfl, by omega⟩
        . rw [e]; exact ⟨(1 + hd / 2 % (es.length : Int)).toNat, by rw [Int.toNat_of_nonneg (by omega)]; rfl, by omega⟩
      refine ⟨_, hm, _, rfl, _, SqL.of (Same.new hp _ _ hp3), fun p2 hp2 => ?_⟩
      rw [cut_take37]
      have sP := (Same.new hp (o := .lst [V.int (es.length : Int), V.int (1 + hd / 2 % (es.length : Int))])).newT hp2 (o := .lst (es.take m))
      have hW4 := (WordsT.take37 hW3 m).mono (TK.of sP)
      have et : (([] : List Int) :: ew).take m = [] :: ew.take (m - 1) := by
        obtain ⟨m', rfl⟩ : ∃ m', m = m' + 1 := ⟨m - 1, by omega⟩
        rw [List.take_succ_cons]; rfl
      rw [et] at hW4
      have hends : ∀ e ∈ ew.take (m - 1), e.length <= 2 /\ isW L e = true := fun e he => hwg3 e (List.mem_of_mem_take he)
      have hendl : (ew.take (m - 1)).length <= 6 := by rw [List.length_take]; omega
      generalize ew.take (m - 1) = ends at hW4 hends hendl et
      have s13 := s3.trans sP
      refine ⟨R5, ?_, fun σ5 H5 h5 => ?_⟩
      . walk_at "rd"
        refine ⟨⟨by decide, by decide⟩, by decide, h, p2, hd / 20 % 2, L, marks, ways, es.take m, [] :: ends, rfl, hh.mono s13, wf, by omega, hm5, SqL.of upd_same, hW4, by rw [List.length_cons]; omega, fun e he => ?_, fun l xs acc H' s' hl' hA hal haw hnd hcl => (hR5 _ _).mpr ⟨p2, l, es.take m, xs, ends, acc, s13.trans s', s' _ _ upd_same, hW4.mono (TK.of s'), hendl, hends, hl', hA, hal, haw, hnd, hcl, rfl⟩⟩
        rcases List.mem_cons.mp he with rfl | he
        . exact ⟨Nat.zero_le _, rfl⟩
        . exact ⟨by have := (hends e he).1; omega, (hends e he).2⟩
      clear hW3 hW4 hends hendl hp3 sP s13 et hel he0 he1 hwg3 hwl3
      obtain ⟨p2', pa, ys, xs, ends', acc, s15, hp5, hE5, hel5, heg5, hpa5, hA5, hal5, haw5, hnd5, hcl5, rfl⟩ := (hR5 _ _).mp h5
      walk_at "rd"
      have hb0 := Int.emod_nonneg (hd / 40) (show (2 : Int) ≠ 0 by decide)
      have hb1 := Int.emod_lt_of_pos (hd / 40) (show (0 : Int) < 2 by decide)
      refine ⟨by omega, fun p hp => ⟨⟨by decide, by decide⟩, by decide, _, SqL.of upd_same, ?_⟩⟩
      obtain ⟨n, hn, hn9⟩ : ∃ n : Nat, atI [V.int 0, V.int 9] (hd / 40 % 2) = some (V.int (n : Nat)) /\ n <= 9 := by
        have : hd / 40 % 2 = 0 \/ hd / 40 % 2 = 1 := by omega
        rcases this with e | e
        . rw [e]; exact ⟨0, rfl, by omega⟩
        . rw [e]; exact ⟨9, rfl, by omega⟩
      have sP := Same.new hp (o := .lst [V.int 0, V.int 9])
      have hende : ∀ e ∈ [] :: ends', e.length <= 50 /\ isW L e = true := fun e he => by
        rcases List.mem_cons.mp he with rfl | he
        . exact ⟨Nat.zero_le _, rfl⟩
        . exact ⟨by have := (heg5 e he).1; omega, (heg5 e he).2⟩
      have hendl : ([] :: ends').length <= 50 := by rw [List.length_cons]; omega
      refine ⟨_, hn, h, pa, p2', L, n, marks, ways, xs, ys, acc, [] :: ends', rfl, hh.mono (s15.trans sP), wf, hn9, SqL.of (sP _ _ hpa5), hA5.mono (TK.of sP), by omega, haw5, SqL.of (sP _ _ hp5), hE5.mono (TK.of sP), hendl, hende, fun pb d es6 H6 s6 B T hkeys hlen => ?_⟩
      have s56 := sP.trans s6
      have s16 := s15.trans s56
      have hpa6 := s56 _ _ hpa5
      have hp6 := s56 _ _ hp5
      have hA6 := hA5.mono (TK.of s56)
      have hE6 := hE5.mono (TK.of s56)
      clear sP s6 hpa5 hp5 hA5 hE5 s56 h5 hp
      obtain ⟨R7, hR7⟩ : ∃ R : St -> Hp -> Prop, ∀ σ' H', R σ' H' ↔ (∃ (ph l1 l2 : Addr), Same H6 H' /\ H' ph = some (.lst [.ref l1, .ref l2]) /\ H' l1 = some (.lst xs) /\ H' l2 = some (.lst ys) /\ σ' = [some (.ref a), some (.ref h), some (.int hd), some (.ref p2'), o4, o5, some (.ref pa), some (.ref pb), some (.ref ph), none]) := ⟨_, fun _ _ => Iff.rfl⟩
      refine ⟨R7, ?_, fun σ7 H7 h7 => ?_⟩
      . walk_at "rd"
        refine ⟨_, .inl (SqL.of hpa6), fun l1 hl1 => ⟨_, .inl (SqL.of (Same.new hl1 _ _ hp6)), fun l2 hl2 => ⟨by omega, fun ph hph => (hR7 _ _).mpr ⟨ph, l1, l2, ((Same.new hl1).newT hl2).newT hph, upd_same, (Same.new hph) _ _ ((Same.new hl2) _ _ upd_same), (Same.new hph) _ _ upd_same, rfl⟩⟩⟩⟩
      obtain ⟨ph, l1, l2, s67, hph, hl1, hl2, rfl⟩ := (hR7 _ _).mp h7
      have s17 := s16.trans s67
      have hpa7 := s67 _ _ hpa6
      have hp7 := s67 _ _ hp6
      have hA7 := hA6.mono (TK.of s67)
      have hE7 := hE6.mono (TK.of s67)
      have hline : ∀ w ∈ rowsW L acc, (([] :: ends').map fun e => oV (mkO es6 (w ++ e))) = (lineW marks ways ([] :: ends') w).map V.int := fun w hw => by
        unfold lineW
        rw [List.map_map]
        refine List.map_congr_left fun e he => ?_
        rw [tells_line B.nd T (hkeys w hw) he]; rfl
      have hans : ∀ w ∈ acc, mkO es6 w = some ((lineW marks ways ([] :: ends') w).headD 0) := fun w hw => by
        have := tells_line B.nd T (hkeys w (acc_in_rows hw)) (List.mem_cons_self (a := ([] : List Int)) (l := ends'))
        rw [List.append_nil] at this
        rw [this]
        show some (markW marks (walkW ways w)) = some (markW marks (walkW ways (w ++ [])))
        rw [List.append_nil]
      walk_at "rd"
      have haw64 : ∀ w ∈ acc, w.length <= 64 := fun w hw => (haw5 w hw).1
      have hende' : ∀ e ∈ [] :: ends', e.length <= 50 := fun e he => (hende e he).1
      refine ⟨_, SqT.of (s17 _ _ q1), _, rfl, _, SqL.of hph, _, rfl, _, SqL.of hph, _, rfl, pb, d, l1, l2, L, L, es6, xs, ys, acc, [] :: ends', lineW marks ways ([] :: ends'), fun w => (lineW marks ways ([] :: ends') w).headD 0, rfl, B.mono s67, by omega, SqL.of hl1, hA7, by omega, haw64, SqL.of hl2, hE7, hendl, hende', hline, hnd5, hcl5, hans, fun fh tm tw zs H8 s8 hfh hfm hft hfW => ?_⟩
      have s18 := s17.trans s8
      refine ⟨_, .inl (SqL.of (s8 _ _ hpa7)), _, SqT.of (s18 _ _ q1), _, rfl, fh, tm, tw, L, xs.length, _, zs, _, rfl, hfh, hfm, hft, hfW, by rw [List.length_map, hA7.1], by rw [List.length_map, hA7.1], fun r hr => ?_, fun H9 s9 => ?_⟩
      . obtain ⟨w, _, rfl⟩ := List.mem_map.mp hr
        rw [List.length_map, List.length_range]
      have s79 := s8.trans s9
      have s19 := s18.trans s9
      refine ⟨_, rfl, ?_⟩
      rw [if_neg (by decide)]
      refine ⟨h, pa, p2', L, marks, ways, xs, ys, acc, [] :: ends', rfl, hh.mono s19, wf, SqL.of (s79 _ _ hpa7), hA7.mono (TK.of s79), by omega, haw5, SqL.of (s79 _ _ hp7), hE7.mono (TK.of s79), by rw [List.length_cons]; omega, hendl, hende, hcl5, fun t tm2 tw2 zs2 H10 s10 ht htm htw htW => ?_⟩
      have s910 := s9.trans s10
      refine ⟨_, rfl, _, rfl, _, hous_eq37 (s910 _ _ hfh) (s910 _ _ hfm) (s910 _ _ hft) (hfW.mono (TK.of s910)) ht htm htw htW, ?_⟩
      rw [if_neg (by decide)]
      have s710 := s79.trans s10
      have s110 := s19.trans s10
      have hnone : (rowsW L acc).find? (fun w => decide (lineW marks ways ([] :: ends') w ∉ acc.map (lineW marks ways ([] :: ends')))) = none := by
        rw [List.find?_eq_none]
        intro w hw
        have : lineW marks ways ([] :: ends') w ∈ acc.map (lineW marks ways ([] :: ends')) := by
          unfold rowsW at hw
          rcases mem_insAllW.mp hw with hw | hw
          . rcases mem_insAllW.mp hw with hw | hw
            . cases hw
            . exact List.mem_map_of_mem hw
          . obtain ⟨u, hu, hw⟩ := List.mem_flatMap.mp hw
            unfold extW at hw
            obtain ⟨x, hx, rfl⟩ := List.mem_map.mp hw
            exact hcl5 u hu x (List.mem_range.mp hx)
        simp only [decide_eq_true_eq]
        exact fun z => z this
      refine ⟨_, SqT.of (s110 _ _ q1), _, rfl, _, SqL.of (s710 _ _ hph), _, rfl, _, SqL.of (s710 _ _ hph), _, rfl, pb, d, l1, l2, L, L, es6, xs, ys, acc, [] :: ends', lineW marks ways ([] :: ends'), rfl, B.mono (s67.trans s710), by omega, SqL.of (s710 _ _ hl1), hA7.mono (TK.of s710), by omega, haw64, SqL.of (s710 _ _ hl2), hE7.mono (TK.of s710), hendl, hende', hline, (fun w t H' hf _ _ => by rw [hnone] at hf; cases hf), fun H11 _ s11 => ?_⟩
      dsimp only
      rw [if_neg (show ¬ ((!decide (V.non = V.non)) = true) by decide)]
      have s711 := s710.trans s11
      refine ⟨_, SqL.of (s711 _ _ hph), _, rfl, l1, rfl, _, WordsT.eq (hA7.mono (TK.of s711)) (hA7.mono (TK.of s711)) (SqL.of (s711 _ _ hl1)) (SqL.of (s711 _ _ hpa7)) 6, ?_⟩
      rw [if_pos rfl]
      exact ⟨_, SqL.of (s711 _ _ hph), _, rfl, l2, rfl, _, WordsT.eq (hE7.mono (TK.of s711)) (hE7.mono (TK.of s711)) (SqL.of (s711 _ _ hl2)) (SqL.of (s711 _ _ hp7)) 6, k _⟩
end
theorem all_mk {l : PySem.W.OpenLaw} {w : World} {K : PySem.W.Frag} {h : Heap} {mg : Str -> Option Value} {fa f_rows_of f_Book_told f_marks_of f_marks_by_row f_stranger f_ways_by_marks f_guess_of f__law_cell_at f__law_house_by f__law_answer f__law_line f__law_access_by f__law_due f__law_numbers f__law_kinds f_Book_init f_is_word f_check_word f_is_mark f_check_mark f_Book_check f_Book_put f__law_told f_law : Addr} (X : K.In h) (G : h.Ns mainGlobals mg) (hfa : mg "law" = some (.ref fa))
    {C_AskError C_BadWord C_Book : Addr}
    {od_rows_of an_rows_of : Option Addr} {sl_rows_of : Array (Option Value)} {oc_rows_of kV_rows_of dc_rows_of pm_rows_of cd_rows_of ct_rows_of : Value}
    {od_Book_told an_Book_told : Option Addr} {sl_Book_told : Array (Option Value)} {oc_Book_told kV_Book_told dc_Book_told pm_Book_told cd_Book_told ct_Book_told : Value}
    {od_marks_of an_marks_of : Option Addr} {sl_marks_of : Array (Option Value)} {oc_marks_of kV_marks_of dc_marks_of pm_marks_of cd_marks_of ct_marks_of : Value}
    {od_marks_by_row an_marks_by_row : Option Addr} {sl_marks_by_row : Array (Option Value)} {oc_marks_by_row kV_marks_by_row dc_marks_by_row pm_marks_by_row cd_marks_by_row ct_marks_by_row : Value}
    {od_stranger an_stranger : Option Addr} {sl_stranger : Array (Option Value)} {oc_stranger kV_stranger dc_stranger pm_stranger cd_stranger ct_stranger : Value}
    {od_ways_by_marks an_ways_by_marks : Option Addr} {sl_ways_by_marks : Array (Option Value)} {oc_ways_by_marks kV_ways_by_marks dc_ways_by_marks pm_ways_by_marks cd_ways_by_marks ct_ways_by_marks : Value}
    {od_guess_of an_guess_of : Option Addr} {sl_guess_of : Array (Option Value)} {oc_guess_of kV_guess_of dc_guess_of pm_guess_of cd_guess_of ct_guess_of : Value}
    {od__law_cell_at an__law_cell_at : Option Addr} {sl__law_cell_at : Array (Option Value)} {oc__law_cell_at kV__law_cell_at dc__law_cell_at pm__law_cell_at cd__law_cell_at ct__law_cell_at : Value}
    {od__law_house_by an__law_house_by : Option Addr} {sl__law_house_by : Array (Option Value)} {oc__law_house_by kV__law_house_by dc__law_house_by pm__law_house_by cd__law_house_by ct__law_house_by : Value}
    {od__law_answer an__law_answer : Option Addr} {sl__law_answer : Array (Option Value)} {oc__law_answer kV__law_answer dc__law_answer pm__law_answer cd__law_answer ct__law_answer : Value}
    {od__law_line an__law_line : Option Addr} {sl__law_line : Array (Option Value)} {oc__law_line kV__law_line dc__law_line pm__law_line cd__law_line ct__law_line : Value}
    {od__law_access_by an__law_access_by : Option Addr} {sl__law_access_by : Array (Option Value)} {oc__law_access_by kV__law_access_by dc__law_access_by pm__law_access_by cd__law_access_by ct__law_access_by : Value}
    {od__law_due an__law_due : Option Addr} {sl__law_due : Array (Option Value)} {oc__law_due kV__law_due dc__law_due pm__law_due cd__law_due ct__law_due : Value}
    {od__law_numbers an__law_numbers : Option Addr} {sl__law_numbers : Array (Option Value)} {oc__law_numbers kV__law_numbers dc__law_numbers pm__law_numbers cd__law_numbers ct__law_numbers : Value}
    {od__law_kinds an__law_kinds : Option Addr} {sl__law_kinds : Array (Option Value)} {oc__law_kinds kV__law_kinds dc__law_kinds pm__law_kinds cd__law_kinds ct__law_kinds : Value}
    {od_Book_init an_Book_init : Option Addr} {sl_Book_init : Array (Option Value)} {oc_Book_init kV_Book_init dc_Book_init pm_Book_init cd_Book_init ct_Book_init : Value}
    {od_is_word an_is_word : Option Addr} {sl_is_word : Array (Option Value)} {oc_is_word kV_is_word dc_is_word pm_is_word cd_is_word ct_is_word : Value}
    {od_check_word an_check_word : Option Addr} {sl_check_word : Array (Option Value)} {oc_check_word kV_check_word dc_check_word pm_check_word cd_check_word ct_check_word : Value}
    {od_is_mark an_is_mark : Option Addr} {sl_is_mark : Array (Option Value)} {oc_is_mark kV_is_mark dc_is_mark pm_is_mark cd_is_mark ct_is_mark : Value}
    {od_check_mark an_check_mark : Option Addr} {sl_check_mark : Array (Option Value)} {oc_check_mark kV_check_mark dc_check_mark pm_check_mark cd_check_mark ct_check_mark : Value}
    {od_Book_check an_Book_check : Option Addr} {sl_Book_check : Array (Option Value)} {oc_Book_check kV_Book_check dc_Book_check pm_Book_check cd_Book_check ct_Book_check : Value}
    {od_Book_put an_Book_put : Option Addr} {sl_Book_put : Array (Option Value)} {oc_Book_put kV_Book_put dc_Book_put pm_Book_put cd_Book_put ct_Book_put : Value}
    {od__law_told an__law_told : Option Addr} {sl__law_told : Array (Option Value)} {oc__law_told kV__law_told dc__law_told pm__law_told cd__law_told ct__law_told : Value}
    {od_law an_law : Option Addr} {sl_law : Array (Option Value)} {oc_law kV_law dc_law pm_law cd_law ct_law : Value}
    (aC_Book : PySem.W.nsIn K mainGlobals "Book" = some (some (.ref C_Book)))
    (pg_Book : PySem.W.plainGet K C_Book Str.empty = true)
    (hd_Book : PySem.W.hasDictIn K C_Book = true)
    (po_Book : PySem.W.plainOver K C_Book = true)
    (sa_Book : PySem.W.findIn K (.ref C_Book) "__setattr__" = some (some (.builtin "object.__setattr__")))
    (mk_Book : PySem.W.makesIn K C_Book = true)
    (kc_Book : PySem.W.keepIn K (.ref C_Book) = true)
    (n_letters_Book : PySem.W.findIn K (.ref C_Book) "letters" = some none)
    (n_marks_Book : PySem.W.findIn K (.ref C_Book) "marks" = some none)
    {tk_MOST_MARK : Tok} (q_MOST_MARK : PySem.W.nsIn K mainGlobals "MOST_MARK" = some (some (.int 1000000000 tk_MOST_MARK)))
    (a_rows_of : PySem.W.nsIn K mainGlobals "rows_of" = some (some (.ref f_rows_of)))
    (l_rows_of : K.lookup f_rows_of = some ⟨oc_rows_of, od_rows_of, .func (PySem.W.fnOf "rows_of" "rows_of" (defArgs s_rows_of) (defBody s_rows_of) (defScope s_rows_of) .none kV_rows_of dc_rows_of pm_rows_of an_rows_of cd_rows_of ct_rows_of), sl_rows_of⟩)
    (c_rows_of : PySem.W.codeIn K cd_rows_of "rows_of" = true)
    (k_rows_of : PySem.W.keepIn K (.ref f_rows_of) = true)
    (a_Book_told : PySem.W.findIn K (.ref C_Book) "told" = some (some (.ref f_Book_told)))
    (i_Book_told : PySem.W.isFn K (.ref f_Book_told) = true)
    (l_Book_told : K.lookup f_Book_told = some ⟨oc_Book_told, od_Book_told, .func (PySem.W.fnOf "told" "Book.told" (defArgs s_Book_told) (defBody s_Book_told) (defScope s_Book_told) .none kV_Book_told dc_Book_told pm_Book_told an_Book_told cd_Book_told ct_Book_told), sl_Book_told⟩)
    (c_Book_told : PySem.W.codeIn K cd_Book_told "Book.told" = true)
    (k_Book_told : PySem.W.keepIn K (.ref f_Book_told) = true)
    (a_marks_of : PySem.W.nsIn K mainGlobals "marks_of" = some (some (.ref f_marks_of)))
    (l_marks_of : K.lookup f_marks_of = some ⟨oc_marks_of, od_marks_of, .func (PySem.W.fnOf "marks_of" "marks_of" (defArgs s_marks_of) (defBody s_marks_of) (defScope s_marks_of) .none kV_marks_of dc_marks_of pm_marks_of an_marks_of cd_marks_of ct_marks_of), sl_marks_of⟩)
    (c_marks_of : PySem.W.codeIn K cd_marks_of "marks_of" = true)
    (k_marks_of : PySem.W.keepIn K (.ref f_marks_of) = true)
    (a_marks_by_row : PySem.W.nsIn K mainGlobals "marks_by_row" = some (some (.ref f_marks_by_row)))
    (l_marks_by_row : K.lookup f_marks_by_row = some ⟨oc_marks_by_row, od_marks_by_row, .func (PySem.W.fnOf "marks_by_row" "marks_by_row" (defArgs s_marks_by_row) (defBody s_marks_by_row) (defScope s_marks_by_row) .none kV_marks_by_row dc_marks_by_row pm_marks_by_row an_marks_by_row cd_marks_by_row ct_marks_by_row), sl_marks_by_row⟩)
    (c_marks_by_row : PySem.W.codeIn K cd_marks_by_row "marks_by_row" = true)
    (k_marks_by_row : PySem.W.keepIn K (.ref f_marks_by_row) = true)
    (a_stranger : PySem.W.nsIn K mainGlobals "stranger" = some (some (.ref f_stranger)))
    (l_stranger : K.lookup f_stranger = some ⟨oc_stranger, od_stranger, .func (PySem.W.fnOf "stranger" "stranger" (defArgs s_stranger) (defBody s_stranger) (defScope s_stranger) .none kV_stranger dc_stranger pm_stranger an_stranger cd_stranger ct_stranger), sl_stranger⟩)
    (c_stranger : PySem.W.codeIn K cd_stranger "stranger" = true)
    (k_stranger : PySem.W.keepIn K (.ref f_stranger) = true)
    (a_ways_by_marks : PySem.W.nsIn K mainGlobals "ways_by_marks" = some (some (.ref f_ways_by_marks)))
    (l_ways_by_marks : K.lookup f_ways_by_marks = some ⟨oc_ways_by_marks, od_ways_by_marks, .func (PySem.W.fnOf "ways_by_marks" "ways_by_marks" (defArgs s_ways_by_marks) (defBody s_ways_by_marks) (defScope s_ways_by_marks) .none kV_ways_by_marks dc_ways_by_marks pm_ways_by_marks an_ways_by_marks cd_ways_by_marks ct_ways_by_marks), sl_ways_by_marks⟩)
    (c_ways_by_marks : PySem.W.codeIn K cd_ways_by_marks "ways_by_marks" = true)
    (k_ways_by_marks : PySem.W.keepIn K (.ref f_ways_by_marks) = true)
    (a_guess_of : PySem.W.nsIn K mainGlobals "guess_of" = some (some (.ref f_guess_of)))
    (l_guess_of : K.lookup f_guess_of = some ⟨oc_guess_of, od_guess_of, .func (PySem.W.fnOf "guess_of" "guess_of" (defArgs s_guess_of) (defBody s_guess_of) (defScope s_guess_of) .none kV_guess_of dc_guess_of pm_guess_of an_guess_of cd_guess_of ct_guess_of), sl_guess_of⟩)
    (c_guess_of : PySem.W.codeIn K cd_guess_of "guess_of" = true)
    (k_guess_of : PySem.W.keepIn K (.ref f_guess_of) = true)
    (a__law_cell_at : PySem.W.nsIn K mainGlobals "_law_cell_at" = some (some (.ref f__law_cell_at)))
    (l__law_cell_at : K.lookup f__law_cell_at = some ⟨oc__law_cell_at, od__law_cell_at, .func (PySem.W.fnOf "_law_cell_at" "_law_cell_at" (defArgs s__law_cell_at) (defBody s__law_cell_at) (defScope s__law_cell_at) .none kV__law_cell_at dc__law_cell_at pm__law_cell_at an__law_cell_at cd__law_cell_at ct__law_cell_at), sl__law_cell_at⟩)
    (c__law_cell_at : PySem.W.codeIn K cd__law_cell_at "_law_cell_at" = true)
    (k__law_cell_at : PySem.W.keepIn K (.ref f__law_cell_at) = true)
    (a__law_house_by : PySem.W.nsIn K mainGlobals "_law_house_by" = some (some (.ref f__law_house_by)))
    (l__law_house_by : K.lookup f__law_house_by = some ⟨oc__law_house_by, od__law_house_by, .func (PySem.W.fnOf "_law_house_by" "_law_house_by" (defArgs s__law_house_by) (defBody s__law_house_by) (defScope s__law_house_by) .none kV__law_house_by dc__law_house_by pm__law_house_by an__law_house_by cd__law_house_by ct__law_house_by), sl__law_house_by⟩)
    (c__law_house_by : PySem.W.codeIn K cd__law_house_by "_law_house_by" = true)
    (k__law_house_by : PySem.W.keepIn K (.ref f__law_house_by) = true)
    (a__law_answer : PySem.W.nsIn K mainGlobals "_law_answer" = some (some (.ref f__law_answer)))
    (l__law_answer : K.lookup f__law_answer = some ⟨oc__law_answer, od__law_answer, .func (PySem.W.fnOf "_law_answer" "_law_answer" (defArgs s__law_answer) (defBody s__law_answer) (defScope s__law_answer) .none kV__law_answer dc__law_answer pm__law_answer an__law_answer cd__law_answer ct__law_answer), sl__law_answer⟩)
    (c__law_answer : PySem.W.codeIn K cd__law_answer "_law_answer" = true)
    (k__law_answer : PySem.W.keepIn K (.ref f__law_answer) = true)
    (a__law_line : PySem.W.nsIn K mainGlobals "_law_line" = some (some (.ref f__law_line)))
    (l__law_line : K.lookup f__law_line = some ⟨oc__law_line, od__law_line, .func (PySem.W.fnOf "_law_line" "_law_line" (defArgs s__law_line) (defBody s__law_line) (defScope s__law_line) .none kV__law_line dc__law_line pm__law_line an__law_line cd__law_line ct__law_line), sl__law_line⟩)
    (c__law_line : PySem.W.codeIn K cd__law_line "_law_line" = true)
    (k__law_line : PySem.W.keepIn K (.ref f__law_line) = true)
    (a__law_access_by : PySem.W.nsIn K mainGlobals "_law_access_by" = some (some (.ref f__law_access_by)))
    (l__law_access_by : K.lookup f__law_access_by = some ⟨oc__law_access_by, od__law_access_by, .func (PySem.W.fnOf "_law_access_by" "_law_access_by" (defArgs s__law_access_by) (defBody s__law_access_by) (defScope s__law_access_by) .none kV__law_access_by dc__law_access_by pm__law_access_by an__law_access_by cd__law_access_by ct__law_access_by), sl__law_access_by⟩)
    (c__law_access_by : PySem.W.codeIn K cd__law_access_by "_law_access_by" = true)
    (k__law_access_by : PySem.W.keepIn K (.ref f__law_access_by) = true)
    (a__law_due : PySem.W.nsIn K mainGlobals "_law_due" = some (some (.ref f__law_due)))
    (l__law_due : K.lookup f__law_due = some ⟨oc__law_due, od__law_due, .func (PySem.W.fnOf "_law_due" "_law_due" (defArgs s__law_due) (defBody s__law_due) (defScope s__law_due) .none kV__law_due dc__law_due pm__law_due an__law_due cd__law_due ct__law_due), sl__law_due⟩)
    (c__law_due : PySem.W.codeIn K cd__law_due "_law_due" = true)
    (k__law_due : PySem.W.keepIn K (.ref f__law_due) = true)
    (a__law_numbers : PySem.W.nsIn K mainGlobals "_law_numbers" = some (some (.ref f__law_numbers)))
    (l__law_numbers : K.lookup f__law_numbers = some ⟨oc__law_numbers, od__law_numbers, .func (PySem.W.fnOf "_law_numbers" "_law_numbers" (defArgs s__law_numbers) (defBody s__law_numbers) (defScope s__law_numbers) .none kV__law_numbers dc__law_numbers pm__law_numbers an__law_numbers cd__law_numbers ct__law_numbers), sl__law_numbers⟩)
    (c__law_numbers : PySem.W.codeIn K cd__law_numbers "_law_numbers" = true)
    (k__law_numbers : PySem.W.keepIn K (.ref f__law_numbers) = true)
    (a__law_kinds : PySem.W.nsIn K mainGlobals "_law_kinds" = some (some (.ref f__law_kinds)))
    (l__law_kinds : K.lookup f__law_kinds = some ⟨oc__law_kinds, od__law_kinds, .func (PySem.W.fnOf "_law_kinds" "_law_kinds" (defArgs s__law_kinds) (defBody s__law_kinds) (defScope s__law_kinds) .none kV__law_kinds dc__law_kinds pm__law_kinds an__law_kinds cd__law_kinds ct__law_kinds), sl__law_kinds⟩)
    (c__law_kinds : PySem.W.codeIn K cd__law_kinds "_law_kinds" = true)
    (k__law_kinds : PySem.W.keepIn K (.ref f__law_kinds) = true)
    (a_Book_init : PySem.W.findIn K (.ref C_Book) "__init__" = some (some (.ref f_Book_init)))
    (i_Book_init : PySem.W.isFn K (.ref f_Book_init) = true)
    (l_Book_init : K.lookup f_Book_init = some ⟨oc_Book_init, od_Book_init, .func (PySem.W.fnOf "__init__" "Book.__init__" (defArgs s_Book_init) (defBody s_Book_init) (defScope s_Book_init) .none kV_Book_init dc_Book_init pm_Book_init an_Book_init cd_Book_init ct_Book_init), sl_Book_init⟩)
    (c_Book_init : PySem.W.codeIn K cd_Book_init "Book.__init__" = true)
    (k_Book_init : PySem.W.keepIn K (.ref f_Book_init) = true)
    (a_is_word : PySem.W.nsIn K mainGlobals "is_word" = some (some (.ref f_is_word)))
    (l_is_word : K.lookup f_is_word = some ⟨oc_is_word, od_is_word, .func (PySem.W.fnOf "is_word" "is_word" (defArgs s_is_word) (defBody s_is_word) (defScope s_is_word) .none kV_is_word dc_is_word pm_is_word an_is_word cd_is_word ct_is_word), sl_is_word⟩)
    (c_is_word : PySem.W.codeIn K cd_is_word "is_word" = true)
    (k_is_word : PySem.W.keepIn K (.ref f_is_word) = true)
    (a_check_word : PySem.W.nsIn K mainGlobals "check_word" = some (some (.ref f_check_word)))
    (l_check_word : K.lookup f_check_word = some ⟨oc_check_word, od_check_word, .func (PySem.W.fnOf "check_word" "check_word" (defArgs s_check_word) (defBody s_check_word) (defScope s_check_word) .none kV_check_word dc_check_word pm_check_word an_check_word cd_check_word ct_check_word), sl_check_word⟩)
    (c_check_word : PySem.W.codeIn K cd_check_word "check_word" = true)
    (k_check_word : PySem.W.keepIn K (.ref f_check_word) = true)
    (a_is_mark : PySem.W.nsIn K mainGlobals "is_mark" = some (some (.ref f_is_mark)))
    (l_is_mark : K.lookup f_is_mark = some ⟨oc_is_mark, od_is_mark, .func (PySem.W.fnOf "is_mark" "is_mark" (defArgs s_is_mark) (defBody s_is_mark) (defScope s_is_mark) .none kV_is_mark dc_is_mark pm_is_mark an_is_mark cd_is_mark ct_is_mark), sl_is_mark⟩)
    (c_is_mark : PySem.W.codeIn K cd_is_mark "is_mark" = true)
    (k_is_mark : PySem.W.keepIn K (.ref f_is_mark) = true)
    (a_check_mark : PySem.W.nsIn K mainGlobals "check_mark" = some (some (.ref f_check_mark)))
    (l_check_mark : K.lookup f_check_mark = some ⟨oc_check_mark, od_check_mark, .func (PySem.W.fnOf "check_mark" "check_mark" (defArgs s_check_mark) (defBody s_check_mark) (defScope s_check_mark) .none kV_check_mark dc_check_mark pm_check_mark an_check_mark cd_check_mark ct_check_mark), sl_check_mark⟩)
    (c_check_mark : PySem.W.codeIn K cd_check_mark "check_mark" = true)
    (k_check_mark : PySem.W.keepIn K (.ref f_check_mark) = true)
    (a_Book_check : PySem.W.findIn K (.ref C_Book) "check" = some (some (.ref f_Book_check)))
    (i_Book_check : PySem.W.isFn K (.ref f_Book_check) = true)
    (l_Book_check : K.lookup f_Book_check = some ⟨oc_Book_check, od_Book_check, .func (PySem.W.fnOf "check" "Book.check" (defArgs s_Book_check) (defBody s_Book_check) (defScope s_Book_check) .none kV_Book_check dc_Book_check pm_Book_check an_Book_check cd_Book_check ct_Book_check), sl_Book_check⟩)
    (c_Book_check : PySem.W.codeIn K cd_Book_check "Book.check" = true)
    (k_Book_check : PySem.W.keepIn K (.ref f_Book_check) = true)
    (a_Book_put : PySem.W.findIn K (.ref C_Book) "put" = some (some (.ref f_Book_put)))
    (i_Book_put : PySem.W.isFn K (.ref f_Book_put) = true)
    (l_Book_put : K.lookup f_Book_put = some ⟨oc_Book_put, od_Book_put, .func (PySem.W.fnOf "put" "Book.put" (defArgs s_Book_put) (defBody s_Book_put) (defScope s_Book_put) .none kV_Book_put dc_Book_put pm_Book_put an_Book_put cd_Book_put ct_Book_put), sl_Book_put⟩)
    (c_Book_put : PySem.W.codeIn K cd_Book_put "Book.put" = true)
    (k_Book_put : PySem.W.keepIn K (.ref f_Book_put) = true)
    (a__law_told : PySem.W.nsIn K mainGlobals "_law_told" = some (some (.ref f__law_told)))
    (l__law_told : K.lookup f__law_told = some ⟨oc__law_told, od__law_told, .func (PySem.W.fnOf "_law_told" "_law_told" (defArgs s__law_told) (defBody s__law_told) (defScope s__law_told) .none kV__law_told dc__law_told pm__law_told an__law_told cd__law_told ct__law_told), sl__law_told⟩)
    (c__law_told : PySem.W.codeIn K cd__law_told "_law_told" = true)
    (k__law_told : PySem.W.keepIn K (.ref f__law_told) = true)
    (a_law : PySem.W.nsIn K mainGlobals "law" = some (some (.ref f_law)))
    (l_law : K.lookup f_law = some ⟨oc_law, od_law, .func (PySem.W.fnOf "law" "law" (defArgs s_law) (defBody s_law) (defScope s_law) .none kV_law dc_law pm_law an_law cd_law ct_law), sl_law⟩)
    (c_law : PySem.W.codeIn K cd_law "law" = true)
    (k_law : PySem.W.keepIn K (.ref f_law) = true)
    (z_all : PySem.W.nsIn K mainGlobals "all" = some none)
    (z_bool : PySem.W.nsIn K mainGlobals "bool" = some none)
    (z_enumerate : PySem.W.nsIn K mainGlobals "enumerate" = some none)
    (z_int : PySem.W.nsIn K mainGlobals "int" = some none)
    (z_isinstance : PySem.W.nsIn K mainGlobals "isinstance" = some none)
    (z_len : PySem.W.nsIn K mainGlobals "len" = some none)
    (z_list : PySem.W.nsIn K mainGlobals "list" = some none)
    (z_range : PySem.W.nsIn K mainGlobals "range" = some none)
    (z_tuple : PySem.W.nsIn K mainGlobals "tuple" = some none)
    (m_AskError : PySem.W.nsIn K mainGlobals "AskError" = some (some (.ref C_AskError)))
    (m_BadWord : PySem.W.nsIn K mainGlobals "BadWord" = some (some (.ref C_BadWord)))
    (x_BadWord : PySem.W.excIn K C_BadWord bmV "ValueError.__new__" = true)
    (ga_BadWord : PySem.W.findIn K (.ref C_BadWord) "__getattribute__" = some (some (.builtin "BaseException.__getattribute__")))
    (hk_BadWord : PySem.W.findIn K (.ref C_BadWord) "__getattr__" = some none)
    {cd_BadWord : ClassData}
    (cl_BadWord : PySem.W.clsIn K C_BadWord = some cd_BadWord)
    (ca_BadWord : PySem.W.findIn K (.ref C_BadWord) "__class__" = some (some (.builtin "object.__class__")))
    (mo_BadWord : PySem.W.mroIn K C_BadWord (.type "object") = some true)
    (mb_BadWord : PySem.W.mroIn K C_BadWord (.type "BaseException") = some true)
    (e_BadWord : PySem.W.exmOne K (.ref C_BadWord) (.ref C_AskError) = some true)
    (v_BadWord : PySem.W.kitOne K (.ref C_BadWord) (.type "ValueError") = some true)
    (k_BadWord_AskError : PySem.W.kitOne K (.ref C_BadWord) (.ref C_AskError) = some true)
    (k_BadWord_BadWord : PySem.W.kitOne K (.ref C_BadWord) (.ref C_BadWord) = some true)
    (gs : PySem.W.specialIn K (.builtin "object.__class__") "__get__" = some (some (.builtin "getset_descriptor.__get__")))
    (tk : PySem.W.takesIn K (.builtin "object.__class__") = some true)
    : ∃ fd : FuncData, (∀ (s : Shared) (v : Value), BindsTo s fd ⟨[v], []⟩ [("script", v)]) /\ ∀ base : Heap, K.In base -> base.Ns mainGlobals mg -> FnOk l.prog w K mg base CX0 6 fa fd ["script"] (spLaw K) := by
  have e := hfa.symm.trans (PySem.W.mg_of X G a_law)
  cases e
  have T : Txt mg := ⟨PySem.W.mg_none_of X G z_all, PySem.W.mg_none_of X G z_bool, PySem.W.mg_none_of X G z_enumerate, PySem.W.mg_none_of X G z_int, PySem.W.mg_none_of X G z_isinstance, PySem.W.mg_none_of X G z_len, PySem.W.mg_none_of X G z_list, PySem.W.mg_none_of X G z_range, PySem.W.mg_none_of X G z_tuple⟩
  have Z : Exs K mg C_AskError C_BadWord := ⟨PySem.W.mg_of X G m_AskError, PySem.W.mg_of X G m_BadWord, x_BadWord, ⟨ga_BadWord, hk_BadWord, by rw [cl_BadWord]; rfl, ca_BadWord, gs, tk, mo_BadWord, mb_BadWord⟩, e_BadWord, v_BadWord, k_BadWord_AskError, k_BadWord_BadWord⟩
  have W : Own K mg C_Book := ⟨PySem.W.mg_of X G aC_Book, ⟨pg_Book, hd_Book, po_Book, sa_Book⟩, n_letters_Book, n_marks_Book, ⟨_, PySem.W.mg_of X G q_MOST_MARK⟩⟩
  have F_rows_of := fun_mk (st := s_rows_of) l_rows_of c_rows_of k_rows_of
  have b_rows_of := F_rows_of.binds (ps := ["letters", "access"]) fun _ _ _ _ _ _ us hl => match us, hl with | [_, _], _ => rfl
  have m_rows_of := PySem.W.mg_of X G a_rows_of
  have F_Book_told := fun_mk (st := s_Book_told) l_Book_told c_Book_told k_Book_told
  have b_Book_told := F_Book_told.binds (ps := ["self", "word"]) fun _ _ _ _ _ _ us hl => match us, hl with | [_, _], _ => rfl
  have m_Book_told : Meth K C_Book "told" f_Book_told := ⟨a_Book_told, i_Book_told, k_Book_told⟩
  have F_marks_of := fun_mk (st := s_marks_of) l_marks_of c_marks_of k_marks_of
  have b_marks_of := F_marks_of.binds (ps := ["book", "word", "ends"]) fun _ _ _ _ _ _ us hl => match us, hl with | [_, _, _], _ => rfl
  have m_marks_of := PySem.W.mg_of X G a_marks_of
  have F_marks_by_row := fun_mk (st := s_marks_by_row) l_marks_by_row c_marks_by_row k_marks_by_row
  have b_marks_by_row := F_marks_by_row.binds (ps := ["book", "letters", "access", "ends"]) fun _ _ _ _ _ _ us hl => match us, hl with | [_, _, _, _], _ => rfl
  have m_marks_by_row := PySem.W.mg_of X G a_marks_by_row
  have F_stranger := fun_mk (st := s_stranger) l_stranger c_stranger k_stranger
  have b_stranger := F_stranger.binds (ps := ["book", "letters", "access", "ends"]) fun _ _ _ _ _ _ us hl => match us, hl with | [_, _, _, _], _ => rfl
  have m_stranger := PySem.W.mg_of X G a_stranger
  have F_ways_by_marks := fun_mk (st := s_ways_by_marks) l_ways_by_marks c_ways_by_marks k_ways_by_marks
  have b_ways_by_marks := F_ways_by_marks.binds (ps := ["letters", "access", "marks"]) fun _ _ _ _ _ _ us hl => match us, hl with | [_, _, _], _ => rfl
  have m_ways_by_marks := PySem.W.mg_of X G a_ways_by_marks
  have F_guess_of := fun_mk (st := s_guess_of) l_guess_of c_guess_of k_guess_of
  have b_guess_of := F_guess_of.binds (ps := ["book", "letters", "access", "ends"]) fun _ _ _ _ _ _ us hl => match us, hl with | [_, _, _, _], _ => rfl
  have m_guess_of := PySem.W.mg_of X G a_guess_of
  have F__law_cell_at := fun_mk (st := s__law_cell_at) l__law_cell_at c__law_cell_at k__law_cell_at
  have b__law_cell_at := F__law_cell_at.binds (ps := ["script", "k"]) fun _ _ _ _ _ _ us hl => match us, hl with | [_, _], _ => rfl
  have m__law_cell_at := PySem.W.mg_of X G a__law_cell_at
  have F__law_house_by := fun_mk (st := s__law_house_by) l__law_house_by c__law_house_by k__law_house_by
  have b__law_house_by := F__law_house_by.binds (ps := ["script"]) fun _ _ _ _ _ _ us hl => match us, hl with | [_], _ => rfl
  have m__law_house_by := PySem.W.mg_of X G a__law_house_by
  have F__law_answer := fun_mk (st := s__law_answer) l__law_answer c__law_answer k__law_answer
  have b__law_answer := F__law_answer.binds (ps := ["house", "word"]) fun _ _ _ _ _ _ us hl => match us, hl with | [_, _], _ => rfl
  have m__law_answer := PySem.W.mg_of X G a__law_answer
  have F__law_line := fun_mk (st := s__law_line) l__law_line c__law_line k__law_line
  have b__law_line := F__law_line.binds (ps := ["house", "word", "ends"]) fun _ _ _ _ _ _ us hl => match us, hl with | [_, _, _], _ => rfl
  have m__law_line := PySem.W.mg_of X G a__law_line
  have F__law_access_by := fun_mk (st := s__law_access_by) l__law_access_by c__law_access_by k__law_access_by
  have b__law_access_by := F__law_access_by.binds (ps := ["house", "ends", "bit"]) fun _ _ _ _ _ _ us hl => match us, hl with | [_, _, _], _ => rfl
  have m__law_access_by := PySem.W.mg_of X G a__law_access_by
  have F__law_due := fun_mk (st := s__law_due) l__law_due c__law_due k__law_due
  have b__law_due := F__law_due.binds (ps := ["house", "access", "ends"]) fun _ _ _ _ _ _ us hl => match us, hl with | [_, _, _], _ => rfl
  have m__law_due := PySem.W.mg_of X G a__law_due
  have F__law_numbers := fun_mk (st := s__law_numbers) l__law_numbers c__law_numbers k__law_numbers
  have b__law_numbers := F__law_numbers.binds (ps := ["found", "size"]) fun _ _ _ _ _ _ us hl => match us, hl with | [_, _], _ => rfl
  have m__law_numbers := PySem.W.mg_of X G a__law_numbers
  have F__law_kinds := fun_mk (st := s__law_kinds) l__law_kinds c__law_kinds k__law_kinds
  have b__law_kinds := F__law_kinds.binds (ps := ["found", "rooms", "letters"]) fun _ _ _ _ _ _ us hl => match us, hl with | [_, _, _], _ => rfl
  have m__law_kinds := PySem.W.mg_of X G a__law_kinds
  have F_Book_init := fun_mk (st := s_Book_init) l_Book_init c_Book_init k_Book_init
  have b_Book_init := F_Book_init.binds (ps := ["self", "letters"]) fun _ _ _ _ _ _ us hl => match us, hl with | [_, _], _ => rfl
  have m_Book_init : Mk K C_Book f_Book_init := ⟨mk_Book, a_Book_init, i_Book_init, kc_Book⟩
  have F_is_word := fun_mk (st := s_is_word) l_is_word c_is_word k_is_word
  have b_is_word := F_is_word.binds (ps := ["letters", "word"]) fun _ _ _ _ _ _ us hl => match us, hl with | [_, _], _ => rfl
  have m_is_word := PySem.W.mg_of X G a_is_word
  have F_check_word := fun_mk (st := s_check_word) l_check_word c_check_word k_check_word
  have b_check_word := F_check_word.binds (ps := ["letters", "word"]) fun _ _ _ _ _ _ us hl => match us, hl with | [_, _], _ => rfl
  have m_check_word := PySem.W.mg_of X G a_check_word
  have F_is_mark := fun_mk (st := s_is_mark) l_is_mark c_is_mark k_is_mark
  have b_is_mark := F_is_mark.binds (ps := ["number"]) fun _ _ _ _ _ _ us hl => match us, hl with | [_], _ => rfl
  have m_is_mark := PySem.W.mg_of X G a_is_mark
  have F_check_mark := fun_mk (st := s_check_mark) l_check_mark c_check_mark k_check_mark
  have b_check_mark := F_check_mark.binds (ps := ["mark"]) fun _ _ _ _ _ _ us hl => match us, hl with | [_], _ => rfl
  have m_check_mark := PySem.W.mg_of X G a_check_mark
  have F_Book_check := fun_mk (st := s_Book_check) l_Book_check c_Book_check k_Book_check
  have b_Book_check := F_Book_check.binds (ps := ["self", "word", "mark"]) fun _ _ _ _ _ _ us hl => match us, hl with | [_, _, _], _ => rfl
  have m_Book_check : Meth K C_Book "check" f_Book_check := ⟨a_Book_check, i_Book_check, k_Book_check⟩
  have F_Book_put := fun_mk (st := s_Book_put) l_Book_put c_Book_put k_Book_put
  have b_Book_put := F_Book_put.binds (ps := ["self", "word", "mark"]) fun _ _ _ _ _ _ us hl => match us, hl with | [_, _, _], _ => rfl
  have m_Book_put : Meth K C_Book "put" f_Book_put := ⟨a_Book_put, i_Book_put, k_Book_put⟩
  have F__law_told := fun_mk (st := s__law_told) l__law_told c__law_told k__law_told
  have b__law_told := F__law_told.binds (ps := ["house", "access", "ends", "more"]) fun _ _ _ _ _ _ us hl => match us, hl with | [_, _, _, _], _ => rfl
  have m__law_told := PySem.W.mg_of X G a__law_told
  have F_law := fun_mk (st := s_law) l_law c_law k_law
  have b_law := F_law.binds (ps := ["script"]) fun _ _ _ _ _ _ us hl => match us, hl with | [_], _ => rfl
  have m_law := PySem.W.mg_of X G a_law
  refine ⟨PySem.W.fnOf "law" "law" (defArgs s_law) (defBody s_law) (defScope s_law) .none kV_law dc_law pm_law an_law cd_law ct_law, fun s v => .of_eq rfl, fun base _ _ => ?_⟩
  have g_rows_of := ok_rows_of (P := l.prog) (w := w) (base := base) F_rows_of T W Z 
  have g_Book_told := ok_Book_told (P := l.prog) (w := w) (base := base) F_Book_told T W Z 
  have g_marks_of := ok_marks_of (P := l.prog) (w := w) (base := base) F_marks_of T W Z g_Book_told F_Book_told b_Book_told m_Book_told
  have g_marks_by_row := ok_marks_by_row (P := l.prog) (w := w) (base := base) F_marks_by_row T W Z g_rows_of F_rows_of b_rows_of m_rows_of g_marks_of F_marks_of b_marks_of m_marks_of
  have g_stranger := ok_stranger (P := l.prog) (w := w) (base := base) F_stranger T W Z g_marks_by_row F_marks_by_row b_marks_by_row m_marks_by_row
  have g_ways_by_marks := ok_ways_by_marks (P := l.prog) (w := w) (base := base) F_ways_by_marks T W Z 
  have g_guess_of := ok_guess_of (P := l.prog) (w := w) (base := base) F_guess_of T W Z g_Book_told F_Book_told b_Book_told m_Book_told g_marks_by_row F_marks_by_row b_marks_by_row m_marks_by_row g_ways_by_marks F_ways_by_marks b_ways_by_marks m_ways_by_marks
  have g__law_cell_at := ok__law_cell_at (P := l.prog) (w := w) (base := base) F__law_cell_at T W Z 
  have g__law_house_by := ok__law_house_by (P := l.prog) (w := w) (base := base) F__law_house_by T W Z g__law_cell_at F__law_cell_at b__law_cell_at m__law_cell_at
  have g__law_answer := ok__law_answer (P := l.prog) (w := w) (base := base) F__law_answer T W Z 
  have g__law_line := ok__law_line (P := l.prog) (w := w) (base := base) F__law_line T W Z g__law_answer F__law_answer b__law_answer m__law_answer
  have g__law_access_by := ok__law_access_by (P := l.prog) (w := w) (base := base) F__law_access_by T W Z g__law_line F__law_line b__law_line m__law_line
  have g__law_due := ok__law_due (P := l.prog) (w := w) (base := base) F__law_due T W Z g__law_line F__law_line b__law_line m__law_line
  have g__law_numbers := ok__law_numbers (P := l.prog) (w := w) (base := base) F__law_numbers T W Z 
  have g__law_kinds := ok__law_kinds (P := l.prog) (w := w) (base := base) F__law_kinds T W Z g__law_numbers F__law_numbers b__law_numbers m__law_numbers
  have g_Book_init := ok_Book_init (P := l.prog) (w := w) (base := base) F_Book_init T W Z 
  have g_is_word := ok_is_word (P := l.prog) (w := w) (base := base) F_is_word T W Z 
  have g_check_word := ok_check_word (P := l.prog) (w := w) (base := base) F_check_word T W Z g_is_word F_is_word b_is_word m_is_word
  have g_is_mark := ok_is_mark (P := l.prog) (w := w) (base := base) F_is_mark T W Z 
  have g_check_mark := ok_check_mark (P := l.prog) (w := w) (base := base) F_check_mark T W Z g_is_mark F_is_mark b_is_mark m_is_mark
  have g_Book_check := ok_Book_check (P := l.prog) (w := w) (base := base) F_Book_check T W Z g_check_word F_check_word b_check_word m_check_word g_check_mark F_check_mark b_check_mark m_check_mark
  have g_Book_put := ok_Book_put (P := l.prog) (w := w) (base := base) F_Book_put T W Z g_Book_check F_Book_check b_Book_check m_Book_check
  have g__law_told := ok__law_told (P := l.prog) (w := w) (base := base) F__law_told T W Z g__law_answer F__law_answer b__law_answer m__law_answer g_Book_init F_Book_init b_Book_init m_Book_init g_Book_put F_Book_put b_Book_put m_Book_put
  have g_law := ok_law (P := l.prog) (w := w) (base := base) F_law T W Z g_stranger F_stranger b_stranger m_stranger g_guess_of F_guess_of b_guess_of m_guess_of g__law_cell_at F__law_cell_at b__law_cell_at m__law_cell_at g__law_house_by F__law_house_by b__law_house_by m__law_house_by g__law_access_by F__law_access_by b__law_access_by m__law_access_by g__law_due F__law_due b__law_due m__law_due g__law_kinds F__law_kinds b__law_kinds m__law_kinds g__law_told F__law_told b__law_told m__law_told
  exact g_law
theorem walk {l : PySem.W.OpenLaw} {q : Program} {loose : List Str} {XP : (Str -> Option Value) -> Heap -> Prop} {YP : World -> Heap -> Prop} {d : DefRec} {K : Params -> PySem.W.Frag} (hn : l.most = some 63) (hdf : d.params.defaults = [])
    (hY : ∀ (w : World) (h : Heap), YP w h -> (K w.params).In h)
    (F : ∀ (w : World) (mg : Str -> Option Value) (fa : Addr) (h : Heap), (K w.params).In h -> h.Ns mainGlobals mg -> mg d.name = some (.ref fa) ->
      ∃ fd : FuncData, (∀ (s : Shared) (u : Value), BindsTo s fd ⟨[u], []⟩ [("script", u)]) /\ ∀ base : Heap, (K w.params).In base -> base.Ns mainGlobals mg -> FnOk l.prog w (K w.params) mg base CX0 6 fa fd ["script"] (spLaw (K w.params))) :
    PySem.W.WalkO q loose XP YP l.row.toRowW d [] (fun f vs => PySem.call f vs) :=
  L2.walk_of (n := 63) (k := 6) (x := "script") (CX := fun _ => CX0) (sp := fun w => spLaw (K w.params)) hn (by decide) hdf ⟨rfl, by decide, by decide⟩ hY F (fun _ _ a ns hl _ hS => ⟨a, ns, rfl, hS, hl, fun _ => rfl⟩) fun _ _ _ _ _ z => z
end Mine
inductive PySem.W.Fast where
|tw5150538464654772596|tw9996135122629772478|tw11944946675138876680|tw15526406178704738966|tw8002376260948956756|tw14347355954361994078|tw2495022326349187909|tw5997167231499798925|tw4023643629116876961|tw13656761687599170813|tw12067934186811276501|tw4930029056802718945|tw12398910084309452593|tw2908873746245610676|tw5098183896526174840|tw12734946347572082416|tw11754333765470918781|tw16216373085353991911|tw682608459651162531|tw18425554425863316391|tw2642572132750965522|tw11620655832440247933|tw14665474448724381050|tw12690375971792609678|tw16656486838038522546|tw15182531666976330208|tw15577418288269468171|tw1058211673017846993|tw16292465482619001003|tw4498989687593332136|tw5737906980449425823|tw18410624072101757255|tw18059950450812970438|tw17367246908951252728|tw17273511447317543929|tw14251879240446413647|tw8052090993656477103|tw6426384885966718300|tw16389131055290845887|tw14272331378201126283|tw11392573394004000140|tw323605570163705518|tw10753364652236012802|tw1019171249831306642|tw17300554957128701132|tw11413885557782420425|tw2450888890481143483|tw15696669552275153702|tw15977698564986830595|tw11124966002243315263|tw17546354772493313339|tw13714187137927841624|tw9310190938303459910|tw5765500513520695160|tw2081461895853855085|tw7625709293662315404|tw18366576476981990244|tw1786237121742815167|tw18220338070969408511|tw2908931879058846379|tw14282566230837663556|tw5934921047467284026|tw15119474146161378686|tw559724038532677208|tw10953452364530628946|tw9672255961592724424|tw3356033965151173031|tw12211864946559574884|tw15662470799245035614|tw2289600535114558630|tw16638936412957138747|tw6097152644510383641|tw13331907137182847321|tw5220776341502961915|tw17149788269627930403|tw11061628909746663889|tw819952057971172976|tw4563479566498976854|tw5592769132795635365|tw8405439108151209891|tw4774404480079938513|tw5087303159555564767|tw14234755204810052650|tw13511215176252856325|tw11488310570076234167|tw17597958580703327817|tw6281679038287450061|tw6142120929681532104|tw1134591442095550188|tw2460437735191971343|tw2821672678156693576|tw567534180413575509|tw9540829977081197248|tw8993601234397454357|tw3621676233204368235|tw6407512971967237757|tw7222140101058867638|tw2319714787714128774|tw17446391131095394034|tw8309982098941785490|tw10781603639156510607|tw15891323606032987225|tw1782929961380893777|tw2431889397216204845|tw3113494973800878934|tw5818659245568501921|tw13589322717985972642|tw18083823381348461964|tw11862530640782202793|tw3939232175076310223|tw7033505580136615385|tw6771712854122388691|tw11488589015683078095|tw15952627924751278778|tw1443779390175142843|tw1745547243800730846|tw18155422443292202155|tw11013918762735619587|tw14544030572757341949|tw2487253004247334872|tw4678254989216992987|tw5661584134323139854|tw245777825500404143|tw16399828722368431790|tw14380771732590410734|tw2811756704463659905|tw4794528613216143976|tw13275539407909857088|tw7839186877286677141|tw2850232155964049327|tw3322482283773170896|tw2527295418236093830|tw1825516108532695381|tw15196795425864421724|tw5365028419751876425|tw8572158401104550200|tw11551461336072980740|tw3359929046596964652|tw6764793786378615026|tw13543786764694443483|tw18435830102710512064|tw5636490133726749879|tw3171536088512639841|tw17275421523868471680|tw2597452894510679416|tw6123001734642801173|tw7997515721243987815|tw1691920783184373789|tw18342025039313174323|tw7438871659294493963|tw18308078882275053727|tw11901784621587449554|tw8809441514382669474|tw13074114445610388964|tw12208834028194457542|tw2564536699676101816|tw16658423199096439460|tw18026176052339743356|tw15992683981936002982|tw7056713984159638479|tw4169765617490489652|tw8711565033930416435|tw4790689402433299306|tw10168713874704155133|tw1947902261867335336|tw14003120709285134517|tw11200938922915047879|tw18378379510640717345|tw930476211442750559|tw6490856675654530214|tw1943467887162179528|tw17738805060350144001|tw3053251645641536312|tw2059242811204008157|tw15032885197208459349|tw14203975518975242019|tw2613043623789224606|tw15077007891822984217|tw11272816083396464247|tw9822652374128344433|tw14605333680478211673|tw10909427994928442756|tw2423942580180261747|tw8011762846545811389|tw7185443447927683108|tw1707864296868706996|tw15137754266689854458|tw1091589496378583778|tw5111245396631327302|tw9733276645581902641|tw16898479803103995576|tw2813875102411207058|tw9449301800117381733|tw1979885613978651950|tw7290456549601614551|tw5422731029415314603|tw17652815214162748534|tw5736097303239496455|tw6044381939525455522|tw12021218835547748998|tw17100463674265877178|tw12637601262899984001|tw1707717737091145129|tw9747732318720161574|tw18073710975794967986|tw8013191481240916804|tw17647418788889525821|tw5603428961418420307|tw12731907008339130013|tw5502134229545903051|tw17803803932925231950|tw7743477138489371183|tw6249638132152765908|tw5984866935910050515|tw7268138659857793671|tw2017859709238401179|tw17535514902237766352|tw2482803715866354375|tw14444023340880145124|tw1414302391390757569|tw10848287022187087090|tw8515528729535104878|tw3457321397979195386|tw12639514845609053776|tw13961065828464238342|tw8648484660460060594|tw13466524427799823786|tw17815801388206890083|tw329832480663828050|tw13187357999771218783|tw7844650618871148593|tw6740687928854530119|tw14114874928254284990|tw3694331335715817688|tw2915909695540680521|tw13026438160711107792|tw13042017515541399709|tw5274603202458146509|tw6477712676462056087|tw11275322921332139780|tw11410813643830896278|tw8361514277648688454|tw1812775257834552063|tw13410753861668792583|tw17415653612691793517|tw15440112255907293624|tw10023094245857646847|tw18353721585509146419|tw11302243319323402562|tw3498822087692695223|tw10453495572614232446|tw7928852247692861414|tw464109506739923123|tw177685942012077611|tw10355032262189317351|tw17150224363048324088|tw4953622358777298476|tw14134472769759416155|tw8016518094804815060|tw984578241431255541|tw13936052373330135865|tw2566055707518532846|tw5332651823287946751|tw6194122348573978194|tw9029384878686486262|tw15853699651244584526|tw14610015290432534901|tw15100043119312749886|tw8540459814355576723|tw11566973307713056733|tw16538441206829171208
open PySem PySem.W PyProof.Rows
set_option maxRecDepth 100000 in
set_option maxHeartbeats 0 in
theorem PySem.Challenge.cw_guessroom_k37_the_guess_holds : PySem.Challenge.rw_guessroom_k37_the_guess.Holds := by
  w_on; o_law; k_head; (case hw => w_witness2)
  k_fill
  refine Mine.walk (l := PySem.Challenge.rw_guessroom_k37_the_guess) rfl rfl (fun w h Y => PySem.W.kIn_of Y) ?F
  case F =>
    intro w mg fa h KX G hmg
    refine' Mine.all_mk KX G hmg ?aC_Book ?pg_Book ?hd_Book ?po_Book ?sa_Book ?mk_Book ?kc_Book ?n_letters_Book ?n_marks_Book ?q_MOST_MARK ?a_rows_of ?l_rows_of ?c_rows_of ?k_rows_of ?a_Book_told ?i_Book_told ?l_Book_told ?c_Book_told ?k_Book_told ?a_marks_of ?l_marks_of ?c_marks_of ?k_marks_of ?a_marks_by_row ?l_marks_by_row ?c_marks_by_row ?k_marks_by_row ?a_stranger ?l_stranger ?c_stranger ?k_stranger ?a_ways_by_marks ?l_ways_by_marks ?c_ways_by_marks ?k_ways_by_marks ?a_guess_of ?l_guess_of ?c_guess_of ?k_guess_of ?a__law_cell_at ?l__law_cell_at ?c__law_cell_at ?k__law_cell_at ?a__law_house_by ?l__law_house_by ?c__law_house_by ?k__law_house_by ?a__law_answer ?l__law_answer ?c__law_answer ?k__law_answer ?a__law_line ?l__law_line ?c__law_line ?k__law_line ?a__law_access_by ?l__law_access_by ?c__law_access_by ?k__law_access_by ?a__law_due ?l__law_due ?c__law_due ?k__law_due ?a__law_numbers ?l__law_numbers ?c__law_numbers ?k__law_numbers ?a__law_kinds ?l__law_kinds ?c__law_kinds ?k__law_kinds ?a_Book_init ?i_Book_init ?l_Book_init ?c_Book_init ?k_Book_init ?a_is_word ?l_is_word ?c_is_word ?k_is_word ?a_check_word ?l_check_word ?c_check_word ?k_check_word ?a_is_mark ?l_is_mark ?c_is_mark ?k_is_mark ?a_check_mark ?l_check_mark ?c_check_mark ?k_check_mark ?a_Book_check ?i_Book_check ?l_Book_check ?c_Book_check ?k_Book_check ?a_Book_put ?i_Book_put ?l_Book_put ?c_Book_put ?k_Book_put ?a__law_told ?l__law_told ?c__law_told ?k__law_told ?a_law ?l_law ?c_law ?k_law ?z_all ?z_bool ?z_enumerate ?z_int ?z_isinstance ?z_len ?z_list ?z_range ?z_tuple ?m_AskError ?m_BadWord ?x_BadWord ?ga_BadWord ?hk_BadWord ?cl_BadWord ?ca_BadWord ?mo_BadWord ?mb_BadWord ?e_BadWord ?v_BadWord ?k_BadWord_AskError ?k_BadWord_BadWord ?gs ?tk
    (case aC_Book => k_is)
    (case pg_Book => k_is)
    (case hd_Book => k_is)
    (case po_Book => k_is)
    (case sa_Book => k_is)
    (case mk_Book => k_is)
    (case kc_Book => k_is)
    (case n_letters_Book => k_is)
    (case n_marks_Book => k_is)
    (case q_MOST_MARK => k_is)
    (case a_rows_of => k_is)
    (case l_rows_of => k_is)
    (case c_rows_of => k_is)
    (case k_rows_of => k_is)
    (case a_Book_told => k_is)
    (case i_Book_told => k_is)
    (case l_Book_told => k_is)
    (case c_Book_told => k_is)
    (case k_Book_told => k_is)
    (case a_marks_of => k_is)
    (case l_marks_of => k_is)
    (case c_marks_of => k_is)
    (case k_marks_of => k_is)
    (case a_marks_by_row => k_is)
    (case l_marks_by_row => k_is)
    (case c_marks_by_row => k_is)
    (case k_marks_by_row => k_is)
    (case a_stranger => k_is)
    (case l_stranger => k_is)
    (case c_stranger => k_is)
    (case k_stranger => k_is)
    (case a_ways_by_marks => k_is)
    (case l_ways_by_marks => k_is)
    (case c_ways_by_marks => k_is)
    (case k_ways_by_marks => k_is)
    (case a_guess_of => k_is)
    (case l_guess_of => k_is)
    (case c_guess_of => k_is)
    (case k_guess_of => k_is)
    (case a__law_cell_at => k_is)
    (case l__law_cell_at => k_is)
    (case c__law_cell_at => k_is)
    (case k__law_cell_at => k_is)
    (case a__law_house_by => k_is)
    (case l__law_house_by => k_is)
    (case c__law_house_by => k_is)
    (case k__law_house_by => k_is)
    (case a__law_answer => k_is)
    (case l__law_answer => k_is)
    (case c__law_answer => k_is)
    (case k__law_answer => k_is)
    (case a__law_line => k_is)
    (case l__law_line => k_is)
    (case c__law_line => k_is)
    (case k__law_line => k_is)
    (case a__law_access_by => k_is)
    (case l__law_access_by => k_is)
    (case c__law_access_by => k_is)
    (case k__law_access_by => k_is)
    (case a__law_due => k_is)
    (case l__law_due => k_is)
    (case c__law_due => k_is)
    (case k__law_due => k_is)
    (case a__law_numbers => k_is)
    (case l__law_numbers => k_is)
    (case c__law_numbers => k_is)
    (case k__law_numbers => k_is)
    (case a__law_kinds => k_is)
    (case l__law_kinds => k_is)
    (case c__law_kinds => k_is)
    (case k__law_kinds => k_is)
    (case a_Book_init => k_is)
    (case i_Book_init => k_is)
    (case l_Book_init => k_is)
    (case c_Book_init => k_is)
    (case k_Book_init => k_is)
    (case a_is_word => k_is)
    (case l_is_word => k_is)
    (case c_is_word => k_is)
    (case k_is_word => k_is)
    (case a_check_word => k_is)
    (case l_check_word => k_is)
    (case c_check_word => k_is)
    (case k_check_word => k_is)
    (case a_is_mark => k_is)
    (case l_is_mark => k_is)
    (case c_is_mark => k_is)
    (case k_is_mark => k_is)
    (case a_check_mark => k_is)
    (case l_check_mark => k_is)
    (case c_check_mark => k_is)
    (case k_check_mark => k_is)
    (case a_Book_check => k_is)
    (case i_Book_check => k_is)
    (case l_Book_check => k_is)
    (case c_Book_check => k_is)
    (case k_Book_check => k_is)
    (case a_Book_put => k_is)
    (case i_Book_put => k_is)
    (case l_Book_put => k_is)
    (case c_Book_put => k_is)
    (case k_Book_put => k_is)
    (case a__law_told => k_is)
    (case l__law_told => k_is)
    (case c__law_told => k_is)
    (case k__law_told => k_is)
    (case a_law => k_is)
    (case l_law => k_is)
    (case c_law => k_is)
    (case k_law => k_is)
    (case z_all => k_is)
    (case z_bool => k_is)
    (case z_enumerate => k_is)
    (case z_int => k_is)
    (case z_isinstance => k_is)
    (case z_len => k_is)
    (case z_list => k_is)
    (case z_range => k_is)
    (case z_tuple => k_is)
    (case m_AskError => k_is)
    (case m_BadWord => k_is)
    (case x_BadWord => k_exc)
    (case ga_BadWord => k_is)
    (case hk_BadWord => k_is)
    (case cl_BadWord => k_is)
    (case ca_BadWord => k_is)
    (case mo_BadWord => k_is)
    (case mb_BadWord => k_is)
    (case e_BadWord => kts_exm)
    (case v_BadWord => kit_is)
    (case k_BadWord_AskError => kit_is)
    (case k_BadWord_BadWord => kit_is)
    (case gs => k_is)
    (case tk => k_is)
