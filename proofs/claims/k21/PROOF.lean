import PyProof.Rows.All
import Wide.All
import OpenK.AllK
import Wide.FinOn
import Lean
import PyProof.EqAt
import PyProof.EqKinds
import PyProof.TupleCall
import KE.KRevIter
import PyProof.ListRange
import PyProof.TupleOfGen
import PyProof.Draws
import PyProof.EnumMake
import PyProof.EnumFor
import PyProof.NeKinds
import KE.KDictList
import PyProof.Rows.TupDisplay
import PyProof.ZipIter
import PyProof.Rows.ZipGen
import KE.KItemsList
import PyProof.Rows.SumAny
import PyProof.StrWalks
import PyProof.StrCalls
import PyProof.StrCalls3
import PyProof.StrLawsFirst
import PyProof.StrLawsIn
import PyProof.SliceStr2
import PyProof.StrBlockI
import PyProof.Rows.StrWeight2
import PyProof.ListNew
import PyProof.DictRoadsH
import PyProof.WalkInts
import PyProof.Rows.MinMaxN
import KE.KDictLaws
import PySem.Challenge.RW_guessroom_k21_alike
set_option Elab.async false
set_option linter.all false
set_option maxRecDepth 100000
namespace L2
open PySem PySem.Spec PyProof.Rows
abbrev Key := Sum Int Str
def keyIs : Key -> Value -> Bool
  | .inl k, v => Value.isInt k v
  | .inr x, v => Value.isStrOf x v
def keyH (w : World) : Key -> Int
  | .inl k => hashInt k
  | .inr x => hashStr w x
theorem keyIs_shape : ∀ {k : Key} {v : Value}, keyIs k v = true -> (∃ i t, k = Sum.inl i /\ v = Value.int i t) \/ (∃ x t, k = Sum.inr x /\ v = Value.str x t)
  | .inl i, v, h => by
    obtain ⟨t, e⟩ := Value.isInt_shape (k := i) (v := v) h
    exact .inl ⟨i, t, rfl, e⟩
  | .inr x, v, h => by
    obtain ⟨t, e⟩ := Value.isStrOf_shape (x := x) (v := v) h
    exact .inr ⟨x, t, rfl, e⟩
theorem keyIs_int (i : Int) (t : Tok) : keyIs (.inl i) (.int i t) = true := by simp [keyIs, Value.isInt]
theorem keyIs_str (x : Str) (t : Tok) : keyIs (.inr x) (.str x t) = true := by simp [keyIs, Value.isStrOf]
theorem key_ll (a b : Int) : decide ((Sum.inl a : Key) = Sum.inl b) = (a == b) := by
  by_cases e : a = b
  . subst e; simp
  . have h : ¬ (Sum.inl a : Key) = Sum.inl b := fun q => e (Sum.inl.inj q)
    rw [decide_eq_false h]
    exact (beq_eq_false_iff_ne.mpr e).symm
theorem key_rr (a b : Str) : decide ((Sum.inr a : Key) = Sum.inr b) = decide (a = b) := by
  by_cases e : a = b
  . subst e; simp
  . have h : ¬ (Sum.inr a : Key) = Sum.inr b := fun q => e (Sum.inr.inj q)
    rw [decide_eq_false h, decide_eq_false e]
theorem key_lr (a : Int) (b : Str) : decide ((Sum.inl a : Key) = Sum.inr b) = false := decide_eq_false (fun q => nomatch q)
theorem key_rl (a : Str) (b : Int) : decide ((Sum.inr a : Key) = Sum.inl b) = false := decide_eq_false (fun q => nomatch q)
def mixKind (prog : Program) (w : World) : PySem.KeyKind prog w Key where
  is := keyIs
  hash := keyH w
  inj := fun v a b ha hb => by
    rcases keyIs_shape ha with ⟨i, t, rfl, rfl⟩ | ⟨x, t, rfl, rfl⟩
    . rcases keyIs_shape hb with ⟨j, u, rfl, e⟩ | ⟨y, u, rfl, e⟩
      . injection e with e1 _; rw [e1]
      . exact nomatch e
    . rcases keyIs_shape hb with ⟨j, u, rfl, e⟩ | ⟨y, u, rfl, e⟩
      . exact nomatch e
      . injection e with e1 _; rw [e1]
  byValue := fun k v h => by
    rcases keyIs_shape h with ⟨i, t, rfl, rfl⟩ | ⟨x, t, rfl, rfl⟩ <;> rfl
  pyHash := fun hv h => by
    rcases keyIs_shape hv with ⟨i, t, rfl, rfl⟩ | ⟨x, t, rfl, rfl⟩
    . exact wpAny_pyHash_int h
    . exact wpAny_pyHash_str h
  eqBool := fun hu hv h => by
    rcases keyIs_shape hu with ⟨i, t, rfl, rfl⟩ | ⟨x, t, rfl, rfl⟩
    . rcases keyIs_shape hv with ⟨j, u, rfl, rfl⟩ | ⟨y, u, rfl, rfl⟩
      . rw [key_ll] at h; exact wpAny_eqBool_int h
      . rw [key_lr] at h; exact SeqAt.EqAt.int_str i t y u _ _ _ _ h
    . rcases keyIs_shape hv with ⟨j, u, rfl, rfl⟩ | ⟨y, u, rfl, rfl⟩
      . rw [key_rl] at h; exact SeqAt.EqAt.str_int x t j u _ _ _ _ h
      . rw [key_rr] at h; exact wpAny_eqBool_str h
  «strs» := fun k x t v h => by
    rcases keyIs_shape h with ⟨i, u, rfl, e⟩ | ⟨y, u, rfl, e⟩
    . exact nomatch e
    . injection e with e1 _
      subst e1
      cases v <;> rfl
theorem mixKind_int (prog : Program) (w : World) (i : Int) (t : Tok) : (mixKind prog w).is (.inl i) (.int i t) = true := keyIs_int i t
theorem mixKind_str (prog : Program) (w : World) (x : Str) (t : Tok) : (mixKind prog w).is (.inr x) (.str x t) = true := keyIs_str x t
end L2
namespace L2
open PySem PySem.Spec PyProof.Rows
inductive V where
  | non | bl (b : Bool) | int (i : Int) | str (x : Str) | byt (b : Array UInt8) | flt (b : UInt64) | ref (a : Addr) | ty (n : String)
  deriving DecidableEq
def RelV : V -> Value -> Prop
  | .non, u => u = Value.none
  | .bl b, u => u = Value.bool b
  | .int i, u => ∃ t, u = Value.int i t
  | .str x, u => ∃ t, u = Value.str x t
  | .byt b, u => ∃ t, u = Value.bytes b t
  | .flt b, u => ∃ t, u = Value.float b t
  | .ref a, u => u = Value.ref a
  | .ty n, u => u = Value.type n
abbrev Vals : List V -> List Value -> Prop := Paired RelV
theorem Vals.length {xs : List V} {us : List Value} (r : Vals xs us) : xs.length = us.length := Paired.length r
theorem Vals.get : ∀ {xs : List V} {us : List Value} {i : Nat} {x : V}, Vals xs us -> xs[i]? = some x -> ∃ u, us[i]? = some u /\ RelV x u
  | _, _, _, _, .nil, e => by simp at e
  | _, _, 0, _, .cons r _, e => by simp at e; subst e; exact ⟨_, rfl, r⟩
  | _, _, i + 1, x, .cons _ t, e => by
    obtain ⟨u, h1, h2⟩ := Vals.get (i := i) (x := x) t (by simpa using e)
    exact ⟨u, by simpa using h1, h2⟩
theorem Vals.set {x : V} {u : Value} (r : RelV x u) : ∀ {xs : List V} {us : List Value} (i : Nat), Vals xs us -> Vals (xs.set i x) (us.set i u)
  | _, _, _, .nil => .nil
  | _, _, 0, .cons _ t => .cons r t
  | _, _, i + 1, .cons q t => .cons q (Vals.set r i t)
theorem Vals.append : ∀ {xs ys : List V} {us ws : List Value}, Vals xs us -> Vals ys ws -> Vals (xs ++ ys) (us ++ ws)
  | _, _, _, _, .nil, s => s
  | _, _, _, _, .cons r t, s => .cons r (Vals.append t s)
def RelO : Option V -> Option Value -> Prop
  | some v, some u => RelV v u
  | none, none => True
  | _, _ => False
def KV {κ : Type} : List (κ × V) -> List (κ × Value) -> Prop := Paired fun (p : κ × V) (q : κ × Value) => p.1 = q.1 /\ RelV p.2 q.2
def kV : Key -> V
  | .inl i => .int i
  | .inr x => .str x
inductive HO where
  /-- a list -/
  | lst (xs : List V)
  /-- a tuple (never changes) -/
  | tup (xs : List V)
  /-- a dict whose keys are ints and texts; one whose keys are tuples of ints and texts (the empty one is both) -/
  | dK (kvs : List (Key × V)) | dT (kvs : List (List Key × V))
  /-- a set of ints: its members, its size -/
  | set (S : Int -> Bool) (n : Nat)
  /-- an instance of the class at C, its dict at dx, its attributes -/
  | ins (C dx : Addr) (fs : List (Str × V))
  /-- the dict of the instance at x -/
  | own (x : Addr)
  /-- the dict of an exception -/
  | xd (fs : List (Str × V))
  /-- a bound method, f of x -/
  | met (f x : Addr)
  /-- a range object lo, lo + 1, .. below hi -/
  | rng (lo hi : Int)
  /-- a thing that is known to the object (the script; a dict while a loop walks it): read, never written while it is so -/
  | frz (o : Obj) (u : HO)
  /-- a code object's table -/
  | tbl (ps : Array Value)
  /-- any other thing, by what is true of its one object (a def of one's own: SetO a S n := HO.ext fun h => ..) -/
  | ext (φ : Heap -> Prop)
abbrev Hp := Addr -> Option HO
def upd (H : Hp) (a : Addr) (o : HO) : Hp := fun b => if b = a then some o else H b
theorem upd_same {H : Hp} {a : Addr} {o : HO} : upd H a o a = some o := by unfold upd; rw [if_pos rfl]
theorem upd_ne {H : Hp} {a b : Addr} {o : HO} (h : b ≠ a) : upd H a o b = H b := by unfold upd; rw [if_neg h]
theorem ne_of {H : Hp} {a b : Addr} {o u : HO} (h : H a = some o) (h' : H b = some u) (d : o ≠ u) : a ≠ b := by
  intro e; subst e; rw [h] at h'; exact d (Option.some.inj h')
theorem ne_of_none {H : Hp} {a b : Addr} {o : HO} (h : H a = some o) (h' : H b = none) : a ≠ b := by
  intro e; subst e; rw [h] at h'; cases h'
section
variable (P : Program) (w : World)
def ObjOk (H : Hp) (h : Heap) (a : Addr) : HO -> Prop
  | .lst xs => xs.length <= sizeLine /\ ∃ (its : List Value) (n : Nat), Vals xs its /\ h.get? a = some { cls := .type "list", data := .seq its.toArray n }
  | .tup xs => xs.length <= sizeLine /\ ∃ its : List Value, Vals xs its /\ IsTup h a its.toArray
  | .dK kvs => kvs.length <= sizeLine /\ (a == sysModules) = false /\ ∃ vs, KV kvs vs /\ h.DictOf (mixKind P w) a vs
  | .dT kvs => kvs.length <= sizeLine /\ (a == sysModules) = false /\ ∃ xs : List (List Key × Addr × Value),
      Paired (fun (p : List Key × V) (q : List Key × Addr × Value) => p.1 = q.1 /\ H q.2.1 = some (.tup (p.1.map kV)) /\ RelV p.2 q.2.2) kvs xs /\
      ∃ o es ep, h.get? a = some o /\ o.ExactDict /\ o.data = .dict es ep /\ es.toList = xs.map (entryOfKey (tupleKind (mixKind P w))) /\ (xs.map (·.1)).Nodup
  | .set S n => h.SetOf (intKind P w) a S n
  | .ins C dx fs => H dx = some (.own a) /\ fs.length <= 1000 /\ dx ≠ a /\ h.get? a = some (PySem.W.instObj C dx) /\
      ∃ mA, h.Ns1 dx mA /\ (∀ f, RelO (fs.lookup f) (mA f)) /\ PySem.Within mA (fs.map (·.1))
  | .own _ => ∃ o, h.get? a = some o
  | .xd fs => ∃ mA, h.Ns1 a mA /\ ∀ f, RelO (fs.lookup f) (mA f)
  | .rng lo hi => ∃ t u v, h.get? a = some { cls := .type "range", data := .fields #[.int lo t, .int hi u, .int 1 v] }
  | .frz o u => h.get? a = some o /\ ObjOk H h a u
  | .tbl ps => h.get? a = some { cls := .none, data := .fields ps }
  | .met f x => h.get? a = some (PySem.W.methodObj (.ref f) (.ref x))
  | .ext φ => φ h /\ (∃ o, h.get? a = some o) /\ ∀ h1 h2 : Heap, φ h1 -> (∀ o, h1.get? a = some o -> h2.get? a = some o) -> φ h2
def HOk (H : Hp) (h : Heap) : Prop := ∀ a o, H a = some o -> ObjOk P w H h a o
end
section
variable {P : Program} {w : World} {H H' : Hp} {h h' : Heap} {a : Addr} {o : HO}
theorem ObjOk.lt (x : ObjOk P w H h a o) : a < h.objs.size := by
  cases o with
  | lst xs => obtain ⟨_, _, _, _, e⟩ := x; exact Heap.lt_size e
  | tup xs => obtain ⟨_, _, _, p⟩ := x; exact p.lt
  | dK kvs => obtain ⟨_, _, _, _, o, _, _, e, _⟩ := x; exact Heap.lt_size e
  | dT kvs => obtain ⟨_, _, _, _, o, _, _, e, _⟩ := x; exact Heap.lt_size e
  | set S n => obtain ⟨o, _, _, _, e, _⟩ := x; exact Heap.lt_size e
  | ins C dx fs => obtain ⟨_, _, _, e, _⟩ := x; exact Heap.lt_size e
  | own y => obtain ⟨_, e⟩ := x; exact Heap.lt_size e
  | xd fs => obtain ⟨_, ⟨_, _, _, e, _⟩, _⟩ := x; exact Heap.lt_size e
  | rng lo hi => obtain ⟨_, _, _, e⟩ := x; exact Heap.lt_size e
  | frz ob u => obtain ⟨e, _⟩ := x; exact Heap.lt_size e
  | tbl ps => exact Heap.lt_size (show h.get? a = some _ from x)
  | met f y => exact Heap.lt_size (show h.get? a = some _ from x)
  | ext φ => obtain ⟨_, ⟨_, e⟩, _⟩ := x; exact Heap.lt_size e
theorem Paired.mapP {α β : Type} {F G : α -> β -> Prop} : ∀ {l₁ : List α} {l₂ : List β}, Paired F l₁ l₂ -> (∀ a b, F a b -> G a b) -> Paired G l₁ l₂
  | _, _, .nil, _ => .nil
  | _, _, .cons r t, f => .cons (f _ _ r) (Paired.mapP t f)
theorem ObjOk.stay (x : ObjOk P w H h a o) (k : ∀ b u, (b = a \/ H b = some (.own a)) -> h.get? b = some u -> h'.get? b = some u)
    (ho : ∀ b, H b = some (.own a) -> H' b = some (.own a)) (ht : ∀ b xs, H b = some (.tup xs) -> H' b = some (.tup xs)) : ObjOk P w H' h' a o := by
  induction o with
  | lst xs => obtain ⟨z, its, n, r, e⟩ := x; exact ⟨z, its, n, r, k _ _ (.inl rfl) e⟩
  | tup xs => obtain ⟨z, its, r, ob, e, c⟩ := x; exact ⟨z, its, r, ob, k _ _ (.inl rfl) e, c⟩
  | dK kvs => obtain ⟨z, y, vs, r, ob, es, ep, e, c⟩ := x; exact ⟨z, y, vs, r, ob, es, ep, k _ _ (.inl rfl) e, c⟩
  | dT kvs =>
    obtain ⟨z, y, xs, r, ob, es, ep, e, c⟩ := x
    exact ⟨z, y, xs, Paired.mapP r fun p q z => ⟨z.1, ht _ _ z.2.1, z.2.2⟩, ob, es, ep, k _ _ (.inl rfl) e, c⟩
  | set S n => obtain ⟨ob, es, ep, t, e, c⟩ := x; exact ⟨ob, es, ep, t, k _ _ (.inl rfl) e, c⟩
  | ins C dx fs =>
    obtain ⟨d, z, ne, e, mA, ⟨od, es, ep, e2, c⟩, r⟩ := x
    exact ⟨ho _ d, z, ne, k _ _ (.inl rfl) e, mA, ⟨od, es, ep, k _ _ (.inr d) e2, c⟩, r⟩
  | own y => obtain ⟨ob, e⟩ := x; exact ⟨ob, k _ _ (.inl rfl) e⟩
  | xd fs => obtain ⟨mA, ⟨od, es, ep, e, c⟩, r⟩ := x; exact ⟨mA, ⟨od, es, ep, k _ _ (.inl rfl) e, c⟩, r⟩
  | rng lo hi => obtain ⟨t, u, v, e⟩ := x; exact ⟨t, u, v, k _ _ (.inl rfl) e⟩
  | frz ob u ih => obtain ⟨e, q⟩ := x; exact ⟨k _ _ (.inl rfl) e, ih q⟩
  | tbl ps =>
    have e : h.get? a = some { cls := .none, data := .fields ps } := x
    show h'.get? a = some { cls := .none, data := .fields ps }
    exact k a _ (.inl rfl) e
  | met f y =>
    have e : h.get? a = some (PySem.W.methodObj (.ref f) (.ref y)) := x
    show h'.get? a = some (PySem.W.methodObj (.ref f) (.ref y))
    exact k a _ (.inl rfl) e
  | ext φ => obtain ⟨p, ⟨o, e⟩, st⟩ := x; exact ⟨st _ _ p fun o q => k _ _ (.inl rfl) q, ⟨o, k _ _ (.inl rfl) e⟩, st⟩
theorem HOk.lt (x : HOk P w H h) (e : H a = some o) : a < h.objs.size := (x a o e).lt
theorem HOk.fresh (x : HOk P w H h) (e : h.objs.size <= a) : H a = none := by
  cases q : H a with
  | none => rfl
  | some u => exact absurd (Nat.lt_of_lt_of_le (x.lt q) e) (Nat.lt_irrefl _)
theorem HOk.kept (x : HOk P w H h) (k : ∀ b u, h.get? b = some u -> h'.get? b = some u) : HOk P w H h' := fun a o e =>
  (x a o e).stay (fun b u _ q => k b u q) (fun _ q => q) fun _ _ q => q
theorem HOk.laid (x : HOk P w H h) (k : ∀ b u, h.get? b = some u -> h'.get? b = some u) (hp : h.objs.size <= a) (new : ObjOk P w (upd H a o) h' a o) : HOk P w (upd H a o) h' := fun b u e => by
  have hn := x.fresh hp
  by_cases hb : b = a
  . subst hb; rw [upd_same] at e; cases e; exact new
  . rw [upd_ne hb] at e
    exact (x b u e).stay (fun c v _ q => k c v q) (fun c q => by rw [upd_ne (ne_of_none q hn)]; exact q) fun c xs q => by rw [upd_ne (ne_of_none q hn)]; exact q
end
def Rd (H : Hp) (a : Addr) (u : HO) : Prop := H a = some u \/ ∃ o, H a = some (.frz o u)
theorem Rd.ok {P : Program} {w : World} {H : Hp} {h : Heap} {a : Addr} {u : HO} (r : Rd H a u) (x : HOk P w H h) : ObjOk P w H h a u := by
  rcases r with r | ⟨o, r⟩
  . exact x a u r
  . obtain ⟨_, q⟩ := x a _ r
    exact q
def Mut : Option HO -> Prop
  | some (.lst _) => True
  | some (.dK _) => True
  | some (.dT _) => True
  | some (.set _ _) => True
  | some (.ins _ _ _) => True
  | some (.ext _) => True
  | _ => False
section
variable {P : Program} {w : World} {H : Hp} {h h' : Heap} {x e : Addr} {o' : HO}
theorem HOk.write (ok : HOk P w H h) (mu : Mut (H x)) (he : e = x \/ H e = some (.own x)) (k : ∀ b u, b ≠ e -> h.get? b = some u -> h'.get? b = some u) (heo : ∃ u, h'.get? e = some u)
    (new : ObjOk P w (upd H x o') h' x o') : HOk P w (upd H x o') h' := fun b u q => by
  have nown : ∀ c y, H c = some (.own y) -> c ≠ x := fun c y r z => by subst z; rw [r] at mu; exact mu
  have ntup : ∀ c xs, H c = some (.tup xs) -> c ≠ x := fun c xs r z => by subst z; rw [r] at mu; exact mu
  by_cases hb : b = x
  . subst hb; rw [upd_same] at q; cases q; exact new
  . rw [upd_ne hb] at q
    by_cases hbe : b = e
    . have q' : H b = some (.own x) := by
        rcases he with z | z
        . exact absurd (hbe.trans z) hb
        . rw [hbe]; exact z
      rw [q] at q'; cases q'
      obtain ⟨v, hv⟩ := heo
      exact ⟨v, by rw [hbe]; exact hv⟩
    . refine (ok b u q).stay (fun c v hc r => k c v ?_ r) (fun c r => by rw [upd_ne (nown c b r)]; exact r) fun c xs r => by rw [upd_ne (ntup c xs r)]; exact r
      rcases hc with rfl | hc
      . exact hbe
      . rintro rfl
        rcases he with z | z
        . exact nown c b hc z
        . rw [hc] at z; cases z; exact hb rfl
end
structure Un (fs ex : List Addr) (H H' : Hp) (h h' : Heap) : Prop where
  keep : ∀ b o, h.get? b = some o -> H b = none -> b ∉ fs -> b ∉ ex -> h'.get? b = some o
  slot : ∀ b o, h.get? b = some o -> H b = none -> b ∈ fs -> b ∉ ex -> ∃ sl, h'.get? b = some { o with slots := sl }
  free : ∀ b o, h.get? b = some o -> H b = none -> b ∉ ex -> H' b = none
  there : ∀ b o, h.get? b = some o -> b ∉ ex -> ∃ o', h'.get? b = some o'
  tups : ∀ b xs, H b = some (.tup xs) -> H' b = some (.tup xs)
  frzs : ∀ b o u, H b = some (.frz o u) -> H' b = some (.frz o u)
  tbls : ∀ b ps, H b = some (.tbl ps) -> ∃ more, H' b = some (.tbl (ps ++ more))
section
variable {fs fs' ex ex' : List Addr} {H H1 H2 : Hp} {h h1 h2 h' : Heap} {a x e : Addr} {o : HO}
theorem Un.any (u : Un fs ex H H1 h h1) {b : Addr} {ob : Obj} (q : h.get? b = some ob) (n : H b = none) (hx : b ∉ ex) : ∃ sl, h1.get? b = some { ob with slots := sl } := by
  by_cases hb : b ∈ fs
  . exact u.slot b ob q n hb hx
  . exact ⟨ob.slots, u.keep b ob q n hb hx⟩
theorem Un.kept (k : ∀ b u, h.get? b = some u -> h'.get? b = some u) : Un fs ex H H h h' :=
  ⟨fun b ob q _ _ _ => k b ob q, fun b ob q _ _ _ => ⟨ob.slots, k b ob q⟩, fun _ _ _ n _ => n, fun b ob q _ => ⟨ob, k b ob q⟩, fun _ _ q => q, fun _ _ _ q => q, fun _ ps q => ⟨#[], by rw [q]; simp⟩⟩
theorem Un.refl : Un fs ex H H h h := Un.kept fun _ _ q => q
theorem Un.laid (k : ∀ b u, h.get? b = some u -> h'.get? b = some u) (hp : h.objs.size <= a) (hn : H a = none) : Un fs ex H (upd H a o) h h' where
  keep := fun b u q _ _ _ => k b u q
  slot := fun b u q _ _ _ => ⟨u.slots, k b u q⟩
  free := fun b u q n _ => by rw [upd_ne (Nat.ne_of_lt (Nat.lt_of_lt_of_le (Heap.lt_size q) hp))]; exact n
  there := fun b u q _ => ⟨u, k b u q⟩
  tups := fun b xs q => by rw [upd_ne (ne_of_none q hn)]; exact q
  frzs := fun b u xs q => by rw [upd_ne (ne_of_none q hn)]; exact q
  tbls := fun b ps q => ⟨#[], by rw [upd_ne (ne_of_none q hn), q]; simp⟩
theorem Un.write (mu : Mut (H x)) (he : e = x \/ H e = some (.own x)) (k : ∀ b u, b ≠ e -> h.get? b = some u -> h'.get? b = some u) (heo : ∃ u, h'.get? e = some u) : Un fs ex H (upd H x o) h h' := by
  have hx : ∀ b, H b = none -> b ≠ x := fun b n z => by subst z; rw [n] at mu; exact mu
  have hb : ∀ b, H b = none -> b ≠ e := fun b n z => by
    subst z
    rcases he with r | r
    . exact hx b n r
    . rw [n] at r; cases r
  have hm : ∀ b u, H b = some u -> ¬ Mut (some u) -> b ≠ x := fun b u q nm z => by subst z; rw [q] at mu; exact nm mu
  refine ⟨fun b u q n _ _ => k b u (hb b n) q, fun b u q n _ _ => ⟨u.slots, k b u (hb b n) q⟩, fun b u q n _ => by rw [upd_ne (hx b n)]; exact n, fun b u q _ => ?_,
    fun b xs q => by rw [upd_ne (hm b _ q fun z => z)]; exact q, fun b u xs q => by rw [upd_ne (hm b _ q fun z => z)]; exact q, fun b ps q => ⟨#[], by rw [upd_ne (hm b _ q fun z => z), q]; simp⟩⟩
  by_cases hbe : b = e
  . subst hbe; exact heo
  . exact ⟨u, k b u hbe q⟩
end
def trk (h : Heap) (H : Hp) : List Addr := (List.range h.objs.size).filter fun a => (H a).isSome
def hidT (h : Heap) (H : Hp) : Heap := PySem.W.hideAll h (trk h H)
theorem hidT_size (h : Heap) (H : Hp) : (hidT h H).objs.size = h.objs.size := PySem.W.hideAll_size _ _
theorem hidT_get {h : Heap} {H : Hp} {b : Addr} {o : Obj} (e : h.get? b = some o) (n : H b = none) : (hidT h H).get? b = some o :=
  PySem.W.hideAll_get _ e fun hm => by
    have q : (H b).isSome = true := (List.mem_filter.mp hm).2
    rw [n] at q; simp at q
theorem of_hidT {h : Heap} {H : Hp} {b : Addr} {o : Obj} (e : (hidT h H).get? b = some o) : h.get? b = some o /\ H b = none := by
  have e' : h.get? b = some o := PySem.W.of_hideAll (trk h H) e
  refine ⟨e', ?_⟩
  cases q : H b with
  | none => rfl
  | some x =>
    have hm : b ∈ trk h H := List.mem_filter.mpr ⟨List.mem_range.mpr (Heap.lt_size e'), by simp [q]⟩
    have z : (hidT h H).get? b = none := PySem.W.hideAll_none (trk h H) hm
    rw [z] at e; cases e
def allNews (g h : Heap) (L : Addr) : List (Addr × Obj) := (List.range h.objs.size).filterMap fun a => if a = L \/ (g.get? a).isSome = true then none else (h.get? a).map fun o => (a, o)
def rest (g h : Heap) (L d : Addr) : List (Addr × Obj) := (allNews g h L).filter fun p => decide (p.1 ≠ d)
end L2
namespace L2
open PySem PySem.Spec PyProof.Rows
structure Mod (K : PySem.W.Frag) (mg : Str -> Option Value) (base : Heap) : Prop where
  kin : K.In base
  glob : base.Ns mainGlobals mg
  blt : ∃ mb, base.Ns builtinsNs mb /\ ∀ x : Str, x ≠ "__name__" -> mb x = bootBuiltins x
  nolimit : base.NoLimit
structure Cx where
  prog : Program
  w : World
  K : PySem.W.Frag
  mg : Str -> Option Value
  base : Heap
  A : Around
  N : List Str
  s₀ : Shared
  H₀ : Hp
  env : Env
  outer : List Env
  stack : List Env
  ex : List Addr
  fn : Str -> Bool
  calm : Bool
  pn : List (Addr × Obj)
  xe : Value -> Shared -> Prop
def frs (l : List Env) : List Addr := l.filterMap (·.frame)
abbrev Cx.fs (X : Cx) : List Addr := frs X.outer
def Vis (sc : Scope) (x : Str) : Prop := sc.names.lookup x = some .local \/ sc.names.lookup x = some .cell \/ sc.names.lookup x = some .free
def Loc (sc : Scope) (x : Str) : Prop := sc.names.lookup x = some .local \/ sc.names.lookup x = some .cell
def Look (env : Env) (h : Heap) (m : Str -> Option Value) (x : Str) (u : Value) : Prop :=
  (env.kindOf x = some .local /\ m x = some u) \/ ((env.kindOf x = some .cell \/ env.kindOf x = some .free) /\ ∃ c, env.cells.lookup x = some c /\ h.IsCell c (some u))
structure Cx.Ok (X : Cx) : Prop where
  mod : Mod X.K X.mg X.base
  kind : X.env.scope.kind = .function
  glob : X.env.globals = mainGlobals
  blt : X.env.builtins = builtinsNs
  above : X.s₀.heap.objs.size <= X.env.locals
  inj : ∀ x y c, X.env.cells.lookup x = some c -> X.env.cells.lookup y = some c -> x = y
  has : ∀ x, (X.env.kindOf x = some .cell \/ X.env.kindOf x = some .free) -> ∃ c, X.env.cells.lookup x = some c
  cab : ∀ x c, X.fn x = true -> X.env.cells.lookup x = some c -> X.s₀.heap.objs.size <= c
  hd : X.calm = true -> X.A.handled = none
  frames : X.A.frames = some X.stack
  stk : X.stack = X.outer \/ (X.stack = X.env :: X.outer /\ X.env.frame = some X.env.locals)
  exf : ∀ b ∈ X.ex, b ≠ X.env.locals /\ ∀ x c, X.env.cells.lookup x = some c -> c ≠ b
  bs : ∀ b o, X.base.get? b = some o -> X.s₀.heap.get? b = some o /\ X.H₀ b = none
  bsz : X.base.objs.size <= X.s₀.heap.objs.size
  noex : ∀ b o, X.base.get? b = some o -> b ∉ X.ex
  exfs : ∀ b ∈ X.ex, b ∉ X.fs
  funs : X.s₀.heap.FunFrames X.base X.outer
  frf : ∀ b ∈ X.fs, X.H₀ b = none
structure Inv (X : Cx) (pins : List (Addr × Obj)) (σ : List (Option V)) (H : Hp) (s : Shared) : Prop where
  ok : X.Ok
  os : s.os = X.s₀.os
  bare : AllBare s.gens
  base : Un X.fs X.ex X.H₀ H X.s₀.heap s.heap
  loc : ∃ m, s.heap.Ns X.env.locals m /\ ∀ (i : Nat) (x : Str) (v : V), X.N[i]? = some x -> σ[i]? = some (some v) -> Vis X.env.scope x -> ∃ u, RelV v u /\ Look X.env s.heap m x u
  cell : ∀ x c, X.env.cells.lookup x = some c -> ∃ v, s.heap.IsCell c v
  free : H X.env.locals = none
  freeC : ∀ x c, X.env.cells.lookup x = some c -> H c = none
  pin : ∀ p ∈ X.pn ++ pins, s.heap.get? p.1 = some p.2 /\ H p.1 = none /\ p.1 ≠ X.env.locals /\ p.1 ∉ X.fs /\ ∀ v, p.2.data ≠ .cell v
  hok : HOk X.prog X.w H s.heap
  len : σ.length = X.N.length
section
variable {X : Cx} {pins : List (Addr × Obj)} {σ : List (Option V)} {H H' : Hp} {s : Shared} {h' : Heap}
theorem Cx.Ok.nofr (ok : X.Ok) {b : Addr} {o : Obj} (e : X.base.get? b = some o) : b ∉ X.fs := fun hb => by
  have := (ok.funs.mem hb).1
  rw [e] at this; cases this
theorem Inv.bs (I : Inv X pins σ H s) : ∀ b o, X.base.get? b = some o -> s.heap.get? b = some o /\ H b = none := fun b o e =>
  ⟨I.base.keep b o (I.ok.bs b o e).1 (I.ok.bs b o e).2 (I.ok.nofr e) (I.ok.noex b o e), I.base.free b o (I.ok.bs b o e).1 (I.ok.bs b o e).2 (I.ok.noex b o e)⟩
theorem Inv.bk (I : Inv X pins σ H s) : ∀ b o, X.base.get? b = some o -> s.heap.get? b = some o := fun b o e => (I.bs b o e).1
theorem Inv.mod (I : Inv X pins σ H s) : Mod X.K X.mg X.base := I.ok.mod
theorem Inv.kIn (I : Inv X pins σ H s) : X.K.In s.heap := I.ok.mod.kin.keeps I.bk
theorem Inv.lt (I : Inv X pins σ H s) : X.env.locals < s.heap.objs.size := let ⟨_, hn, _⟩ := I.loc; hn.lt
theorem Inv.sz (I : Inv X pins σ H s) : X.s₀.heap.objs.size <= s.heap.objs.size := Nat.le_trans I.ok.above (Nat.le_of_lt I.lt)
theorem Inv.nofs (I : Inv X pins σ H s) {a : Addr} (h : s.heap.objs.size <= a) : a ∉ X.fs := fun hb => by
  obtain ⟨_, o, ho, _⟩ := I.ok.funs.mem hb
  exact absurd (Nat.lt_of_lt_of_le (Heap.lt_size ho) (Nat.le_trans I.sz h)) (Nat.lt_irrefl _)
theorem Inv.cne (I : Inv X pins σ H s) : ∀ x c, X.env.cells.lookup x = some c -> c ≠ X.env.locals := fun x c e z => by
  obtain ⟨v, o, ho, hd⟩ := I.cell x c e
  obtain ⟨m, ⟨o', es, ep, ho', hd', _⟩, _⟩ := I.loc
  rw [z, ho'] at ho; cases ho; rw [hd'] at hd; cases hd
theorem Inv.funs (I : Inv X pins σ H s) : s.heap.FunFrames X.base X.outer := by
  have all : ∀ (l : List Env), (∀ b ∈ frs l, b ∈ X.fs) -> X.s₀.heap.FunFrames X.base l -> s.heap.FunFrames X.base l := by
    intro l
    induction l with
    | nil => intro _ _; trivial
    | cons env r ih =>
      intro hs hl
      obtain ⟨hk, ⟨L, o, hf, hn, ho, hd⟩, hr⟩ := hl
      have hL : L ∈ X.fs := hs L (by unfold frs; rw [List.filterMap_cons, hf]; exact List.mem_cons_self)
      obtain ⟨sl, e⟩ := I.base.slot L o ho (I.ok.frf L hL) hL fun z => I.ok.exfs L z hL
      exact ⟨hk, ⟨L, _, hf, hn, e, hd⟩, ih (fun b hb => hs b (by unfold frs; rw [List.filterMap_cons, hf]; exact List.mem_cons_of_mem _ hb)) hr⟩
  exact all X.outer (fun _ hb => hb) I.ok.funs
theorem Inv.stack (I : Inv X pins σ H s) : s.heap.FunFrames X.base X.stack := by
  rcases I.ok.stk with e | ⟨e, hf⟩
  . rw [e]; exact I.funs
  . rw [e]
    obtain ⟨m, hn, _⟩ := I.loc
    refine .cons (by rw [I.ok.kind]; decide) hf hn ?_ I.funs
    exact Heap.get?_none_of_le (Nat.le_trans I.ok.bsz I.ok.above)
theorem Inv.stkSub (I : Inv X pins σ H s) : ∀ b ∈ frs X.stack, b ∈ X.env.locals :: X.fs := fun b hb => by
  rcases I.ok.stk with e | ⟨e, hf⟩
  . rw [e] at hb; exact List.mem_cons_of_mem _ hb
  . rw [e] at hb
    unfold frs at hb
    rw [List.filterMap_cons, hf] at hb
    exact hb
theorem Inv.stkFree (I : Inv X pins σ H s) : ∀ b ∈ frs X.stack, H b = none := fun b hb => by
  rcases List.mem_cons.mp (I.stkSub b hb) with e | hb
  . rw [e]; exact I.free
  . obtain ⟨_, o, ho, _⟩ := I.ok.funs.mem hb
    exact I.base.free b o ho (I.ok.frf b hb) fun z => I.ok.exfs b z hb
theorem Inv.step {g' : Array GenState} {t' : Nat} {d' : Drawn} {ch : List Addr} (I : Inv X pins σ H s)
    (hch : ∀ b ∈ ch, (b ∈ X.ex \/ X.s₀.heap.objs.size <= b) /\ b ≠ X.env.locals /\ (∀ x c, X.env.cells.lookup x = some c -> c ≠ b) /\ ∀ p ∈ X.pn ++ pins, p.1 ≠ b)
    (keep : ∀ b o, b ≠ X.env.locals -> b ∉ X.fs -> b ∉ ch -> s.heap.get? b = some o -> H b = none -> h'.get? b = some o)
    (slot : ∀ b o, b ≠ X.env.locals -> b ∈ X.fs -> b ∉ ch -> s.heap.get? b = some o -> H b = none -> ∃ sl, h'.get? b = some { o with slots := sl }) (free : ∀ b o, b ∉ ch -> s.heap.get? b = some o -> H b = none -> H' b = none)
    (there : ∀ b o, b ∉ ch -> s.heap.get? b = some o -> ∃ o', h'.get? b = some o')
    (tups : ∀ b xs, H b = some (.tup xs) -> H' b = some (.tup xs)) (frzs : ∀ b o u, H b = some (.frz o u) -> H' b = some (.frz o u)) (tbls : ∀ b ps, H b = some (.tbl ps) -> ∃ more, H' b = some (.tbl (ps ++ more)))
    (ns : ∀ m, s.heap.Ns X.env.locals m -> h'.Ns X.env.locals m) (hok : HOk X.prog X.w H' h') (hg : AllBare g') :
    Inv X pins σ H' { s with heap := h', gens := g', drawn := d', toks := t' } := by
  have neL : ∀ b o, X.s₀.heap.get? b = some o -> b ≠ X.env.locals := fun b o e => Nat.ne_of_lt (Nat.lt_of_lt_of_le (Heap.lt_size e) I.ok.above)
  have neC : ∀ b o, X.s₀.heap.get? b = some o -> b ∉ X.ex -> b ∉ ch := fun b o e hx hb => by
    rcases (hch b hb).1 with z | z
    . exact hx z
    . exact absurd (Nat.lt_of_lt_of_le (Heap.lt_size e) z) (Nat.lt_irrefl _)
  have cellK : ∀ x c, X.env.cells.lookup x = some c -> ∀ v, s.heap.IsCell c v -> h'.IsCell c v := fun x c e v ⟨o, ho, hd⟩ => by
    have nch : c ∉ ch := fun z => (hch c z).2.2.1 x c e rfl
    by_cases hc : c ∈ X.fs
    . obtain ⟨sl, q⟩ := slot c o (I.cne x c e) hc nch ho (I.freeC x c e)
      exact ⟨_, q, hd⟩
    . exact ⟨o, keep c o (I.cne x c e) hc nch ho (I.freeC x c e), hd⟩
  refine ⟨I.ok, I.os, hg, ⟨fun b o e n hb hx => ?_, fun b o e n hb hx => ?_, fun b o e n hx => ?_, fun b o e hx => ?_, fun b xs e => tups b xs (I.base.tups b xs e), fun b o xs e => frzs b o xs (I.base.frzs b o xs e), fun b ps e => ?_⟩, ?_, fun x c e => ?_, ?_, fun x c e => ?_, fun p hp => ?_, hok, I.len⟩
  . exact keep b o (neL b o e) hb (neC b o e hx) (I.base.keep b o e n hb hx) (I.base.free b o e n hx)
  . obtain ⟨sl, e1⟩ := I.base.slot b o e n hb hx
    obtain ⟨sl', e2⟩ := slot b _ (neL b o e) hb (neC b o e hx) e1 (I.base.free b o e n hx)
    exact ⟨sl', e2⟩
  . obtain ⟨o', e1⟩ := I.base.there b o e hx
    exact free b o' (neC b o e hx) e1 (I.base.free b o e n hx)
  . obtain ⟨o', e1⟩ := I.base.there b o e hx
    exact there b o' (neC b o e hx) e1
  . obtain ⟨m1, e1⟩ := I.base.tbls b ps e
    obtain ⟨m2, e2⟩ := tbls b _ e1
    exact ⟨m1 ++ m2, by rw [e2, Array.append_assoc]⟩
  . obtain ⟨m, hn, hl⟩ := I.loc
    refine ⟨m, ns m hn, fun i x v e1 e2 e3 => ?_⟩
    obtain ⟨u, r, l⟩ := hl i x v e1 e2 e3
    refine ⟨u, r, ?_⟩
    rcases l with l | ⟨k, c, e, z⟩
    . exact .inl l
    . exact .inr ⟨k, c, e, cellK x c e _ z⟩
  . obtain ⟨v, z⟩ := I.cell x c e
    exact ⟨v, cellK x c e v z⟩
  . obtain ⟨m, ⟨o, _, _, ho, _⟩, _⟩ := I.loc
    exact free _ o (fun z => (hch _ z).2.1 rfl) ho I.free
  . obtain ⟨v, o, ho, hd⟩ := I.cell x c e
    exact free c o (fun z => (hch c z).2.2.1 x c e rfl) ho (I.freeC x c e)
  . obtain ⟨e, n, ne, nf, d⟩ := I.pin p hp
    have nch : p.1 ∉ ch := fun z => (hch p.1 z).2.2.2 p hp rfl
    exact ⟨keep p.1 p.2 ne nf nch e n, free p.1 p.2 nch e n, ne, nf, d⟩
theorem Inv.un {t' : Nat} (I : Inv X pins σ H s) (u : Un X.fs [] H H' s.heap h') (hok : HOk X.prog X.w H' h') : Inv X pins σ H' { s with heap := h', toks := t' } := by
  obtain ⟨m, ⟨o, es, ep, ho, r⟩, _⟩ := id I.loc
  obtain ⟨sl, hL⟩ := u.any ho I.free (by simp)
  exact I.step (g' := s.gens) (d' := s.drawn) (ch := []) (fun _ z => nomatch z) (fun b o _ hb _ e n => u.keep b o e n hb (by simp)) (fun b o _ hb _ e n => u.slot b o e n hb (by simp)) (fun b o _ e n => u.free b o e n (by simp)) (fun b o _ e => u.there b o e (by simp)) u.tups u.frzs u.tbls (fun m' hm => by
    obtain ⟨o', es', ep', ho', r'⟩ := hm
    rw [ho] at ho'; cases ho'
    exact ⟨_, es', ep', hL, r'⟩) hok I.bare
theorem Inv.call {g' : Array GenState} {t' : Nat} {d' : Drawn} {ch : List Addr} (I : Inv X pins σ H s) (u : Un (frs X.stack) ch H H' s.heap h') (hok : HOk X.prog X.w H' h') (hg : AllBare g')
    (hch : ∀ b ∈ ch, (b ∈ X.ex \/ X.s₀.heap.objs.size <= b) /\ b ≠ X.env.locals /\ (∀ x c, X.env.cells.lookup x = some c -> c ≠ b) /\ ∀ p ∈ X.pn ++ pins, p.1 ≠ b) :
    Inv X pins σ H' { s with heap := h', gens := g', drawn := d', toks := t' } := by
  obtain ⟨m, ⟨o, es, ep, ho, r⟩, _⟩ := id I.loc
  obtain ⟨sl, hL⟩ := u.any ho I.free fun z => (hch _ z).2.1 rfl
  exact I.step (ch := ch) hch (fun b o hL hb hc e n => u.keep b o e n (fun z => (List.mem_cons.mp (I.stkSub b z)).elim hL hb) hc) (fun b o _ _ hc e n => u.any e n hc) (fun b o hc e n => u.free b o e n hc) (fun b o hc e => u.there b o e hc) u.tups u.frzs u.tbls (fun m' hm => by
    obtain ⟨o', es', ep', ho', r'⟩ := hm
    rw [ho] at ho'; cases ho'
    exact ⟨_, es', ep', hL, r'⟩) hok hg
theorem Inv.turned {t' : Nat} {it : Addr} (I : Inv X pins σ H s) (k : ∀ b o, b ≠ it -> s.heap.get? b = some o -> h'.get? b = some o) (hn : H it = none) (hL : it ≠ X.env.locals)
    (h1 : it ∈ X.ex \/ X.s₀.heap.objs.size <= it) (h2 : ∀ x c, X.env.cells.lookup x = some c -> c ≠ it) (h3 : ∀ p ∈ X.pn ++ pins, p.1 ≠ it) : Inv X pins σ H { s with heap := h', toks := t' } := by
  have nit : ∀ b u, H b = some u -> b ≠ it := fun b u e z => by rw [z, hn] at e; cases e
  refine I.step (g' := s.gens) (d' := s.drawn) (ch := [it]) (fun b hb => ?_) (fun b o _ _ hc e _ => k b o (fun z => hc (by simp [z])) e) (fun b o _ _ hc e _ => ⟨o.slots, k b o (fun z => hc (by simp [z])) e⟩) (fun _ _ _ _ n => n)
    (fun b o hc e => ⟨o, k b o (fun z => hc (by simp [z])) e⟩) (fun _ _ e => e) (fun _ _ _ e => e) (fun b ps e => ⟨#[], by rw [e]; simp⟩) (fun m hm => ?_) (fun b u e => ?_) I.bare
  . have e : b = it := by simpa using hb
    subst e
    exact ⟨h1, hL, h2, h3⟩
  . obtain ⟨o, es, ep, ho, r⟩ := hm
    exact ⟨o, es, ep, k _ o (Ne.symm hL) ho, r⟩
  . refine (I.hok b u e).stay (fun c v hc q => k c v ?_ q) (fun _ q => q) fun _ _ q => q
    rcases hc with z | z
    . rw [z]; exact nit b u e
    . exact nit c _ z
theorem Inv.tok (I : Inv X pins σ H s) (t : Nat) : Inv X pins σ H { s with toks := t } := I.un (h' := s.heap) (t' := t) Un.refl I.hok
theorem Inv.kept {t' : Nat} (I : Inv X pins σ H s) (k : ∀ b u, s.heap.get? b = some u -> h'.get? b = some u) : Inv X pins σ H { s with heap := h', toks := t' } := I.un (Un.kept k) (I.hok.kept k)
theorem Inv.laid {a : Addr} {o : HO} {t' : Nat} (I : Inv X pins σ H s) (k : ∀ b u, s.heap.get? b = some u -> h'.get? b = some u) (hp : s.heap.objs.size <= a) (new : ObjOk X.prog X.w (upd H a o) h' a o) :
    Inv X pins σ (upd H a o) { s with heap := h', toks := t' } := I.un (Un.laid k hp (I.hok.fresh hp)) (I.hok.laid k hp new)
theorem Inv.write {x e : Addr} {o : HO} {t' : Nat} (I : Inv X pins σ H s) (mu : Mut (H x)) (he : e = x \/ H e = some (.own x)) (k : ∀ b u, b ≠ e -> s.heap.get? b = some u -> h'.get? b = some u) (heo : ∃ u, h'.get? e = some u)
    (new : ObjOk X.prog X.w (upd H x o) h' x o) : Inv X pins σ (upd H x o) { s with heap := h', toks := t' } := I.un (Un.write mu he k heo) (I.hok.write mu he k heo new)
theorem Inv.pins_of {pins' : List (Addr × Obj)} (I : Inv X pins σ H s) (h : ∀ p ∈ pins', s.heap.get? p.1 = some p.2 /\ H p.1 = none /\ p.1 ≠ X.env.locals /\ p.1 ∉ X.fs /\ ∀ v, p.2.data ≠ .cell v) : Inv X pins' σ H s :=
  ⟨I.ok, I.os, I.bare, I.base, I.loc, I.cell, I.free, I.freeC, fun p hp => (List.mem_append.mp hp).elim (fun z => I.pin p (List.mem_append_left _ z)) (h p), I.hok, I.len⟩
theorem nodup_ix {N : List Str} (hN : N.Nodup) {i j : Nat} {x : Str} (a : N[i]? = some x) (b : N[j]? = some x) : i = j := by
  obtain ⟨h1, e1⟩ := List.getElem?_eq_some_iff.mp a
  obtain ⟨h2, e2⟩ := List.getElem?_eq_some_iff.mp b
  exact (List.getElem_inj hN).mp (e1.trans e2.symm)
theorem store_ok2 {M : Model} {A : Around} {E : Value -> Shared -> Prop} {i : Nat} {x : Str} {v : V} {u : Value} {Q : Unit -> Shared -> Prop} (I : Inv X pins σ H s) (hN : X.N.Nodup) (hi : X.N[i]? = some x) (hx : Loc X.env.scope x) (r : RelV v u)
    (h : ∀ s', Inv X pins (σ.set i (some v)) H s' -> (∃ a, Heap.SameBut a s.heap s'.heap /\ (a = X.env.locals \/ X.env.cells.lookup x = some a)) -> Q () s') (hf : X.fn x = true \/ X.env.scope.names.lookup x = some .local := by first | exact .inl rfl | exact .inr rfl | assumption) : wpAny M A (storeName X.env x u) Q E s := by
  obtain ⟨m, hn, hl⟩ := id I.loc
  have hcls : (X.env.scope.kind == .class || (X.env.scope.kind == .module && X.env.locals != X.env.globals)) = false := by rw [I.ok.kind]; rfl
  have hiσ : i < σ.length := by rw [I.len]; exact (List.getElem?_eq_some_iff.mp hi).1
  have cne := I.cne
  have tracked : ∀ {a : Addr} {h' : Heap}, (∃ o, s.heap.get? a = some o /\ H a = none) -> Heap.SameBut a s.heap h' -> HOk X.prog X.w H h' := fun {a h'} ha hs b ob e => by
    obtain ⟨_, _, hfree⟩ := ha
    refine (I.hok b ob e).stay (fun c w' hc q => (hs.2 c ?_).trans q) (fun _ q => q) fun _ _ q => q
    rintro rfl
    rcases hc with rfl | hc
    . rw [hfree] at e; cases e
    . rw [hfree] at hc; cases hc
  rcases hx with hk | hk
  . refine wpAny_storeName_local hk hn (fun h' hn' hs => ?_) hcls
    obtain ⟨oL, _, _, hoL, _⟩ := id hn
    refine h _ ⟨I.ok, I.os, I.bare, ⟨fun b o e n hb hx => ?_, fun b o e n hb hx => ?_, I.base.free, fun b o e hx => ?_, I.base.tups, I.base.frzs, I.base.tbls⟩, ⟨_, hn', fun j y v' e1 e2 e3 => ?_⟩, fun y c e => ?_, I.free, I.freeC, fun p hp => ?_, tracked ⟨oL, hoL, I.free⟩ hs, by simpa using I.len⟩ ⟨_, hs, .inl rfl⟩
    . exact (hs.2 b (Nat.ne_of_lt (Nat.lt_of_lt_of_le (Heap.lt_size e) I.ok.above))).trans (I.base.keep b o e n hb hx)
    . obtain ⟨sl, e1⟩ := I.base.slot b o e n hb hx
      exact ⟨sl, (hs.2 b (Nat.ne_of_lt (Nat.lt_of_lt_of_le (Heap.lt_size e) I.ok.above))).trans e1⟩
    . obtain ⟨o', e1⟩ := I.base.there b o e hx
      exact ⟨o', (hs.2 b (Nat.ne_of_lt (Nat.lt_of_lt_of_le (Heap.lt_size e) I.ok.above))).trans e1⟩
    . by_cases hj : j = i
      . subst hj
        rw [hi] at e1; cases e1
        rw [List.getElem?_set_self hiσ] at e2
        cases e2
        exact ⟨u, r, .inl ⟨hk, by simp⟩⟩
      . rw [List.getElem?_set_ne (Ne.symm hj)] at e2
        obtain ⟨u', r', q⟩ := hl j y v' e1 e2 e3
        refine ⟨u', r', ?_⟩
        rcases q with ⟨k, e⟩ | ⟨k, c, e, z⟩
        . refine .inl ⟨k, ?_⟩
          have : y ≠ x := fun e => hj (nodup_ix hN e1 (e ▸ hi))
          simp [this, e]
        . exact .inr ⟨k, c, e, z.sameBut hs (cne y c e)⟩
    . obtain ⟨w', z⟩ := I.cell y c e
      exact ⟨w', z.sameBut hs (cne y c e)⟩
    . obtain ⟨e, n, ne, nf, d⟩ := I.pin p hp
      exact ⟨(hs.2 p.1 ne).trans e, n, ne, nf, d⟩
  . have hfn : X.fn x = true := by
      rcases hf with z | z
      . exact z
      . rw [z] at hk; cases hk
    obtain ⟨c, hc⟩ := I.ok.has x (.inl hk)
    obtain ⟨w', z⟩ := I.cell x c hc
    refine wpAny_storeName_cell I.ok.kind hk hc z (fun h' hc' hs => ?_)
    obtain ⟨oc, hoc, hocd⟩ := id z
    refine h { s with heap := h' } ⟨I.ok, I.os, I.bare, ⟨fun b o e n hb hx => ?_, fun b o e n hb hx => ?_, I.base.free, fun b o e hx => ?_, I.base.tups, I.base.frzs, I.base.tbls⟩, ⟨m, hn.sameBut hs (Ne.symm (cne x c hc)), fun j y v' e1 e2 e3 => ?_⟩, fun y c' e => ?_, I.free, I.freeC, fun p hp => ?_, tracked ⟨oc, hoc, I.freeC x c hc⟩ hs, by simpa using I.len⟩ ⟨c, hs, .inr hc⟩
    . exact (hs.2 b (Nat.ne_of_lt (Nat.lt_of_lt_of_le (Heap.lt_size e) (I.ok.cab x c hfn hc)))).trans (I.base.keep b o e n hb hx)
    . obtain ⟨sl, e1⟩ := I.base.slot b o e n hb hx
      exact ⟨sl, (hs.2 b (Nat.ne_of_lt (Nat.lt_of_lt_of_le (Heap.lt_size e) (I.ok.cab x c hfn hc)))).trans e1⟩
    . obtain ⟨o', e1⟩ := I.base.there b o e hx
      exact ⟨o', (hs.2 b (Nat.ne_of_lt (Nat.lt_of_lt_of_le (Heap.lt_size e) (I.ok.cab x c hfn hc)))).trans e1⟩
    . by_cases hj : j = i
      . subst hj
        rw [hi] at e1; cases e1
        rw [List.getElem?_set_self hiσ] at e2
        cases e2
        exact ⟨u, r, .inr ⟨.inl hk, c, hc, hc'⟩⟩
      . rw [List.getElem?_set_ne (Ne.symm hj)] at e2
        obtain ⟨u', r', q⟩ := hl j y v' e1 e2 e3
        refine ⟨u', r', ?_⟩
        rcases q with q | ⟨k, c', e, z'⟩
        . exact .inl q
        . refine .inr ⟨k, c', e, z'.sameBut hs ?_⟩
          rintro rfl
          exact hj (nodup_ix hN e1 (I.ok.inj _ _ _ e hc ▸ hi))
    . by_cases hcc : c' = c
      . subst hcc; exact ⟨_, hc'⟩
      . obtain ⟨w2, z2⟩ := I.cell y c' e
        exact ⟨w2, z2.sameBut hs hcc⟩
    . obtain ⟨e, n, ne, nf, d⟩ := I.pin p hp
      refine ⟨(hs.2 p.1 ?_).trans e, n, ne, nf, d⟩
      intro q
      rw [q, hoc] at e
      have q' : oc = p.2 := Option.some.inj e
      exact d w' (by rw [<- q']; exact hocd)
theorem store_ok {M : Model} {A : Around} {E : Value -> Shared -> Prop} {i : Nat} {x : Str} {v : V} {u : Value} {Q : Unit -> Shared -> Prop} (I : Inv X pins σ H s) (hN : X.N.Nodup) (hi : X.N[i]? = some x) (hx : Loc X.env.scope x) (r : RelV v u)
    (h : ∀ s', Inv X pins (σ.set i (some v)) H s' -> Q () s') (hf : X.fn x = true \/ X.env.scope.names.lookup x = some .local := by first | exact .inl rfl | exact .inr rfl | assumption) : wpAny M A (storeName X.env x u) Q E s :=
  store_ok2 I hN hi hx r (fun s' I' _ => h s' I') hf
theorem Inv.call' {s' : Shared} {ch : List Addr} (I : Inv X pins σ H s) (ho : s'.os = s.os) (u : Un (frs X.stack) ch H H' s.heap s'.heap) (hok : HOk X.prog X.w H' s'.heap) (hg : AllBare s'.gens)
    (hch : ∀ b ∈ ch, (b ∈ X.ex \/ X.s₀.heap.objs.size <= b) /\ b ≠ X.env.locals /\ (∀ x c, X.env.cells.lookup x = some c -> c ≠ b) /\ ∀ p ∈ X.pn ++ pins, p.1 ≠ b) : Inv X pins σ H' s' := by
  obtain ⟨h', g', d', t', o'⟩ := s'
  have e : o' = s.os := ho
  subst e
  exact I.call (g' := g') (t' := t') (d' := d') u hok hg hch
end
abbrev XK := Value -> Option Addr -> Hp -> Prop
abbrev St := List (Option V)
abbrev VK := V -> Hp -> Prop
abbrev TE := St -> Hp -> VK -> Prop
abbrev TT := St -> Hp -> (Bool -> Hp -> Prop) -> Prop
abbrev TA := St -> Hp -> (List V -> Hp -> Prop) -> Prop
structure Ends where
  nx : St -> Hp -> Prop
  rt : VK
  bk : St -> Hp -> Prop := fun _ _ => False
  ct : St -> Hp -> Prop := fun _ _ => False
abbrev TS := Ends -> St -> Hp -> Prop
def EP (X : Cx) (pins : List (Addr × Obj)) (σ : St) (Q : VK) (u : Value) (s' : Shared) : Prop := ∃ v H', Inv X pins σ H' s' /\ RelV v u /\ Q v H'
def TP (X : Cx) (pins : List (Addr × Obj)) (σ : St) (Q : Bool -> Hp -> Prop) (b : Bool) (s' : Shared) : Prop := ∃ H', Inv X pins σ H' s' /\ Q b H'
def AP (X : Cx) (pins : List (Addr × Obj)) (σ : St) (Q : List V -> Hp -> Prop) (us : List Value) (s' : Shared) : Prop := ∃ vs H', Inv X pins σ H' s' /\ Vals vs us /\ Q vs H'
def SP (X : Cx) (pins : List (Addr × Obj)) (D : Ends) (f : Flow) (s' : Shared) : Prop :=
  match f with
  | .next => ∃ σ' H', Inv X pins σ' H' s' /\ D.nx σ' H'
  | .brk => ∃ σ' H', Inv X pins σ' H' s' /\ D.bk σ' H'
  | .cont => ∃ σ' H', Inv X pins σ' H' s' /\ D.ct σ' H'
  | .ret u => ∃ v σ' H', Inv X pins σ' H' s' /\ RelV v u /\ D.rt v H'
def PE (X : Cx) (e : Expr) (t : TE) : Prop :=
  ∀ (pins : List (Addr × Obj)) (s : Shared) (σ : St) (H : Hp) (Q : VK), Inv X pins σ H s -> t σ H Q -> wpAny (model X.prog X.w) X.A (eval e X.env) (EP X pins σ Q) X.xe s
def PT (X : Cx) (e : Expr) (t : TT) : Prop :=
  ∀ (pins : List (Addr × Obj)) (s : Shared) (σ : St) (H : Hp) (Q : Bool -> Hp -> Prop), Inv X pins σ H s -> t σ H Q -> wpAny (model X.prog X.w) X.A (isTrue e X.env (eval e X.env)) (TP X pins σ Q) X.xe s
def PW (X : Cx) (e : Expr) (t : TT) : Prop :=
  ∀ (whole : Sem Value) (pins : List (Addr × Obj)) (s : Shared) (σ : St) (H : Hp) (Q : Bool -> Hp -> Prop), Inv X pins σ H s -> t σ H Q -> wpAny (model X.prog X.w) X.A (isTrue e X.env whole) (TP X pins σ Q) X.xe s
theorem PW.pt {X : Cx} {e : Expr} {t : TT} (h : PW X e t) : PT X e t := h _
def PA (X : Cx) (es : List Expr) (t : TA) : Prop :=
  ∀ (pos : Pos) (pins : List (Addr × Obj)) (s : Shared) (σ : St) (H : Hp) (Q : List V -> Hp -> Prop), Inv X pins σ H s -> t σ H Q -> wpAny (model X.prog X.w) X.A (spliced (backTo pos (starEach es X.env))) (AP X pins σ Q) X.xe s
def PS (X : Cx) (st : Stmt) (t : TS) : Prop :=
  ∀ (pins : List (Addr × Obj)) (s : Shared) (σ : St) (H : Hp) (D : Ends), Inv X pins σ H s -> t D σ H -> wpAny (model X.prog X.w) X.A (exec st X.env) (SP X pins D) X.xe s
def PSs (X : Cx) (st : List Stmt) (t : TS) : Prop :=
  ∀ (pins : List (Addr × Obj)) (s : Shared) (σ : St) (H : Hp) (D : Ends), Inv X pins σ H s -> t D σ H -> wpAny (model X.prog X.w) X.A (execs st X.env) (SP X pins D) X.xe s
theorem thn {α : Type} {t : Sem α} {Q Q' : α -> Shared -> Prop} {M : Model} {A : Around} {E : Value -> Shared -> Prop} {s : Shared} (h : wpAny M A t Q E s) (hQ : ∀ a s, Q a s -> Q' a s) : wpAny M A t Q' E s := wpAny_mono h hQ fun _ _ x => x
end L2
namespace L2
open PySem PySem.Spec PyProof.Rows
section
variable {X : Cx}
def tVar (i : Nat) : TE := fun σ H Q => ∃ v, σ[i]? = some (some v) /\ Q v H
def tC (v : V) : TE := fun _ H Q => Q v H
theorem pe_var {i : Nat} {x : Str} {pos : Pos} (hN : X.N[i]? = some x) (hv : Vis X.env.scope x) (hd : (x == ("__debug__" : Str)) = false := by decide) (hcd : (x == ("__classdict__" : Str)) = false := by decide) : PE X (.Name x pos) (tVar i) := by
  intro pins s σ H Q I h
  obtain ⟨v, e, h⟩ := h
  obtain ⟨m, hn, hl⟩ := I.loc
  obtain ⟨u, r, l⟩ := hl i x v hN e hv
  have fin : EP X pins σ Q u s := ⟨v, H, I, r, h⟩
  rcases l with ⟨hk, hm⟩ | ⟨hk, c, hc, hcell⟩
  . exact wpAny_Name (wpAny_loadName_local I.ok.kind hk hn hm fin) hd
  . rcases hk with hk | hk
    . exact wpAny_Name (wpAny_loadName_cell I.ok.kind hk hc hcell fin) hd
    . exact wpAny_Name (wpAny_loadName_free I.ok.kind hk hc hcell fin hcd) hd
theorem pe_int {i j pos} : PE X (.Constant (.int i) j pos) (tC (.int i)) := fun _ _ _ H _ I h => wpAny_Constant_int ⟨.int i, H, I.tok _, ⟨_, rfl⟩, h⟩
theorem pe_bl {b j pos} : PE X (.Constant (.bool b) j pos) (tC (.bl b)) := fun _ _ _ H _ I h => Constant_bool ⟨.bl b, H, I, rfl, h⟩
theorem pe_non {j pos} : PE X (.Constant .none j pos) (tC .non) := fun _ _ _ H _ I h => Constant_none ⟨.non, H, I, rfl, h⟩
theorem pe_str {x j pos} : PE X (.Constant (.str x) j pos) (tC (.str x)) := fun _ _ _ H _ I h => Calls.Constant_str ⟨.str x, H, I.tok _, ⟨_, rfl⟩, h⟩
def Gl (X : Cx) (x : Str) : Prop := X.env.kindOf x = some .globalImplicit
theorem ld_glob {E : Value -> Shared -> Prop} {pins : List (Addr × Obj)} {s : Shared} {σ : St} {H : Hp} {x : Str} {u : Value} {pos : Pos} {Q : Value -> Shared -> Prop} (I : Inv X pins σ H s) (hg : Gl X x) (hm : X.mg x = some u) (h : Q u s)
    (hd : (x == ("__debug__" : Str)) = false := by decide) : wpAny (model X.prog X.w) X.A (eval (.Name x pos) X.env) Q E s :=
  Calls.Name_function_global I.ok.kind hg (Calls.loadGlobal_global (by rw [I.ok.glob]; exact I.mod.glob.keeps I.bk) hm h) hd
theorem ld_blt {E : Value -> Shared -> Prop} {pins : List (Addr × Obj)} {s : Shared} {σ : St} {H : Hp} {x : Str} {u : Value} {pos : Pos} {Q : Value -> Shared -> Prop} (I : Inv X pins σ H s) (hg : Gl X x) (hm : X.mg x = none) (hv : bootBuiltins x = some u) (h : Q u s)
    (hn : x ≠ "__name__" := by decide) (hd : (x == ("__debug__" : Str)) = false := by decide) : wpAny (model X.prog X.w) X.A (eval (.Name x pos) X.env) Q E s := by
  obtain ⟨mb, h1, h2⟩ := I.mod.blt
  exact Calls.Name_function_global I.ok.kind hg (Calls.loadGlobal_builtin (by rw [I.ok.glob]; exact I.mod.glob.keeps I.bk) hm (by rw [I.ok.blt]; exact h1.keeps I.bk) ((h2 x hn).trans hv) h) hd
theorem pe_glob {x : Str} {v : V} {u : Value} {pos : Pos} (hg : Gl X x) (hm : X.mg x = some u) (r : RelV v u) (hd : (x == ("__debug__" : Str)) = false := by decide) : PE X (.Name x pos) (tC v) :=
  fun _ _ _ H _ I h => ld_glob I hg hm ⟨v, H, I, r, h⟩ hd
theorem pe_bltn {x : Str} {v : V} {u : Value} {pos : Pos} (hg : Gl X x) (hm : X.mg x = none) (hv : bootBuiltins x = some u) (r : RelV v u) (hn : x ≠ "__name__" := by decide) (hd : (x == ("__debug__" : Str)) = false := by decide) : PE X (.Name x pos) (tC v) :=
  fun _ _ _ H _ I h => ld_blt I hg hm hv ⟨v, H, I, r, h⟩ hn hd
variable {a b : Expr} {ta tb : TE} {pos : Pos}
def PC (X : Cx) (op : CmpOp) (a b : Expr) (t : TE) : Prop :=
  ∀ (pins : List (Addr × Obj)) (s : Shared) (σ : St) (H : Hp) (Q : VK), Inv X pins σ H s -> t σ H Q ->
    wpAny (model X.prog X.w) X.A (eval a X.env) (fun v s₁ => wpAny (model X.prog X.w) X.A (eval b X.env) (fun u s₂ => wpAny (model X.prog X.w) X.A (compareOp op v u) (EP X pins σ Q) X.xe s₂) X.xe s₁) X.xe s
theorem nobehind (b : Expr) {op : CmpOp} (h : op ≠ .In) (h2 : op ≠ .NotIn) : behindInMarks op b = false := by
  have e1 : (op == CmpOp.In) = false := by cases op <;> first | rfl | exact absurd rfl h
  have e2 : (op == CmpOp.NotIn) = false := by cases op <;> first | rfl | exact absurd rfl h2
  cases b <;> simp [behindInMarks, e1, e2]
def tB (t : TE) : TT := fun σ H Q => t σ H fun x H1 => ∃ c, x = .bl c /\ Q c H1
theorem pt_cmp {op : CmpOp} {t : TE} (h : PC X op a b t) (h1 : behindInMarks op b = false := by first | exact nobehind _ (by decide) (by decide) | rfl) : PT X (.Compare a [op] [b] pos) (tB t) := by
  intro pins s σ H Q I hw
  refine wpAny_isTrue_Compare1 (thn (h pins s σ H _ I hw) fun v s1 h1 => thn h1 fun u s2 h2 => thn h2 fun c s3 ⟨x, H1, I1, r1, q1⟩ => ?_) h1
  obtain ⟨d, rfl, q⟩ := q1
  cases r1
  exact wpAny_truthy_bool ⟨H1, I1, q⟩
theorem pt_val {e : Expr} {t : TE} (h : PE X e t) (he : ∀ whole, isTrue e X.env whole = (do let v <- whole; standAt e.pos; holding [v] (truthy v)) := by intro _; rfl) : PT X e (tB t) := by
  intro pins s σ H Q I hw
  refine isTrue_plain (thn (h pins s σ H _ I hw) fun v s1 ⟨x, H1, I1, r1, q1⟩ => ?_) (he _)
  obtain ⟨d, rfl, q⟩ := q1
  cases r1
  exact wpAny_truthy_bool ⟨H1, I1, q⟩
variable {tA tB' : TT} {rest : List Expr}
def tAnd (t u : TT) : TT := fun σ H Q => t σ H fun c H1 => if c = true then u σ H1 Q else Q false H1
def tOr (t u : TT) : TT := fun σ H Q => t σ H fun c H1 => if c = true then Q true H1 else u σ H1 Q
def tNot (t : TT) : TT := fun σ H Q => t σ H fun c H1 => Q (!c) H1
theorem pw_and1 (ha : PT X a tA) : PW X (.BoolOp .And [a] pos) tA := by
  intro wh pins s σ H Q I h
  refine isTrue_and (thn (ha pins s σ H Q I h) fun c s1 e => ?_)
  cases c with
  | true => exact isTrue_and_nil e
  | false => exact e
theorem pw_or1 (ha : PT X a tA) : PW X (.BoolOp .Or [a] pos) tA := by
  intro wh pins s σ H Q I h
  refine isTrue_or (thn (ha pins s σ H Q I h) fun c s1 e => ?_)
  cases c with
  | false => exact isTrue_or_nil e
  | true => exact e
theorem pw_and (ha : PT X a tA) (hb : PW X (.BoolOp .And (b :: rest) pos) tB') : PW X (.BoolOp .And (a :: b :: rest) pos) (tAnd tA tB') := by
  intro wh pins s σ H Q I h
  refine isTrue_and (thn (ha pins s σ H _ I h) fun c s1 ⟨H1, I1, q1⟩ => ?_)
  cases c with
  | true => exact hb wh pins s1 σ H1 Q I1 q1
  | false => exact ⟨H1, I1, q1⟩
theorem pw_or (ha : PT X a tA) (hb : PW X (.BoolOp .Or (b :: rest) pos) tB') : PW X (.BoolOp .Or (a :: b :: rest) pos) (tOr tA tB') := by
  intro wh pins s σ H Q I h
  refine isTrue_or (thn (ha pins s σ H _ I h) fun c s1 ⟨H1, I1, q1⟩ => ?_)
  cases c with
  | true => exact ⟨H1, I1, q1⟩
  | false => exact hb wh pins s1 σ H1 Q I1 q1
theorem pt_not (ha : PT X a tA) : PT X (.UnaryOp .Not a pos) (tNot tA) := by
  intro pins s σ H Q I h
  exact isTrue_not (ha pins s σ H (fun c H1 => Q (!c) H1) I h)
def tAndV (ta tb : TE) : TE := fun σ H Q => ta σ H fun x H1 => ∃ c, x = .bl c /\ if c = true then tb σ H1 Q else Q (.bl false) H1
theorem pe_one {op} {t : TE} (h : PE X a t) : PE X (.BoolOp op [a] pos) t := fun pins s σ H Q I hw => BoolOp_one (h pins s σ H Q I hw)
theorem pe_and (ha : PE X a ta) (hb : PE X (.BoolOp .And (b :: rest) pos) tb) : PE X (.BoolOp .And (a :: b :: rest) pos) (tAndV ta tb) := by
  intro pins s σ H Q I h
  refine BoolOp_and (thn (ha pins s σ H _ I h) fun v s1 ⟨x, H1, I1, r1, q1⟩ => ?_)
  obtain ⟨c, rfl, q1⟩ := q1
  cases r1
  refine wpAny_truthy_bool ?_
  cases c with
  | true => exact hb pins s1 σ H1 Q I1 q1
  | false => exact ⟨.bl false, H1, I1, rfl, q1⟩
end
end L2
namespace L2
open PySem PySem.Spec PyProof.Rows
def SqL (K : PySem.W.Frag) (H : Hp) (a : Addr) (xs : List V) : Prop :=
  Rd H a (.lst xs) \/
    ∃ (o : Obj) (its : Array Value) (n : Nat), K.lookup a = some o /\ o.cls = .type "list" /\ o.dict = none /\ o.data = .seq its n /\ its.size <= sizeLine /\ Vals xs its.toList
def SqT (K : PySem.W.Frag) (H : Hp) (a : Addr) (xs : List V) : Prop :=
  Rd H a (.tup xs) \/
    ∃ (o : Obj) (its : Array Value) (n : Nat), K.lookup a = some o /\ o.cls = .type "tuple" /\ o.data = .seq its n /\ its.size <= sizeLine /\ Vals xs its.toList
def absV : Value -> Option V
  | .none => some .non
  | .bool b => some (.bl b)
  | .int i _ => some (.int i)
  | .str x _ => some (.str x)
  | .bytes b _ => some (.byt b)
  | .float b _ => some (.flt b)
  | .ref a => some (.ref a)
  | .type n => some (.ty n)
  | _ => none
theorem RelV.abs {x : V} {u : Value} (r : RelV x u) : absV u = some x := by
  cases x with
  | non => cases r; rfl
  | bl _ => cases r; rfl
  | int _ => obtain ⟨t, rfl⟩ := r; rfl
  | str _ => obtain ⟨t, rfl⟩ := r; rfl
  | byt _ => obtain ⟨t, rfl⟩ := r; rfl
  | flt _ => obtain ⟨t, rfl⟩ := r; rfl
  | ref _ => cases r; rfl
  | ty _ => cases r; rfl
theorem RelV.inj {x y : V} {u : Value} (r : RelV x u) (q : RelV y u) : x = y := Option.some.inj (r.abs.symm.trans q.abs)
theorem Vals.inj : ∀ {xs ys : List V} {us : List Value}, Vals xs us -> Vals ys us -> xs = ys
  | _, _, _, .nil, .nil => rfl
  | _, _, _, .cons r t, .cons r' t' => by rw [r.inj r', Vals.inj t t']
section
variable {X : Cx} {pins : List (Addr × Obj)} {σ : St} {H : Hp} {s : Shared} {a : Addr} {xs ys : List V}
theorem SqL.of {K : PySem.W.Frag} (h : H a = some (.lst xs)) : SqL K H a xs := .inl (.inl h)
theorem SqT.of {K : PySem.W.Frag} (h : H a = some (.tup xs)) : SqT K H a xs := .inl (.inl h)
theorem Inv.list (I : Inv X pins σ H s) (h : SqL X.K H a xs) : ∃ its : List Value, Vals xs its /\ PlainL s.heap a its.toArray /\ xs.length <= sizeLine := by
  rcases h with h | ⟨o, its, n, hk, hc, hd, hs, hz, r⟩
  . obtain ⟨z, its, n, r, e⟩ := h.ok I.hok
    exact ⟨its, r, ⟨_, n, e, rfl, rfl, rfl⟩, z⟩
  . refine ⟨its.toList, r, ⟨o, n, I.kIn a o hk, hc, hd, by simpa using hs⟩, ?_⟩
    have e := r.length
    simp only [Array.length_toList] at e
    omega
theorem Inv.tuple (I : Inv X pins σ H s) (h : SqT X.K H a xs) : ∃ its : List Value, Vals xs its /\ IsTup s.heap a its.toArray /\ xs.length <= sizeLine := by
  rcases h with h | ⟨o, its, n, hk, hc, hs, hz, r⟩
  . obtain ⟨z, its, r, p⟩ := h.ok I.hok
    exact ⟨its, r, p, z⟩
  . refine ⟨its.toList, r, ⟨o, I.kIn a o hk, hc, n, by simpa using hs⟩, ?_⟩
    have e := r.length
    simp only [Array.length_toList] at e
    omega
theorem Inv.list_inj (I : Inv X pins σ H s) (h : SqL X.K H a xs) (h' : SqL X.K H a ys) : xs = ys := by
  obtain ⟨its, r, ⟨o, n, e, _, _, d⟩, _⟩ := I.list h
  obtain ⟨its', r', ⟨o', n', e', _, _, d'⟩, _⟩ := I.list h'
  rw [e] at e'; cases e'
  rw [d] at d'
  injection d' with d1 _
  have : its = its' := by simpa using congrArg Array.toList d1
  subst this
  exact r.inj r'
theorem Inv.tuple_inj (I : Inv X pins σ H s) (h : SqT X.K H a xs) (h' : SqT X.K H a ys) : xs = ys := by
  obtain ⟨its, r, ⟨o, e, _, n, d⟩, _⟩ := I.tuple h
  obtain ⟨its', r', ⟨o', e', _, n', d'⟩, _⟩ := I.tuple h'
  rw [e] at e'; cases e'
  rw [d] at d'
  injection d' with d1 _
  have : its = its' := by simpa using congrArg Array.toList d1
  subst this
  exact r.inj r'
end
abbrev Cx.wish (X : Cx) (E : Value -> Shared -> Prop) : Cx := { X with xe := E }
abbrev Cx.nox (X : Cx) : Cx := X.wish fun _ _ => False
theorem Cx.Ok.wish {X : Cx} (ok : X.Ok) (E : Value -> Shared -> Prop) : (X.wish E).Ok :=
  ⟨ok.mod, ok.kind, ok.glob, ok.blt, ok.above, ok.inj, ok.has, ok.cab, ok.hd, ok.frames, ok.stk, ok.exf, ok.bs, ok.bsz, ok.noex, ok.exfs, ok.funs, ok.frf⟩
theorem Cx.Ok.unwish {X : Cx} {E : Value -> Shared -> Prop} (ok : (X.wish E).Ok) : X.Ok :=
  ⟨ok.mod, ok.kind, ok.glob, ok.blt, ok.above, ok.inj, ok.has, ok.cab, ok.hd, ok.frames, ok.stk, ok.exf, ok.bs, ok.bsz, ok.noex, ok.exfs, ok.funs, ok.frf⟩
section
variable {X : Cx} {pins : List (Addr × Obj)} {σ : St} {H : Hp} {s : Shared} {E : Value -> Shared -> Prop}
theorem Inv.wish (I : Inv X pins σ H s) (E : Value -> Shared -> Prop) : Inv (X.wish E) pins σ H s := ⟨I.ok.wish E, I.os, I.bare, I.base, I.loc, I.cell, I.free, I.freeC, I.pin, I.hok, I.len⟩
theorem Inv.unwish (I : Inv (X.wish E) pins σ H s) : Inv X pins σ H s := ⟨I.ok.unwish, I.os, I.bare, I.base, I.loc, I.cell, I.free, I.freeC, I.pin, I.hok, I.len⟩
theorem SP.unwish {D : Ends} {f : Flow} {s' : Shared} (h : SP (X.wish E) pins D f s') : SP X pins D f s' := by
  cases f with
  | next => obtain ⟨σ', H', I, q⟩ := h; exact ⟨σ', H', I.unwish, q⟩
  | brk => obtain ⟨σ', H', I, q⟩ := h; exact ⟨σ', H', I.unwish, q⟩
  | cont => obtain ⟨σ', H', I, q⟩ := h; exact ⟨σ', H', I.unwish, q⟩
  | ret u => obtain ⟨v, σ', H', I, r, q⟩ := h; exact ⟨v, σ', H', I.unwish, r, q⟩
theorem PSs.nox {st : List Stmt} {t : TS} (h : PSs X.nox st t) : PSs X st t := fun pins s σ H D I hw =>
  wpAny_mono (h pins s σ H D (I.wish _) hw) (fun _ _ q => q.unwish) fun _ _ z => False.elim z
end
section
variable {X : Cx} {st : Stmt} {rest : List Stmt} {t u : TS} {e : Expr} {te : TE} {pos : Pos}
def tNext : TS := fun D σ H => D.nx σ H
def tSeq (t u : TS) : TS := fun D σ H => t { D with nx := u D } σ H
theorem pss_nil : PSs X [] tNext := fun _ _ σ H _ I h => wpAny_execs_nil ⟨σ, H, I, h⟩
theorem pss_cons (h1 : PS X st t) (h2 : PSs X rest u) : PSs X (st :: rest) (tSeq t u) := by
  intro pins s σ H D I h
  refine wpAny_execs_cons (thn (h1 pins s σ H { D with nx := u D } I h) fun f s1 q => ?_)
  cases f with
  | next =>
    obtain ⟨σ', H', I', q⟩ := q
    exact h2 pins s1 σ' H' D I' q
  | ret v => exact q
  | brk => exact q
  | cont => exact q
theorem pss_one (h1 : PS X st t) : PSs X [st] t := by
  intro pins s σ H D I h
  refine wpAny_execs_cons (thn (h1 pins s σ H D I h) fun f s1 q => ?_)
  cases f with
  | next => exact wpAny_execs_nil q
  | ret v => exact q
  | brk => exact q
  | cont => exact q
theorem Inv.quiet {pins : List (Addr × Obj)} {σ : St} {H : Hp} {s : Shared} (I : Inv X pins σ H s) : interactive X.env = false := by simp [interactive, I.ok.kind]
def tDrop (te : TE) : TS := fun D σ H => te σ H fun _ H1 => D.nx σ H1
theorem ps_expr (he : PE X e te) (hs : swapsWith e none pos.line X.env = pure false := by rfl) : PS X (.Expr e pos) (tDrop te) := by
  intro pins s σ H D I h
  exact wpAny_Expr_any (thn (he pins s σ H _ I h) fun v s1 ⟨x, H1, I1, r1, q1⟩ => ⟨σ, H1, I1, q1⟩) I.quiet hs
def tRet (te : TE) : TS := fun D σ H => te σ H D.rt
theorem ps_ret (he : PE X e te) : PS X (.Return (some e) pos) (tRet te) := by
  intro pins s σ H D I h
  exact wpAny_Return_some (thn (he pins s σ H _ I h) fun v s1 ⟨x, H1, I1, r1, q1⟩ => ⟨x, σ, H1, I1, r1, q1⟩)
def tIfS (c : TT) (t u : TS) : TS := fun D σ H => c σ H fun b H1 => if b = true then t D σ H1 else u D σ H1
theorem ps_if {c : Expr} {a b : List Stmt} {tc : TT} (hc : PT X c tc) (ha : PSs X a t) (hb : PSs X b u) : PS X (.If c a b pos) (tIfS tc t u) := by
  intro pins s σ H D I h
  refine wpAny_If (thn (hc pins s σ H _ I h) fun d s1 ⟨H1, I1, q1⟩ => ?_)
  cases d with
  | true => exact ha pins s1 σ H1 D I1 q1
  | false => exact hb pins s1 σ H1 D I1 q1
end
abbrev TG := V -> St -> Hp -> (St -> Hp -> Prop) -> Prop
abbrev TGs := List V -> St -> Hp -> (St -> Hp -> Prop) -> Prop
def PG (X : Cx) (target : Expr) (t : TG) : Prop :=
  ∀ (pins : List (Addr × Obj)) (s : Shared) (σ : St) (H : Hp) (v : V) (u : Value) (Q : St -> Hp -> Prop), Inv X pins σ H s -> RelV v u -> t v σ H Q ->
    wpAny (model X.prog X.w) X.A (assign target X.env u) (fun _ s' => ∃ σ' H', Inv X pins σ' H' s' /\ Q σ' H') X.xe s
def PGs (X : Cx) (ts : List Expr) (t : TGs) : Prop :=
  ∀ (pins : List (Addr × Obj)) (s : Shared) (σ : St) (H : Hp) (vs : List V) (us : List Value) (Q : St -> Hp -> Prop), Inv X pins σ H s -> Vals vs us -> t vs σ H Q ->
    wpAny (model X.prog X.w) X.A (assignInOrder ((assignEach ts X.env).map (·.2)) us) (fun _ s' => ∃ σ' H', Inv X pins σ' H' s' /\ Q σ' H') X.xe s
abbrev TSet := V -> V -> V -> Hp -> (Hp -> Prop) -> Prop
def PSet (X : Cx) (t : TSet) : Prop :=
  ∀ (pins : List (Addr × Obj)) (s : Shared) (σ : St) (H : Hp) (o i v : V) (ov iv u : Value) (Q : Hp -> Prop), Inv X pins σ H s -> RelV o ov -> RelV i iv -> RelV v u -> t o i v H Q ->
    wpAny (model X.prog X.w) X.A (setItem ov iv u) (fun _ s' => ∃ H', Inv X pins σ H' s' /\ Q H') X.xe s
abbrev TIp := V -> V -> Hp -> VK -> Prop
def PIp (X : Cx) (op : Operator) (t : TIp) : Prop :=
  ∀ (pins : List (Addr × Obj)) (s : Shared) (σ : St) (H : Hp) (x y : V) (v u : Value) (Q : VK), Inv X pins σ H s -> RelV x v -> RelV y u -> t x y H Q ->
    wpAny (model X.prog X.w) X.A (inplaceOp op v u) (EP X pins σ Q) X.xe s
section
variable {X : Cx} {pos : Pos}
def gName (i : Nat) : TG := fun v σ H Q => Q (σ.set i (some v)) H
theorem pg_name {i : Nat} {x : Str} (hN : X.N.Nodup) (hi : X.N[i]? = some x) (hx : Loc X.env.scope x) (hf : X.fn x = true \/ X.env.scope.names.lookup x = some .local := by first | exact .inl rfl | exact .inr rfl | assumption) : PG X (.Name x pos) (gName i) := by
  intro pins s σ H v u Q I r h
  exact wpAny_assign_Name (store_ok I hN hi hx r (fun s' I' => ⟨_, H, I', h⟩) hf)
def gNil : TGs := fun vs σ H Q => vs = [] /\ Q σ H
def gCons (t : TG) (u : TGs) : TGs := fun vs σ H Q => ∃ v r, vs = v :: r /\ t v σ H fun σ' H' => u r σ' H' Q
theorem pgs_nil : PGs X [] gNil := by
  intro pins s σ H vs us Q I r h
  obtain ⟨e, h⟩ := h
  subst e
  cases r
  exact assignInOrder_nil ⟨σ, H, I, h⟩
theorem pgs_cons {e : Expr} {es : List Expr} {t : TG} {u : TGs} (h1 : PG X e t) (h2 : PGs X es u)
    (hs : (assignEach (e :: es) X.env).map (·.2) = assign e X.env :: (assignEach es X.env).map (·.2) := by rfl) : PGs X (e :: es) (gCons t u) := by
  intro pins s σ H vs us Q I r h
  obtain ⟨v, vr, e1, h⟩ := h
  subst e1
  cases r with
  | cons r rr =>
    rw [hs]
    refine assignInOrder_cons (thn (h1 pins s σ H _ _ _ I r h) fun _ s1 ⟨σ1, H1, I1, q1⟩ => ?_)
    exact h2 pins s1 σ1 H1 _ _ Q I1 rr q1
def gTup (K : PySem.W.Frag) (n : Nat) (t : TGs) : TG := fun v σ H Q => ∃ a xs, v = .ref a /\ SqT K H a xs /\ xs.length = n /\ t xs σ H Q
theorem pg_tup {es : List Expr} {k : Nat} {t : TGs} {n : Nat} (hc : X.calm = true) (h : PGs X es t)
    (hn : (assignEach es X.env).length = n := by rfl) (hst : (assignEach es X.env).findIdx? (·.1) = none := by rfl) : PG X (.Tuple es k pos) (gTup X.K n t) := by
  intro pins s σ H v u Q I r hw
  obtain ⟨a, xs, e1, hq, hl, hw⟩ := hw
  subst e1
  cases r
  obtain ⟨its, rv, ht, hz⟩ := I.tuple hq
  refine assign_Tuple_tuple (I.ok.hd hc) ht (by simp [hn, <- hl, rv.length]) hst fun h' hx => ?_
  have I1 : Inv X pins σ H { s with heap := h' } := I.kept (t' := s.toks) fun b o e => hx b o (Nat.ne_of_lt (Heap.lt_size e)) e
  exact h pins _ σ H xs _ Q I1 (by simpa using rv) hw
def gSub (to ti : TE) (t : TSet) : TG := fun v σ H Q => to σ H fun o H1 => ti σ H1 fun i H2 => t o i v H2 fun H3 => Q σ H3
theorem pg_sub {o i : Expr} {to ti : TE} {t : TSet} (ho : PE X o to) (hi : PE X i ti) (hs : PSet X t)
    (ha : ∀ v, assign (.Subscript o i pos) X.env v = (do
      let ov <- holding [v] (eval o X.env)
      let iv <- holding [v, ov] (eval i X.env)
      standAt pos
      holding [v, ov, iv] (setItem ov iv v)
      release [v, ov, iv] []) := by intro _; rfl) : PG X (.Subscript o i pos) (gSub to ti t) := by
  intro pins s σ H v u Q I r h
  rw [ha]
  refine wpAny_bind (wpAny_holding (thn (ho pins s σ H _ I h) fun ov s1 ⟨x, H1, I1, r1, q1⟩ => ?_))
  refine wpAny_bind (wpAny_holding (thn (hi pins s1 σ H1 _ I1 q1) fun iv s2 ⟨y, H2, I2, r2, q2⟩ => ?_))
  refine wpAny_bind (wpAny_standAt (wpAny_bind (wpAny_holding (thn (hs pins s2 σ H2 x y v ov iv u _ I2 r1 r2 r q2) fun _ s3 ⟨H3, I3, q3⟩ => ?_))))
  exact wpAny_release ⟨σ, H3, I3, q3⟩
def tAsg (te : TE) (g : TG) : TS := fun D σ H => te σ H fun x H1 => g x σ H1 D.nx
theorem ps_asg {tg e : Expr} {te : TE} {g : TG} (he : PE X e te) (hg : PG X tg g) (hs : swapsWithSole [tg] e pos.line X.env = pure false := by rfl) (hw : swappedStores [tg] e X.env = pure none := by rfl)
    (h1 : (assignEach [tg] X.env).map (·.2) = [assign tg X.env] := by rfl) : PS X (.Assign [tg] e pos) (tAsg te g) := by
  intro pins s σ H D I h
  refine wpAny_Assign_stores (thn (he pins s σ H _ I h) fun v s1 ⟨x, H1, I1, r1, q1⟩ => ?_) hs hw
  rw [h1]
  exact thn (hg pins s1 σ H1 x v _ I1 r1 q1) fun _ s2 q => q
theorem ps_set {i : Nat} {x : Str} {e : Expr} {te : TE} {pos' : Pos} (hN : X.N.Nodup) (hi : X.N[i]? = some x) (hx : Loc X.env.scope x) (he : PE X e te) (hs : swapsWith e (some (.Name x pos')) pos.line X.env = pure false := by rfl) (hf : X.fn x = true \/ X.env.scope.names.lookup x = some .local := by first | exact .inl rfl | exact .inr rfl | assumption) :
    PS X (.Assign [.Name x pos'] e pos) (tAsg te (gName i)) := by
  intro pins s σ H D I h
  refine wpAny_Assign_Name (thn (he pins s σ H _ I h) fun v s1 ⟨y, H1, I1, r1, q1⟩ => ?_) hs
  exact store_ok I1 hN hi hx r1 (fun s2 I2 => ⟨_, H1, I2, q1⟩) hf
def tAug (i : Nat) (te : TE) (ti : TIp) : TS := fun D σ H => ∃ x, σ[i]? = some (some x) /\ te σ H fun y H1 => ti x y H1 fun z H2 => D.nx (σ.set i (some z)) H2
theorem ps_aug {i : Nat} {x : Str} {e : Expr} {te : TE} {op : Operator} {ti : TIp} {pos' : Pos} (hN : X.N.Nodup) (hi : X.N[i]? = some x) (hx : Loc X.env.scope x) (he : PE X e te) (ho : PIp X op ti) (hf : X.fn x = true \/ X.env.scope.names.lookup x = some .local := by first | exact .inl rfl | exact .inr rfl | assumption) :
    PS X (.AugAssign (.Name x pos') op e pos) (tAug i te ti) := by
  intro pins s σ H D I h
  obtain ⟨v, e1, h⟩ := h
  obtain ⟨m, hn, hl⟩ := I.loc
  have vis : Vis X.env.scope x := by rcases hx with k | k; exact .inl k; exact .inr (.inl k)
  obtain ⟨u, r, l⟩ := hl i x v hi e1 vis
  refine wpAny_AugAssign_Name ?_
  have go : wpAny (model X.prog X.w) X.A (eval e X.env) (fun w s₂ => wpAny (model X.prog X.w) X.A (inplaceOp op u w) (fun r s₃ => wpAny (model X.prog X.w) X.A (storeName X.env x r) (fun _ => SP X pins D .next) X.xe s₃) X.xe s₂) X.xe s := by
    refine thn (he pins s σ H _ I h) fun w s1 ⟨y, H1, I1, r1, q1⟩ => ?_
    refine thn (ho pins s1 σ H1 v y u w _ I1 r r1 q1) fun z s2 ⟨zv, H2, I2, r2, q2⟩ => ?_
    exact store_ok I2 hN hi hx r2 (fun s3 I3 => ⟨_, H2, I3, q2⟩) hf
  rcases l with ⟨hk, hm⟩ | ⟨hk, c, hc, hcell⟩
  . exact wpAny_loadName_local I.ok.kind hk hn hm go
  . rcases hk with hk | hk
    . exact wpAny_loadName_cell I.ok.kind hk hc hcell go
    . rcases hx with k | k
      . have : X.env.scope.names.lookup x = some .free := hk
        rw [k] at this; cases this
      . have : X.env.scope.names.lookup x = some .free := hk
        rw [k] at this; cases this
def ipI (f : Int -> Int -> Int) : TIp := fun x y H Q => ∃ i j, x = .int i /\ y = .int j /\ Q (.int (f i j)) H
theorem ip_add : PIp X .Add (ipI fun i j => i + j) := by
  intro pins s σ H x y v u Q I r1 r2 h
  obtain ⟨i, j, e1, e2, q⟩ := h
  subst e1; subst e2
  obtain ⟨t, rfl⟩ := r1
  obtain ⟨t', rfl⟩ := r2
  exact iadd_int ⟨.int _, H, I.tok _, ⟨_, rfl⟩, q⟩
end
section
variable {X : Cx} {pos : Pos}
def tWhile (c : TT) (tb : TS) : TS := fun D σ H => ∃ W : Nat -> St -> Hp -> Prop, (∃ m, W m σ H) /\ ∀ m σ H, W m σ H ->
  c σ H fun b H1 => if b = true then ∃ N : St -> Hp -> Prop, (∀ σ' H', N σ' H' -> ∃ m', m' < m /\ W m' σ' H') /\ tb { D with nx := N, ct := N, bk := D.nx } σ H1 else D.nx σ H1
theorem ps_while {c : Expr} {body : List Stmt} {tc : TT} {tb : TS} (hp : PassesOwn (model X.prog X.w) X.A X.env X.xe) (hc : PT X c tc) (hb : PSs X body tb) : PS X (.While c body [] pos) (tWhile tc tb) := by
  intro pins s σ H D I h
  obtain ⟨W, ⟨m0, w0⟩, turn⟩ := h
  refine wpAny_While (codeAny_whileLoop (fun n s' => ∃ σ' H', Inv X pins σ' H' s' /\ W n σ' H') ?_ m0 ⟨σ, H, I, w0⟩)
  rintro n s1 ⟨σ1, H1, I1, w1⟩
  refine wpAny_passesOwn hp (thn (hc pins s1 σ1 H1 _ I1 (turn n σ1 H1 w1)) fun b s2 ⟨H2, I2, q2⟩ => ?_)
  cases b with
  | true =>
    obtain ⟨N, hN, q2⟩ := q2
    rw [if_pos rfl]
    refine wpAny_passesOwn hp (thn (hb pins s2 σ1 H2 _ I2 q2) fun f s3 q3 => ?_)
    cases f with
    | next =>
      obtain ⟨σ3, H3, I3, n3⟩ := q3
      obtain ⟨m', hm, w3⟩ := hN σ3 H3 n3
      exact ⟨m', hm, σ3, H3, I3, w3⟩
    | cont =>
      obtain ⟨σ3, H3, I3, n3⟩ := q3
      obtain ⟨m', hm, w3⟩ := hN σ3 H3 n3
      exact ⟨m', hm, σ3, H3, I3, w3⟩
    | brk => exact q3
    | ret v => exact q3
  | false =>
    rw [if_neg Bool.false_ne_true]
    exact wpAny_execs_nil ⟨σ1, H2, I2, q2⟩
end
structure It where
  go : Nat -> Hp -> Prop
  yld : Nat -> Hp -> V -> Hp -> Prop
  stop : Nat -> Hp -> Prop
def FpOk (X : Cx) (pins : List (Addr × Obj)) (H : Hp) (b : Addr) : Prop :=
  H b = none /\ b ≠ X.env.locals /\ b ∉ X.fs /\ (b ∈ X.ex \/ X.s₀.heap.objs.size <= b) /\ (∀ x c, X.env.cells.lookup x = some c -> c ≠ b) /\ ∀ p ∈ X.pn ++ pins, p.1 ≠ b
theorem Inv.fpOk {X : Cx} {pins : List (Addr × Obj)} {σ : St} {H H' : Hp} {s : Shared} {b : Addr} (I : Inv X pins σ H s) (hb : s.heap.objs.size <= b) (hn : H' b = none) : FpOk X pins H' b := by
  refine ⟨hn, Nat.ne_of_gt (Nat.lt_of_lt_of_le I.lt hb), I.nofs hb, .inr (Nat.le_trans I.sz hb), fun x c e z => ?_, fun p hp z => ?_⟩
  . obtain ⟨v, q⟩ := I.cell x c e
    exact absurd (Nat.lt_of_lt_of_le q.lt (by rw [z]; exact hb)) (Nat.lt_irrefl _)
  . exact absurd (Nat.lt_of_lt_of_le (Heap.lt_size (I.pin p hp).1) (by rw [z]; exact hb)) (Nat.lt_irrefl _)
structure Turn (P : Program) (w : World) (K : PySem.W.Frag) (tg : Expr) (J : It) (fp : List Addr) (it : Addr) (tn : Nat -> Heap -> Prop) : Prop where
  mem : it ∈ fp
  obj : ∀ i h, tn i h -> ∀ b ∈ fp, ∃ o, h.get? b = some o /\ ∀ v, o.data ≠ .cell v
  keep : ∀ i h h', tn i h -> (∀ b ∈ fp, ∀ o, h.get? b = some o -> h'.get? b = some o) -> tn i h'
  item : ∀ (X : Cx), X.prog = P -> X.w = w -> X.K = K -> X.calm = true -> ∀ (i : Nat) (pins : List (Addr × Obj)) (s : Shared) (σ : St) (H : Hp) (E : Value -> Shared -> Prop), Inv X pins σ H s -> (∀ b ∈ fp, FpOk X pins H b) -> tn i s.heap -> J.go i H ->
    wpAny (model P w) X.A (pyNext (.ref it)) (fun r s1 => ∃ u, r = some u /\
      wpAny (model P w) X.A (letOwnedTupleGo tg (.ref it) u) (fun _ s2 => ∃ x H', Inv X pins σ H' s2 /\ RelV x u /\ J.yld i H x H' /\ tn (i + 1) s2.heap /\ ∀ b ∈ fp, H' b = none) E s1) E s
  done : ∀ (X : Cx), X.prog = P -> X.w = w -> X.K = K -> X.calm = true -> ∀ (i : Nat) (pins : List (Addr × Obj)) (s : Shared) (σ : St) (H : Hp) (E : Value -> Shared -> Prop), Inv X pins σ H s -> (∀ b ∈ fp, FpOk X pins H b) -> tn i s.heap -> J.stop i H ->
    wpAny (model P w) X.A (pyNext (.ref it)) (fun r s1 => r = none /\ Inv X pins σ H s1) E s
  self : ∀ (A : Around) (i : Nat) (s : Shared) (Q : Value -> Shared -> Prop) (E : Value -> Shared -> Prop), tn i s.heap -> Q (.ref it) s -> wpAny (model P w) A (pyIter (.ref it)) Q E s
abbrev TI := St -> Hp -> (It -> Hp -> Prop) -> Prop
def PIE (X : Cx) (pins : List (Addr × Obj)) (σ : St) (tg : Expr) (R : It -> Hp -> Prop) (itv : Value) (s2 : Shared) : Prop :=
  ∃ (it : Addr) (fp : List Addr) (tn : Nat -> Heap -> Prop) (J : It) (H' : Hp), itv = .ref it /\ Inv X pins σ H' s2 /\ Turn X.prog X.w X.K tg J fp it tn /\ tn 0 s2.heap /\ (∀ b ∈ fp, FpOk X pins H' b) /\ R J H'
def PI (X : Cx) (tg iter : Expr) (wi : TI) : Prop :=
  ∀ (pins : List (Addr × Obj)) (s : Shared) (σ : St) (H : Hp) (R : It -> Hp -> Prop), Inv X pins σ H s -> wi σ H R ->
    wpAny (model X.prog X.w) X.A (eval iter X.env) (fun v s1 => wpAny (model X.prog X.w) X.A (pyIter v) (PIE X pins σ tg R) X.xe s1) X.xe s
theorem go_of {M : Model} {A : Around} {E : Value -> Shared -> Prop} {s : Shared} {tg : Expr} {it : Addr} {u : Value} {o : Obj} {n : String} {vs : Array Value} {Q : Unit -> Shared -> Prop} (ho : s.heap.get? it = some o) (hc : o.cls = .type n) (hd : o.data = .fields vs)
    (hn : ["enumerate", "zip", "dict_itemiterator", "dict_reverseitemiterator", "odict_iterator", "itertools.zip_longest", "itertools.pairwise"].contains n = false) (hQ : Q () s) : wpAny M A (letOwnedTupleGo tg (.ref it) u) Q E s := by
  unfold letOwnedTupleGo
  cases tg <;> first
    | exact wpAny_pure hQ
    | (cases u <;> first
        | exact wpAny_pure hQ
        | (refine wpAny_bind (wpAny_load ho ?_)
           rw [hc, hd]
           show wpAny M A (if (["enumerate", "zip", "dict_itemiterator", "dict_reverseitemiterator", "odict_iterator", "itertools.zip_longest", "itertools.pairwise"].contains n && vs[0]? == some (rawInt _)) = true then _ else _) Q E s
           rw [if_neg (by intro h; rw [hn, Bool.false_and] at h; cases h)]
           exact wpAny_pure hQ))
def Itl (K : PySem.W.Frag) (a : Addr) : It :=
  ⟨fun i H => ∃ xs x, SqL K H a xs /\ xs[i]? = some x, fun i H x H' => H' = H /\ ∀ xs, SqL K H a xs -> xs[i]? = some x, fun i H => ∃ xs, SqL K H a xs /\ xs.length <= i⟩
def Itt (K : PySem.W.Frag) (a : Addr) : It :=
  ⟨fun i H => ∃ xs x, SqT K H a xs /\ xs[i]? = some x, fun i H x H' => H' = H /\ ∀ xs, SqT K H a xs -> xs[i]? = some x, fun i H => ∃ xs, SqT K H a xs /\ xs.length <= i⟩
def Itr (lo : Int) (n : Nat) : It := ⟨fun i _ => i < n, fun i H x H' => H' = H /\ x = .int (lo + i), fun i _ => n <= i⟩
theorem turn_list {P : Program} {w : World} {K : PySem.W.Frag} {tg : Expr} (a it : Addr) : Turn P w K tg (Itl K a) [it] it (fun i h => h.IsListIter it a i) where
  mem := by simp
  obj := fun i h st b hb => by
    have e : b = it := by simpa using hb
    subst e
    obtain ⟨o, e, c, d⟩ := st
    exact ⟨o, e, fun v z => by rw [d] at z; cases z⟩
  keep := fun i h h' st k => st.at fun o e => k it (by simp) o e
  item := by
    intro X hP hw hK hc i pins s σ H E I hf st hg
    subst hP hw hK
    obtain ⟨xs, x, hq, hx⟩ := hg
    obtain ⟨its, rv, p, hz⟩ := I.list hq
    obtain ⟨u, hu, ru⟩ := rv.get hx
    obtain ⟨f0, f1, f2, f3, f4, f5⟩ := hf it (by simp)
    refine wpAny_pyNext_list_item st p.isList (x := u) (by simpa using hu) fun h' st' sb => ?_
    have I1 : Inv X pins σ H { s with heap := h' } := I.turned (t' := s.toks) (fun b o hb e => (sb.2 b hb).trans e) f0 f1 f3 f4 f5
    obtain ⟨o, e, c, d⟩ := id st'
    exact ⟨u, rfl, go_of (s := { s with heap := h' }) e c d (by decide) ⟨x, H, I1, ru, ⟨rfl, fun ys hy => by rw [I.list_inj hy hq]; exact hx⟩, st', fun b hb => (hf b hb).1⟩⟩
  done := by
    intro X hP hw hK hc i pins s σ H E I hf st hg
    subst hP hw hK
    obtain ⟨xs, hq, hx⟩ := hg
    obtain ⟨its, rv, p, hz⟩ := I.list hq
    obtain ⟨f0, f1, f2, f3, f4, f5⟩ := hf it (by simp)
    have hl := rv.length
    exact wpAny_pyNext_list_end (I.ok.hd hc) st p.isList (by simp; omega) fun h' eb => ⟨rfl, I.turned (t' := s.toks) (fun b o hb e => eb b o hb e) f0 f1 f3 f4 f5⟩
  self := fun _ _ _ _ _ st h => wpAny_pyIter_listiter st h
theorem turn_tuple {P : Program} {w : World} {K : PySem.W.Frag} {tg : Expr} (a it : Addr) : Turn P w K tg (Itt K a) [it] it (fun i h => h.IsTupleIter it a i) where
  mem := by simp
  obj := fun i h st b hb => by
    have e : b = it := by simpa using hb
    subst e
    obtain ⟨o, e, c, d⟩ := st
    exact ⟨o, e, fun v z => by rw [d] at z; cases z⟩
  keep := fun i h h' st k => st.at fun o e => k it (by simp) o e
  item := by
    intro X hP hw hK hc i pins s σ H E I hf st hg
    subst hP hw hK
    obtain ⟨xs, x, hq, hx⟩ := hg
    obtain ⟨its, rv, p, hz⟩ := I.tuple hq
    obtain ⟨u, hu, ru⟩ := rv.get hx
    obtain ⟨f0, f1, f2, f3, f4, f5⟩ := hf it (by simp)
    refine wpAny_pyNext_tuple_item st (show s.heap.IsTuple a its.toArray from p) (x := u) (by simpa using hu) fun h' st' sb => ?_
    have I1 : Inv X pins σ H { s with heap := h' } := I.turned (t' := s.toks) (fun b o hb e => (sb.2 b hb).trans e) f0 f1 f3 f4 f5
    obtain ⟨o, e, c, d⟩ := id st'
    exact ⟨u, rfl, go_of (s := { s with heap := h' }) e c d (by decide) ⟨x, H, I1, ru, ⟨rfl, fun ys hy => by rw [I.tuple_inj hy hq]; exact hx⟩, st', fun b hb => (hf b hb).1⟩⟩
  done := by
    intro X hP hw hK hc i pins s σ H E I hf st hg
    subst hP hw hK
    obtain ⟨xs, hq, hx⟩ := hg
    obtain ⟨its, rv, p, hz⟩ := I.tuple hq
    obtain ⟨f0, f1, f2, f3, f4, f5⟩ := hf it (by simp)
    have hl := rv.length
    exact wpAny_pyNext_tuple_end (I.ok.hd hc) st (show s.heap.IsTuple a its.toArray from p) (by simp; omega) fun h' eb => ⟨rfl, I.turned (t' := s.toks) (fun b o hb e => eb b o hb e) f0 f1 f3 f4 f5⟩
  self := fun _ _ _ _ _ st h => wpAny_pyIter_tupleiter st h
theorem turn_range {P : Program} {w : World} {K : PySem.W.Frag} {tg : Expr} (it : Addr) (lo : Int) (n : Nat) : Turn P w K tg (Itr lo n) [it] it (fun i h => IsRangeIter h it (lo + (i : Nat) * 1) ((n : Int) - (i : Nat)) 1) where
  mem := by simp
  obj := fun i h st b hb => by
    have e : b = it := by simpa using hb
    subst e
    exact ⟨_, st, fun v z => by
      have z' : Data.fields _ = Data.cell v := z
      cases z'⟩
  keep := fun i h h' st k => k it (by simp) _ st
  item := by
    intro X hP hw hK hc i pins s σ H E I hf st hg
    subst hP hw hK
    obtain ⟨f0, f1, f2, f3, f4, f5⟩ := hf it (by simp)
    have W := Walks.range (prog := X.prog) (w := X.w) (I.ok.hd hc) it lo 1 n
    refine W.item i s _ _ hg st fun v h' tk hv st' kk => ?_
    obtain ⟨t, rfl⟩ := hv
    have I1 : Inv X pins σ H { s with heap := h', toks := tk } := I.turned (fun b o hb e => kk b o (by simpa using hb) e) f0 f1 f3 f4 f5
    refine ⟨_, rfl, go_of (s := { s with heap := h', toks := tk }) (n := "range_iterator") st' rfl rfl (by decide) ⟨.int (lo + i), H, I1, ⟨t, ?_⟩, ⟨rfl, rfl⟩, st', fun b hb => (hf b hb).1⟩⟩
    rw [Int.mul_one]
  done := by
    intro X hP hw hK hc i pins s σ H E I hf st hg
    subst hP hw hK
    obtain ⟨f0, f1, f2, f3, f4, f5⟩ := hf it (by simp)
    exact wpAny_pyNext_range_end (I.ok.hd hc) st (by have : n <= i := hg; omega) fun h' eb => ⟨rfl, I.turned (t' := s.toks) (fun b o hb e => eb b o hb e) f0 f1 f3 f4 f5⟩
  self := fun _ _ _ _ _ st h => wpAny_pyIter_rangeiter st h
end L2
namespace L2
open PySem PySem.Spec PyProof.Rows
section
variable {X : Cx} {tg : Expr}
def iList (K : PySem.W.Frag) (tl : TE) : TI := fun σ H R => tl σ H fun x H1 => ∃ a, x = .ref a /\ (∃ xs, SqL K H1 a xs) /\ R (Itl K a) H1
def iTup (K : PySem.W.Frag) (tl : TE) : TI := fun σ H R => tl σ H fun x H1 => ∃ a, x = .ref a /\ (∃ xs, SqT K H1 a xs) /\ R (Itt K a) H1
theorem pi_list {l : Expr} {tl : TE} (hl : PE X l tl) : PI X tg l (iList X.K tl) := by
  intro pins s σ H R I h
  refine thn (hl pins s σ H _ I h) fun v s1 ⟨x, H1, I1, r1, q1⟩ => ?_
  obtain ⟨a, e, ⟨xs, hq⟩, q⟩ := q1
  subst e
  cases r1
  obtain ⟨its, rv, p, hz⟩ := I1.list hq
  refine wpAny_pyIter_list p.isList ?_
  refine ⟨s1.heap.objs.size, [s1.heap.objs.size], _, _, H1, rfl, I1.kept (t' := s1.toks) fun b o e => Heap.get?_push_of_some _ e, turn_list a _, ⟨_, Heap.get?_push_size _ rfl, rfl, rfl⟩, fun b hb => ?_, q⟩
  have e : b = s1.heap.objs.size := by simpa using hb
  subst e
  exact I1.fpOk (Nat.le_refl _) (I1.hok.fresh (Nat.le_refl _))
theorem pi_tup {l : Expr} {tl : TE} (hl : PE X l tl) : PI X tg l (iTup X.K tl) := by
  intro pins s σ H R I h
  refine thn (hl pins s σ H _ I h) fun v s1 ⟨x, H1, I1, r1, q1⟩ => ?_
  obtain ⟨a, e, ⟨xs, hq⟩, q⟩ := q1
  subst e
  cases r1
  obtain ⟨its, rv, p, hz⟩ := I1.tuple hq
  refine wpAny_pyIter_tuple (show s1.heap.IsTuple a its.toArray from p) ?_
  refine ⟨s1.heap.objs.size, [s1.heap.objs.size], _, _, H1, rfl, I1.kept (t' := s1.toks) fun b o e => Heap.get?_push_of_some _ e, turn_tuple a _, ⟨_, Heap.get?_push_size _ rfl, rfl, rfl⟩, fun b hb => ?_, q⟩
  have e : b = s1.heap.objs.size := by simpa using hb
  subst e
  exact I1.fpOk (Nat.le_refl _) (I1.hok.fresh (Nat.le_refl _))
theorem range_it {pins : List (Addr × Obj)} {σ : St} {H : Hp} {s : Shared} {R : It -> Hp -> Prop} {E : Value -> Shared -> Prop} {lo hi : Int} {t u v : Tok} {tk : Nat} (I : Inv X pins σ H s) (h1 : -(2 ^ 62) <= lo) (h2 : lo < 2 ^ 62) (h3 : -(2 ^ 62) <= hi) (h4 : hi < 2 ^ 62)
    (q : R (Itr lo (hi - lo).toNat) H) : wpAny (model X.prog X.w) X.A (pyIter (.ref s.heap.objs.size)) (PIE X pins σ tg R) E { s with heap := s.heap.push { cls := .type "range", data := .fields #[.int lo t, .int hi u, .int 1 v] }, toks := tk } := by
  refine wpAny_pyIter_range (IsRange.new ..) (small_one h1 h2 h3 h4) ?_
  have I1 : Inv X pins σ H { s with heap := s.heap.push { cls := .type "range", data := .fields #[.int lo t, .int hi u, .int 1 v] }, toks := tk } := I.kept fun b o e => Heap.get?_push_of_some _ e
  refine ⟨(s.heap.push { cls := .type "range", data := .fields #[.int lo t, .int hi u, .int 1 v] }).objs.size, [(s.heap.push { cls := .type "range", data := .fields #[.int lo t, .int hi u, .int 1 v] }).objs.size], _, _, H, rfl,
    I1.kept (t' := tk) fun b o e => Heap.get?_push_of_some _ e, turn_range _ lo (hi - lo).toNat, ?_, fun b hb => ?_, q⟩
  . have e1 : lo + ((0 : Nat) : Int) * 1 = lo := by simp
    have e2 : (((hi - lo).toNat : Nat) : Int) - ((0 : Nat) : Int) = Builtin.Range.rangeSize lo hi 1 := by rw [rangeSize_one]; split <;> omega
    show IsRangeIter _ _ (lo + ((0 : Nat) : Int) * 1) ((((hi - lo).toNat : Nat) : Int) - ((0 : Nat) : Int)) 1
    rw [e1, e2]
    exact Heap.get?_push_size _ rfl
  . have e : b = (s.heap.push { cls := .type "range", data := .fields #[.int lo t, .int hi u, .int 1 v] }).objs.size := by simpa using hb
    subst e
    exact I1.fpOk (Nat.le_refl _) (I1.hok.fresh (Nat.le_refl _))
def iRng1 (ta : TA) : TI := fun σ H R => ta σ H fun vs H1 => ∃ j : Int, vs = [.int j] /\ -(2 ^ 62) <= j /\ j < 2 ^ 62 /\ R (Itr 0 j.toNat) H1
theorem pi_range1 {a : Expr} {ta : TA} {p pos : Pos} (hg : Gl X "range") (hm : X.mg "range" = none) (ha : PA X [a] ta) (hs : starEach [a] X.env = [(false, eval a X.env)] := by rfl) : PI X tg (.Call (.Name "range" p) [a] [] pos) (iRng1 ta) := by
  intro pins s σ H R I h
  refine Call_ (ld_blt I hg hm boot_range (PyProof.Rows.callWith_type1 (thn (ha pos pins s σ H _ I h) fun us s1 ⟨vs, H1, I1, r1, q1⟩ => ?_) hs rfl))
  obtain ⟨j, e, q1, q2, q⟩ := q1
  subst e
  cases r1 with
  | cons r rr =>
    cases rr
    obtain ⟨t, rfl⟩ := r
    exact call_range_1 (range_it I1 (by omega) (by omega) q1 q2 (by simpa using q))
def tFor (wi : TI) (g : TG) (tb : TS) : TS := fun D σ H => wi σ H fun J H1 => ∃ W : Nat -> Nat -> St -> Hp -> Prop, (∃ m, W 0 m σ H1) /\ ∀ i m σ H, W i m σ H ->
  (J.stop i H /\ D.nx σ H) \/ (J.go i H /\ ∃ N : St -> Hp -> Prop, (∀ σ' H', N σ' H' -> ∃ m', m' < m /\ W (i + 1) m' σ' H') /\ ∀ x H', J.yld i H x H' -> g x σ H' fun σ2 H2 => tb { D with nx := N, ct := N, bk := D.nx } σ2 H2)
def pinsAt (fp : List Addr) (h : Heap) : List (Addr × Obj) := fp.filterMap fun b => (h.get? b).map fun o => (b, o)
theorem mem_pinsAt {fp : List Addr} {h : Heap} {b : Addr} {o : Obj} (hb : b ∈ fp) (e : h.get? b = some o) : (b, o) ∈ pinsAt fp h := List.mem_filterMap.mpr ⟨b, hb, by rw [e]; rfl⟩
theorem of_pinsAt {fp : List Addr} {h : Heap} {p : Addr × Obj} (hp : p ∈ pinsAt fp h) : p.1 ∈ fp /\ h.get? p.1 = some p.2 := by
  obtain ⟨b, hb, e⟩ := List.mem_filterMap.mp hp
  cases q : h.get? b with
  | none => rw [q] at e; cases e
  | some o =>
    rw [q] at e
    have e' : (b, o) = p := Option.some.inj e
    subst e'
    exact ⟨hb, q⟩
theorem Inv.pinned {pins : List (Addr × Obj)} {σ : St} {H : Hp} {s : Shared} {fp : List Addr} (I : Inv X pins σ H s) (hf : ∀ b ∈ fp, FpOk X pins H b) (ho : ∀ b ∈ fp, ∃ o, s.heap.get? b = some o /\ ∀ v, o.data ≠ .cell v) : Inv X (pins ++ pinsAt fp s.heap) σ H s :=
  I.pins_of fun p hp => (List.mem_append.mp hp).elim (fun z => I.pin p (List.mem_append_right _ z)) fun z => by
    obtain ⟨hb, e⟩ := of_pinsAt z
    obtain ⟨f0, f1, f2, _⟩ := hf p.1 hb
    obtain ⟨o, e', d⟩ := ho p.1 hb
    rw [e] at e'; cases e'
    exact ⟨e, f0, f1, f2, d⟩
theorem Inv.unpinned {pins pl : List (Addr × Obj)} {σ : St} {H : Hp} {s : Shared} (I : Inv X (pins ++ pl) σ H s) : Inv X pins σ H s := I.pins_of fun p hp => I.pin p (List.mem_append_right _ (List.mem_append_left _ hp))
theorem ps_for {iter : Expr} {body : List Stmt} {wi : TI} {g : TG} {tb : TS} {pos : Pos} (hp : PassesOwn (model X.prog X.w) X.A X.env X.xe) (hc : X.calm = true) (hi : PI X tg iter wi) (hg : PG X tg g) (hb : PSs X body tb)
    (hs : ∀ x, foldedSetIterable iter X.env x = pure x := by intro _; rfl) : PS X (.For tg iter body [] pos) (tFor wi g tb) := by
  intro pins s σ H D I h
  refine wpAny_For (thn (hi pins s σ H _ I h) fun v s1 h1 => thn h1 fun itv s2 h2 => ?_) hs
  obtain ⟨it, fp, tn, J, H2, e, I2, T, st2, f2, W, ⟨m0, w0⟩, turn⟩ := h2
  subst e
  -- what stays true of the iterator's objects through the loop
  have stat : ∀ {H' : Hp}, (∀ b ∈ fp, H' b = none) -> ∀ b ∈ fp, FpOk X pins H' b := fun hn b hb => ⟨hn b hb, (f2 b hb).2⟩
  refine codeAny_forLoop_any (fun n s' => ∃ i σ' H', Inv X pins σ' H' s' /\ tn i s'.heap /\ (∀ b ∈ fp, H' b = none) /\ W i n σ' H') ?_ m0 ⟨0, σ, H2, I2, st2, fun b hb => (f2 b hb).1, w0⟩
  rintro n s3 ⟨i, σ3, H3, I3, st3, fr3, w3⟩
  rcases turn i n σ3 H3 w3 with ⟨stop, qn⟩ | ⟨go, N, hN, step⟩
  . refine wpAny_passesOwn hp (thn (T.done X rfl rfl rfl hc i pins s3 σ3 H3 X.xe I3 (stat fr3) st3 stop) fun r s4 ⟨hr, I4⟩ => ?_)
    subst hr
    exact wpAny_execs_nil ⟨σ3, H3, I4, qn⟩
  . refine wpAny_passesOwn hp (thn (T.item X rfl rfl rfl hc i pins s3 σ3 H3 X.xe I3 (stat fr3) st3 go) fun r s4 ⟨u, hr, h4⟩ => ?_)
    subst hr
    refine wpAny_passesOwn hp (thn h4 fun _ s5 ⟨x, H5, I5, r5, y5, st5, fr5⟩ => ?_)
    have I5' := I5.pinned (stat fr5) (T.obj _ _ st5)
    refine wpAny_passesOwn hp (thn (hg _ s5 σ3 H5 x u _ I5' r5 (step x H5 y5)) fun _ s6 ⟨σ6, H6, I6, q6⟩ => ?_)
    refine wpAny_passesOwn hp (thn (hb _ s6 σ6 H6 _ I6 q6) fun f s7 q7 => ?_)
    have again : ∀ {σ7 : St} {H7 : Hp}, Inv X (pins ++ pinsAt fp s5.heap) σ7 H7 s7 -> N σ7 H7 -> ∃ m, m < n /\ ∃ i σ' H', Inv X pins σ' H' s7 /\ tn i s7.heap /\ (∀ b ∈ fp, H' b = none) /\ W i m σ' H' := fun {σ7 H7} I7 n7 => by
      obtain ⟨m', hm, w7⟩ := hN σ7 H7 n7
      refine ⟨m', hm, i + 1, σ7, H7, I7.unpinned, T.keep _ _ _ st5 fun b hb o e => (I7.pin (b, o) (List.mem_append_right _ (List.mem_append_right _ (mem_pinsAt hb e)))).1, fun b hb => ?_, w7⟩
      obtain ⟨o, e, d⟩ := T.obj _ _ st5 b hb
      exact (I7.pin (b, o) (List.mem_append_right _ (List.mem_append_right _ (mem_pinsAt hb e)))).2.1
    cases f with
    | next => obtain ⟨σ7, H7, I7, n7⟩ := q7; exact again I7 n7
    | cont => obtain ⟨σ7, H7, I7, n7⟩ := q7; exact again I7 n7
    | brk => obtain ⟨σ7, H7, I7, q7⟩ := q7; exact ⟨σ7, H7, I7.unpinned, q7⟩
    | ret v => obtain ⟨x7, σ7, H7, I7, r7, q7⟩ := q7; exact ⟨x7, σ7, H7, I7.unpinned, r7, q7⟩
end
theorem for_list {K : PySem.W.Frag} {a : Addr} {xs : List V} {g : TG} {tb : TS} {D : Ends} {σ : St} {H : Hp} (Pv : Nat -> St -> Hp -> Prop) (h0 : Pv 0 σ H) (hl : ∀ i σ H, i <= xs.length -> Pv i σ H -> SqL K H a xs)
    (hs : ∀ i x σ H, xs[i]? = some x -> Pv i σ H -> g x σ H fun σ2 H2 => tb { D with nx := Pv (i + 1), ct := Pv (i + 1), bk := D.nx } σ2 H2) (hd : ∀ σ H, Pv xs.length σ H -> D.nx σ H) :
    ∃ W : Nat -> Nat -> St -> Hp -> Prop, (∃ m, W 0 m σ H) /\ ∀ i m σ H, W i m σ H ->
      ((Itl K a).stop i H /\ D.nx σ H) \/ ((Itl K a).go i H /\ ∃ N : St -> Hp -> Prop, (∀ σ' H', N σ' H' -> ∃ m', m' < m /\ W (i + 1) m' σ' H') /\ ∀ x H', (Itl K a).yld i H x H' -> g x σ H' fun σ2 H2 => tb { D with nx := N, ct := N, bk := D.nx } σ2 H2) := by
  refine ⟨fun i m σ H => m = xs.length - i /\ i <= xs.length /\ Pv i σ H, ⟨xs.length, by simp, Nat.zero_le _, h0⟩, ?_⟩
  rintro i m σ H ⟨rfl, hi, p⟩
  have q := hl i σ H hi p
  by_cases hlt : i < xs.length
  . refine .inr ⟨⟨xs, xs[i], q, by simp [hlt]⟩, Pv (i + 1), fun σ' H' p' => ⟨xs.length - (i + 1), by omega, rfl, hlt, p'⟩, fun x H' y => ?_⟩
    obtain ⟨e, y⟩ := y
    subst e
    exact hs i x σ _ (y xs q) p
  . have e : i = xs.length := by omega
    subst e
    exact .inl ⟨⟨xs, q, Nat.le_refl _⟩, hd σ H p⟩
theorem for_tup {K : PySem.W.Frag} {a : Addr} {xs : List V} {g : TG} {tb : TS} {D : Ends} {σ : St} {H : Hp} (Pv : Nat -> St -> Hp -> Prop) (h0 : Pv 0 σ H) (hl : ∀ i σ H, i <= xs.length -> Pv i σ H -> SqT K H a xs)
    (hs : ∀ i x σ H, xs[i]? = some x -> Pv i σ H -> g x σ H fun σ2 H2 => tb { D with nx := Pv (i + 1), ct := Pv (i + 1), bk := D.nx } σ2 H2) (hd : ∀ σ H, Pv xs.length σ H -> D.nx σ H) :
    ∃ W : Nat -> Nat -> St -> Hp -> Prop, (∃ m, W 0 m σ H) /\ ∀ i m σ H, W i m σ H ->
      ((Itt K a).stop i H /\ D.nx σ H) \/ ((Itt K a).go i H /\ ∃ N : St -> Hp -> Prop, (∀ σ' H', N σ' H' -> ∃ m', m' < m /\ W (i + 1) m' σ' H') /\ ∀ x H', (Itt K a).yld i H x H' -> g x σ H' fun σ2 H2 => tb { D with nx := N, ct := N, bk := D.nx } σ2 H2) := by
  refine ⟨fun i m σ H => m = xs.length - i /\ i <= xs.length /\ Pv i σ H, ⟨xs.length, by simp, Nat.zero_le _, h0⟩, ?_⟩
  rintro i m σ H ⟨rfl, hi, p⟩
  have q := hl i σ H hi p
  by_cases hlt : i < xs.length
  . refine .inr ⟨⟨xs, xs[i], q, by simp [hlt]⟩, Pv (i + 1), fun σ' H' p' => ⟨xs.length - (i + 1), by omega, rfl, hlt, p'⟩, fun x H' y => ?_⟩
    obtain ⟨e, y⟩ := y
    subst e
    exact hs i x σ _ (y xs q) p
  . have e : i = xs.length := by omega
    subst e
    exact .inl ⟨⟨xs, q, Nat.le_refl _⟩, hd σ H p⟩
theorem for_range {lo : Int} {n : Nat} {g : TG} {tb : TS} {D : Ends} {σ : St} {H : Hp} (Pv : Nat -> St -> Hp -> Prop) (h0 : Pv 0 σ H)
    (hs : ∀ i σ H, i < n -> Pv i σ H -> g (.int (lo + i)) σ H fun σ2 H2 => tb { D with nx := Pv (i + 1), ct := Pv (i + 1), bk := D.nx } σ2 H2) (hd : ∀ σ H, Pv n σ H -> D.nx σ H) :
    ∃ W : Nat -> Nat -> St -> Hp -> Prop, (∃ m, W 0 m σ H) /\ ∀ i m σ H, W i m σ H ->
      ((Itr lo n).stop i H /\ D.nx σ H) \/ ((Itr lo n).go i H /\ ∃ N : St -> Hp -> Prop, (∀ σ' H', N σ' H' -> ∃ m', m' < m /\ W (i + 1) m' σ' H') /\ ∀ x H', (Itr lo n).yld i H x H' -> g x σ H' fun σ2 H2 => tb { D with nx := N, ct := N, bk := D.nx } σ2 H2) := by
  refine ⟨fun i m σ H => m = n - i /\ i <= n /\ Pv i σ H, ⟨n, by simp, Nat.zero_le _, h0⟩, ?_⟩
  rintro i m σ H ⟨rfl, hi, p⟩
  by_cases hlt : i < n
  . refine .inr ⟨hlt, Pv (i + 1), fun σ' H' p' => ⟨n - (i + 1), by omega, rfl, hlt, p'⟩, fun x H' y => ?_⟩
    obtain ⟨e, y⟩ := y
    subst e y
    exact hs i σ _ hlt p
  . have e : i = n := by omega
    subst e
    exact .inl ⟨Nat.le_refl _, hd σ H p⟩
end L2
namespace L2
open PySem PySem.Spec PyProof.Rows
abbrev R2 := V -> V -> Hp -> VK -> Prop
def OpR (X : Cx) (f : Value -> Value -> Sem Value) (r : R2) : Prop :=
  ∀ (pins : List (Addr × Obj)) (s : Shared) (σ : St) (H : Hp) (x y : V) (v u : Value) (Q : VK), Inv X pins σ H s -> RelV x v -> RelV y u -> r x y H Q ->
    wpAny (model X.prog X.w) X.A (f v u) (EP X pins σ Q) X.xe s
def CallR (X : Cx) (f : Value) (r : List V -> Hp -> VK -> Prop) : Prop :=
  ∀ (pins : List (Addr × Obj)) (s : Shared) (σ : St) (H : Hp) (xs : List V) (us : List Value) (Q : VK), Inv X pins σ H s -> Vals xs us -> r xs H Q ->
    wpAny (model X.prog X.w) X.A (call f us) (EP X pins σ Q) X.xe s
def tOp (r : R2) (ta tb : TE) : TE := fun σ H Q => ta σ H fun x H1 => tb σ H1 fun y H2 => r x y H2 Q
def rI (C : Int -> Int -> Prop) (g : Int -> Int -> V) : R2 := fun x y H Q => ∃ i j, x = .int i /\ y = .int j /\ C i j /\ Q (g i j) H
def rI0 (g : Int -> Int -> V) : R2 := fun x y H Q => ∃ i j, x = .int i /\ y = .int j /\ Q (g i j) H
section
variable {X : Cx} {a b c : Expr} {ta tb tc : TE} {pos : Pos}
theorem binT (ha : PE X a ta) (hb : PE X b tb) {pins : List (Addr × Obj)} {s : Shared} {σ : St} {H : Hp} {R : V -> V -> Hp -> Prop} (I : Inv X pins σ H s)
    (h : ta σ H fun x H1 => tb σ H1 fun y H2 => R x y H2) {Q : Value -> Shared -> Prop} {f : Value -> Value -> Sem Value}
    (hf : ∀ v u s2 x y H2, Inv X pins σ H2 s2 -> RelV x v -> RelV y u -> R x y H2 -> wpAny (model X.prog X.w) X.A (f v u) Q X.xe s2) :
    wpAny (model X.prog X.w) X.A (eval a X.env) (fun v s₁ => wpAny (model X.prog X.w) X.A (eval b X.env) (fun u s₂ => wpAny (model X.prog X.w) X.A (f v u) Q X.xe s₂) X.xe s₁) X.xe s := by
  refine thn (ha pins s σ H _ I h) fun v s1 ⟨x, H1, I1, r1, q1⟩ => ?_
  refine thn (hb pins s1 σ H1 _ I1 q1) fun u s2 ⟨y, H2, I2, r2, q2⟩ => ?_
  exact hf v u s2 x y H2 I2 r1 r2 q2
theorem pe_op {op : Operator} {r : R2} (ho : OpR X (binaryOp op) r) (ha : PE X a ta) (hb : PE X b tb) : PE X (.BinOp a op b pos) (tOp r ta tb) := by
  intro pins s σ H Q I h
  exact wpAny_BinOp (binT ha hb I h fun v u s2 x y H2 I2 rx ry q => ho pins s2 σ H2 x y v u Q I2 rx ry q)
theorem opI {f : Value -> Value -> Sem Value} {C : Int -> Int -> Prop} {g : Int -> Int -> Int}
    (rule : ∀ (i j : Int) (t u : Tok) (s : Shared) (Q : Value -> Shared -> Prop) (E : Value -> Shared -> Prop), C i j -> Q (.int (g i j) s.toks) { s with toks := s.toks + 1 } -> wpAny (model X.prog X.w) X.A (f (.int i t) (.int j u)) Q E s) :
    OpR X f (rI C fun i j => .int (g i j)) := by
  intro pins s σ H x y v u Q I rx ry h
  obtain ⟨i, j, rfl, rfl, hc, q⟩ := h
  obtain ⟨t, rfl⟩ := rx
  obtain ⟨t', rfl⟩ := ry
  exact rule i j t t' s _ _ hc ⟨.int (g i j), H, I.tok _, ⟨_, rfl⟩, q⟩
theorem opI0 {f : Value -> Value -> Sem Value} {g : Int -> Int -> Int}
    (rule : ∀ (i j : Int) (t u : Tok) (s : Shared) (Q : Value -> Shared -> Prop) (E : Value -> Shared -> Prop), Q (.int (g i j) s.toks) { s with toks := s.toks + 1 } -> wpAny (model X.prog X.w) X.A (f (.int i t) (.int j u)) Q E s) :
    OpR X f (rI0 fun i j => .int (g i j)) := by
  intro pins s σ H x y v u Q I rx ry h
  obtain ⟨i, j, rfl, rfl, q⟩ := h
  obtain ⟨t, rfl⟩ := rx
  obtain ⟨t', rfl⟩ := ry
  exact rule i j t t' s _ _ ⟨.int (g i j), H, I.tok _, ⟨_, rfl⟩, q⟩
theorem opB0 {f : Value -> Value -> Sem Value} {g : Int -> Int -> Bool}
    (rule : ∀ (i j : Int) (t u : Tok) (s : Shared) (Q : Value -> Shared -> Prop) (E : Value -> Shared -> Prop), Q (.bool (g i j)) s -> wpAny (model X.prog X.w) X.A (f (.int i t) (.int j u)) Q E s) :
    OpR X f (rI0 fun i j => .bl (g i j)) := by
  intro pins s σ H x y v u Q I rx ry h
  obtain ⟨i, j, rfl, rfl, q⟩ := h
  obtain ⟨t, rfl⟩ := rx
  obtain ⟨t', rfl⟩ := ry
  exact rule i j t t' s _ _ ⟨.bl (g i j), H, I, rfl, q⟩
def CDiv (i j : Int) : Prop := 0 < j /\ j < 1073741824
def CMul (i j : Int) : Prop := (-(2 ^ 64) < i /\ i < 2 ^ 64) \/ (-(2 ^ 64) < j /\ j < 2 ^ 64)
theorem CMul.ok {i j : Int} (h : CMul i j) : IntMulOk i j := by
  rcases h with ⟨h1, h2⟩ | ⟨h1, h2⟩
  . exact .of_left (intBits_le_64 h1 h2)
  . exact .of_right (intBits_le_64 h1 h2)
theorem op_add : OpR X (binaryOp .Add) (rI0 fun i j => .int (i + j)) := opI0 fun _ _ _ _ _ _ _ q => add_int q
theorem op_sub : OpR X (binaryOp .Sub) (rI0 fun i j => .int (i - j)) := opI0 fun _ _ _ _ _ _ _ q => sub_int q
theorem op_mul : OpR X (binaryOp .Mult) (rI CMul fun i j => .int (i * j)) := opI fun _ _ _ _ _ _ _ hc q => mul_int q hc.ok
theorem op_fdiv : OpR X (binaryOp .FloorDiv) (rI CDiv fun i j => .int (i / j)) := opI fun i j _ _ _ _ _ hc q => by
  have h1 : (0 : Int) < j := hc.1
  have h2 : j < 1073741824 := hc.2
  exact floordiv_int (by omega) (by rw [Int.fdiv_eq_ediv_of_nonneg i (by omega)]; exact q) (.inl (PyProof.noPylong_small (by omega)))
theorem op_mod : OpR X (binaryOp .Mod) (rI (fun _ j => 0 < j) fun i j => .int (i % j)) := opI fun i j _ _ _ _ _ hc q => by
  have h1 : (0 : Int) < j := hc
  exact mod_int' (by omega) (by rw [Int.fmod_eq_emod_of_nonneg i (by omega)]; exact q)
end
def scal : V -> V -> Bool
  | .non, .non => true | .non, .int _ => true | .int _, .non => true | .non, .bl _ => true | .bl _, .non => true | .non, .str _ => true | .str _, .non => true
  | .int _, .int _ => true | .bl _, .bl _ => true | .str _, .str _ => true | .byt _, .byt _ => true
  | .int _, .str _ => true | .str _, .int _ => true | .bl _, .str _ => true | .str _, .bl _ => true
  | _, _ => false
def rEq : R2 := fun x y H Q => scal x y = true /\ Q (.bl (decide (x = y))) H
def rNe : R2 := fun x y H Q => scal x y = true /\ Q (.bl (!decide (x = y))) H
theorem dec_int {i j : Int} : decide (V.int i = V.int j) = (i == j) := by
  rw [Bool.eq_iff_iff]
  simp
theorem dec_bl {i j : Bool} : decide (V.bl i = V.bl j) = (i == j) := by
  rw [Bool.eq_iff_iff]
  simp
theorem dec_str {i j : Str} : decide (V.str i = V.str j) = (i == j) := by
  rw [Bool.eq_iff_iff]
  simp
theorem dec_byt {i j : Array UInt8} : decide (V.byt i = V.byt j) = (i.toList == j.toList) := by
  rw [Bool.eq_iff_iff]
  cases i
  cases j
  simp
section
variable {X : Cx} {a b c : Expr} {ta tb tc : TE} {pos : Pos}
theorem fin_bl {pins : List (Addr × Obj)} {σ : St} {H : Hp} {s : Shared} {Q : VK} {k k' : Bool} (I : Inv X pins σ H s) (q : Q (.bl k) H) (e : k = k') : EP X pins σ Q (.bool k') s := by
  subst e
  exact ⟨.bl k, H, I, rfl, q⟩
theorem op_eq : OpR X (compareOp .Eq) rEq := by
  intro pins s σ H x y v u Q I rx ry h
  obtain ⟨hs, q⟩ := h
  cases x with
  | non =>
    cases rx
    cases y with
    | non => cases ry; exact PySem.EqNone.eq_none_none (fin_bl I q (by simp))
    | bl j => cases ry; exact PySem.EqNone.eq_none_bool (fin_bl I q (by simp))
    | int j => obtain ⟨t', rfl⟩ := ry; exact PySem.EqNone.eq_none_int (fin_bl I q (by simp))
    | str j => obtain ⟨t', rfl⟩ := ry; exact PySem.EqNone.eq_none_str (fin_bl I q (by simp))
    | _ => exact absurd (show false = true from hs) Bool.false_ne_true
  | bl i =>
    cases rx
    cases y with
    | non => cases ry; exact PySem.EqNone.eq_bool_none (fin_bl I q (by simp))
    | bl j => cases ry; exact eq_bool (fin_bl I q dec_bl)
    | str j => obtain ⟨t', rfl⟩ := ry; exact PySem.EqMixed.eq_bool_str (fin_bl I q (by simp))
    | _ => exact absurd (show false = true from hs) Bool.false_ne_true
  | int i =>
    obtain ⟨t, rfl⟩ := rx
    cases y with
    | non => cases ry; exact PySem.EqNone.eq_int_none (fin_bl I q (by simp))
    | int j => obtain ⟨t', rfl⟩ := ry; exact eq_int (fin_bl I q dec_int)
    | str j => obtain ⟨t', rfl⟩ := ry; exact PySem.EqMixed.eq_int_str (fin_bl I q (by simp))
    | _ => exact absurd (show false = true from hs) Bool.false_ne_true
  | str i =>
    obtain ⟨t, rfl⟩ := rx
    cases y with
    | non => cases ry; exact PySem.EqNone.eq_str_none (fin_bl I q (by simp))
    | bl j => cases ry; exact PySem.EqMixed.eq_str_bool (fin_bl I q (by simp))
    | int j => obtain ⟨t', rfl⟩ := ry; exact PySem.EqMixed.eq_str_int (fin_bl I q (by simp))
    | str j => obtain ⟨t', rfl⟩ := ry; exact eq_str (fin_bl I q dec_str)
    | _ => exact absurd (show false = true from hs) Bool.false_ne_true
  | byt i =>
    obtain ⟨t, rfl⟩ := rx
    cases y with
    | byt j => obtain ⟨t', rfl⟩ := ry; exact PySem.W.eq_bytes (fin_bl I q dec_byt)
    | _ => exact absurd (show false = true from hs) Bool.false_ne_true
  | _ => cases y <;> exact absurd (show false = true from hs) Bool.false_ne_true
theorem op_ne : OpR X (compareOp .NotEq) rNe := by
  intro pins s σ H x y v u Q I rx ry h
  obtain ⟨hs, q⟩ := h
  cases x with
  | non =>
    cases rx
    cases y with
    | non => cases ry; exact PySem.EqNone.ne_none_none (fin_bl I q (by simp))
    | bl j => cases ry; exact PySem.EqNone.ne_none_bool (fin_bl I q (by simp))
    | int j => obtain ⟨t', rfl⟩ := ry; exact PySem.EqNone.ne_none_int (fin_bl I q (by simp))
    | str j => obtain ⟨t', rfl⟩ := ry; exact PySem.EqNone.ne_none_str (fin_bl I q (by simp))
    | _ => exact absurd (show false = true from hs) Bool.false_ne_true
  | bl i =>
    cases rx
    cases y with
    | non => cases ry; exact PySem.EqNone.ne_bool_none (fin_bl I q (by simp))
    | bl j => cases ry; exact ne_bool (fin_bl I q (congrArg not dec_bl))
    | str j => obtain ⟨t', rfl⟩ := ry; exact PySem.EqMixed.ne_bool_str (fin_bl I q (by simp))
    | _ => exact absurd (show false = true from hs) Bool.false_ne_true
  | int i =>
    obtain ⟨t, rfl⟩ := rx
    cases y with
    | non => cases ry; exact PySem.EqNone.ne_int_none (fin_bl I q (by simp))
    | int j => obtain ⟨t', rfl⟩ := ry; exact ne_int (fin_bl I q (congrArg not dec_int))
    | str j => obtain ⟨t', rfl⟩ := ry; exact PySem.EqMixed.ne_int_str (fin_bl I q (by simp))
    | _ => exact absurd (show false = true from hs) Bool.false_ne_true
  | str i =>
    obtain ⟨t, rfl⟩ := rx
    cases y with
    | non => cases ry; exact PySem.EqNone.ne_str_none (fin_bl I q (by simp))
    | bl j => cases ry; exact PySem.EqMixed.ne_str_bool (fin_bl I q (by simp))
    | int j => obtain ⟨t', rfl⟩ := ry; exact PySem.EqMixed.ne_str_int (fin_bl I q (by simp))
    | str j => obtain ⟨t', rfl⟩ := ry; exact ne_str (fin_bl I q (congrArg not dec_str))
    | _ => exact absurd (show false = true from hs) Bool.false_ne_true
  | byt i =>
    obtain ⟨t, rfl⟩ := rx
    cases y with
    | byt j => obtain ⟨t', rfl⟩ := ry; exact PySem.W.ne_bytes (fin_bl I q (congrArg not dec_byt))
    | _ => exact absurd (show false = true from hs) Bool.false_ne_true
  | _ => cases y <;> exact absurd (show false = true from hs) Bool.false_ne_true
theorem op_lt : OpR X (compareOp .Lt) (rI0 fun i j => .bl (decide (i < j))) := opB0 fun _ _ _ _ _ _ _ q => lt_int q
theorem op_gt : OpR X (compareOp .Gt) (rI0 fun i j => .bl (decide (j < i))) := opB0 fun _ _ _ _ _ _ _ q => gt_int q
theorem op_isN : OpR X (compareOp .Is) (fun x y H Q => y = .non /\ Q (.bl (decide (x = .non))) H) := by
  intro pins s σ H x y v u Q I rx ry h
  obtain ⟨rfl, q⟩ := h
  cases ry
  refine is_none_gen (fin_bl I q ?_)
  cases x <;> first
    | (cases rx; rfl)
    | (obtain ⟨t, rfl⟩ := rx; rfl)
theorem op_notN : OpR X (compareOp .IsNot) (fun x y H Q => y = .non /\ Q (.bl (!decide (x = .non))) H) := by
  intro pins s σ H x y v u Q I rx ry h
  obtain ⟨rfl, q⟩ := h
  cases ry
  refine isnot_none_gen (fin_bl I q ?_)
  cases x <;> first
    | (cases rx; rfl)
    | (obtain ⟨t, rfl⟩ := rx; rfl)
theorem nomark (b : Expr) {op : CmpOp} (h : op ≠ .In := by decide) (h2 : op ≠ .NotIn := by decide) : behindInMarks op b = false := by
  have e1 : (op == CmpOp.In) = false := by cases op <;> first | rfl | exact absurd rfl h
  have e2 : (op == CmpOp.NotIn) = false := by cases op <;> first | rfl | exact absurd rfl h2
  cases b <;> simp [behindInMarks, e1, e2]
theorem pe_cmpR {op : CmpOp} {r : R2} (ho : OpR X (compareOp op) r) (ha : PE X a ta) (hb : PE X b tb) (hm : behindInMarks op b = false) : PE X (.Compare a [op] [b] pos) (tOp r ta tb) := by
  intro pins s σ H Q I h
  exact wpAny_Compare1 (binT ha hb I h fun v u s2 x y H2 I2 rx ry q => ho pins s2 σ H2 x y v u Q I2 rx ry q) hm
def tTest (t : TE) : TT := fun σ H Q => t σ H fun x H' => ∃ k, x = .bl k /\ Q k H'
theorem pt_cmpR {op : CmpOp} {r : R2} (ho : OpR X (compareOp op) r) (ha : PE X a ta) (hb : PE X b tb) (hm : behindInMarks op b = false) : PT X (.Compare a [op] [b] pos) (tTest (tOp r ta tb)) := by
  intro pins s σ H Q I h
  refine wpAny_isTrue_Compare1 (thn (ha pins s σ H _ I h) fun v s1 ⟨x, H1, I1, r1, q1⟩ => thn (hb pins s1 σ H1 _ I1 q1) fun u s2 ⟨y, H2, I2, r2, q2⟩ =>
    thn (ho pins s2 σ H2 x y v u _ I2 r1 r2 q2) fun c s3 ⟨z, H3, I3, r3, k, e, q3⟩ => ?_) hm
  subst e
  cases r3
  exact wpAny_truthy_bool ⟨H3, I3, q3⟩
theorem line63 : (sizeLine : Nat) < 2 ^ 63 := by rw [sizeLine_eq]; decide
theorem vals1 {x : V} {us : List Value} (r : Vals [x] us) : ∃ u, us = [u] /\ RelV x u := by
  cases r with
  | cons r1 r2 => cases r2; exact ⟨_, rfl, r1⟩
theorem vals2 {x y : V} {us : List Value} (r : Vals [x, y] us) : ∃ u w', us = [u, w'] /\ RelV x u /\ RelV y w' := by
  cases r with
  | cons r1 r2 =>
    cases r2 with
    | cons r3 r4 => cases r4; exact ⟨_, _, rfl, r1, r3⟩
theorem call_min2 (hc : X.calm = true) : CallR X (.builtin "min") (fun xs H Q => ∃ i j, xs = [.int i, .int j] /\ Q (.int (if j < i then j else i)) H) := by
  intro pins s σ H xs us Q I r h
  obtain ⟨i, j, rfl, q⟩ := h
  obtain ⟨u, w', rfl, ⟨t, rfl⟩, ⟨t', rfl⟩⟩ := vals2 r
  refine min_two_ints (I.ok.hd hc) fun h' tk k => ⟨_, H, I.kept k, ?_, q⟩
  by_cases hj : j < i
  . rw [if_pos hj, if_pos hj]; exact ⟨_, rfl⟩
  . rw [if_neg hj, if_neg hj]; exact ⟨_, rfl⟩
end
end L2
namespace L2
open PySem PySem.Spec PyProof.Rows
structure ObjM (h : Heap) (x dx C : Addr) (mA : Str -> Option Value) : Prop where
  obj : h.get? x = some (PySem.W.instObj C dx)
  ns : h.Ns1 dx mA
  ne : dx ≠ x
theorem lookIn_ns {h : Heap} {dx : Addr} {mA : Str -> Option Value} (n : h.Ns1 dx mA) : ∃ od, h.get? dx = some od /\ ∀ name, PySem.W.lookIn name od = some (mA name) := by
  obtain ⟨o, es, ep, ho, hd, hk, _, hm⟩ := n
  refine ⟨o, ho, fun name => ?_⟩
  have e := hm name
  unfold nsFind findBy at e
  rw [<- Array.find?_toList] at e
  unfold PySem.W.lookIn
  rw [hd]
  dsimp only
  split
  . rename_i y q
    rw [q] at e
    exact congrArg some e
  . rename_i q
    rw [q] at e
    have a : es.toList.any (·.refKey) = false := by
      rw [List.any_eq_false]
      intro y hy
      obtain ⟨z, t, hkey⟩ := hk y (Array.mem_toList_iff.mp hy)
      simp [DictEntry.refKey, hkey]
    have a' : ¬ es.toList.any (·.refKey) = true := by rw [a]; exact Bool.false_ne_true
    rw [if_neg a']
    exact congrArg some e
theorem ObjM.look {h : Heap} {x dx C : Addr} {mA : Str -> Option Value} (I : ObjM h x dx C mA) : ∃ od, PySem.W.InstAt h x (PySem.W.instObj C dx) C (some od) /\ ∀ name, PySem.W.lookIn name od = some (mA name) :=
  let ⟨od, ho, hl⟩ := lookIn_ns I.ns
  ⟨od, ⟨I.obj, rfl, rfl, ho⟩, hl⟩
section
variable {prog : Program} {w : World} {A : Around} {E : Value -> Shared -> Prop} {s : Shared} {K : PySem.W.Frag} {x dx C f : Addr} {mA : Str -> Option Value} {name : Str} {v : Value}
end
theorem RelO.some_of {v : V} {o : Option Value} (r : RelO (some v) o) : ∃ u, o = some u /\ RelV v u := by
  cases o with
  | none => exact (show False from r).elim
  | some u => exact ⟨u, rfl, r⟩
section
variable {P : Program} {w : World} {H H' : Hp} {h h' : Heap} {a C dx : Addr} {fs fs' : List (Str × V)}
theorem ins_get (hok : HOk P w H h) (e : H a = some (.ins C dx fs)) : ∃ mA, ObjM h a dx C mA /\ (∀ f, RelO (fs.lookup f) (mA f)) /\ PySem.Within mA (fs.map (·.1)) /\ fs.length <= 1000 /\ H dx = some (.own a) := by
  obtain ⟨d, z, ne, ob, mA, n, r, q⟩ := (show ObjOk P w H h a (.ins C dx fs) from hok a _ e)
  exact ⟨mA, ⟨ob, n, ne⟩, r, q, z, d⟩
end
structure Cls (K : PySem.W.Frag) (C : Addr) : Prop where
  pg : PySem.W.plainGet K C Str.empty = true
  hd : PySem.W.hasDictIn K C = true
  po : PySem.W.plainOver K C = true
  sa : PySem.W.findIn K (.ref C) "__setattr__" = some (some (.builtin "object.__setattr__"))
theorem Cls.get {K : PySem.W.Frag} {C : Addr} (c : Cls K C) (f : Str) : PySem.W.plainGet K C f = true := c.pg
section
variable {X : Cx} {pins : List (Addr × Obj)} {σ : St} {H : Hp} {s : Shared} {a C dx : Addr} {fs : List (Str × V)} {f : Str} {v : V} {A : Around} {E : Value -> Shared -> Prop}
end
section
variable {X : Cx} {o e value : Expr} {f : Str} {pos pos' tpos : Pos} {ta tv : TE}
end
section
variable {X : Cx} {pins : List (Addr × Obj)} {σ : St} {H : Hp} {s : Shared} {A : Around} {E : Value -> Shared -> Prop} {Q : Value -> Shared -> Prop} {c : Value} {b : Bool}
inductive TyOf (K : PySem.W.Frag) (H : Hp) : V -> Value -> Prop where
  | non : TyOf K H .non (.type "NoneType")
  | bl (x : Bool) : TyOf K H (.bl x) (.type "bool")
  | int (i : Int) : TyOf K H (.int i) (.type "int")
  | str (x : Str) : TyOf K H (.str x) (.type "str")
  | flt (x : UInt64) : TyOf K H (.flt x) (.type "float")
  | lst {a : Addr} {xs : List V} (e : H a = some (.lst xs)) : TyOf K H (.ref a) (.type "list")
  | frz {a : Addr} {o : Obj} {xs : List V} (e : H a = some (.frz o (.lst xs))) : TyOf K H (.ref a) (.type "list")
  | tup {a : Addr} {xs : List V} (e : H a = some (.tup xs)) : TyOf K H (.ref a) (.type "tuple")
  | dK {a : Addr} {kvs : List (Key × V)} (e : H a = some (.dK kvs)) : TyOf K H (.ref a) (.type "dict")
  | dT {a : Addr} {kvs : List (List Key × V)} (e : H a = some (.dT kvs)) : TyOf K H (.ref a) (.type "dict")
  | ins {a C dx : Addr} {fs : List (Str × V)} (e : H a = some (.ins C dx fs)) (cl : Cls K C) (ha : PySem.W.findIn K (.ref C) "__class__" = some (some (.builtin "object.__class__")))
      (hn : PySem.W.specialIn K (.builtin "object.__class__") "__get__" = some (some (.builtin "getset_descriptor.__get__"))) (htk : PySem.W.takesIn K (.builtin "object.__class__") = some true)
      (hm : PySem.W.mroIn K C (.type "object") = some true) : TyOf K H (.ref a) (.ref C)
theorem isinst_ok {x : V} {u t : Value} (I : Inv X pins σ H s) (rx : RelV x u) (ty : TyOf X.K H x t) (e : PySem.W.kitOne X.K t c = some b) (h : ∀ tk, Q (.bool b) { s with toks := tk }) :
    wpAny (model X.prog X.w) A (call (.builtin "isinstance") [u, c]) Q E s := by
  cases ty with
  | non => cases (show u = Value.none from rx); exact PySem.W.kia_one PySem.W.kitx_none I.kIn True.intro e (fun z => nomatch z) h
  | bl y => cases (show u = Value.bool y from rx); exact PySem.W.kia_one PySem.W.kitx_bool I.kIn True.intro e (fun z => nomatch z) h
  | int i => obtain ⟨t, q⟩ := (show ∃ t, u = Value.int i t from rx); cases q; exact PySem.W.kia_one PySem.W.kitx_int I.kIn True.intro e (fun z => nomatch z) h
  | str y => obtain ⟨t, q⟩ := (show ∃ t, u = Value.str y t from rx); cases q; exact PySem.W.kia_one PySem.W.kitx_str I.kIn True.intro e (fun z => nomatch z) h
  | flt y => obtain ⟨t, q⟩ := (show ∃ t, u = Value.float y t from rx); cases q; exact PySem.W.kia_one PySem.W.kitx_float I.kIn True.intro e (fun z => nomatch z) h
  | @lst a xs ea =>
    cases (show u = Value.ref a from rx)
    obtain ⟨_, _, n, _, h1⟩ := (show ObjOk X.prog X.w H s.heap a (.lst xs) from I.hok a _ ea)
    exact PySem.W.kia_one PySem.W.kitx_list I.kIn ⟨_, h1, rfl⟩ e (fun z => nomatch z) h
  | @frz a ob xs ea =>
    cases (show u = Value.ref a from rx)
    obtain ⟨_, _, _, n, _, h1⟩ := (show ObjOk X.prog X.w H s.heap a (.frz ob (.lst xs)) from I.hok a _ ea)
    exact PySem.W.kia_one PySem.W.kitx_list I.kIn ⟨_, h1, rfl⟩ e (fun z => nomatch z) h
  | @tup a xs ea =>
    cases (show u = Value.ref a from rx)
    obtain ⟨_, _, _, p⟩ := (show ObjOk X.prog X.w H s.heap a (.tup xs) from I.hok a _ ea)
    obtain ⟨o, h1, h2, _⟩ := p
    exact PySem.W.kia_one PySem.W.kitx_tuple I.kIn ⟨o, h1, h2⟩ e (fun z => nomatch z) h
  | @dK a kvs ea =>
    cases (show u = Value.ref a from rx)
    obtain ⟨_, _, vs, _, p⟩ := (show ObjOk X.prog X.w H s.heap a (.dK kvs) from I.hok a _ ea)
    obtain ⟨o, es, ep, h1, h2, _⟩ := p
    exact PySem.W.kia_one PySem.W.kitx_dict I.kIn ⟨o, h1, h2.1⟩ e (fun z => nomatch z) h
  | @dT a kvs ea =>
    cases (show u = Value.ref a from rx)
    obtain ⟨_, _, xs, _, o, es, ep, h1, h2, _⟩ := (show ObjOk X.prog X.w H s.heap a (.dT kvs) from I.hok a _ ea)
    exact PySem.W.kia_one PySem.W.kitx_dict I.kIn ⟨o, h1, h2.1⟩ e (fun z => nomatch z) h
  | @ins a C dx fs ea cl ha hn htk hm =>
    cases (show u = Value.ref a from rx)
    obtain ⟨mA, O, _⟩ := ins_get I.hok ea
    obtain ⟨od, J, _⟩ := O.look
    exact PySem.W.kia_one (PySem.W.kitx_own (cl.get _) cl.hd ha hn htk hm) I.kIn J e (fun z => nomatch z) h
end
end L2
namespace L2
open PySem PySem.Spec PyProof.Rows
structure Room (k : Nat) (A : Around) : Prop where
  hd : A.handled = none
  dp : A.depth + 3 * k + 5 < recursionLimit
  un : A.units + 16 * k + 200 < cLine
theorem Room.mono {j k : Nat} {A : Around} (r : Room k A) (h : j <= k) : Room j A := ⟨r.hd, by have := r.dp; omega, by have := r.un; omega⟩
theorem Room.deeper {k : Nat} {A : Around} (r : Room (k + 1) A) (env : Env) : Room k (A.deeper env) :=
  ⟨r.hd, by have := r.dp; show A.depth + 1 + 3 * k + 5 < _; omega, by have := r.un; show A.units + 3 + 16 * k + 200 < _; omega⟩
theorem Room.depth {k : Nat} {A : Around} (r : Room k A) : A.depth < recursionLimit := by have := r.dp; omega
theorem Room.units {k : Nat} {A : Around} (r : Room k A) : A.units + 64 < cLine := by have := r.un; omega
def tNil : TA := fun _ H Q => Q [] H
def tCons (ta : TE) (tr : TA) : TA := fun σ H Q => ta σ H fun x H1 => tr σ H1 fun xs H2 => Q (x :: xs) H2
section
variable {X : Cx} {e : Expr} {es : List Expr} {te : TE} {t : TA} {pos : Pos}
theorem pa_nil : PA X [] tNil := fun _ _ _ _ H Q I h => Calls.spliced_nil ⟨[], H, I, .nil, h⟩
theorem pa_cons (ha : PE X e te) (hr : PA X es t) (hs : starEach (e :: es) X.env = (false, eval e X.env) :: starEach es X.env := by rfl) : PA X (e :: es) (tCons te t) := by
  intro pos pins s σ H Q I h
  rw [hs]
  show wpAny _ _ (spliced ((false, eval e X.env) :: backTo pos (starEach es X.env))) _ _ s
  refine Calls.spliced_cons (thn (ha pins s σ H _ I h) fun u s1 ⟨x, H1, I1, r1, q1⟩ => ?_)
  exact thn (hr pos pins s1 σ H1 _ I1 q1) fun us s2 ⟨xs, H2, I2, r2, q2⟩ => ⟨x :: xs, H2, I2, .cons r1 r2, q2⟩
def tTup (t : TA) : TE := fun σ H Q => t σ H fun xs H1 => xs.length <= sizeLine /\ ∀ p, H1 p = none -> Q (.ref p) (upd H1 p (.tup xs))
def tLst (t : TA) : TE := fun σ H Q => t σ H fun xs H1 => xs.length <= sizeLine /\ ∀ p, H1 p = none -> Q (.ref p) (upd H1 p (.lst xs))
theorem pe_tup {x1} (h : PA X es t) : PE X (.Tuple es x1 pos) (tTup t) := by
  intro pins s σ H Q I hq
  refine wpAny_Tuple_spliced (thn (h pos pins s σ H _ I hq) fun us s1 ⟨xs, H1, I1, r, z, q⟩ => ⟨by rw [<- r.length]; exact z, ?_⟩)
  have hf : H1 s1.heap.objs.size = none := I1.hok.fresh (Nat.le_refl _)
  refine ⟨.ref s1.heap.objs.size, upd H1 s1.heap.objs.size (.tup xs), I1.laid (t' := s1.toks) (fun b u e => Heap.get?_push_of_some _ e) (Nat.le_refl _) ?_, rfl, q _ hf⟩
  exact ⟨z, us, r, ⟨_, Heap.get?_push_size _ rfl, rfl, _, rfl⟩⟩
theorem pe_lst (h : PA X es t) : PE X (.List es pos) (tLst t) := by
  intro pins s σ H Q I hq
  refine wpAny_List_spliced (thn (h pos pins s σ H _ I hq) fun us s1 ⟨xs, H1, I1, r, z, q⟩ => ⟨by rw [<- r.length]; exact z, ?_⟩)
  have hf : H1 s1.heap.objs.size = none := I1.hok.fresh (Nat.le_refl _)
  refine ⟨.ref s1.heap.objs.size, upd H1 s1.heap.objs.size (.lst xs), I1.laid (t' := s1.toks) (fun b u e => Heap.get?_push_of_some _ e) (Nat.le_refl _) ?_, rfl, q _ hf⟩
  exact ⟨z, us, 0, r, Heap.get?_push_size _ rfl⟩
end
abbrev Sp := List V -> Hp -> VK -> XK -> Prop
abbrev CXT := List Env -> Hp -> Shared -> XK -> Value -> Shared -> Prop
structure Env0 (P : Program) (w : World) (K : PySem.W.Frag) (mg : Str -> Option Value) (base : Heap) (A : Around) (outer : List Env) (s : Shared) (H : Hp) : Prop where
  frames : A.frames = some outer
  mod : Mod K mg base
  bs : ∀ b o, base.get? b = some o -> s.heap.get? b = some o /\ H b = none
  bsz : base.objs.size <= s.heap.objs.size
  funs : s.heap.FunFrames base outer
  frf : ∀ b ∈ frs outer, H b = none
  hok : HOk P w H s.heap
  bare : AllBare s.gens
def CE (outer : List Env) (P : Program) (w : World) (H : Hp) (s : Shared) (Q : VK) (u : Value) (s' : Shared) : Prop :=
  ∃ v H', s'.os = s.os /\ AllBare s'.gens /\ Un (frs outer) [] H H' s.heap s'.heap /\ HOk P w H' s'.heap /\ RelV v u /\ Q v H'
def CR (CX : CXT) (outer : List Env) (P : Program) (w : World) (H : Hp) (s : Shared) (Q : VK) (E : XK) (r : Result) (s' : Shared) : Prop :=
  match r with
  | .ok (.ret u) => CE outer P w H s Q u s'
  | .ok _ => False
  | .error e => CX outer H s E e s'
structure FnOk (P : Program) (w : World) (K : PySem.W.Frag) (mg : Str -> Option Value) (base : Heap) (CX : CXT) (k : Nat) (f : Addr) (fd : FuncData) (ps : List Str) (sp : Sp) : Prop where
  len : ∀ vs H Q E, sp vs H Q E -> vs.length = ps.length
  run : ∀ (A : Around) (outer : List Env) (s : Shared) (H : Hp) (args : Args) (us : List Value) (vs : List V) (Q : VK) (E : XK), Room k A -> Env0 P w K mg base A outer s H -> BindsTo s fd args (ps.zip us) -> Vals vs us -> sp vs H Q E ->
    codeAny (model P w) A (.call (.ref f) args) (CR CX outer P w H s Q E) s
section
variable {X : Cx} {pins : List (Addr × Obj)} {σ : St} {H : Hp} {s s' : Shared}
theorem Inv.env0 (I : Inv X pins σ H s) : Env0 X.prog X.w X.K X.mg X.base X.A X.stack s H :=
  ⟨I.ok.frames, I.ok.mod, I.bs, Nat.le_trans I.ok.bsz I.sz, I.stack, I.stkFree, I.hok, I.bare⟩
theorem Inv.after {Q : VK} {u : Value} (I : Inv X pins σ H s) (h : CE X.stack X.prog X.w H s Q u s') : EP X pins σ Q u s' := by
  obtain ⟨v, H', os, bare, un, hok, r, q⟩ := h
  obtain ⟨hh, g, d, t, os'⟩ := s'
  obtain rfl : os' = s.os := os
  exact ⟨v, H', I.call (h' := hh) (g' := g) (d' := d) (t' := t) (ch := []) un hok bare (fun b z => absurd z (by simp)), r, q⟩
end
def tCall (sp : Sp) (dvs : List V) (E : XK) (t : TA) : TE := fun σ H Q => t σ H fun vs H1 => sp (vs ++ dvs) H1 Q E
def Binds (K : PySem.W.Frag) (fd : FuncData) (ps : List Str) (ds : List Value) : Prop :=
  ∀ (s : Shared) (us : List Value), K.In s.heap -> (us ++ ds).length = ps.length -> BindsTo s fd ⟨us, []⟩ (ps.zip (us ++ ds))
theorem Binds.all {K : PySem.W.Frag} {fd : FuncData} {ps : List Str} (h : ∀ us : List Value, us.length = ps.length -> bindArgs fd ⟨us, []⟩ = pure (ps.zip us)) : Binds K fd ps [] := fun s us _ hl => by
  rw [List.append_nil] at hl ⊢
  exact .of_eq (h us hl)
def Passes (CX : CXT) (X : Cx) (E : XK) : Prop := ∀ (pins : List (Addr × Obj)) (σ : St) (H : Hp) (s : Shared) (e : Value) (s' : Shared), Inv X pins σ H s -> CX X.stack H s E e s' -> X.xe e s'
section
variable {X : Cx} {CX : CXT} {k : Nat} {f C : Addr} {fd : FuncData} {ps : List Str} {sp : Sp} {dvs : List V} {ds : List Value} {E : XK} {x m : Str} {p pos apos : Pos} {e o : Expr} {es : List Expr} {ta : TE} {t : TA}
theorem run_fn {pins : List (Addr × Obj)} {σ : St} {H : Hp} {s : Shared} {Q : VK} {us : List Value} {vs : List V} (F : FnOk X.prog X.w X.K X.mg X.base CX k f fd ps sp) (hr : Room k X.A) (hb : Binds X.K fd ps ds) (hd : Vals dvs ds) (hx : Passes CX X E)
    (I : Inv X pins σ H s) (r : Vals vs us) (h : sp (vs ++ dvs) H Q E) : wpAny (model X.prog X.w) X.A (call (.ref f) us) (EP X pins σ Q) X.xe s := by
  have r2 : Vals (vs ++ dvs) (us ++ ds) := r.append hd
  have hl : (us ++ ds).length = ps.length := by rw [<- r2.length]; exact F.len _ _ _ _ h
  refine wpAny_call (codeAny_mono (F.run X.A X.stack s H ⟨us, []⟩ (us ++ ds) (vs ++ dvs) Q E hr I.env0 (hb s us I.kIn hl) r2 h) fun r s' hq => ?_)
  cases r with
  | error e => exact hx pins σ H s e s' I hq
  | ok fl =>
    cases fl with
    | ret u => exact I.after hq
    | next => exact False.elim hq
    | brk => exact False.elim hq
    | cont => exact False.elim hq
theorem pe_call (F : FnOk X.prog X.w X.K X.mg X.base CX k f fd ps sp) (hr : Room k X.A) (hg : Gl X x) (hm : X.mg x = some (.ref f)) (hk : PySem.W.keepIn X.K (.ref f) = true) (hb : Binds X.K fd ps ds) (hd : Vals dvs ds) (hx : Passes CX X E)
    (ha : PA X (e :: es) t) (hdb : (x == ("__debug__" : Str)) = false := by decide) (he : starEach (e :: es) X.env = (false, eval e X.env) :: starEach es X.env := by rfl) (hpl : (backTo pos (starEach es X.env)).any (·.1) = false := by rfl) :
    PE X (.Call (.Name x p) (e :: es) [] pos) (tCall sp dvs E t) := by
  intro pins s σ H Q I h
  refine wpAny_Call_Name_kw (ld_glob I hg hm ?_ hdb)
  refine PySem.W.callWith_K (h₀ := X.base) I.ok.mod.kin hk (thn (ha pos pins s σ H _ I h) fun us s1 ⟨vs, H1, I1, r, q⟩ => ⟨I1.kIn, ?_⟩) he hpl
  exact run_fn F hr hb hd hx I1 r q
end
section
variable {X : Cx} {CX : CXT} {k : Nat} {f C : Addr} {fd : FuncData} {ps ks : List Str} {sp : Sp} {E : XK} {x m : Str} {p pos apos kpos : Pos} {e o : Expr} {es : List Expr} {kws : List Keyword} {te ta : TE} {t tk : TA} {nm : Option Str}
variable {g : List Value -> List Value -> List Value} {gV : List V -> List V -> List V}
end
structure FnScope (N P : List Str) (sc : Scope) : Prop where
  kind : sc.kind = .function
  co : sc.isCoroutine = false
  gen : sc.isGenerator = false
  nd : N.Nodup
  pre : N.take P.length = P
  par : ∀ x ∈ P, sc.names.lookup x = some .local \/ sc.names.lookup x = some .cell
  nofree : ∀ y ∈ sc.names, y.2 ≠ .free
theorem bindL_out {kindOf : Str -> Option NameKind} {x : Str} : ∀ {binds : List (Str × Value)} {m : Str -> Option Value}, (∀ v, (x, v) ∉ binds) -> bindL kindOf binds m x = m x
  | [], _, _ => rfl
  | (n, v) :: r, m, h => by
    unfold bindL
    rw [bindL_out fun w hw => h w (List.mem_cons_of_mem _ hw)]
    split
    . have : x ≠ n := by rintro rfl; exact h v List.mem_cons_self
      simp [this]
    . rfl
theorem bindC_out {kindOf : Str -> Option NameKind} {x : Str} : ∀ {binds : List (Str × Value)} {m : Str -> Option Value}, (∀ v, (x, v) ∉ binds) -> bindC kindOf binds m x = m x
  | [], _, _ => rfl
  | (n, v) :: r, m, h => by
    unfold bindC
    rw [bindC_out fun w hw => h w (List.mem_cons_of_mem _ hw)]
    split
    . rfl
    . have : x ≠ n := by rintro rfl; exact h v List.mem_cons_self
      simp [this]
theorem bindL_get {kindOf : Str -> Option NameKind} {x : Str} {v : Value} : ∀ {P : List Str} {vs : List Value} {i : Nat} {m : Str -> Option Value}, P.Nodup -> P[i]? = some x -> vs[i]? = some v -> kindOf x = some .local ->
    bindL kindOf (P.zip vs) m x = some v
  | [], _, _, _, _, h, _, _ => by simp at h
  | _ :: _, [], _, _, _, _, h, _ => by simp at h
  | p :: P, w :: vs, 0, m, nd, h1, h2, hk => by
    simp at h1 h2; subst h1; subst h2
    show bindL kindOf ((p, w) :: P.zip vs) m p = _
    unfold bindL
    rw [bindL_out fun v hv => (List.nodup_cons.mp nd).1 (List.of_mem_zip hv).1, if_pos hk]
    simp
  | p :: P, w :: vs, i + 1, m, nd, h1, h2, hk => by
    show bindL kindOf ((p, w) :: P.zip vs) m x = _
    unfold bindL
    exact bindL_get (i := i) (List.nodup_cons.mp nd).2 (by simpa using h1) (by simpa using h2) hk
theorem bindC_get {kindOf : Str -> Option NameKind} {x : Str} {v : Value} : ∀ {P : List Str} {vs : List Value} {i : Nat} {m : Str -> Option Value}, P.Nodup -> P[i]? = some x -> vs[i]? = some v -> kindOf x ≠ some .local ->
    bindC kindOf (P.zip vs) m x = some v
  | [], _, _, _, _, h, _, _ => by simp at h
  | _ :: _, [], _, _, _, _, h, _ => by simp at h
  | p :: P, w :: vs, 0, m, nd, h1, h2, hk => by
    simp at h1 h2; subst h1; subst h2
    show bindC kindOf ((p, w) :: P.zip vs) m p = _
    unfold bindC
    rw [bindC_out fun v hv => (List.nodup_cons.mp nd).1 (List.of_mem_zip hv).1, if_neg hk]
    simp
  | p :: P, w :: vs, i + 1, m, nd, h1, h2, hk => by
    show bindC kindOf ((p, w) :: P.zip vs) m x = _
    unfold bindC
    exact bindC_get (i := i) (List.nodup_cons.mp nd).2 (by simpa using h1) (by simpa using h2) hk
def start (N : List Str) (vs : List V) : St := vs.map some ++ List.replicate (N.length - vs.length) none
def cxOf (CX : CXT) (P : Program) (w : World) (K : PySem.W.Frag) (mg : Str -> Option Value) (base : Heap) (N : List Str) (qual : Str) (scope : Scope) (f : Addr) (cd : Value) (A : Around) (outer : List Env) (s : Shared) (H : Hp) (E : XK) : Cx where
  prog := P
  w := w
  K := K
  mg := mg
  base := base
  A := A.deeper (envOfC qual scope s.heap.objs.size f cd)
  N := N
  s₀ := s
  H₀ := H
  env := envOfC qual scope s.heap.objs.size f cd
  outer := outer
  stack := envOfC qual scope s.heap.objs.size f cd :: outer
  ex := []
  calm := true
  fn := fun _ => true
  pn := []
  xe := fun e s' => wpAny (model P w) (A.deeper (envOfC qual scope s.heap.objs.size f cd)) (leaving (envOfC qual scope s.heap.objs.size f cd) e) (fun _ s'' => CX outer H s E e s'') (fun e' s'' => CX outer H s E e' s'') s'
theorem cell_has {sc : Scope} {n : Nat} {x : Str} (h : sc.names.lookup x = some .cell) : ∃ c, (cellsFrom n sc.names []).lookup x = some c := by
  have q := PySem.W.cellsFrom_some sc.names n [] (.inl h)
  exact Option.isSome_iff_exists.mp q
theorem inv_start {CX : CXT} {P : Program} {w : World} {K : PySem.W.Frag} {mg : Str -> Option Value} {base : Heap} {N ps : List Str} {qual : Str} {scope : Scope} {f : Addr} {cd : Value} {A : Around} {outer : List Env} {s s1 : Shared} {H : Hp} {E : XK} {us : List Value} {vs : List V}
    (S : FnScope N ps scope) (hd : A.handled = none) (e0 : Env0 P w K mg base A outer s H) (hl : vs.length = ps.length) (r : Vals vs us)
    (x : InCallC s s.heap.objs.size (bindL (envOfC qual scope s.heap.objs.size f cd).kindOf (ps.zip us) fun _ => none) (cellsFrom (s.heap.objs.size + 1) scope.names []) (bindC (envOfC qual scope s.heap.objs.size f cd).kindOf (ps.zip us) fun _ => none) s1) :
    Inv (cxOf CX P w K mg base N qual scope f cd A outer s H E) [] (start N vs) H s1 := by
  have hpl : ps.length <= N.length := by have := congrArg List.length S.pre; rw [List.length_take] at this; omega
  obtain ⟨h1, tk, rfl, hk⟩ := x.done
  have noA : ∀ b : Addr, b ∉ (cxOf CX P w K mg base N qual scope f cd A outer s H E).ex := fun b z => absurd (show b ∈ ([] : List Addr) from z) (by simp)
  refine ⟨⟨e0.mod, S.kind, rfl, rfl, Nat.le_refl _, fun y z c h1 h2 => ?_, fun y hy => ?_, fun y c _ h => ?_, fun _ => hd, Around.frames_deeper e0.frames, .inr ⟨rfl, rfl⟩, fun b z => absurd z (noA b), e0.bs, e0.bsz, fun b _ _ => noA b, fun b z => absurd z (noA b), e0.funs, e0.frf⟩,
    rfl, e0.bare, Un.kept hk, ⟨_, x.toInCall.ns, fun i y v h1 h2 h3 => ?_⟩, fun y c h => ⟨_, x.cell y c h⟩, e0.hok.fresh (Nat.le_refl _), fun y c h => ?_, fun p hp => absurd (show p ∈ ([] : List (Addr × Obj)) from hp) (by simp), e0.hok.kept hk, ?_⟩
  . exact name_of_addr x.apart (PySem.mem_of_lookup h1) (PySem.mem_of_lookup h2)
  . have hy : scope.names.lookup y = some .cell \/ scope.names.lookup y = some .free := hy
    rcases hy with hy | hy
    . exact cell_has hy
    . exact absurd rfl (S.nofree _ (PySem.mem_of_lookup hy))
  . exact Nat.le_of_lt (x.above y c (PySem.mem_of_lookup h))
  . have hi : i < vs.length := by
      unfold start at h2
      by_cases hi : i < vs.length
      . exact hi
      . rw [List.getElem?_append_right (by simpa using hi)] at h2
        rw [List.getElem?_replicate] at h2
        split at h2 <;> cases h2
    have ha : vs[i]? = some v := by
      unfold start at h2
      rw [List.getElem?_append_left (by simpa using hi), List.getElem?_map] at h2
      cases e : vs[i]? with
      | none => rw [e] at h2; cases h2
      | some a => rw [e] at h2; cases h2; rfl
    obtain ⟨u, hu, rv⟩ := r.get ha
    have hp : ps[i]? = some y := by
      rw [<- S.pre, List.getElem?_take_of_lt (by omega)]; exact h1
    have ndP : ps.Nodup := by rw [<- S.pre]; exact S.nd.sublist (List.take_sublist _ _)
    refine ⟨u, rv, ?_⟩
    rcases S.par y (List.mem_of_getElem? hp) with k | k
    . exact .inl ⟨k, bindL_get ndP hp hu k⟩
    . obtain ⟨c, e⟩ := cell_has (n := s.heap.objs.size + 1) k
      refine .inr ⟨.inl k, c, e, ?_⟩
      have q := x.cell y c e
      rw [bindC_get ndP hp hu (by show scope.names.lookup y ≠ _; rw [k]; decide)] at q
      exact q
  . exact e0.hok.fresh (Nat.le_of_lt (x.above y c (PySem.mem_of_lookup h)))
  . unfold start
    show _ = N.length
    rw [List.length_append, List.length_map, List.length_replicate]
    omega
theorem fn_of {CX : CXT} {P : Program} {w : World} {K : PySem.W.Frag} {mg : Str -> Option Value} {base : Heap} {k : Nat} {f : Addr} {name qual : Str} {params : Arguments} {body : List Stmt} {scope : Scope} {dV kV doc pm cdv ct oc : Value} {an od : Option Addr}
    {osl : Array (Option Value)} {N ps : List Str} {sp : Sp} (lk : K.lookup f = some ⟨oc, od, .func (PySem.W.fnOf name qual params body scope dV kV doc pm an cdv ct), osl⟩) (hcd : PySem.W.codeIn K cdv qual = true) (S : FnScope N ps scope)
    (len : ∀ vs H Q E, sp vs H Q E -> vs.length = ps.length)
    (hbody : ∀ (A : Around) (outer : List Env) (s : Shared) (H : Hp) (vs : List V) (Q : VK) (E : XK), Room k (A.deeper (envOfC qual scope s.heap.objs.size f cdv)) -> sp vs H Q E ->
      ∃ t, PSs (cxOf CX P w K mg base N qual scope f cdv A outer s H E) body t /\ t { nx := fun _ H' => Q .non H', rt := Q } (start N vs) H) :
    FnOk P w K mg base CX (k + 1) f (PySem.W.fnOf name qual params body scope dV kV doc pm an cdv ct) ps sp := by
  refine ⟨len, fun A outer s H args us vs Q E hr e0 hb r hsp => ?_⟩
  have hl := len _ _ _ _ hsp
  have KX : K.In s.heap := e0.mod.kin.keeps fun b o e => (e0.bs b o e).1
  have lim : s.heap.NoLimit := e0.mod.nolimit.keeps fun b o e => (e0.bs b o e).1
  have hkind : ∀ y ∈ ps.zip us, scope.names.lookup y.1 = some .local \/ (scope.names.lookup y.1 = some .cell /\ ((cellsFrom (s.heap.objs.size + 1) scope.names []).lookup y.1).isSome = true) := fun ⟨n, v⟩ hy => by
    rcases S.par n (List.of_mem_zip hy).1 with q | q
    . exact .inl q
    . exact .inr ⟨q, PySem.W.cellsFrom_some _ _ _ (.inl q)⟩
  refine codeAny_call_function hr.depth (KX _ _ lk) rfl S.co S.gen rfl (PySem.W.codeRec_of KX hcd) (hb _ _ _ _ ?_)
  refine wpAny_newFunctionEnv_cells S.kind hkind fun env he s1 x => ?_
  subst he
  refine ⟨lim.keeps x.toInCall.keep, codeAny_func ?_⟩
  obtain ⟨t, ht, hq⟩ := hbody A outer s H vs Q E (hr.deeper _) hsp
  have I : Inv (cxOf CX P w K mg base N qual scope f cdv A outer s H E) [] (start N vs) H s1 := inv_start S hr.hd e0 hl r x
  refine wpAny_mono (ht [] s1 (start N vs) H _ I hq) (fun fl s' hs => ?_) fun e s' hs => hs
  have fin : ∀ {σ' : St} {H' : Hp} {v : V} {u : Value}, Inv (cxOf CX P w K mg base N qual scope f cdv A outer s H E) [] σ' H' s' -> RelV v u -> Q v H' -> CE outer P w H s Q u s' :=
    fun {σ' H' v u} J rv q => ⟨v, H', J.os, J.bare, J.base, J.hok, rv, q⟩
  cases fl with
  | ret u =>
    obtain ⟨v, σ', H', J, rv, q⟩ := hs
    exact fin J rv q
  | next =>
    obtain ⟨σ', H', J, q⟩ := hs
    exact fin (v := V.non) (u := Value.none) J rfl q
  | brk =>
    obtain ⟨_, _, _, q⟩ := hs
    exact False.elim q
  | cont =>
    obtain ⟨_, _, _, q⟩ := hs
    exact False.elim q
end L2
namespace L2
open PySem PySem.Spec PyProof.Rows
section
variable {X : Cx} {x : Str} {p pos : Pos} {e : Expr} {es : List Expr} {t : TA} {id T : String} {r : List V -> Hp -> VK -> Prop}
def tCB (r : List V -> Hp -> VK -> Prop) (t : TA) : TE := fun σ H Q => t σ H fun vs H1 => r vs H1 Q
theorem pe_callB (hc : CallR X (.builtin id) r) (hg : Gl X x) (hm : X.mg x = none) (hv : bootBuiltins x = some (.builtin id)) (ha : PA X (e :: es) t) (hn : x ≠ "__name__" := by decide) (hdb : (x == ("__debug__" : Str)) = false := by decide)
    (he : starEach (e :: es) X.env = (false, eval e X.env) :: starEach es X.env := by rfl) (hpl : (backTo pos (starEach es X.env)).any (·.1) = false := by rfl) : PE X (.Call (.Name x p) (e :: es) [] pos) (tCB r t) := by
  intro pins s σ H Q I h
  refine wpAny_Call_Name_kw (ld_blt I hg hm hv ?_ hn hdb)
  exact PyProof.Rows.callWith_builtin1 (thn (ha pos pins s σ H _ I h) fun us s1 ⟨vs, H1, I1, r1, q1⟩ => hc pins s1 σ H1 vs us Q I1 r1 q1) he hpl
theorem pe_callTy (hc : CallR X (.type T) r) (hg : Gl X x) (hm : X.mg x = none) (hv : bootBuiltins x = some (.type T)) (ha : PA X (e :: es) t) (hn : x ≠ "__name__" := by decide) (hdb : (x == ("__debug__" : Str)) = false := by decide)
    (he : starEach (e :: es) X.env = (false, eval e X.env) :: starEach es X.env := by rfl) (hpl : (backTo pos (starEach es X.env)).any (·.1) = false := by rfl) : PE X (.Call (.Name x p) (e :: es) [] pos) (tCB r t) := by
  intro pins s σ H Q I h
  refine wpAny_Call_Name_kw (ld_blt I hg hm hv ?_ hn hdb)
  exact PyProof.Rows.callWith_type1 (thn (ha pos pins s σ H _ I h) fun us s1 ⟨vs, H1, I1, r1, q1⟩ => hc pins s1 σ H1 vs us Q I1 r1 q1) he hpl
end
end L2
namespace HT
open PySem PyProof.Rows
section
open PySem.SeqAt
open PySem.AutoSeq1 (wpAny_loadPart')
open PySem.MeetsSeq PySem.MeetsSeq2 PySem.MeetsSeq3
end
section
variable {prog : Program} {w : World} {A : Around} {E : Value -> Shared -> Prop} {s : Shared}
theorem cat_tup {t b : Addr} {vs ws : List Value} {Q : Value -> Shared -> Prop} (ht : IsTup s.heap t vs.toArray) (hb : IsTup s.heap b ws.toArray) (hv : vs ≠ [])
    (h1 : ws = [] -> Q (.ref t) s) (h2 : ws ≠ [] -> Q (.ref s.heap.objs.size) { s with heap := s.heap.push { cls := .type "tuple", data := .seq (vs ++ ws).toArray } })
    (hsz : vs.length + ws.length <= sizeLine) : wpAny (model prog w) A (binaryOp .Add (.ref t) (.ref b)) Q E s := by
  obtain ⟨⟨cls, dd, data, sl⟩, ho, hc, n, hd⟩ := id ht
  obtain ⟨⟨cls2, dd2, data2, sl2⟩, ho2, hc2, n2, hd2⟩ := id hb
  simp only at hc hd hc2 hd2
  subst hc hd hc2 hd2
  have e : vs.toArray ++ ws.toArray = (vs ++ ws).toArray := by simp
  by_cases hw : ws = []
  . exact concat_meets ⟨_, ho, rfl⟩ ⟨_, ho2, rfl⟩ noFill_tuple_add seq_tuple_add PySem.F.slot_tuple_add PySem.F.entry_tuple_add (PySem.F.args_tuple_add_2 _ _)
      (tuple_addW1 t b vs.toArray ws.toArray n n2 dd dd2 sl sl2 (by simpa using hv) (by simp [hw])) ⟨ho, ho2, h1 hw⟩
  . refine concat_meets ⟨_, ho, rfl⟩ ⟨_, ho2, rfl⟩ noFill_tuple_add seq_tuple_add PySem.F.slot_tuple_add PySem.F.entry_tuple_add (PySem.F.args_tuple_add_2 _ _)
      (tuple_addW2 t b vs.toArray ws.toArray n n2 dd dd2 sl sl2 (by simpa using hv) (by simpa using hw) (by rw [List.size_toArray, List.size_toArray]; exact hsz)) ⟨ho, ho2, ?_⟩
    rw [e]
    exact h2 hw
end
end HT
namespace L2
open PySem PySem.Spec PyProof.Rows
abbrev TO := St -> Hp -> (Option Int -> Hp -> Prop) -> Prop
theorem intsAre_of {ns : List Int} : ∀ {us : List Value}, Vals (ns.map V.int) us -> IntsAre us ns := by
  induction ns with
  | nil => intro us r; rw [List.map_nil] at r; cases r; exact .nil
  | cons n ns ih =>
    intro us r
    rw [List.map_cons] at r
    cases r with
    | cons r1 r2 =>
      obtain ⟨t, e⟩ := r1
      subst e
      exact .cons n t (ih r2)
section
variable {X : Cx} {e : Expr} {te : TE} {lo hi : Option Expr} {tl th : TO} {pos p2 : Pos}
def rCatT (K : PySem.W.Frag) : R2 := fun x y H Q => ∃ a b xs ys, x = .ref a /\ y = .ref b /\ SqT K H a xs /\ SqT K H b ys /\ xs ≠ [] /\ xs.length + ys.length <= sizeLine /\
  (ys = [] -> Q (.ref a) H) /\ (ys ≠ [] -> ∀ p, H p = none -> Q (.ref p) (upd H p (.tup (xs ++ ys))))
theorem Vals.nil_iff {xs : List V} {us : List Value} (r : Vals xs us) : us = [] ↔ xs = [] := by
  cases r with
  | nil => simp
  | cons _ _ => simp
theorem op_catT : OpR X (binaryOp .Add) (rCatT X.K) := by
  intro pins s σ H x y v u Q I rx ry h
  obtain ⟨a, b, xs, ys, rfl, rfl, ha, hb, hx, hz, q1, q2⟩ := h
  cases rx
  cases ry
  obtain ⟨its, r1, p1, _⟩ := I.tuple ha
  obtain ⟨its2, r2, p2, _⟩ := I.tuple hb
  refine HT.cat_tup p1 p2 (fun z => hx (r1.nil_iff.mp z)) (fun z => ⟨.ref a, H, I, rfl, q1 (r2.nil_iff.mp z)⟩) (fun z => ?_) (by rw [<- r1.length, <- r2.length]; exact hz)
  refine ⟨.ref s.heap.objs.size, _, I.laid (t' := s.toks) (o := .tup (xs ++ ys)) (fun b ob q => Heap.get?_push_of_some _ q) (Nat.le_refl _) ?_, rfl, q2 (fun w => z (r2.nil_iff.mpr w)) _ (I.hok.fresh (Nat.le_refl _))⟩
  exact ⟨by rw [List.length_append]; exact hz, _, r1.append r2, IsTup.new _ _⟩
end
end L2
namespace L2
open PySem PySem.Spec PyProof.Rows
def ixN (n : Nat) (i : Int) : Option Nat := if 0 <= i then (if i < n then some i.toNat else none) else if -(n : Int) <= i then some (i + n).toNat else none
def atI {α : Type} (xs : List α) (i : Int) : Option α := (ixN xs.length i).bind fun j => xs[j]?
theorem ixN_seq {n : Nat} {i : Int} {j : Nat} (h : ixN n i = some j) : seqIndex? i n = some j /\ j < n /\ -(n : Int) <= i /\ i < n := by
  unfold ixN at h
  by_cases h0 : 0 <= i
  . rw [if_pos h0] at h
    by_cases h1 : i < n
    . rw [if_pos h1] at h
      have e : i.toNat = j := Option.some.inj h
      exact ⟨by rw [seqIndex_of h0 h1, e], by omega, by omega, h1⟩
    . rw [if_neg h1] at h; cases h
  . rw [if_neg h0] at h
    by_cases h1 : -(n : Int) <= i
    . rw [if_pos h1] at h
      have e : (i + n).toNat = j := Option.some.inj h
      exact ⟨by rw [seqIndex_neg (by omega) h1, e], by omega, h1, by omega⟩
    . rw [if_neg h1] at h; cases h
theorem atI_get {α : Type} {xs : List α} {i : Int} {v : α} (h : atI xs i = some v) : ∃ j, seqIndex? i xs.length = some j /\ xs[j]? = some v /\ j < xs.length /\ -(xs.length : Int) <= i /\ i < xs.length := by
  unfold atI at h
  cases e : ixN xs.length i with
  | none => rw [e] at h; cases h
  | some j =>
    rw [e] at h
    obtain ⟨h1, h2, h3, h4⟩ := ixN_seq e
    exact ⟨j, h1, h, h2, h3, h4⟩
theorem atI_nat {α : Type} {xs : List α} {j : Nat} {v : α} (h : xs[j]? = some v) : atI xs (j : Int) = some v := by
  have hj : j < xs.length := (List.getElem?_eq_some_iff.mp h).1
  have e : ixN xs.length (j : Int) = some j := by
    unfold ixN
    rw [if_pos (by omega), if_pos (by omega)]; simp
  unfold atI; rw [e]; exact h
def PlainIx (b : Expr) : Prop := ∀ o i, subscripted b false o i = operate [o, i] (getItem o i)
def IxR (X : Cx) (r : R2) : Prop :=
  ∀ (value slice : Expr) (pins : List (Addr × Obj)) (s : Shared) (σ : St) (H : Hp) (x y : V) (v u : Value) (Q : VK), Inv X pins σ H s -> RelV x v -> RelV y u -> r x y H Q ->
    subscripted slice false v u = operate [v, u] (getItem v u) -> wpAny (model X.prog X.w) X.A (subscriptTail value slice v u) (EP X pins σ Q) X.xe s
def MtR (X : Cx) (id : String) (r : V -> List V -> Hp -> VK -> Prop) : Prop :=
  ∀ (pins : List (Addr × Obj)) (s : Shared) (σ : St) (H : Hp) (x : V) (xs : List V) (v : Value) (us : List Value) (Q : VK), Inv X pins σ H s -> RelV x v -> Vals xs us -> r x xs H Q ->
    wpAny (model X.prog X.w) X.A (call (.builtin id) (v :: us)) (EP X pins σ Q) X.xe s
section
variable {X : Cx} {a b : Expr} {ta tb : TE} {pos : Pos}
theorem IxR.or {r r' : R2} (h : IxR X r) (h' : IxR X r') : IxR X (fun x y H Q => r x y H Q \/ r' x y H Q) := by
  intro value slice pins s σ H x y v u Q I rx ry q hs
  rcases q with q | q
  . exact h value slice pins s σ H x y v u Q I rx ry q hs
  . exact h' value slice pins s σ H x y v u Q I rx ry q hs
theorem pe_ix {r : R2} (hr : IxR X r) (ha : PE X a ta) (hb : PE X b tb) (hs : PlainIx b) : PE X (.Subscript a b pos) (tOp r ta tb) := by
  intro pins s σ H Q I h
  exact Subscript_ (binT ha hb I h fun v u s2 x y H2 I2 rx ry q => hr a b pins s2 σ H2 x y v u Q I2 rx ry q (hs _ _))
def rIxL (K : PySem.W.Frag) : R2 := fun x y H Q => ∃ p xs i v, x = .ref p /\ y = .int i /\ SqL K H p xs /\ atI xs i = some v /\ Q v H
def rIxT (K : PySem.W.Frag) : R2 := fun x y H Q => ∃ p xs i v, x = .ref p /\ y = .int i /\ SqT K H p xs /\ atI xs i = some v /\ Q v H
theorem ix_list : IxR X (rIxL X.K) := by
  intro value slice pins s σ H x y v u Q I rx ry h hs
  obtain ⟨p, xs, i, z, rfl, rfl, hq, he, q⟩ := h
  cases rx
  obtain ⟨t, rfl⟩ := ry
  obtain ⟨its, r, pl, hz⟩ := I.list hq
  obtain ⟨j, h1, h2, h3, h4, h5⟩ := atI_get he
  obtain ⟨w, ew, rw'⟩ := r.get h2
  have hl := r.length
  have hn := line63
  have fin : EP X pins σ Q w s := ⟨z, H, I, rw', q⟩
  by_cases h0 : 0 <= i
  . have hj : i.toNat = j := by
      rw [seqIndex_of h0 h5] at h1
      exact Option.some.inj h1
    exact item_listR pl.isList h0 (by omega) (by rw [hj]; simpa using ew) fin hs
  . have hj : (i + (its.toArray.size : Int)).toNat = j := by
      rw [seqIndex_neg (by omega) h4] at h1
      rw [List.size_toArray, <- hl]
      exact Option.some.inj h1
    exact subscriptTail_builtinR (x := w) pl.isList.typeIs slot_list_getitem.lookup
      (wpAny_getItem_list_neg (Q := fun r s' => r = w /\ EP X pins σ Q r s') pl.isList (by omega) (by rw [List.size_toArray] <;> omega) (by omega) (by rw [hj]; simpa using ew) ⟨rfl, fin⟩) hs
theorem ix_tup : IxR X (rIxT X.K) := by
  intro value slice pins s σ H x y v u Q I rx ry h hs
  obtain ⟨p, xs, i, z, rfl, rfl, hq, he, q⟩ := h
  cases rx
  obtain ⟨t, rfl⟩ := ry
  obtain ⟨its, r, pl, hz⟩ := I.tuple hq
  obtain ⟨j, h1, h2, h3, h4, h5⟩ := atI_get he
  obtain ⟨w, ew, rw'⟩ := r.get h2
  have hl := r.length
  have hn := line63
  have fin : EP X pins σ Q w s := ⟨z, H, I, rw', q⟩
  exact subscriptTail_builtinR (x := w) pl.typeIs slot_tuple_getitem.lookup
    (getItem_tuple (j := j) (Q := fun r s' => r = w /\ EP X pins σ Q r s') pl (by omega) (by omega) (by rw [List.size_toArray, <- hl]; exact h1) (by simpa using ew) ⟨rfl, fin⟩) hs
theorem mapSeq_set (its : List Value) (n j : Nat) (u : Value) : Obj.mapSeq (·.setIfInBounds j u) { cls := .type "list", data := .seq its.toArray n } = { cls := .type "list", data := .seq (its.set j u).toArray n } := by
  simp [Obj.mapSeq]
theorem Inv.lst {pins : List (Addr × Obj)} {σ : St} {H : Hp} {s : Shared} {p : Addr} {xs : List V} (I : Inv X pins σ H s) (h : H p = some (.lst xs)) :
    ∃ (its : List Value) (n : Nat), Vals xs its /\ s.heap.get? p = some { cls := .type "list", data := .seq its.toArray n } /\ xs.length <= sizeLine := by
  obtain ⟨z, its, n, r, e⟩ := I.hok p _ h
  exact ⟨its, n, r, e, z⟩
theorem Inv.lstUpd {pins : List (Addr × Obj)} {σ : St} {H : Hp} {s : Shared} {p : Addr} {xs ys : List V} {its its' : List Value} {n n' : Nat} {f : Obj -> Obj} (I : Inv X pins σ H s) (h : H p = some (.lst xs))
    (ho : s.heap.get? p = some { cls := .type "list", data := .seq its.toArray n }) (hf : f { cls := .type "list", data := .seq its.toArray n } = { cls := .type "list", data := .seq its'.toArray n' }) (r : Vals ys its') (hz : ys.length <= sizeLine) (t : Nat) :
    Inv X pins σ (upd H p (.lst ys)) { s with heap := s.heap.update p f, toks := t } := by
  have e : (s.heap.update p f).get? p = some { cls := .type "list", data := .seq its'.toArray n' } := by
    rw [Heap.get?_update_self f ho (by rw [hf] <;> rfl), hf]
  refine I.write (x := p) (e := p) (by rw [h]; trivial) (.inl rfl) (fun b u hb q => (Heap.get?_update_other _ _ (Ne.symm hb)).trans q) ⟨_, e⟩ ?_
  exact ⟨hz, its', n', r, e⟩
def rSetL : V -> V -> V -> Hp -> (Hp -> Prop) -> Prop := fun o i v H Q => ∃ p xs k j, o = .ref p /\ i = .int k /\ H p = some (.lst xs) /\ ixN xs.length k = some j /\ Q (upd H p (.lst (xs.set j v)))
theorem set_list : PSet X rSetL := by
  intro pins s σ H o i v ov iv u Q I ro ri rv h
  obtain ⟨p, xs, k, j, rfl, rfl, hp, hj, q⟩ := h
  cases ro
  obtain ⟨t, rfl⟩ := ri
  obtain ⟨its, n, r, ho, hz⟩ := I.lst hp
  obtain ⟨h1, h2, h3, h4⟩ := ixN_seq hj
  have hl := r.length
  have hn := line63
  have I' : Inv X pins σ (upd H p (.lst (xs.set j v))) { s with heap := s.heap.update p (Obj.mapSeq (·.setIfInBounds j u)) } :=
    I.lstUpd hp ho (mapSeq_set its n j u) (r.set rv j) (by rw [List.length_set]; exact hz) s.toks
  by_cases h0 : 0 <= k
  . have hk : k.toNat = j := by
      rw [seqIndex_of h0 h4] at h1
      exact Option.some.inj h1
    exact PySem.W.ki_setAt ho h0 (by omega) (by rw [List.size_toArray, <- hl]; exact h4) (by rw [hk]; exact ⟨_, I', q⟩)
  . have hk : (k + (its.toArray.size : Int)).toNat = j := by
      rw [seqIndex_neg (by omega) h3] at h1
      rw [List.size_toArray, <- hl]
      exact Option.some.inj h1
    exact PySem.W.ki_setBack ho (by omega) (by rw [List.size_toArray, <- hl]; exact h3) (by omega) (by rw [hk]; exact ⟨_, I', q⟩)
theorem call_len_seq : CallR X (.builtin "len") (fun xs H Q => ∃ p ys, xs = [.ref p] /\ (SqL X.K H p ys \/ SqT X.K H p ys) /\ Q (.int ys.length) H) := by
  intro pins s σ H xs us Q I r h
  obtain ⟨p, ys, rfl, hq, q⟩ := h
  obtain ⟨u, rfl, rx⟩ := vals1 r
  cases rx
  have hn := line63
  rcases hq with hq | hq
  . obtain ⟨its, r', pl, hz⟩ := I.list hq
    have hlen := r'.length
    exact Calls.call_len_list pl.isList (by simp only [List.size_toArray] <;> omega) ⟨.int ys.length, H, I.tok _, ⟨s.toks + 1, by rw [List.size_toArray, hlen]⟩, q⟩
  . obtain ⟨its, r', pl, hz⟩ := I.tuple hq
    have hlen := r'.length
    exact len_tuple pl (by simp only [List.size_toArray] <;> omega) ⟨.int ys.length, H, I.tok _, ⟨s.toks + 1, by rw [List.size_toArray, hlen]⟩, q⟩
theorem CallR.or {f : Value} {r r' : List V -> Hp -> VK -> Prop} (h : CallR X f r) (h' : CallR X f r') : CallR X f (fun xs H Q => r xs H Q \/ r' xs H Q) := by
  intro pins s σ H xs us Q I rs q
  rcases q with q | q
  . exact h pins s σ H xs us Q I rs q
  . exact h' pins s σ H xs us Q I rs q
theorem call_list_of : CallR X (.type "list") (fun xs H Q => ∃ p ys, xs = [.ref p] /\ (SqL X.K H p ys \/ SqT X.K H p ys) /\ ∀ l, H l = none -> Q (.ref l) (upd H l (.lst ys))) := by
  intro pins s σ H xs us Q I r h
  obtain ⟨p, ys, rfl, hq, q⟩ := h
  obtain ⟨u, rfl, rx⟩ := vals1 r
  cases rx
  have fin : ∀ (its : List Value), Vals ys its -> ys.length <= sizeLine -> ∀ (h' : Heap) (c' : Nat), (∀ b o', s.heap.get? b = some o' -> h'.get? b = some o') ->
      h'.get? s.heap.objs.size = some { cls := .type "list", dict := none, data := .seq its.toArray c', slots := #[] } -> EP X pins σ Q (.ref s.heap.objs.size) { s with heap := h' } := fun its r' hz h' c' kp e =>
    ⟨.ref s.heap.objs.size, _, I.laid (t' := s.toks) kp (Nat.le_refl _) (show ObjOk X.prog X.w _ h' _ (.lst ys) from ⟨hz, its, c', r', e⟩), rfl, q _ (I.hok.fresh (Nat.le_refl _))⟩
  rcases hq with hq | hq
  . obtain ⟨its, r', pl, hz⟩ := I.list hq
    have hlen := r'.length
    obtain ⟨o, ho, hc, n, hd⟩ := pl.isList
    exact call_list_seq p (.inl rfl) ho hc hd (fun h' c' kp e => fin its r' hz h' c' kp e) (by simp only [List.size_toArray] <;> omega)
  . obtain ⟨its, r', pl, hz⟩ := I.tuple hq
    have hlen := r'.length
    obtain ⟨o, ho, hc, n, hd⟩ := pl
    exact call_list_seq p (.inr rfl) ho hc hd (fun h' c' kp e => fin its r' hz h' c' kp e) (by simp only [List.size_toArray] <;> omega)
theorem call_tuple_of : CallR X (.type "tuple") (fun xs H Q => ∃ p ys, xs = [.ref p] /\ ((SqL X.K H p ys /\ ∀ l, H l = none -> Q (.ref l) (upd H l (.tup ys))) \/ (SqT X.K H p ys /\ Q (.ref p) H))) := by
  intro pins s σ H xs us Q I r h
  obtain ⟨p, ys, rfl, h⟩ := h
  obtain ⟨u, rfl, rx⟩ := vals1 r
  cases rx
  rcases h with ⟨hq, q⟩ | ⟨hq, q⟩
  . obtain ⟨its, r', pl, hz⟩ := I.list hq
    have hlen := r'.length
    refine call_tuple_list pl.isList (fun h' kp => ?_) (by simp only [List.size_toArray] <;> omega)
    have I1 : Inv X pins σ H { s with heap := h' } := I.kept (t' := s.toks) kp
    have I2 : Inv X pins σ (upd H h'.objs.size (.tup ys)) { s with heap := h'.push { cls := .type "tuple", data := .seq its.toArray } } :=
      I1.laid (t' := s.toks) (fun b o e => Heap.get?_push_of_some _ e) (Nat.le_refl _) (show ObjOk X.prog X.w _ _ _ (.tup ys) from ⟨hz, its, r', IsTup.new _ _⟩)
    exact ⟨.ref h'.objs.size, _, I2, rfl, q _ (I1.hok.fresh (Nat.le_refl _))⟩
  . obtain ⟨its, r', pl, hz⟩ := I.tuple hq
    exact call_tuple_same pl ⟨.ref p, H, I, rfl, q⟩
def tyV (K : PySem.W.Frag) (T : String) (x : V) (H : Hp) : Prop := match x with
  | .str _ => T = "str"
  | .int _ => T = "int"
  | .ref p => (T = "list" /\ ∃ xs, SqL K H p xs) \/ (T = "tuple" /\ ∃ o, K.lookup p = some o /\ o.cls = .type "tuple" /\ o.dict = none) \/
      (T = "dict" /\ ((∃ kvs, H p = some (.dK kvs)) \/ ∃ kvs, H p = some (.dT kvs))) \/ (T = "set" /\ ∃ S n, H p = some (.set S n))
  | _ => False
theorem tyV_is {pins : List (Addr × Obj)} {σ : St} {H : Hp} {s : Shared} {T : String} {x : V} {v : Value} (I : Inv X pins σ H s) (r : RelV x v) (ty : tyV X.K T x H) :
    s.TypeIs v T /\ ∀ a, v = .ref a -> ∃ ob, s.heap.get? a = some ob /\ ob.dict = none := by
  cases x with
  | str z =>
    obtain ⟨t, rfl⟩ := r
    cases (show T = "str" from ty)
    exact ⟨typeIs_str s z t, fun _ e => nomatch e⟩
  | int i =>
    obtain ⟨t, rfl⟩ := r
    cases (show T = "int" from ty)
    exact ⟨typeIs_int s i t, fun _ e => nomatch e⟩
  | ref p =>
    cases r
    rcases ty with ⟨rfl, xs, hq⟩ | ⟨rfl, o, hk, hc, hd⟩ | ⟨rfl, hk⟩ | ⟨rfl, S, n, hk⟩
    . obtain ⟨its, _, pl, _⟩ := I.list hq
      refine ⟨pl.isList.typeIs, fun a e => ?_⟩
      cases e
      obtain ⟨o, n, e, c, hd, _⟩ := pl
      exact ⟨o, e, hd⟩
    . refine ⟨⟨o, I.kIn p o hk, hc⟩, fun a e => ?_⟩
      cases e
      exact ⟨o, I.kIn _ o hk, hd⟩
    . have z : ∃ o, s.heap.get? p = some o /\ o.ExactDict := by
        rcases hk with ⟨kvs, hk⟩ | ⟨kvs, hk⟩
        . obtain ⟨_, _, _, _, o, _, _, e, ex, _⟩ := I.hok p _ hk
          exact ⟨o, e, ex⟩
        . obtain ⟨_, _, _, _, o, _, _, e, ex, _⟩ := I.hok p _ hk
          exact ⟨o, e, ex⟩
      obtain ⟨o, e, ex⟩ := z
      refine ⟨⟨o, e, ex.1⟩, fun a e2 => ?_⟩
      cases e2
      exact ⟨o, e, ex.2.1⟩
    . obtain ⟨o, _, _, _, e, ex, _⟩ := I.hok p _ hk
      refine ⟨⟨o, e, ex.1⟩, fun a e2 => ?_⟩
      cases e2
      exact ⟨o, e, ex.2.1⟩
  | _ => exact False.elim ty
def tBM (K : PySem.W.Frag) (T : String) (r : V -> List V -> Hp -> VK -> Prop) (to : TE) (t : TA) : TE := fun σ H Q => to σ H fun x H1 => tyV K T x H1 /\ t σ H1 fun xs H2 => r x xs H2 Q
variable {o e : Expr} {es : List Expr} {to : TE} {t : TA} {name : Str} {apos cpos : Pos} {T id : String} {r : V -> List V -> Hp -> VK -> Prop}
theorem pe_bm (pa : PlainAttrs T) (slot : Slot T name id) (hty : typeOf (.builtin id) = pure (.type "method_descriptor")) (hm : MtR X id r) (ho : PE X o to) (ha : PA X (e :: es) t)
    (hbase : attributeBase o name X.env (eval o X.env) = eval o X.env := by rfl)
    (hfew : ((backTo cpos (starEach (e :: es) X.env)).all (fun x => !x.1) && (backToKw cpos (keywordEach [] X.env)).all (fun x => x.1.isSome)
      && decide ((e :: es).length + ([] : List Keyword).length + (if ([] : List Keyword).isEmpty then 0 else 1) < 30)) = true := by rfl)
    (hline : (apos.endLine == cpos.line) = true := by rfl) (hs : starEach (e :: es) X.env = (false, eval e X.env) :: starEach es X.env := by rfl) (hplain : (backTo cpos (starEach es X.env)).any (·.1) = false := by rfl) :
    PE X (.Call (.Attribute o name apos) (e :: es) [] cpos) (tBM X.K T r to t) := by
  intro pins s σ H Q I h
  refine wpAny_Call_method_late hbase hfew hline rfl (thn (ho pins s σ H _ I h) fun v s1 ⟨x, H1, I1, r1, ty, q1⟩ => ?_)
  obtain ⟨h1, h2⟩ := tyV_is I1 r1 ty
  refine ⟨T, id, pa, slot, hty, h1, h2, ?_⟩
  have hA := ha cpos pins s1 σ H1 _ I1 q1
  rw [hs] at hA ⊢
  refine Calls.callWith_builtin (by show (false || (backTo cpos (starEach es X.env)).any (·.1)) = false; rw [hplain] <;> rfl) (Calls.evalArgs_plain ?_)
  exact thn hA fun us s2 ⟨vs, H2, I2, r2, q2⟩ => hm pins s2 σ H2 x vs v us Q I2 r1 r2 q2
/- xs.append(e), list.index on a module's tuple .. are MtR facts of 06m -/
end
end L2
namespace L2
open PySem PySem.Spec PyProof.Rows
def MtM (X : Cx) (id : String) (r : V -> List V -> Hp -> VK -> Prop) : Prop :=
  ∀ (pins : List (Addr × Obj)) (s : Shared) (σ : St) (H : Hp) (x : V) (xs : List V) (v : Value) (us : List Value) (Q : VK), Inv X pins σ H s -> RelV x v -> Vals xs us -> r x xs H Q ->
    wpAny (model X.prog X.w) X.A (call (.builtin id) (v :: us)) (EP X pins σ Q) X.xe s
theorem Vals.one : ∀ {x : V} {us : List Value}, Vals [x] us -> ∃ u, us = [u] /\ RelV x u
  | _, _, .cons r .nil => ⟨_, rfl, r⟩
theorem Vals.reverse {xs : List V} {us : List Value} (h : Vals xs us) : Vals xs.reverse us.reverse := by
  induction h with
  | nil => exact .nil
  | cons r t ih => rw [List.reverse_cons, List.reverse_cons]; exact Vals.append ih (.cons r .nil)
theorem Vals.rep {xs : List V} {us : List Value} (h : Vals xs us) : ∀ k : Nat, Vals (List.replicate k xs).flatten (List.replicate k us).flatten
  | 0 => .nil
  | k + 1 => by
    rw [List.replicate_succ, List.replicate_succ, List.flatten_cons, List.flatten_cons]
    exact Vals.append h (Vals.rep h k)
theorem foldl_rep (its : List Value) : ∀ (k : Nat) (acc : List Value),
    List.foldl (fun x1 x2 => x1 ++ x2) acc.toArray (List.replicate k its.toArray) = (acc ++ (List.replicate k its).flatten).toArray
  | 0, acc => by simp
  | k + 1, acc => by
    have e : acc.toArray ++ its.toArray = (acc ++ its).toArray := by simp
    have e2 : (acc ++ its) ++ (List.replicate k its).flatten = acc ++ (List.replicate (k + 1) its).flatten := by
      rw [List.replicate_succ, List.flatten_cons, List.append_assoc]
    rw [<- e2, <- foldl_rep its k (acc ++ its), <- e, List.replicate_succ, List.foldl_cons]
section
variable {X : Cx} {pins : List (Addr × Obj)} {σ : St} {H : Hp} {s : Shared} {l b : Addr} {xs ys zs : List V}
theorem Inv.lset {its its' : List Value} {n : Nat} {f : Array Value -> Array Value} {t' : Nat} (I : Inv X pins σ H s) (hH : H l = some (.lst xs))
    (e : s.heap.get? l = some { cls := .type "list", data := .seq its.toArray n }) (hf : f its.toArray = its'.toArray) (hv : Vals ys its') (hz : ys.length <= sizeLine) :
    Inv X pins σ (upd H l (.lst ys)) { s with heap := s.heap.update l (Obj.mapSeq f), toks := t' } := by
  have q := PySem.IsL.update e f
  rw [hf] at q
  refine I.write (x := l) (e := l) (by rw [hH]; exact trivial) (.inl rfl) (fun b' u hb hu => (Heap.get?_update_other s.heap (Obj.mapSeq f) (Ne.symm hb)).trans hu) ⟨_, q⟩ ?_
  exact ⟨hz, its', _, hv, q⟩
theorem Inv.lnew {its : List Value} {t' : Nat} (I : Inv X pins σ H s) (hv : Vals ys its) (hz : ys.length <= sizeLine) :
    Inv X pins σ (upd H s.heap.objs.size (.lst ys)) { s with heap := s.heap.push { cls := .type "list", data := .seq its.toArray }, toks := t' } :=
  I.laid (fun _ _ q => Heap.get?_push_of_some _ q) (Nat.le_refl _) ⟨hz, its, 0, hv, Heap.get?_push_size _ rfl⟩
theorem Inv.fresh (I : Inv X pins σ H s) : H s.heap.objs.size = none := I.hok.fresh (Nat.le_refl _)
theorem Inv.lstM (I : Inv X pins σ H s) (hH : H l = some (.lst xs)) : xs.length <= sizeLine /\ ∃ (its : List Value) (n : Nat), Vals xs its /\ xs.length = its.length /\ s.heap.get? l = some { cls := .type "list", data := .seq its.toArray n } := by
  obtain ⟨z, its, n, r, e⟩ := I.hok l _ hH
  exact ⟨z, its, n, r, r.length, e⟩
theorem notLongL {n : Nat} (h : n <= sizeLine) : Builtin.List.listTooLong n = false := by
  unfold Builtin.List.listTooLong
  exact decide_eq_false (by omega)
end
section
variable {X : Cx}
def rAppend : V -> List V -> Hp -> VK -> Prop := fun x vs H Q => ∃ l xs y, x = .ref l /\ vs = [y] /\ H l = some (.lst xs) /\ xs.length < sizeLine /\ Q .non (upd H l (.lst (xs ++ [y])))
theorem mt_append : MtM X "list.append" rAppend := by
  intro pins s σ H x vs v us Q I rx rv h
  obtain ⟨l, xs, y, rfl, rfl, hH, hz, q⟩ := h
  cases rx
  obtain ⟨u, rfl, ru⟩ := rv.one
  obtain ⟨z, its, n, r, hl, e⟩ := I.lstM hH
  refine call_meets F.slot_list_append ⟨_, e, rfl⟩ F.entry_list_append (F.args_list_append_2 _ _) (PySem.list_append l its.toArray n u (by rw [List.size_toArray]; omega)) ⟨e, ?_⟩
  refine ⟨.non, _, I.lset (its' := its ++ [u]) hH e (by simp) (r.append (.cons ru .nil)) ?_, rfl, q⟩
  rw [List.length_append, List.length_singleton]
  omega
def rCat : R2 := fun x y H Q => ∃ l b xs zs, x = .ref l /\ y = .ref b /\ H l = some (.lst xs) /\ H b = some (.lst zs) /\ xs.length + zs.length <= sizeLine /\ ∀ p, H p = none -> Q (.ref p) (upd H p (.lst (xs ++ zs)))
theorem op_cat : OpR X (binaryOp .Add) rCat := by
  intro pins s σ H x y v u Q I rx ry h
  obtain ⟨l, b, xs, zs, rfl, rfl, hH, hB, hz, q⟩ := h
  cases rx
  cases ry
  obtain ⟨z, its, n, r, hl, e⟩ := I.lstM hH
  obtain ⟨z2, its2, n2, r2, hl2, e2⟩ := I.lstM hB
  refine PySem.P.add_list e e2 ?_ (by rw [List.size_toArray, List.size_toArray]; omega)
  have ea : its.toArray ++ its2.toArray = (its ++ its2).toArray := by simp
  rw [ea]
  exact ⟨.ref _, _, I.lnew (t' := s.toks) (r.append r2) (by rw [List.length_append]; omega), rfl, q _ I.fresh⟩
def rRep : R2 := fun x y H Q => ∃ l k xs, x = .ref l /\ y = .int k /\ H l = some (.lst xs) /\ -(2 ^ 63) <= k /\ k < 2 ^ 63 /\ xs.length * k.toNat <= sizeLine /\
  ∀ p, H p = none -> Q (.ref p) (upd H p (.lst (List.replicate k.toNat xs).flatten))
theorem len_rep {α : Type} (xs : List α) (k : Nat) : (List.replicate k xs).flatten.length = k * xs.length := by
  induction k with
  | zero => simp
  | succ k ih => rw [List.replicate_succ, List.flatten_cons, List.length_append, ih, Nat.succ_mul, Nat.add_comm]
theorem op_rep : OpR X (binaryOp .Mult) rRep := by
  intro pins s σ H x y v u Q I rx ry h
  obtain ⟨l, k, xs, rfl, rfl, hH, h1, h2, hz, q⟩ := h
  cases rx
  obtain ⟨t, rfl⟩ := ry
  obtain ⟨z, its, n, r, hl, e⟩ := I.lstM hH
  have hlen : its.toArray.size * k.toNat <= sizeLine := by rw [List.size_toArray, <- hl]; exact hz
  have hcap : ¬ its.toArray.size * k.toNat > (2 ^ 63 - 1) / 8 := by
    have : (sizeLine : Nat) <= (2 ^ 63 - 1) / 8 := by decide
    omega
  have hfit : ¬ (!Builtin.List.listFitsIndex k) = true := by
    rw [fitsIndex_both h1 h2]
    exact Bool.false_ne_true
  have hlong : ¬ Builtin.List.listTooLong (its.toArray.size * k.toNat) = true := by
    rw [notLongL hlen]
    exact Bool.false_ne_true
  have hnew : List.foldl (fun x1 x2 => x1 ++ x2) #[] (List.replicate (if its.toArray.isEmpty = true then 0 else k.toNat) its.toArray) = (List.replicate k.toNat its).flatten.toArray := by
    have f0 : ∀ m : Nat, List.foldl (fun x1 x2 => x1 ++ x2) #[] (List.replicate m its.toArray) = (List.replicate m its).flatten.toArray := fun m => by
      have := foldl_rep its m []
      rw [List.nil_append] at this
      exact this
    rw [f0]
    cases its with
    | nil => simp
    | cons a r' => rw [if_neg (by simp)]
  refine wpAny_binaryOp_repeat_ref (T := "list") (U := "int") (by decide) ⟨_, e, rfl⟩ (fun s' => typeIs_int s' k t) noFill_list_mul F.fills_int_mul F.slot_int_rmul repeat_list F.slot_int_index.lookup
    (call_meets F.slot_int_rmul (typeIs_int s k t) F.entry_int_rmul (F.args_int_rmul_2 _ _) (int___rmul___int_list k t l its.toArray n)
      ⟨e, rfl, ⟨_, e, rfl⟩, call_meets F.slot_list_mul ⟨_, e, rfl⟩ F.entry_list_mul (F.args_list_mul_2 _ _) (AutoListH.list___mul___list_int_3 l its.toArray n k t hfit hcap hlong) ⟨e, ?_⟩⟩)
  rw [hnew]
  exact ⟨.ref _, _, I.lnew (t' := s.toks) (r.rep k.toNat) (by rw [len_rep, Nat.mul_comm]; exact hz), rfl, q _ I.fresh⟩
end
section
variable {prog : Program} {w : World} {A : Around} {E : Value -> Shared -> Prop} {s : Shared}
end
section
variable {X : Cx}
end
end L2
namespace Att
open PySem PySem.W PySem.Calls PyProof.Rows
theorem ints_of_wellAll {P : Params} {h : Heap} : ∀ (ns : List Int) (vs : List Value), WellAll P h vs (ns.map WData.int) -> IntsAre vs ns := by
  intro ns
  induction ns with
  | nil =>
    intro vs w
    rw [List.map_nil] at w
    cases w
    exact .nil
  | cons n ns ih =>
    intro vs w
    rw [List.map_cons] at w
    cases w with
    | cons a b =>
      cases a
      exact .cons _ _ (ih _ b)
theorem script_of {l : OpenLaw} {n : Nat} (hn : l.most = some n) {P : Params} {h : Heap} {args : List WData} {vals : List Value}
    (hpre : l.row.toRowW.claim.pre args = true) (hwl : WellAll P h vals args) :
    ∃ a vs ns, vals = [Value.ref a] /\ args = [WData.list (ns.map WData.int)] /\ h.get? a = some { cls := .type "list", data := .seq vs.toArray } /\ IntsAre vs ns /\ ns.length <= n := by
  have hsh : WShape.hasAll [] args [.list .int] = true := (pre_splitW hpre).1
  have hc : l.pre.holds [] { args := args } = true := (pre_splitW hpre).2
  obtain ⟨d, r, rfl, h1, h2⟩ := hasAllW_cons hsh
  obtain rfl := hasAllW_nil h2
  obtain ⟨xs, rfl, h3⟩ := hasW_list h1
  obtain ⟨ns, rfl⟩ := items_int h3
  have hlen : ns.length <= n := by
    unfold OpenLaw.pre at hc
    have h4 : (WTm.not (.lt (.lit (.int (n : Int))) (.len (.arg 0)))).holds [] { args := [.list (ns.map .int)] } = true := by
      have h4 := (holds_andW hc).1
      rw [hn] at h4
      exact h4
    have h5 := condW_of h4 (w_not (w_lt w_lit (w_len_list (w_arg rfl))))
    rw [List.length_map] at h5
    refine Nat.le_of_not_lt fun q => ?_
    have q' : (n : Int) < ((ns.length : Nat) : Int) := by omega
    first
      | (rw [decide_eq_true q'] at h5; exact absurd h5 (by decide))
      | (simp at h5; omega)
  cases hwl with
  | cons w1 w2 =>
    cases w2
    cases w1 with
    | list ho hall => exact ⟨_, _, ns, rfl, rfl, ho, ints_of_wellAll ns _ hall, hlen⟩
theorem post_true (l : OpenLaw) (args : List WData) : l.row.toRowW.claim.post args (.bool true) args = true :=
  postW_of (r := l.row.toRowW) (X := (true == true))
    (show WShape.has [] (.bool true) .bool = true by first | rfl | decide | simp [WShape.has, WShape.arms, WShape.armsAll])
    (show (WTm.eq .res (.lit (.bool true))).value [] { args := args, res := some (.bool true), after := args } = some (.bool (true == true)) from w_eq_bool (w_res rfl) w_lit) rfl
theorem attach_call {l : OpenLaw} {n : Nat} {q : Program} {loose : List Str} {XP : (Str -> Option Value) -> Heap -> Prop} {YP : World -> Heap -> Prop} {d : DefRec}
    (hn : l.most = some n) (hdf : d.params.defaults = [])
    (call : ∀ (w : World) (s₀ s₁ : Shared) (mg mb : Str -> Option Value) (fa : Addr) (o : Obj) (pm cd doc : Value) (a : Addr) (vs : List Value) (ns : List Int),
      Ground q loose [] XP w s₀ mg mb s₁.heap -> YP w s₁.heap ->
      s₁.heap.get? fa = some o -> o.data = .func (docDef d.name d.params d.body d.scope pm cd doc) -> s₁.heap.CodeRec cd d.name -> mg d.name = some (.ref fa) ->
      s₁.heap.get? a = some { cls := .type "list", data := .seq vs.toArray } -> IntsAre vs ns -> ns.length <= n -> s₁.gens = #[] ->
      codeAny (model l.prog w) callerA (.call (.ref fa) ⟨[.ref a], []⟩) (fun r s' => r = .ok (.ret (.bool true)) /\ OldK s₁.heap s'.heap /\ s'.os = s₁.os /\ AllBare s'.gens) s₁) :
    WalkO q loose XP YP l.row.toRowW d [] (fun f vs => PySem.call f vs) := by
  intro w s₀ s₁ mg mb G Y fa o pm cd doc dV kV ho hd hcd hD hmg hg args vals as hpre hlay hrd hwl hlo
  obtain rfl : dV = .none := Dflts.none hD hdf
  obtain rfl : kV = .none := Dflts.noKw hD
  obtain ⟨a, vs, ns, rfl, rfl, hobj, hints, hlen⟩ := script_of hn hpre hwl
  refine enter_call (codeAny_mono (call w s₀ s₁ mg mb fa o pm cd doc a vs ns G Y ho (fd_plain hd) hcd hmg hobj hints hlen hg) fun r s' hq => ?_)
  obtain ⟨rfl, h2, h3, h4⟩ := hq
  exact ⟨.inl ⟨.bool true, .bool true, [], rfl, fun _ => rfl, .bool true, post_true l _, fun _ => ⟨List.Pairwise.nil, fun _ hm => (nomatch hm)⟩⟩, h2, h3, h4⟩
section
variable {prog : Program} {w : World} {A : Around} {E : Value -> Shared -> Prop} {s : Shared} {K : Frag}
end
end Att
namespace L2
open PySem PySem.Spec PyProof.Rows
theorem vals_ints : ∀ {vs : List Value} {ns : List Int}, IntsAre vs ns -> Vals (ns.map V.int) vs
  | _, _, .nil => .nil
  | _, _, .cons n t h => .cons ⟨t, rfl⟩ (vals_ints h)
def Only (H : Hp) : Prop := ∀ b, H b = none \/ ∃ o xs, H b = some (.frz o (.lst xs))
theorem law_call {P : Program} {w : World} {K : PySem.W.Frag} {mg mb : Str -> Option Value} {CX : CXT} {k : Nat} {fa a : Addr} {fd : FuncData} {x : Str} {sp : Sp} {s₁ : Shared} {vs : List Value} {ns : List Int}
    (KX : K.In s₁.heap) (hns : s₁.heap.Ns mainGlobals mg) (hb : s₁.heap.Ns builtinsNs mb) (hbb : ∀ x : Str, x ≠ "__name__" -> mb x = bootBuiltins x) (hlim : s₁.heap.NoLimit) (hg : s₁.gens = #[])
    (ha : s₁.heap.get? a = some { cls := .type "list", data := .seq vs.toArray }) (hi : IntsAre vs ns) (hl : ns.length <= sizeLine) (hr : Room k callerA)
    (F : ∀ base : Heap, K.In base -> base.Ns mainGlobals mg -> FnOk P w K mg base CX k fa fd [x] sp) (hbind : ∀ (s : Shared) (u : Value), BindsTo s fd ⟨[u], []⟩ [(x, u)])
    (hsp : ∀ H : Hp, Only H -> SqL K H a (ns.map V.int) -> sp [.ref a] H (fun v _ => v = .bl true) fun _ _ _ => False)
    (hCX : ∀ H e s', CX [] H s₁ (fun _ _ _ => False) e s' -> False) :
    codeAny (model P w) callerA (.call (.ref fa) ⟨[.ref a], []⟩) (fun r s' => r = .ok (.ret (.bool true)) /\ OldK s₁.heap s'.heap /\ s'.os = s₁.os /\ AllBare s'.gens) s₁ := by
  have rv := vals_ints hi
  have lenV := hi.length
  -- from an abstract heap in which nothing but the script may be tracked
  have core : ∀ H : Hp, Only H -> SqL K H a (ns.map V.int) -> HOk P w H s₁.heap -> (∀ b, H b ≠ none -> b = a) -> (H a ≠ none -> K.lookup a = none) ->
      codeAny (model P w) callerA (.call (.ref fa) ⟨[.ref a], []⟩) (fun r s' => r = .ok (.ret (.bool true)) /\ OldK s₁.heap s'.heap /\ s'.os = s₁.os /\ AllBare s'.gens) s₁ := by
    intro H hO hS hok hA hK
    have base_of : ∀ {b : Addr} {o : Obj}, s₁.heap.get? b = some o -> H b = none -> (hidT s₁.heap H).get? b = some o := fun e n => hidT_get e n
    have noA : ∀ {b : Addr} {o : Obj} {es : Array DictEntry} {ep : Nat}, s₁.heap.get? b = some o -> o.data = .dict es ep -> H b = none := fun {b o es ep} e d => by
      cases q : H b with
      | none => rfl
      | some u =>
        have e' : b = a := hA b (by rw [q]; simp)
        subst e'
        rw [ha] at e; cases e
        have d' : Data.seq vs.toArray _ = Data.dict es ep := d
        cases d'
    have nsK : ∀ {b : Addr} {m : Str -> Option Value}, s₁.heap.Ns b m -> (hidT s₁.heap H).Ns b m := fun {b m} ⟨o, es, ep, e, d, r⟩ => ⟨o, es, ep, base_of e (noA e d), d, r⟩
    have hKb : K.In (hidT s₁.heap H) := fun b o e => base_of (KX b o e) (by
      cases q : H b with
      | none => rfl
      | some u =>
        have e' : b = a := hA b (by rw [q]; simp)
        subst e'
        rw [hK (by rw [q]; simp)] at e; cases e)
    have hM : Mod K mg (hidT s₁.heap H) := ⟨hKb, nsK hns, ⟨mb, nsK hb, hbb⟩, let ⟨mc, h1, h2⟩ := hlim; ⟨mc, nsK h1, h2⟩⟩
    have e0 : Env0 P w K mg (hidT s₁.heap H) callerA [] s₁ H := ⟨rfl, hM, fun b o e => of_hidT e, Nat.le_of_eq (hidT_size _ _), trivial, fun b hb => absurd (show b ∈ ([] : List Addr) from hb) (by simp), hok, .of_eq hg⟩
    refine codeAny_mono ((F _ hKb (nsK hns)).run callerA [] s₁ H ⟨[.ref a], []⟩ [.ref a] [.ref a] _ _ hr e0 (hbind s₁ (.ref a)) (.cons rfl .nil) (hsp H hO hS)) fun r s' h => ?_
    cases r with
    | error e => exact (hCX H e s' h).elim
    | ok fl =>
      cases fl with
      | next => exact False.elim h
      | brk => exact False.elim h
      | cont => exact False.elim h
      | ret u =>
        obtain ⟨v, H', os, bare, un, hok', r', q⟩ := h
        have q' : v = .bl true := q
        subst q'
        obtain rfl : u = Value.bool true := r'
        refine ⟨rfl, OldK.of_keep fun b o e => ?_, os, bare⟩
        cases q : H b with
        | none => exact un.keep b o e q (by intro z; exact absurd (show b ∈ ([] : List Addr) from z) (by simp)) (by simp)
        | some u =>
          rcases hO b with z | ⟨ob, xs, z⟩
          . rw [q] at z; cases z
          . have z2 := un.frzs b ob _ z
            obtain ⟨e1, _⟩ := hok b _ z
            obtain ⟨e2, _⟩ := hok' b _ z2
            rw [e] at e1; cases e1
            exact e2
  cases hk : K.lookup a with
  | some o =>
    -- the script is one of the module's own objects
    have e := KX a o hk
    rw [ha] at e
    cases e
    refine core (fun _ => none) (fun _ => .inl rfl) (.inr ⟨_, vs.toArray, _, hk, rfl, rfl, rfl, by rw [List.size_toArray, lenV]; exact hl, by simpa using rv⟩) (fun b u z => by have z' : (none : Option HO) = some u := z; cases z') (fun b z => absurd rfl z) fun z => absurd rfl z
  | none =>
    refine core (fun b => if b = a then some (.frz { cls := .type "list", data := .seq vs.toArray } (.lst (ns.map V.int))) else none) (fun b => ?_) (.inl (.inr ⟨{ cls := .type "list", data := .seq vs.toArray }, if_pos rfl⟩)) (fun b u z => ?_) (fun b z => ?_) fun _ => hk
    . by_cases hb : b = a
      . exact .inr ⟨_, _, if_pos hb⟩
      . exact .inl (if_neg hb)
    . by_cases hb : b = a
      . have z' := (if_pos hb).symm.trans z
        cases z'
        subst hb
        exact ⟨ha, by rw [List.length_map]; exact hl, vs, _, rv, ha⟩
      . have z' := (if_neg hb).symm.trans z
        cases z'
    . by_cases hb : b = a
      . exact hb
      . exact absurd (if_neg hb) z
end L2
namespace L2
open PySem PySem.Spec PyProof.Rows
theorem walk_of {l : PySem.W.OpenLaw} {n k : Nat} {q : Program} {loose : List Str} {XP : (Str -> Option Value) -> Heap -> Prop} {YP : World -> Heap -> Prop} {d : DefRec} {K : Params -> PySem.W.Frag} {CX : World -> CXT} {sp : World -> Sp} {x : Str}
    (hn : l.most = some n) (hn2 : n <= sizeLine) (hdf : d.params.defaults = []) (hr : Room k callerA)
    (hY : ∀ (w : World) (h : Heap), YP w h -> (K w.params).In h)
    (F : ∀ (w : World) (mg : Str -> Option Value) (fa : Addr) (h : Heap), (K w.params).In h -> h.Ns mainGlobals mg -> mg d.name = some (.ref fa) ->
      ∃ fd : FuncData, (∀ (s : Shared) (u : Value), BindsTo s fd ⟨[u], []⟩ [(x, u)]) /\
        ∀ base : Heap, (K w.params).In base -> base.Ns mainGlobals mg -> FnOk l.prog w (K w.params) mg base (CX w) k fa fd [x] (sp w))
    (hsp : ∀ (w : World) (H : Hp) (a : Addr) (ns : List Int), ns.length <= n -> Only H -> SqL (K w.params) H a (ns.map V.int) -> sp w [.ref a] H (fun v _ => v = .bl true) fun _ _ _ => False)
    (hCX : ∀ (w : World) (H : Hp) (s : Shared) (e : Value) (s' : Shared), CX w [] H s (fun _ _ _ => False) e s' -> False) :
    PySem.W.WalkO q loose XP YP l.row.toRowW d [] (fun f vs => PySem.call f vs) := by
  refine Att.attach_call hn hdf fun w s₀ s₁ mg mb fa o pm cd doc a vs ns G Y ho hd hcd hmg hobj hints hlen hg => ?_
  have KX := hY w _ Y
  obtain ⟨fd, hb, hF⟩ := F w mg fa _ KX G.T.g hmg
  exact law_call KX G.T.g G.T.b G.T.builtins G.T.nolimit hg hobj hints (Nat.le_trans hlen hn2) hr hF hb (fun H hO hS => hsp w H a ns hlen hO hS) fun H e s' => hCX w H s₁ e s'
end L2
namespace L2
open PySem PySem.Spec PyProof.Rows
def defArgs (s : Stmt) : Arguments := match s with
  | .FunctionDef _ a _ _ _ _ _ _ _ _ => a
  | _ => { posonlyargs := [], args := [], vararg := none, kwonlyargs := [], kw_defaults := [], kwarg := none, defaults := [] }
def defBody (s : Stmt) : List Stmt := match s with
  | .FunctionDef _ _ b _ _ _ _ _ _ _ => b
  | _ => []
def defScope (s : Stmt) : Scope := match s with
  | .FunctionDef _ _ _ _ _ _ sc _ _ _ => sc
  | _ => { kind := .function, names := [], isGenerator := false, isCoroutine := false }
abbrev CX0 : CXT := fun _ _ _ _ _ _ => False
abbrev E0 : XK := fun _ _ _ => False
theorem pass0 {X : Cx} : Passes CX0 X E0 := fun _ _ _ _ _ _ _ h => h.elim
structure Fun (K : PySem.W.Frag) (x qual : Str) (st : Stmt) (f : Addr) (fd : FuncData) : Prop where
  ex : ∃ (oc : Value) (od : Option Addr) (kV doc pm : Value) (an : Option Addr) (cdv ct : Value) (osl : Array (Option Value)),
    fd = PySem.W.fnOf x qual (defArgs st) (defBody st) (defScope st) .none kV doc pm an cdv ct /\ K.lookup f = some ⟨oc, od, .func fd, osl⟩ /\ PySem.W.codeIn K cdv qual = true
  kp : PySem.W.keepIn K (.ref f) = true
section
variable {P : Program} {w : World} {K : PySem.W.Frag} {mg : Str -> Option Value} {base : Heap}
theorem Fun.ok {x qual : Str} {st : Stmt} {f : Addr} {fd : FuncData} {N ps : List Str} {k : Nat} {sp : Sp} (F : Fun K x qual st f fd) (S : FnScope N ps (defScope st)) (len : ∀ vs H Q E, sp vs H Q E -> vs.length = ps.length)
    (hbody : ∀ (cdv : Value) (A : Around) (outer : List Env) (s : Shared) (H : Hp) (vs : List V) (Q : VK) (E : XK), Room k (A.deeper (envOfC qual (defScope st) s.heap.objs.size f cdv)) -> sp vs H Q E ->
      ∃ t, PSs (cxOf CX0 P w K mg base N qual (defScope st) f cdv A outer s H E).nox (defBody st) t /\ t { nx := fun _ H' => Q .non H', rt := Q } (start N vs) H) : FnOk P w K mg base CX0 (k + 1) f fd ps sp := by
  obtain ⟨oc, od, kV, doc, pm, an, cdv, ct, osl, rfl, lk, hcd⟩ := F.ex
  refine fn_of lk hcd S len fun A outer s H vs Q E hr hsp => ?_
  obtain ⟨t, h, q⟩ := hbody cdv A outer s H vs Q E hr hsp
  exact ⟨t, h.nox, q⟩
theorem Fun.binds {x qual : Str} {st : Stmt} {f : Addr} {fd : FuncData} {ps : List Str} (F : Fun K x qual st f fd)
    (h : ∀ (kV doc pm : Value) (an : Option Addr) (cdv ct : Value) (us : List Value), us.length = ps.length -> bindArgs (PySem.W.fnOf x qual (defArgs st) (defBody st) (defScope st) .none kV doc pm an cdv ct) ⟨us, []⟩ = pure (ps.zip us)) : Binds K fd ps [] := by
  obtain ⟨oc, od, kV, doc, pm, an, cdv, ct, osl, rfl, lk, hcd⟩ := F.ex
  exact .all (h kV doc pm an cdv ct)
theorem fun_mk {x qual : Str} {st : Stmt} {f : Addr} {oc : Value} {od an : Option Addr} {osl : Array (Option Value)} {kV doc pm cdv ct : Value} (l : K.lookup f = some ⟨oc, od, .func (PySem.W.fnOf x qual (defArgs st) (defBody st) (defScope st) .none kV doc pm an cdv ct), osl⟩)
    (c : PySem.W.codeIn K cdv qual = true) (k : PySem.W.keepIn K (.ref f) = true) : Fun K x qual st f (PySem.W.fnOf x qual (defArgs st) (defBody st) (defScope st) .none kV doc pm an cdv ct) := ⟨⟨oc, od, kV, doc, pm, an, cdv, ct, osl, rfl, l, c⟩, k⟩
end
theorem hu_of {A : Around} {k : Nat} (hr : Room k A) : A.units + 1 < cLine := Nat.lt_of_le_of_lt (Nat.add_le_add_left (by decide : 1 <= 64) _) hr.units
section
variable {X : Cx}
theorem pv (i : Nat) {x : Str} {pos : Pos} (hN : X.N[i]? = some x := by rfl) (hv : Vis X.env.scope x := by first | exact Or.inl rfl | exact Or.inr (Or.inl rfl) | exact Or.inr (Or.inr rfl)) (hd : (x == ("__debug__" : Str)) = false := by decide)
    (hcd : (x == ("__classdict__" : Str)) = false := by decide) : PE X (.Name x pos) (tVar i) := pe_var hN hv hd hcd
end
theorem ite2 {c A B : Prop} [Decidable c] (h1 : c -> A) (h2 : ¬ c -> B) : if c then A else B := by
  by_cases h : c
  . rw [if_pos h]
    exact h1 h
  . rw [if_neg h]
    exact h2 h
def Same (H H' : Hp) : Prop := ∀ b o, H b = some o -> H' b = some o
theorem Same.refl (H : Hp) : Same H H := fun _ _ h => h
theorem Same.trans {H H1 H2 : Hp} (a : Same H H1) (b : Same H1 H2) : Same H H2 := fun c o h => b c o (a c o h)
theorem Same.free {H H' : Hp} (e : Same H H') {l : Addr} (h : H' l = Option.none) : H l = Option.none := by
  cases q : H l with
  | none => rfl
  | some o =>
    rw [e l o q] at h
    cases h
theorem Same.seq {K : PySem.W.Frag} {H H' : Hp} {a : Addr} {xs : List V} (e : Same H H') (h : SqL K H a xs) : SqL K H' a xs := by
  rcases h with (h | ⟨o, h⟩) | h
  . exact .inl (.inl (e _ _ h))
  . exact .inl (.inr ⟨o, e _ _ h⟩)
  . exact .inr h
end L2
set_option Elab.async false
set_option linter.all false
set_option maxRecDepth 100000
set_option maxHeartbeats 4000000
namespace L2
open PySem PySem.Spec PyProof.Rows
section
variable {κ : Type} [DecidableEq κ]
def valV (kvs : List (κ × V)) (k : κ) : Option V := (kvs.find? fun kv => decide (kv.1 = k)).map (·.2)
def putK (kvs : List (κ × V)) (k : κ) (v : V) : List (κ × V) :=
  if (kvs.any fun kv => decide (kv.1 = k)) = true then kvs.map (fun kv => if kv.1 = k then (kv.1, v) else kv) else kvs ++ [(k, v)]
theorem valV_pos {p : κ × V} {r : List (κ × V)} {k : κ} (e : p.1 = k) : valV (p :: r) k = some p.2 := by simp [valV, List.find?_cons, e]
theorem valV_neg {p : κ × V} {r : List (κ × V)} {k : κ} (e : ¬ p.1 = k) : valV (p :: r) k = valV r k := by simp [valV, List.find?_cons, e]
theorem valV_any (k : κ) : ∀ kvs : List (κ × V), (kvs.any fun kv => decide (kv.1 = k)) = (valV kvs k).isSome
  | [] => rfl
  | p :: r => by
    rw [List.any_cons]
    by_cases e : p.1 = k
    . simp only [valV_pos e, decide_eq_true e, Bool.true_or, Option.isSome_some]
    . rw [valV_neg e, decide_eq_false e, Bool.false_or]; exact valV_any k r
theorem length_putK (kvs : List (κ × V)) (k : κ) (v : V) : (putK kvs k v).length <= kvs.length + 1 := by
  unfold putK
  split
  . rw [List.length_map]; omega
  . rw [List.length_append, List.length_cons, List.length_nil]; omega
theorem putK_new {kvs : List (κ × V)} {k : κ} (v : V) (h : valV kvs k = none) : putK kvs k v = kvs ++ [(k, v)] := by
  unfold putK
  rw [valV_any, h]
  exact if_neg (by decide)
theorem RelO.isSome_eq {o : Option V} {u : Option Value} (r : RelO o u) : o.isSome = u.isSome := by
  cases o with
  | none => cases u with
    | none => rfl
    | some _ => exact (show False from r).elim
  | some _ => cases u with
    | none => exact (show False from r).elim
    | some _ => rfl
theorem KV.val {kvs : List (κ × V)} {vs : List (κ × Value)} (r : KV kvs vs) (k : κ) : RelO (valV kvs k) (valueAt vs k) := by
  unfold KV at r
  induction r with
  | nil => exact True.intro
  | @cons p q ps qs h t ih =>
    obtain ⟨h1, h2⟩ := h
    by_cases e : p.1 = k
    . have e' : q.1 = k := h1.symm.trans e
      have b : valueAt (q :: qs) k = some q.2 := by simp [valueAt, List.find?_cons, e']
      rw [valV_pos e, b]; exact h2
    . have e' : ¬ q.1 = k := fun z => e (h1.trans z)
      have b : valueAt (q :: qs) k = valueAt qs k := by simp [valueAt, List.find?_cons, e']
      rw [valV_neg e, b]; exact ih
theorem KV.any {kvs : List (κ × V)} {vs : List (κ × Value)} (r : KV kvs vs) (k : κ) : (kvs.any fun kv => decide (kv.1 = k)) = vs.any fun kv => decide (kv.1 = k) := by
  unfold KV at r
  induction r with
  | nil => rfl
  | cons h t ih => rw [List.any_cons, List.any_cons, ih, h.1]
theorem KV.repl {kvs : List (κ × V)} {vs : List (κ × Value)} (r : KV kvs vs) (k : κ) {y : V} {u : Value} (ry : RelV y u) :
    KV (kvs.map fun kv => if kv.1 = k then (kv.1, y) else kv) (vs.map fun kv => if kv.1 = k then (kv.1, u) else kv) := by
  unfold KV at r ⊢
  induction r with
  | nil => exact .nil
  | @cons p q ps qs h t ih =>
    rw [List.map_cons, List.map_cons]
    refine .cons ?_ ih
    obtain ⟨h1, h2⟩ := h
    by_cases e : p.1 = k
    . rw [if_pos e, if_pos (h1.symm.trans e)]; exact ⟨h1, ry⟩
    . rw [if_neg e, if_neg (fun z => e (h1.trans z))]; exact ⟨h1, h2⟩
theorem KV.put {kvs : List (κ × V)} {vs : List (κ × Value)} (r : KV kvs vs) (k : κ) {y : V} {u : Value} (ry : RelV y u) : KV (putK kvs k y) (stored vs k u) := by
  unfold putK stored
  rw [r.any k]
  by_cases e : (vs.any fun kv => decide (kv.1 = k)) = true
  . rw [if_pos e, if_pos e]; exact r.repl k ry
  . rw [if_neg e, if_neg e]; exact Paired.snoc r ⟨rfl, ry⟩
theorem KV.keys {kvs : List (κ × V)} {vs : List (κ × Value)} (r : KV kvs vs) : kvs.map (·.1) = vs.map (·.1) := by
  unfold KV at r
  induction r with
  | nil => rfl
  | cons h t ih => rw [List.map_cons, List.map_cons, ih, h.1]
theorem KV.length {kvs : List (κ × V)} {vs : List (κ × Value)} (r : KV kvs vs) : kvs.length = vs.length := Paired.length r
end
theorem kV_is {P : Program} {w : World} {k : Key} {u : Value} (r : RelV (kV k) u) : (mixKind P w).is k u = true := by
  cases k with
  | inl i => obtain ⟨t, e⟩ := (show ∃ t, u = Value.int i t from r); subst e; exact mixKind_int P w i t
  | inr x => obtain ⟨t, e⟩ := (show ∃ t, u = Value.str x t from r); subst e; exact mixKind_str P w x t
theorem items_are {P : Program} {w : World} : ∀ {ks : List Key} {us : List Value}, Vals (ks.map kV) us -> ItemsAre (mixKind P w) ks us
  | [], _, r => by rw [List.map_nil] at r; cases r; exact .nil
  | k :: ks, _, r => by
    rw [List.map_cons] at r
    cases r with
    | cons h t => exact .cons (kV_is h) (items_are t)
abbrev KT (H : Hp) : List (List Key × V) -> List (List Key × Addr × Value) -> Prop := Paired fun p q => p.1 = q.1 /\ H q.2.1 = some (.tup (p.1.map kV)) /\ RelV p.2 q.2.2
theorem KT.val {H : Hp} {kvs : List (List Key × V)} {xs : List (List Key × Addr × Value)} (r : KT H kvs xs) (k : List Key) : RelO (valV kvs k) ((atKey xs k).map (·.2)) := by
  induction r with
  | nil => exact True.intro
  | @cons p q ps qs h t ih =>
    obtain ⟨h1, _, h2⟩ := h
    by_cases e : p.1 = k
    . have e' : q.1 = k := h1.symm.trans e
      have b : atKey (q :: qs) k = some q.2 := by simp [atKey, List.find?_cons, e']
      rw [valV_pos e, b]; exact h2
    . have e' : ¬ q.1 = k := fun z => e (h1.trans z)
      have b : atKey (q :: qs) k = atKey qs k := by simp [atKey, List.find?_cons, e']
      rw [valV_neg e, b]; exact ih
theorem KT.repl {H : Hp} {kvs : List (List Key × V)} {xs : List (List Key × Addr × Value)} (r : KT H kvs xs) (k : List Key) {y : V} {u : Value} (ry : RelV y u) :
    KT H (kvs.map fun kv => if kv.1 = k then (kv.1, y) else kv) (xs.map (putAt k u)) := by
  induction r with
  | nil => exact .nil
  | @cons p q ps qs h t ih =>
    rw [List.map_cons, List.map_cons]
    refine .cons ?_ ih
    obtain ⟨h1, h2, h3⟩ := h
    unfold putAt
    by_cases e : p.1 = k
    . rw [if_pos e, if_pos (h1.symm.trans e)]; exact ⟨h1, h2, ry⟩
    . rw [if_neg e, if_neg (fun z => e (h1.trans z))]; exact ⟨h1, h2, h3⟩
theorem KT.put {H : Hp} {kvs : List (List Key × V)} {xs : List (List Key × Addr × Value)} (r : KT H kvs xs) (k : List Key) {b : Addr} {y : V} {u : Value} (hb : H b = some (.tup (k.map kV))) (ry : RelV y u) :
    KT H (putK kvs k y) (storedH xs k b u) := by
  have e : (kvs.any fun kv => decide (kv.1 = k)) = (atKey xs k).isSome := by
    rw [valV_any, (r.val k).isSome_eq, Option.isSome_map]
  unfold putK storedH
  rw [e]
  by_cases q : (atKey xs k).isSome = true
  . rw [if_pos q, if_pos q]; exact r.repl k ry
  . rw [if_neg q, if_neg q]; exact Paired.snoc r ⟨rfl, hb, ry⟩
theorem KT.keeps {H H' : Hp} {kvs : List (List Key × V)} {xs : List (List Key × Addr × Value)} (r : KT H kvs xs) (ht : ∀ b ys, H b = some (.tup ys) -> H' b = some (.tup ys)) : KT H' kvs xs :=
  Paired.mapP r fun _ _ z => ⟨z.1, ht _ _ z.2.1, z.2.2⟩
section
variable {P : Program} {w : World} {H : Hp} {h : Heap} {a : Addr}
theorem rd_of {u : HO} (ok : HOk P w H h) (e : Rd H a u) : ObjOk P w H h a u := e.ok ok
theorem dk_rd {kvs : List (Key × V)} (ok : HOk P w H h) (e : Rd H a (.dK kvs)) : kvs.length <= sizeLine /\ (a == sysModules) = false /\ ∃ vs, KV kvs vs /\ h.DictOf (mixKind P w) a vs :=
  show ObjOk P w H h a (.dK kvs) from rd_of ok e
theorem dk_of {kvs : List (Key × V)} (ok : HOk P w H h) (e : H a = some (.dK kvs)) : kvs.length <= sizeLine /\ (a == sysModules) = false /\ ∃ vs, KV kvs vs /\ h.DictOf (mixKind P w) a vs := dk_rd ok (.inl e)
theorem key_of {ks : List Key} (ok : HOk P w H h) (e : H a = some (.tup (ks.map kV))) : (tupleKind (mixKind P w)).is h ks a := by
  obtain ⟨_, its, r, o, h1, h2, n, h3⟩ := (show ObjOk P w H h a (.tup (ks.map kV)) from ok a _ e)
  exact ⟨o, its.toArray, n, h1, h2, h3, by simpa using items_are r⟩
theorem dt_rd {kvs : List (List Key × V)} (ok : HOk P w H h) (e : Rd H a (.dT kvs)) : kvs.length <= sizeLine /\ (a == sysModules) = false /\
    ∃ xs, KT H kvs xs /\ h.DictOfH (tupleKind (mixKind P w)) a xs := by
  obtain ⟨z, y, xs, r, o, es, ep, h1, h2, h3, h4, h5⟩ := (show ObjOk P w H h a (.dT kvs) from rd_of ok e)
  refine ⟨z, y, xs, r, o, es, ep, h1, h2, h3, h4, fun x hx => ?_, h5⟩
  have all : ∀ {l : List (List Key × V)} {m : List (List Key × Addr × Value)}, KT H l m -> ∀ x ∈ m, (tupleKind (mixKind P w)).is h x.1 x.2.1 := by
    intro l m q
    induction q with
    | nil => intro x hx; exact nomatch hx
    | @cons p q ps qs hq t ih =>
      intro x hx
      rcases List.mem_cons.mp hx with e | hx
      . subst e
        exact key_of ok (by rw [<- hq.1]; exact hq.2.1)
      . exact ih x hx
  exact all r x hx
theorem dt_of {kvs : List (List Key × V)} (ok : HOk P w H h) (e : H a = some (.dT kvs)) : kvs.length <= sizeLine /\ (a == sysModules) = false /\
    ∃ xs, KT H kvs xs /\ h.DictOfH (tupleKind (mixKind P w)) a xs := dt_rd ok (.inl e)
end
def DGet (H : Hp) (a : Addr) (y : V) (r : Option V) : Prop :=
  (∃ kvs k, Rd H a (.dK kvs) /\ y = kV k /\ r = valV kvs k) \/ ∃ kvs k b, Rd H a (.dT kvs) /\ y = .ref b /\ H b = some (.tup (k.map kV)) /\ r = valV kvs k
def DPut (H : Hp) (a : Addr) (y v : V) (H' : Hp) : Prop :=
  (∃ kvs k, H a = some (.dK kvs) /\ y = kV k /\ kvs.length < sizeLine /\ H' = upd H a (.dK (putK kvs k v))) \/
  ∃ kvs k b, H a = some (.dT kvs) /\ y = .ref b /\ H b = some (.tup (k.map kV)) /\ kvs.length < sizeLine /\ H' = upd H a (.dT (putK kvs k v))
theorem DGet.k {H : Hp} {a : Addr} {kvs : List (Key × V)} {k : Key} (e : H a = some (.dK kvs)) : DGet H a (kV k) (valV kvs k) := .inl ⟨kvs, k, .inl e, rfl, rfl⟩
theorem DGet.t {H : Hp} {a b : Addr} {kvs : List (List Key × V)} {k : List Key} (e : H a = some (.dT kvs)) (eb : H b = some (.tup (k.map kV))) : DGet H a (.ref b) (valV kvs k) := .inr ⟨kvs, k, b, .inl e, rfl, eb, rfl⟩
theorem DPut.k {H : Hp} {a : Addr} {kvs : List (Key × V)} {k : Key} {v : V} (e : H a = some (.dK kvs)) (hl : kvs.length < sizeLine) : DPut H a (kV k) v (upd H a (.dK (putK kvs k v))) := .inl ⟨kvs, k, e, rfl, hl, rfl⟩
theorem DPut.t {H : Hp} {a b : Addr} {kvs : List (List Key × V)} {k : List Key} {v : V} (e : H a = some (.dT kvs)) (eb : H b = some (.tup (k.map kV))) (hl : kvs.length < sizeLine) :
    DPut H a (.ref b) v (upd H a (.dT (putK kvs k v))) := .inr ⟨kvs, k, b, e, rfl, eb, hl, rfl⟩
section
variable {X : Cx} {pins : List (Addr × Obj)} {σ : St} {H : Hp} {s : Shared} {a : Addr} {y v : V} {u r : Value} {o : Option V} {A : Around} {E : Value -> Shared -> Prop}
theorem Inv.big (I : Inv X pins σ H s) : sysModules < s.heap.objs.size := by
  have h : mainGlobals < s.heap.objs.size := (I.mod.glob.keeps I.bk).lt
  exact Nat.lt_trans (by decide) h
theorem d_getItem {Q : Value -> Shared -> Prop} (hu : A.units + 1 < cLine) (I : Inv X pins σ H s) (g : DGet H a y (some v)) (ry : RelV y u) (h : ∀ w' s', Inv X pins σ H s' -> RelV v w' -> Q w' s') :
    wpAny (model X.prog X.w) A (getItem (.ref a) u) Q E s := by
  rcases g with ⟨kvs, k, e, ey, l⟩ | ⟨kvs, k, b, e, ey, eb, l⟩
  . subst ey
    obtain ⟨z, hd, vs, rel, dd⟩ := dk_rd I.hok e
    obtain ⟨w', hw, rw'⟩ := RelO.some_of (v := v) (o := valueAt vs k) (by rw [l]; exact rel.val k)
    exact wpAny_getItem_of (kV_is ry) dd.mapOf hw (h w' _ (I.tok _) rw')
  . subst ey
    cases (show u = Value.ref b from ry)
    obtain ⟨z, hd, xs, rel, dd⟩ := dt_rd I.hok e
    obtain ⟨w', hw, rw'⟩ := RelO.some_of (v := v) (o := (atKey xs k).map (·.2)) (by rw [l]; exact rel.val k)
    obtain ⟨p, hp, hp2⟩ := Option.map_eq_some_iff.mp hw
    refine wpAny_getItem_heap (tupleKind_room_in1 hu) (key_of I.hok eb) dd hp ?_
    rw [hp2]
    exact h w' _ (I.tok _) rw'
theorem d_notIn {Q : Value -> Shared -> Prop} (hu : A.units + 1 < cLine) (I : Inv X pins σ H s) (g : DGet H a y o) (ry : RelV y u) (h : ∀ s', Inv X pins σ H s' -> Q (.bool (!o.isSome)) s') :
    wpAny (model X.prog X.w) A (compareOp .NotIn u (.ref a)) Q E s := by
  rcases g with ⟨kvs, k, e, ey, l⟩ | ⟨kvs, k, b, e, ey, eb, l⟩
  . subst ey
    obtain ⟨z, hd, vs, rel, dd⟩ := dk_rd I.hok e
    refine wpAny_notIn_of (kV_is ry) hd dd.mapOf ?_
    rw [<- (rel.val k).isSome_eq, <- l]
    exact h _ (I.tok _)
  . subst ey
    cases (show u = Value.ref b from ry)
    obtain ⟨z, hd, xs, rel, dd⟩ := dt_rd I.hok e
    refine wpAny_notIn_heap (tupleKind_room_in1 hu) (key_of I.hok eb) hd dd ?_
    have q := (rel.val k).isSome_eq
    rw [Option.isSome_map] at q
    rw [<- q, <- l]
    exact h _ (I.tok _)
theorem d_write {h' : Heap} {t' : Nat} {ob : HO} (I : Inv X pins σ H s) (mu : Mut (H a)) (hs : Heap.SameBut a s.heap h') (he : ∃ q, h'.get? a = some q) (new : ObjOk X.prog X.w (upd H a ob) h' a ob) :
    Inv X pins σ (upd H a ob) { s with heap := h', toks := t' } :=
  I.write (x := a) (e := a) mu (.inl rfl) (fun b q hb z => (hs.2 b hb).trans z) he new
theorem dk_new {P : Program} {w : World} {H' : Hp} {h' : Heap} {kvs : List (Key × V)} {vs : List (Key × Value)} (z : kvs.length <= sizeLine) (hd : (a == sysModules) = false) (rel : KV kvs vs) (dd : h'.DictOf (mixKind P w) a vs) :
    ObjOk P w H' h' a (.dK kvs) := ⟨z, hd, vs, rel, dd⟩
theorem d_setItem {H' : Hp} {Q : Unit -> Shared -> Prop} (hu : A.units + 1 < cLine) (I : Inv X pins σ H s) (g : DPut H a y v H') (ry : RelV y u) (rv : RelV v r) (h : ∀ s', Inv X pins σ H' s' -> Q () s') :
    wpAny (model X.prog X.w) A (setItem (.ref a) u r) Q E s := by
  rcases g with ⟨kvs, k, e, ey, l, eH⟩ | ⟨kvs, k, b, e, ey, eb, l, eH⟩
  . subst ey eH
    obtain ⟨z, hd, vs, rel, dd⟩ := dk_of I.hok e
    have hz : vs.length <= sizeLine := by rw [<- rel.length]; exact z
    have hl : (putK kvs k v).length <= sizeLine := by have := length_putK kvs k v; omega
    refine wpAny_setItem_pairs (hsz := hz) (kV_is ry) dd fun h' dd' hs => h _ ?_
    have he : ∃ q, h'.get? a = some q := let ⟨q, _, _, hq, _⟩ := dd'; ⟨q, hq⟩
    exact d_write I (by rw [e]; exact True.intro) hs he (dk_new hl hd (rel.put k rv) dd')
  . subst ey eH
    cases (show u = Value.ref b from ry)
    obtain ⟨z, hd, xs, rel, dd⟩ := dt_of I.hok e
    have hz : xs.length <= sizeLine := by rw [<- Paired.length rel]; exact z
    have hl : (putK kvs k v).length <= sizeLine := by have := length_putK kvs k v; omega
    refine wpAny_setItem_heap (hsz := hz) (tupleKind_room_in1 hu) (key_of I.hok eb) dd fun h' dd' hs => h _ ?_
    obtain ⟨q, es, ep, hq, h2, h3, h4, _, h5⟩ := dd'
    refine d_write I (by rw [e]; exact True.intro) hs ⟨q, hq⟩ ⟨hl, hd, _, (rel.put k eb rv).keeps fun c ys ec => ?_, q, es, ep, hq, h2, h3, h4, h5⟩
    rw [upd_ne (ne_of ec e (fun z => nomatch z))]
    exact ec
end
section
variable {X : Cx} {pins : List (Addr × Obj)} {σ : St} {H : Hp} {s : Shared} {a : Addr} {kvs : List (Key × V)} {k : Key} {u : Value} {A : Around} {E : Value -> Shared -> Prop}
theorem d_len {Q : Value -> Shared -> Prop} (I : Inv X pins σ H s) (e : Rd H a (.dK kvs)) (h : ∀ t s', Inv X pins σ H s' -> Q (.int kvs.length t) s') : wpAny (model X.prog X.w) A (call (.builtin "len") [.ref a]) Q E s := by
  obtain ⟨z, hd, vs, rel, dd⟩ := dk_rd I.hok e
  refine call_len_dict hd dd (by rw [<- rel.length]; rw [sizeLine_eq] at z; omega) ?_
  rw [<- rel.length]
  exact h _ _ (I.tok _)
end
def NoSl (i : Expr) : Prop := ∀ ov iv, subscripted i false ov iv = operate [ov, iv] (getItem ov iv)
theorem subD_of {prog : Program} {w : World} {A : Around} {E : Value -> Shared -> Prop} {s : Shared} {env : Env} {value slice : Expr} {pos : Pos} {T id : String} {Q : Value -> Shared -> Prop}
    (hl : typeLookup (.type T) "__getitem__" = pure (some (.builtin id))) (hs : NoSl slice)
    (h : wpAny (model prog w) A (eval value env) (fun o s₁ => wpAny (model prog w) A (eval slice env) (fun i s₂ => s₂.TypeIs o T /\ wpAny (model prog w) A (getItem o i) Q E s₂) E s₁) E s) :
    wpAny (model prog w) A (eval (.Subscript value slice pos) env) Q E s := by
  refine Subscript_ (wpAny_mono h (fun o s₁ h₁ => wpAny_mono h₁ (fun i s₂ h₂ => ?_) fun _ _ x => x) fun _ _ x => x)
  obtain ⟨hT, h₂⟩ := h₂
  unfold subscriptTail
  refine wpAny_bind ?_
  rw [getitemInPython_of_ne hT.not_modules]
  refine wpAny_bind (wpAny_specialOf hT hl ?_)
  have fin : wpAny (model prog w) A (subscripted slice false o i) (fun r s₃ => wpAny (model prog w) A (letTemporaryGo value o r >>= fun _ => pure r) Q E s₃) E s₂ := by
    rw [hs o i]
    exact wpAny_operating (wpAny_mono h₂ (fun r s₃ h₃ => wpAny_bind (wpAny_letTemporaryGo (wpAny_pure h₃))) fun _ _ x => x)
  first
    | exact wpAny_pure (wpAny_bind fin)
    | exact wpAny_bind (wpAny_pure (wpAny_bind fin))
    | exact wpAny_bind fin
theorem dict_typeIs {X : Cx} {pins : List (Addr × Obj)} {σ : St} {H : Hp} {s : Shared} {a : Addr} {y : V} {o : Option V} (I : Inv X pins σ H s) (g : DGet H a y o) : s.TypeIs (.ref a) "dict" := by
  rcases g with ⟨kvs, k, e, _, _⟩ | ⟨kvs, k, b, e, _, _, _⟩
  . obtain ⟨_, _, vs, _, dd⟩ := dk_rd I.hok e
    exact dd.typeIs
  . obtain ⟨_, _, xs, _, dd⟩ := dt_rd I.hok e
    exact dd.typeIs
def tDGet (td ty : TE) : TE := fun σ H Q => td σ H fun x H1 => ty σ H1 fun y H2 => ∃ a v, x = .ref a /\ DGet H2 a y (some v) /\ Q v H2
def tDNotIn (ty td : TE) : TE := fun σ H Q => ty σ H fun y H1 => td σ H1 fun x H2 => ∃ a o, x = .ref a /\ DGet H2 a y o /\ Q (.bl (!o.isSome)) H2
def sDPut (td ty tv : TE) : TS := fun D σ H => tv σ H fun v H1 => td σ H1 fun x H2 => ty σ H2 fun y H3 => ∃ a H4, x = .ref a /\ DPut H3 a y v H4 /\ D.nx σ H4
section
variable {X : Cx} {o i e value : Expr} {pos pos' tpos : Pos} {td ty tv : TE}
theorem pe_dget (hu : X.A.units + 1 < cLine) (ho : PE X o td) (hi : PE X i ty) (hs : NoSl i) : PE X (.Subscript o i pos) (tDGet td ty) := by
  intro pins s σ H Q I h
  refine subD_of PySem.F.slot_dict_getitem.lookup hs (thn (ho pins s σ H _ I h) fun u s1 ⟨x, H1, I1, rx, q1⟩ => thn (hi pins s1 σ H1 _ I1 q1) fun iv s2 ⟨y, H2, I2, ry, a, v, ex, g, q2⟩ => ?_)
  subst ex
  obtain rfl : u = Value.ref a := rx
  exact ⟨dict_typeIs I2 g, d_getItem hu I2 g ry fun w' s3 I3 rw' => ⟨v, H2, I3, rw', q2⟩⟩
theorem pc_dnotin (hu : X.A.units + 1 < cLine) (hi : PE X i ty) (ho : PE X o td) : PC X .NotIn i o (tDNotIn ty td) := by
  intro pins s σ H Q I h
  refine thn (hi pins s σ H _ I h) fun iv s1 ⟨y, H1, I1, ry, q1⟩ => thn (ho pins s1 σ H1 _ I1 q1) fun u s2 ⟨x, H2, I2, rx, a, ov, ex, g, q2⟩ => ?_
  subst ex
  obtain rfl : u = Value.ref a := rx
  exact d_notIn hu I2 g ry fun s3 I3 => ⟨.bl (!ov.isSome), H2, I3, rfl, q2⟩
theorem ps_dput (hu : X.A.units + 1 < cLine) (ho : PE X o td) (hi : PE X i ty) (hv : PE X value tv) (hs : swapsWith value (some (.Subscript o i pos')) pos.line X.env = pure false) :
    PS X (.Assign [.Subscript o i pos'] value pos) (sDPut td ty tv) := by
  intro pins s σ H D I h
  refine wpAny_Assign_Subscript (thn (hv pins s σ H _ I h) fun r s1 ⟨v, H1, I1, rv, q1⟩ => thn (ho pins s1 σ H1 _ I1 q1) fun u s2 ⟨x, H2, I2, rx, q2⟩ => thn (hi pins s2 σ H2 _ I2 q2) fun iv s3 ⟨y, H3, I3, ry, a, H4, ex, g, q3⟩ => ?_) hs
  subst ex
  obtain rfl : u = Value.ref a := rx
  exact d_setItem hu I3 g ry rv fun s4 I4 => ⟨σ, H4, I4, q3⟩
end
theorem dk_empty {P : Program} {w : World} {H : Hp} (h : Heap) (hb : sysModules < h.objs.size) : ObjOk P w H (h.push { cls := .type "dict", data := .dict #[] }) h.objs.size (.dK []) :=
  ⟨Nat.zero_le _, beq_eq_false_iff_ne.mpr (Ne.symm (Nat.ne_of_lt hb)), [], .nil, Heap.DictOf.new h⟩
theorem dt_empty {P : Program} {w : World} {H : Hp} (h : Heap) (hb : sysModules < h.objs.size) : ObjOk P w H (h.push { cls := .type "dict", data := .dict #[] }) h.objs.size (.dT []) :=
  ⟨Nat.zero_le _, beq_eq_false_iff_ne.mpr (Ne.symm (Nat.ne_of_lt hb)), [], .nil, _, #[], 0, Heap.get?_push_size _ rfl, ⟨rfl, rfl, rfl⟩, rfl, rfl, List.nodup_nil⟩
def tDNewK : TE := fun _ H Q => ∀ p, H p = none -> Q (.ref p) (upd H p (.dK []))
def tDNewT : TE := fun _ H Q => ∀ p, H p = none -> Q (.ref p) (upd H p (.dT []))
section
variable {X : Cx} {pos : Pos}
theorem pe_dnewK : PE X (.Dict [] [] pos) tDNewK := fun pins s σ H Q I h =>
  wpAny_Dict_empty ⟨.ref s.heap.objs.size, _, I.laid (a := s.heap.objs.size) (o := .dK []) (t' := s.toks) (fun _ _ q => Heap.get?_push_of_some _ q) (Nat.le_refl _) (dk_empty s.heap I.big), rfl, h _ (I.hok.fresh (Nat.le_refl _))⟩
theorem pe_dnewT : PE X (.Dict [] [] pos) tDNewT := fun pins s σ H Q I h =>
  wpAny_Dict_empty ⟨.ref s.heap.objs.size, _, I.laid (a := s.heap.objs.size) (o := .dT []) (t' := s.toks) (fun _ _ q => Heap.get?_push_of_some _ q) (Nat.le_refl _) (dt_empty s.heap I.big), rfl, h _ (I.hok.fresh (Nat.le_refl _))⟩
end
def tPairs : List (TE × TE) -> St -> Hp -> (List (V × V) -> Hp -> Prop) -> Prop
  | [], _, H, Q => Q [] H
  | (tk, tv) :: r, σ, H, Q => tk σ H fun x H1 => tv σ H1 fun y H2 => tPairs r σ H2 fun ps H3 => Q ((x, y) :: ps) H3
abbrev VV : List (V × V) -> List (Value × Value) -> Prop := Paired fun p q => RelV p.1 q.1 /\ RelV p.2 q.2
def PPs (X : Cx) (pos : Pos) (keys : List (Option Expr)) (values : List Expr) (trs : List (TE × TE)) : Prop :=
  ∀ (pins : List (Addr × Obj)) (s : Shared) (σ : St) (H : Hp) (Q : List (V × V) -> Hp -> Prop), Inv X pins σ H s -> tPairs trs σ H Q ->
    wpAny (model X.prog X.w) X.A (evalPairs (pairTrees keys values X.env pos)) (fun vs s' => ∃ ps H', Inv X pins σ H' s' /\ VV ps vs /\ Q ps H') X.xe s
theorem pps_nil {X : Cx} {pos : Pos} : PPs X pos [] [] [] := fun pins s σ H Q I h => pairTrees_nil_walk ⟨[], H, I, .nil, h⟩
theorem pps_cons {X : Cx} {pos : Pos} {k v : Expr} {ks : List (Option Expr)} {vs : List Expr} {tk tv : TE} {trs : List (TE × TE)} (hk : PE X k tk) (hv : PE X v tv) (hr : PPs X pos ks vs trs) :
    PPs X pos (some k :: ks) (v :: vs) ((tk, tv) :: trs) := fun pins s σ H Q I h =>
  pairTrees_cons_walk (thn (hk pins s σ H _ I h) fun u s1 ⟨x, H1, I1, rx, q1⟩ => thn (hv pins s1 σ H1 _ I1 q1) fun w2 s2 ⟨y, H2, I2, ry, q2⟩ =>
    thn (hr pins s2 σ H2 _ I2 q2) fun ws s3 ⟨ps, H3, I3, rel, q3⟩ => ⟨(x, y) :: ps, H3, I3, .cons ⟨rx, ry⟩ rel, q3⟩)
def mergeK (kvs more : List (Key × V)) : List (Key × V) := more.foldl (fun acc kv => putK acc kv.1 kv.2) kvs
theorem KV.merge : ∀ {more : List (Key × V)} {rs : List (Key × Value)} {kvs : List (Key × V)} {vs : List (Key × Value)}, KV more rs -> KV kvs vs -> KV (mergeK kvs more) (merged vs rs) := by
  intro more rs kvs vs r
  unfold KV at r
  induction r generalizing kvs vs with
  | nil => intro q; exact q
  | @cons p q ps qs h t ih =>
    intro r0
    have e : KV (putK kvs p.1 p.2) (stored vs q.1 q.2) := by
      have := r0.put p.1 h.2
      rw [<- h.1]; exact this
    exact ih e
theorem length_mergeK : ∀ (more kvs : List (Key × V)), (mergeK kvs more).length <= kvs.length + more.length
  | [], kvs => by show kvs.length <= kvs.length + 0; omega
  | p :: r, kvs => by
    have h1 := length_mergeK r (putK kvs p.1 p.2)
    have h2 := length_putK kvs p.1 p.2
    show (mergeK (putK kvs p.1 p.2) r).length <= _
    rw [List.length_cons]; omega
theorem carries_of {P : Program} {w : World} : ∀ {kvs : List (Key × V)} {ws : List (Value × Value)}, VV (kvs.map fun kv => (kV kv.1, kv.2)) ws -> ∃ rs, Carries (mixKind P w) ws rs /\ KV kvs rs
  | [], _, r => by rw [List.map_nil] at r; cases r; exact ⟨[], True.intro, .nil⟩
  | p :: kvs, _, r => by
    rw [List.map_cons] at r
    cases r with
    | @cons a b as bs h t =>
      obtain ⟨rs, c, q⟩ := carries_of (P := P) (w := w) t
      obtain ⟨b1, b2⟩ := b
      exact ⟨(p.1, b2) :: rs, ⟨kV_is h.1, rfl, c⟩, .cons ⟨rfl, h.2⟩ q⟩
def tDisp (trs : List (TE × TE)) : TE := fun σ H Q => ∀ p, H p = none -> tPairs trs σ (upd H p (.dK [])) fun ps H2 => H2 p = some (.dK []) /\ ∃ kvs : List (Key × V), ps = kvs.map (fun kv => (kV kv.1, kv.2)) /\ kvs.length <= 15 /\ Q (.ref p) (upd H2 p (.dK (mergeK [] kvs)))
theorem pe_disp {X : Cx} {pos : Pos} {keys : List (Option Expr)} {values : List Expr} {trs : List (TE × TE)} (h : PPs X pos keys values trs) (hall : keys.all (·.isSome) = true) (hl : keys.length = values.length) (h0 : keys ≠ [])
    (h15 : keys.length <= 15) : PE X (.Dict keys values pos) (tDisp trs) := by
  intro pins s σ H Q I q
  have hn := I.hok.fresh (Nat.le_refl s.heap.objs.size)
  have I1 := I.laid (a := s.heap.objs.size) (o := .dK []) (h' := s.heap.push { cls := .type "dict", data := .dict #[] }) (t' := s.toks) (fun _ _ q => Heap.get?_push_of_some _ q) (Nat.le_refl _) (dk_empty s.heap I.big)
  refine wpAny_Dict_walk (knd := mixKind X.prog X.w) hall hl h0 h15 (thn (h pins _ σ _ _ I1 (q _ hn)) fun ws s2 ⟨ps, H2, I2, rel, e, kvs, ep, lk, q2⟩ => ?_)
  subst ep
  obtain ⟨rs, c, rk⟩ := carries_of (P := X.prog) (w := X.w) rel
  obtain ⟨z, hd, vs0, r0, dd⟩ := dk_of I2.hok e
  cases r0
  refine ⟨rs, c, dd, fun h' dd' hs => ⟨.ref s.heap.objs.size, _, ?_, rfl, q2⟩⟩
  have hz : (mergeK [] kvs).length <= sizeLine := by
    have h1 := length_mergeK kvs []
    rw [List.length_nil] at h1
    rw [sizeLine_eq]; omega
  have he : ∃ q, h'.get? s.heap.objs.size = some q := let ⟨q, _, _, hq, _⟩ := dd'; ⟨q, hq⟩
  exact d_write I2 (by rw [e]; exact True.intro) hs he (dk_new hz hd (rk.merge .nil) dd')
structure M2 (X : Cx) (o : Expr) (m : Str) (apos : Pos) (e f : Expr) (cpos : Pos) : Prop where
  base : attributeBase o m X.env (eval o X.env) = eval o X.env
  few : ((backTo cpos (starEach [e, f] X.env)).all (fun x => !x.1) && (backToKw cpos (keywordEach [] X.env)).all (fun x => x.1.isSome)
    && decide (([e, f] : List Expr).length + ([] : List Keyword).length + (if ([] : List Keyword).isEmpty then 0 else 1) < 30)) = true
  line : (apos.endLine == cpos.line) = true
  trees : backTo cpos (starEach [e, f] X.env) = [(false, eval e X.env), (false, eval f X.env)]
def IsD (H : Hp) (a : Addr) : Prop := (∃ kvs, Rd H a (.dK kvs)) \/ ∃ kvs, Rd H a (.dT kvs)
theorem isD_at {X : Cx} {pins : List (Addr × Obj)} {σ : St} {H : Hp} {s : Shared} {a : Addr} (I : Inv X pins σ H s) (d : IsD H a) :
    s.TypeIs (.ref a) "dict" /\ (∀ b, Value.ref a = .ref b -> ∃ ob, s.heap.get? b = some ob /\ ob.dict = none) /\ (a == sysModules) = false := by
  rcases d with ⟨kvs, e⟩ | ⟨kvs, e⟩
  . obtain ⟨_, hd, vs, _, dd⟩ := dk_rd I.hok e
    refine ⟨dd.typeIs, fun b q => ?_, hd⟩
    cases q
    obtain ⟨ob, _, _, h1, h2, _⟩ := dd
    exact ⟨ob, h1, h2.2.1⟩
  . obtain ⟨_, hd, xs, _, dd⟩ := dt_rd I.hok e
    refine ⟨dd.typeIs, fun b q => ?_, hd⟩
    cases q
    obtain ⟨ob, _, _, h1, h2, _⟩ := dd
    exact ⟨ob, h1, h2.2.1⟩
section
variable {X : Cx} {pins : List (Addr × Obj)} {σ : St} {H : Hp} {s : Shared} {a : Addr} {y d : V} {u r : Value} {o : Option V} {A : Around} {E : Value -> Shared -> Prop}
end
section
variable {X : Cx} {o e f : Expr} {apos cpos : Pos} {td ty tx : TE}
end
section
variable {X : Cx} {pins : List (Addr × Obj)} {σ : St} {H : Hp} {s : Shared} {a : Addr} {kvs : List (Key × V)} {A : Around} {E : Value -> Shared -> Prop}
end
section
variable {X : Cx} {pins : List (Addr × Obj)} {σ : St} {H : Hp} {s : Shared} {a : Addr} {y : V} {u : Value} {A : Around} {E : Value -> Shared -> Prop}
end
end L2
set_option Elab.async false
set_option linter.all false
set_option maxRecDepth 100000
set_option maxHeartbeats 4000000
namespace L2
open PySem PySem.Spec PyProof.Rows
def clOf (env : Env) : List (Str × NameKind) -> List (Str × Addr) -> List (Str × Addr)
  | [], acc => acc
  | (n, k) :: r, acc => if (k == .free) = true then clOf env r ((n, (env.cells.lookup n).getD 0) :: acc) else clOf env r acc
theorem closure_eq {env : Env} {scope : Scope} (h : ∀ p ∈ scope.names, p.2 = .free -> ∃ c, env.cells.lookup p.1 = some c) : closureFor scope env = pure (clOf env scope.names []) := by
  have go : ∀ (l : List (Str × NameKind)) (acc : List (Str × Addr)), (∀ p ∈ l, p.2 = .free -> ∃ c, env.cells.lookup p.1 = some c) ->
      (forIn l acc fun (x : Str × NameKind) (cs : List (Str × Addr)) => (if (x.2 == .free) = true then do let c <- cellOf env x.1; pure (ForInStep.yield ((x.1, c) :: cs)) else pure (ForInStep.yield cs) : Sem (ForInStep (List (Str × Addr))))) = (pure (clOf env l acc) : Sem (List (Str × Addr))) := by
    intro l
    induction l with
    | nil => intro acc _; rfl
    | cons p r ih =>
      intro acc hl
      obtain ⟨n, k⟩ := p
      rw [List.forIn_cons]
      by_cases hk : (k == .free) = true
      . obtain ⟨c, hc⟩ := hl (n, k) List.mem_cons_self (by simpa using hk)
        have e1 : cellOf env n = pure c := by unfold cellOf; rw [hc]
        have ih' := ih ((n, c) :: acc) fun q hq => hl q (List.mem_cons_of_mem _ hq)
        show ((if (k == .free) = true then do let c <- cellOf env n; pure (ForInStep.yield ((n, c) :: acc)) else pure (ForInStep.yield acc) : Sem _) >>= _) = _
        rw [if_pos hk, e1]
        show (forIn r ((n, c) :: acc) _ : Sem _) = _
        rw [clOf, if_pos hk, hc]
        exact ih'
      . have ih' := ih acc fun q hq => hl q (List.mem_cons_of_mem _ hq)
        show ((if (k == .free) = true then do let c <- cellOf env n; pure (ForInStep.yield ((n, c) :: acc)) else pure (ForInStep.yield acc) : Sem _) >>= _) = _
        rw [if_neg hk]
        show (forIn r acc _ : Sem _) = _
        rw [clOf, if_neg hk]
        exact ih'
  have e := go scope.names [] h
  unfold closureFor
  show (forIn scope.names [] _ >>= fun cs => pure cs : Sem _) = _
  have e2 : (forIn scope.names [] (fun (x : Str × NameKind) (r : List (Str × Addr)) => (match x with
      | (name, kind) => if (kind == .free) = true then do let c <- cellOf env name; pure (ForInStep.yield ((name, c) :: r)) else do pure PUnit.unit; pure (ForInStep.yield r) : Sem (ForInStep (List (Str × Addr)))))) = (pure (clOf env scope.names []) : Sem (List (Str × Addr))) := e
  exact congrArg (fun z => z >>= fun cs => pure cs) e2
theorem clOf_mem {env : Env} : ∀ (l : List (Str × NameKind)) (acc : List (Str × Addr)), (∀ p ∈ l, p.2 = .free -> ∃ c, env.cells.lookup p.1 = some c) -> (∀ q ∈ acc, env.cells.lookup q.1 = some q.2) -> ∀ q ∈ clOf env l acc, env.cells.lookup q.1 = some q.2
  | [], _, _, ha, q, hq => ha q hq
  | (n, k) :: r, acc, hl, ha, q, hq => by
    unfold clOf at hq
    by_cases hk : (k == .free) = true
    . rw [if_pos hk] at hq
      obtain ⟨c, hc⟩ := hl (n, k) List.mem_cons_self (by simpa using hk)
      refine clOf_mem r _ (fun p hp => hl p (List.mem_cons_of_mem _ hp)) (fun p hp => ?_) q hq
      rcases List.mem_cons.mp hp with rfl | hp
      . show env.cells.lookup n = some ((env.cells.lookup n).getD 0)
        rw [hc]; rfl
      . exact ha p hp
    . rw [if_neg hk] at hq
      exact clOf_mem r _ (fun p hp => hl p (List.mem_cons_of_mem _ hp)) ha q hq
theorem clOf_has {env : Env} : ∀ (l : List (Str × NameKind)) (acc : List (Str × Addr)) (x : Str), ((x, NameKind.free) ∈ l \/ ∃ c, (x, c) ∈ acc) -> ∃ c, (x, c) ∈ clOf env l acc
  | [], _, _, h => by
    rcases h with h | h
    . cases h
    . exact h
  | (n, k) :: r, acc, x, h => by
    unfold clOf
    by_cases hk : (k == .free) = true
    . rw [if_pos hk]
      refine clOf_has r _ x ?_
      rcases h with h | ⟨c, h⟩
      . rcases List.mem_cons.mp h with h | h
        . cases h
          exact .inr ⟨_, List.mem_cons_self⟩
        . exact .inl h
      . exact .inr ⟨c, List.mem_cons_of_mem _ h⟩
    . rw [if_neg hk]
      refine clOf_has r _ x ?_
      rcases h with h | h
      . rcases List.mem_cons.mp h with h | h
        . cases h
          exact absurd rfl hk
        . exact .inl h
      . exact .inr h
theorem lookup_some_of_mem {β : Type} : ∀ {l : List (Str × β)} {x : Str} {c : β}, (x, c) ∈ l -> ∃ c', l.lookup x = some c'
  | [], _, _, h => by cases h
  | (n, d) :: r, x, c, h => by
    by_cases hx : (x == n) = true
    . exact ⟨d, by rw [List.lookup_cons, hx]⟩
    . rcases List.mem_cons.mp h with h | h
      . cases h; exact absurd (beq_self_eq_true _) hx
      . obtain ⟨c', e⟩ := lookup_some_of_mem h
        exact ⟨c', by rw [List.lookup_cons]; simp only [Bool.not_eq_true] at hx; rw [hx]; exact e⟩
def relF (env : Env) : Str × NameKind -> Str × NameKind := fun (n, k) => if (k == NameKind.free && env.scope.kind == .function && env.kindOf n == some .cell) then (n, NameKind.cell) else (n, k)
theorem relF_yes {env : Env} {n : Str} {k : NameKind} (h : (k == NameKind.free && env.scope.kind == .function && env.kindOf n == some .cell) = true) : relF env (n, k) = (n, .cell) := if_pos h
theorem relF_no {env : Env} {n : Str} {k : NameKind} (h : ¬ (k == NameKind.free && env.scope.kind == .function && env.kindOf n == some .cell) = true) : relF env (n, k) = (n, k) := if_neg h
theorem relabel_kind {env : Env} : ∀ {names : List (Str × NameKind)} {x : Str} {k : NameKind}, (∀ y ∈ names, y.2 ≠ .cell) ->
    (names.map (relF env)).lookup x = some k -> (k = .cell \/ k = .free) -> (x, NameKind.free) ∈ names
  | [], _, _, _, h, _ => by simp at h
  | (n, k') :: r, x, k, hc, h, hk => by
    have ih := @relabel_kind env r x k (fun y hy => hc y (List.mem_cons_of_mem _ hy))
    rw [List.map_cons] at h
    by_cases hb : (k' == NameKind.free && env.scope.kind == .function && env.kindOf n == some .cell) = true
    . rw [relF_yes hb, List.lookup_cons] at h
      cases hx : x == n with
      | true =>
        have e : x = n := by simpa using hx
        subst e
        have e2 : k' = .free := by
          simp only [Bool.and_eq_true] at hb
          simpa using hb.1.1
        subst e2
        exact List.mem_cons_self
      | false =>
        rw [hx] at h
        exact List.mem_cons_of_mem _ (ih h hk)
    . rw [relF_no hb, List.lookup_cons] at h
      cases hx : x == n with
      | true =>
        rw [hx] at h
        have e : x = n := by simpa using hx
        subst e
        have e2 : k' = k := Option.some.inj h
        subst e2
        rcases hk with rfl | rfl
        . exact absurd rfl (hc _ List.mem_cons_self)
        . exact List.mem_cons_self
      | false =>
        rw [hx] at h
        exact List.mem_cons_of_mem _ (ih h hk)
theorem relabel_free {env : Env} : ∀ {names : List (Str × NameKind)} {x : Str}, names.lookup x = some .free ->
    ∃ k, (k = NameKind.cell \/ k = NameKind.free) /\ (names.map (relF env)).lookup x = some k
  | [], _, h => by simp at h
  | (n, k') :: r, x, h => by
    have ih := @relabel_free env r x
    rw [List.lookup_cons] at h
    rw [List.map_cons]
    cases hx : x == n with
    | true =>
      rw [hx] at h
      have e2 : k' = .free := Option.some.inj h
      subst e2
      by_cases hb : ((NameKind.free : NameKind) == NameKind.free && env.scope.kind == .function && env.kindOf n == some .cell) = true
      . exact ⟨.cell, .inl rfl, by rw [relF_yes hb, List.lookup_cons, hx]⟩
      . exact ⟨.free, .inr rfl, by rw [relF_no hb, List.lookup_cons, hx]⟩
    | false =>
      rw [hx] at h
      obtain ⟨k, hk, e⟩ := ih h
      refine ⟨k, hk, ?_⟩
      by_cases hb : (k' == NameKind.free && env.scope.kind == .function && env.kindOf n == some .cell) = true
      . rw [relF_yes hb, List.lookup_cons, hx]; exact e
      . rw [relF_no hb, List.lookup_cons, hx]; exact e
end L2
set_option Elab.async false
set_option linter.all false
set_option maxRecDepth 100000
set_option maxHeartbeats 4000000
namespace L2
open PySem PySem.Spec PyProof.Rows
section
variable {prog : Program} {w : World} {A : Around} {R : Result -> Shared -> Prop} {s : Shared}
abbrev cpW (prog : Program) (w : World) (A : Around) (R : Result -> Shared -> Prop) (env : Env) {α : Type} (m : Sem α) (Q : α -> Shared -> Prop) : Shared -> Prop := wpAny (model prog w) A m Q (notedBy (model prog w) A env fun e t => R (.error e) t)
theorem compLoop_gen {elt target iter : Expr} {ifs : List Expr} {scope : Scope} {pos : Pos} {it acc : Value} {env : Env} (I : Nat -> Shared -> Prop)
    (turn : ∀ n s, I n s -> cpW prog w A R env (pyNext it) (fun r s => match r with
      | none => R (.ok .next) s
      | some v => cpW prog w A R env (letOwnedTupleGo target it v) (fun _ => cpW prog w A R env (assign target env v) fun _ => cpW prog w A R env (forIn ifs true fun c r => if r = true then do let ok <- isTrue c env (eval c env); pure (ForInStep.yield ok) else pure (ForInStep.yield r)) fun ok s =>
          if ok = true then cpW prog w A R env (eval elt env) (fun x => cpW prog w A R env (call (.builtin "list.append") [acc, x]) fun _ t => ∃ m, m < n /\ I m t) s else ∃ m, m < n /\ I m s) s) s)
    (n : Nat) (h : I n s) : codeAny (model prog w) A (.compLoop (.ListComp elt [⟨target, iter, ifs, 0⟩] scope pos) 0 it acc env) R s := by
  have mono : ∀ {α β : Type} {m : Sem α} {f : α -> Sem β} {Q : α -> Shared -> Prop} {Q' : β -> Shared -> Prop} {s : Shared}, cpW prog w A R env m Q s -> (∀ a t, Q a t -> cpW prog w A R env (f a) Q' t) -> cpW prog w A R env (m >>= f) Q' s := fun h k => wpAny_bind (wpAny_mono h k fun _ _ e => e)
  refine codeAny_loop rfl I (fun n s hI => wpAny_noted ?_) n h
  rw [compTurn_list]
  refine wpAny_bind (wpAny_standAt (mono (turn n s hI) fun r s1 h1 => ?_))
  cases r with
  | none => exact wpAny_pure h1
  | some v =>
    refine mono h1 fun _ _ h2 => mono h2 fun _ _ h3 => mono h3 fun ok s4 h4 => ?_
    cases ok with
    | false => exact wpAny_pure ⟨rfl, h4⟩
    | true => exact wpAny_bind (mono h4 fun _ _ h5 => mono h5 fun _ _ h6 => wpAny_pure (wpAny_pure ⟨rfl, h6⟩))
end
abbrev Cx.blk (X : Cx) (N : List Str) (sc : Scope) (C : Addr) (s₀ : Shared) (H₀ : Hp) (ex : List Addr) : Cx :=
  { X with N := N, env := compEnvC sc (clOf X.env sc.names []) C X.env, outer := X.stack, s₀ := s₀, H₀ := H₀, ex := ex, fn := fun _ => false, pn := [], xe := fun _ _ => False }
structure BlkSc (X : Cx) (sc : Scope) : Prop where
  kind : sc.kind = .function
  nocell : ∀ y ∈ sc.names, y.2 ≠ .cell
  loc : ∀ y ∈ sc.names, y.2 = .local -> sc.names.lookup y.1 = some .local
  free : ∀ y ∈ sc.names, y.2 = .free -> X.env.kindOf y.1 = some .cell \/ X.env.kindOf y.1 = some .free
abbrev Caps := List (Str × Option Nat)
def Caps.names (c : Caps) : List Str := c.map (·.1)
def Caps.st (c : Caps) (σ : St) : St := c.map fun p => p.2.bind fun j => (σ[j]?).join
def CapsOk (N : List Str) (sc : Scope) : Caps -> Prop
  | [] => True
  | (_, none) :: r => CapsOk N sc r
  | (x, some j) :: r => (N[j]? = some x /\ sc.names.lookup x = some .free) /\ CapsOk N sc r
theorem CapsOk.get {N : List Str} {sc : Scope} : ∀ {c : Caps} {i : Nat} {x : Str} {j : Nat}, CapsOk N sc c -> c[i]? = some (x, some j) -> N[j]? = some x /\ sc.names.lookup x = some .free
  | [], _, _, _, _, h => by simp at h
  | (y, none) :: r, 0, x, j, _, h => by simp at h
  | (y, none) :: r, i + 1, x, j, ok, h => CapsOk.get (c := r) (i := i) ok (by simpa using h)
  | (y, some k) :: r, 0, x, j, ok, h => by
    simp only [List.getElem?_cons_zero, Option.some.injEq, Prod.mk.injEq] at h
    obtain ⟨rfl, rfl⟩ := h
    exact ok.1
  | (y, some k) :: r, i + 1, x, j, ok, h => CapsOk.get (c := r) (i := i) ok.2 (by simpa using h)
section
variable {X : Cx} {pins : List (Addr × Obj)} {σ : St} {H : Hp} {s : Shared} {sc : Scope} {fp : List Addr}
theorem blk_cells (I : Inv X pins σ H s) (S : BlkSc X sc) : ∀ p ∈ sc.names, p.2 = .free -> ∃ c, X.env.cells.lookup p.1 = some c := fun p hp e => I.ok.has p.1 (S.free p hp e)
theorem blk_lookup (I : Inv X pins σ H s) (S : BlkSc X sc) {x : Str} {c : Addr} (h : (clOf X.env sc.names []).lookup x = some c) : X.env.cells.lookup x = some c :=
  clOf_mem sc.names [] (blk_cells I S) (fun q hq => by cases hq) (x, c) (PySem.mem_of_lookup h)
theorem blk_ok {N : List Str} {C : Addr} (I : Inv X pins σ H s) (S : BlkSc X sc) (hC : s.heap.objs.size <= C) (hf : ∀ b ∈ fp, FpOk X pins H b) (ho : ∀ b ∈ fp, ∃ o, s.heap.get? b = some o) : (X.blk N sc C s H fp).Ok where
  mod := I.ok.mod
  kind := S.kind
  glob := I.ok.glob
  blt := I.ok.blt
  above := hC
  inj := fun x y c h1 h2 => I.ok.inj x y c (blk_lookup I S h1) (blk_lookup I S h2)
  has := fun x hx => by
    have hx' : (x, NameKind.free) ∈ sc.names := by
      rcases hx with hx | hx
      . exact relabel_kind (env := X.env) S.nocell hx (.inl rfl)
      . exact relabel_kind (env := X.env) S.nocell hx (.inr rfl)
    obtain ⟨c, hc⟩ := clOf_has (env := X.env) sc.names [] x (.inl hx')
    exact lookup_some_of_mem hc
  cab := fun x c h => absurd (show false = true from h) Bool.false_ne_true
  hd := I.ok.hd
  frames := I.ok.frames
  stk := .inl rfl
  exf := fun b hb => by
    obtain ⟨o, ho⟩ := ho b hb
    refine ⟨Nat.ne_of_lt (Nat.lt_of_lt_of_le (Heap.lt_size ho) hC), fun x c h => (hf b hb).2.2.2.2.1 x c (blk_lookup I S h)⟩
  bs := I.bs
  bsz := Nat.le_trans I.ok.bsz I.sz
  noex := fun b o e hb => by
    rcases (hf b hb).2.2.2.1 with z | z
    . exact I.ok.noex b o e z
    . exact absurd (Nat.lt_of_lt_of_le (Heap.lt_size (I.ok.bs b o e).1) z) (Nat.lt_irrefl _)
  exfs := fun b hb z => by
    rcases List.mem_cons.mp (I.stkSub b z) with e | e
    . exact (hf b hb).2.1 e
    . exact (hf b hb).2.2.1 e
  funs := I.stack
  frf := I.stkFree
theorem blk_start {c : Caps} {C : Addr} {s4 : Shared} {m : Str -> Option Value} (I : Inv X pins σ H s) (S : BlkSc X sc) (hc : CapsOk X.N sc c) (hC : s.heap.objs.size <= C) (hf : ∀ b ∈ fp, FpOk X pins H b) (ho : ∀ b ∈ fp, ∃ o, s.heap.get? b = some o)
    (hos : s4.os = s.os) (hb : s4.gens = s.gens) (hk : ∀ b o, s.heap.get? b = some o -> s4.heap.get? b = some o) (hn : s4.heap.Ns C m) : Inv (X.blk c.names sc C s H fp) [] (c.st σ) H s4 where
  ok := blk_ok I S hC hf ho
  os := hos
  bare := by rw [hb]; exact I.bare
  base := Un.kept hk
  loc := by
    refine ⟨m, hn, fun i x v h1 h2 hv => ?_⟩
    have h1' : (c.map (·.1))[i]? = some x := h1
    have h2' : (c.map fun p => p.2.bind fun j => (σ[j]?).join)[i]? = some (some v) := h2
    rw [List.getElem?_map] at h1' h2'
    cases e : c[i]? with
    | none => rw [e] at h1'; cases h1'
    | some p =>
      obtain ⟨y, oj⟩ := p
      rw [e] at h1' h2'
      have e1 : y = x := Option.some.inj h1'
      subst e1
      have e2 : (oj.bind fun j => (σ[j]?).join) = some v := Option.some.inj h2'
      cases oj with
      | none => cases e2
      | some j =>
        have e3 : (σ[j]?).join = some v := e2
        have e4 : σ[j]? = some (some v) := by
          cases q : σ[j]? with
          | none => rw [q] at e3; cases e3
          | some z => rw [q] at e3; exact congrArg some e3
        obtain ⟨k1, k2⟩ := CapsOk.get hc e
        have k3 : X.env.kindOf y = some .cell \/ X.env.kindOf y = some .free := S.free (y, .free) (PySem.mem_of_lookup k2) rfl
        have vis : Vis X.env.scope y := by
          rcases k3 with k | k
          . exact .inr (.inl k)
          . exact .inr (.inr k)
        obtain ⟨mX, hnX, hl⟩ := I.loc
        obtain ⟨u, r, l⟩ := hl j y v k1 e4 vis
        refine ⟨u, r, ?_⟩
        rcases l with ⟨k, _⟩ | ⟨_, ca, hca, z⟩
        . rcases k3 with k' | k' <;> (rw [k] at k'; cases k')
        . obtain ⟨kd, hkd, ek⟩ := relabel_free (env := X.env) k2
          have hk2 : (compEnvC sc (clOf X.env sc.names []) C X.env).kindOf y = some kd := ek
          obtain ⟨c', hc'⟩ := clOf_has (env := X.env) sc.names [] y (.inl (PySem.mem_of_lookup k2))
          obtain ⟨c2, hc2⟩ := lookup_some_of_mem hc'
          have e5 := blk_lookup I S hc2
          rw [hca] at e5
          have e6 : ca = c2 := Option.some.inj e5
          subst e6
          refine .inr ⟨?_, ca, hc2, ?_⟩
          . rcases hkd with rfl | rfl
            . exact .inl hk2
            . exact .inr hk2
          . obtain ⟨oc, hoc, hd⟩ := z
            exact ⟨oc, hk _ _ hoc, hd⟩
  cell := fun x ca h => by
    obtain ⟨v, oc, hoc, hd⟩ := I.cell x ca (blk_lookup I S h)
    exact ⟨v, oc, hk _ _ hoc, hd⟩
  free := I.hok.fresh hC
  freeC := fun x ca h => I.freeC x ca (blk_lookup I S h)
  pin := fun p hp => absurd (show p ∈ ([] : List (Addr × Obj)) from hp) (by simp)
  hok := I.hok.kept hk
  len := by show (c.map _).length = (c.map _).length; rw [List.length_map, List.length_map]
theorem HOk.track {P : Program} {w : World} {H : Hp} {h : Heap} {a : Addr} {o : HO} (x : HOk P w H h) (hn : H a = none) (new : ObjOk P w (upd H a o) h a o) : HOk P w (upd H a o) h := fun b u e => by
  by_cases hb : b = a
  . subst hb; rw [upd_same] at e; cases e; exact new
  . rw [upd_ne hb] at e
    exact (x b u e).stay (fun c v _ q => q) (fun c q => by rw [upd_ne (ne_of_none q hn)]; exact q) fun c xs q => by rw [upd_ne (ne_of_none q hn)]; exact q
theorem Un.track {fs ex : List Addr} {H H' : Hp} {h h' : Heap} {a : Addr} {o : HO} (u : Un fs ex H H' h h') (ha : h.objs.size <= a) (hn : H' a = none) : Un fs ex H (upd H' a o) h h' where
  keep := u.keep
  slot := u.slot
  free := fun b ob q n hx => by rw [upd_ne (Nat.ne_of_lt (Nat.lt_of_lt_of_le (Heap.lt_size q) ha))]; exact u.free b ob q n hx
  there := u.there
  tups := fun b xs q => by rw [upd_ne (ne_of_none (u.tups b xs q) hn)]; exact u.tups b xs q
  frzs := fun b ob xs q => by rw [upd_ne (ne_of_none (u.frzs b ob xs q) hn)]; exact u.frzs b ob xs q
  tbls := fun b ps q => by
    obtain ⟨more, e⟩ := u.tbls b ps q
    exact ⟨more, by rw [upd_ne (ne_of_none e hn)]; exact e⟩
theorem blk_end {c : Caps} {C D : Addr} {s' : Shared} {σ' : St} {H' : Hp} {o : HO} (I : Inv X pins σ H s) (J : Inv (X.blk c.names sc C s H fp) [] σ' H' s') (hf : ∀ b ∈ fp, FpOk X pins H b) (hD : s.heap.objs.size <= D) (hn : H' D = none)
    (new : ObjOk X.prog X.w (upd H' D o) s'.heap D o) : Inv X pins σ (upd H' D o) s' := by
  have u : Un (frs X.stack) fp H H' s.heap s'.heap := J.base
  exact I.call' J.os (u.track hD hn) (J.hok.track hn new) J.bare fun b hb => ⟨(hf b hb).2.2.2.1, (hf b hb).2.1, (hf b hb).2.2.2.2.1, (hf b hb).2.2.2.2.2⟩
end
def PF (X : Cx) (ifs : List Expr) (t : TT) : Prop :=
  ∀ (pins : List (Addr × Obj)) (s : Shared) (σ : St) (H : Hp) (Q : Bool -> Hp -> Prop), Inv X pins σ H s -> t σ H Q ->
    wpAny (model X.prog X.w) X.A (forIn ifs true fun c r => if r = true then do let ok <- isTrue c X.env (eval c X.env); pure (ForInStep.yield ok) else pure (ForInStep.yield r)) (TP X pins σ Q) X.xe s
def tTrue : TT := fun _ H Q => Q true H
theorem pf_nil {X : Cx} : PF X [] tTrue := fun _ _ _ H _ I h => wpAny_tests_nil ⟨H, I, h⟩
theorem pf_one {X : Cx} {c : Expr} {t : TT} (h : PT X c t) : PF X [c] t := fun pins s σ H Q I hw => wpAny_tests_one (h pins s σ H Q I hw)
def tComp (wi : TI) (cp : Caps) (g : TG) (tc : TT) (te : TE) : TE := fun σ H Q => wi σ H fun J H1 => ∃ W : Nat -> Nat -> List V -> St -> Hp -> Prop, (∃ m, W 0 m [] (cp.st σ) H1) /\ ∀ i m ys σ' H', W i m ys σ' H' ->
  ys.length < sizeLine /\ ((J.stop i H' /\ ∀ D, H' D = none -> Q (.ref D) (upd H' D (.lst ys))) \/ (J.go i H' /\ ∃ N : List V -> St -> Hp -> Prop, (∀ zs σ2 H2, N zs σ2 H2 -> ∃ m', m' < m /\ W (i + 1) m' zs σ2 H2) /\ ∀ x H2, J.yld i H' x H2 -> g x σ' H2 fun σ2 H3 => tc σ2 H3 fun b H4 =>
    if b = true then te σ2 H4 fun v H5 => N (ys ++ [v]) σ2 H5 else N ys σ2 H4))
section
variable {X : Cx} {tg iter elt : Expr} {ifs : List Expr} {sc : Scope} {pos : Pos} {wi : TI} {cp : Caps} {g : TG} {tc : TT} {te : TE}
theorem comp_core (hc : X.calm = true) (S : BlkSc X sc) (hcp : CapsOk X.N sc cp)
    (hg : ∀ C s₀ H₀ ex, PG (X.blk cp.names sc C s₀ H₀ ex) tg g) (hf : ∀ C s₀ H₀ ex, PF (X.blk cp.names sc C s₀ H₀ ex) ifs tc) (he : ∀ C s₀ H₀ ex, PE (X.blk cp.names sc C s₀ H₀ ex) elt te)
    {pins : List (Addr × Obj)} {σ : St} {H : Hp} {s : Shared} {J : It} {it : Addr} {fp : List Addr} {tn : Nat -> Heap -> Prop} {Q : VK} {RR : Value -> Addr -> Result -> Shared -> Prop} {E : Value -> Shared -> Prop}
    (I : Inv X pins σ H s) (T : Turn X.prog X.w X.K tg J fp it tn) (st : tn 0 s.heap) (fpo : ∀ b ∈ fp, FpOk X pins H b)
    (hw : ∃ W : Nat -> Nat -> List V -> St -> Hp -> Prop, (∃ m, W 0 m [] (cp.st σ) H) /\ ∀ i m ys σ' H', W i m ys σ' H' ->
      ys.length < sizeLine /\ ((J.stop i H' /\ ∀ D, H' D = none -> Q (.ref D) (upd H' D (.lst ys))) \/ (J.go i H' /\ ∃ N : List V -> St -> Hp -> Prop, (∀ zs σ2 H2, N zs σ2 H2 -> ∃ m', m' < m /\ W (i + 1) m' zs σ2 H2) /\ ∀ x H2, J.yld i H' x H2 -> g x σ' H2 fun σ2 H3 => tc σ2 H3 fun b H4 =>
        if b = true then te σ2 H4 fun v H5 => N (ys ++ [v]) σ2 H5 else N ys σ2 H4)))
    (hR : ∀ D C s' H' (m : Str -> Option Value), Inv X pins σ H' s' -> Q (.ref D) H' -> s'.heap.Ns C m -> H' C = none -> C ≠ X.env.locals -> X.s₀.heap.objs.size <= C -> (∀ x c, X.env.cells.lookup x = some c -> c ≠ C) -> (∀ p ∈ X.pn ++ pins, p.1 ≠ C) -> RR (.ref D) C (.ok .next) s') :
    wpAny (model X.prog X.w) X.A (newList []) (fun acc s₃ => wpAny (model X.prog X.w) X.A (newFunctionEnv sc X.env.globals (clOf X.env sc.names []) [] X.env.qual none .none (some X.env)) (fun cenv s₄ =>
      codeAny (model X.prog X.w) X.A (.compStart (.ListComp elt [⟨tg, iter, ifs, 0⟩] sc pos) 0 (.ref it) acc { cenv with scope := relabel sc X.env }) (RR acc cenv.locals) s₄) E s₃) E s := by
  obtain ⟨W, ⟨m0, w0⟩, turn⟩ := hw
  refine wpAny_newObj_type (wpAny_newFunctionEnv S.nocell (by intro y hy; simp at hy) (fun h₁ hns₁ hsb₁ => ?_) S.kind)
  dsimp only at hns₁ hsb₁ ⊢
  generalize hH2 : s.heap.push { cls := .type "list", dict := none, data := .seq ([] : List Value).toArray } = H2 at hns₁ hsb₁ ⊢
  have hC : H2.objs.size = s.heap.objs.size + 1 := by rw [<- hH2, Heap.size_push]
  have hDC : s.heap.objs.size ≠ H2.objs.size := by rw [hC]; exact Nat.ne_of_lt (Nat.lt_succ_self _)
  have hCle : s.heap.objs.size <= H2.objs.size := by rw [hC]; exact Nat.le_succ _
  have below : ∀ b, b < s.heap.objs.size -> b ≠ H2.objs.size := fun b hb => by rw [hC]; exact Nat.ne_of_lt (Nat.lt_succ_of_lt hb)
  have old : ∀ b o, s.heap.get? b = some o -> h₁.get? b = some o := fun b o e => hsb₁.extBut b o (below b (Heap.lt_size e)) (Heap.get?_push_of_some _ (hH2 ▸ Heap.get?_push_of_some _ e))
  have hacc : h₁.get? s.heap.objs.size = some { cls := .type "list", data := .seq ([] : List Value).toArray 0 } := hsb₁.extBut _ _ hDC (Heap.get?_push_of_some _ (hH2 ▸ Heap.get?_push_size _ rfl))
  have hst₁ : tn 0 h₁ := T.keep 0 _ _ st fun b _ o e => old b o e
  have hobj : ∀ b ∈ fp, ∃ o, s.heap.get? b = some o := fun b hb => let ⟨o, e, _⟩ := T.obj 0 _ st b hb; ⟨o, e⟩
  have J0 : Inv (X.blk cp.names sc H2.objs.size s H fp) [] (cp.st σ) H { s with heap := h₁, toks := s.toks + ([] : List (Str × Value)).length } := blk_start I S hcp hCle fpo hobj rfl rfl old hns₁
  have nfs : ∀ b, s.heap.objs.size <= b -> b ∉ frs X.stack := fun b hb z => by
    rcases List.mem_cons.mp (I.stkSub b z) with e | e
    . exact absurd (Nat.lt_of_lt_of_le I.lt (by rw [<- e]; exact hb)) (Nat.lt_irrefl _)
    . exact I.nofs hb e
  have ncell : ∀ b, s.heap.objs.size <= b -> ∀ x c, X.env.cells.lookup x = some c -> c ≠ b := fun b hb x c e z => by
    obtain ⟨v, q⟩ := I.cell x c e
    exact absurd (Nat.lt_of_lt_of_le q.lt (by rw [z]; exact hb)) (Nat.lt_irrefl _)
  have fpb : ∀ {pins' : List (Addr × Obj)} {H' : Hp}, (∀ b ∈ fp, H' b = none) -> (∀ p ∈ pins', p.1 ∉ fp) -> ∀ b ∈ fp, FpOk (X.blk cp.names sc H2.objs.size s H fp) pins' H' b := fun {pins' H'} hn hp b hb => by
    obtain ⟨o, e⟩ := hobj b hb
    refine ⟨hn b hb, below b (Heap.lt_size e), fun z => ?_, .inl hb, fun x c h => (fpo b hb).2.2.2.2.1 x c (blk_lookup I S h), fun p hp' z => ?_⟩
    . rcases List.mem_cons.mp (I.stkSub b z) with e | e
      . exact (fpo b hb).2.1 e
      . exact (fpo b hb).2.2.1 e
    . have hp'' : p ∈ pins' := by simpa using hp'
      exact hp p hp'' (by rw [z]; exact hb)
  have loop : ∀ s₃ : Shared, s₃ = { s with heap := h₁, toks := s.toks + ([] : List (Str × Value)).length } ->
      codeAny (model X.prog X.w) X.A (.compLoop (.ListComp elt [⟨tg, iter, ifs, 0⟩] sc pos) 0 (.ref it) (.ref s.heap.objs.size) (compEnvC sc (clOf X.env sc.names []) H2.objs.size X.env))
        (RR (.ref s.heap.objs.size) H2.objs.size) s₃ := by
    rintro s₃ rfl
    refine compLoop_gen (fun n s' => ∃ i σ' H' ys its k, Inv (X.blk cp.names sc H2.objs.size s H fp) [] σ' H' s' /\ tn i s'.heap /\ (∀ b ∈ fp, H' b = none) /\ H' s.heap.objs.size = none /\
      s'.heap.get? s.heap.objs.size = some { cls := .type "list", data := .seq its.toArray k } /\ Vals ys its /\ W i n ys σ' H') ?_ m0
      ⟨0, _, H, [], [], 0, J0, hst₁, fun b hb => (fpo b hb).1, I.hok.fresh (Nat.le_refl _), hacc, .nil, w0⟩
    rintro n s3 ⟨i, σ3, H3, ys, its, k, I3, st3, fr3, hD3, e3, rv, w3⟩
    obtain ⟨hz, tr⟩ := turn i n ys σ3 H3 w3
    have hlen := rv.length
    -- the accumulator stands still while anything else runs
    have dpin : ∀ p ∈ [(s.heap.objs.size, ({ cls := .type "list", data := .seq its.toArray k } : Obj))], p.1 ∉ fp := fun p hp z => by
      have e : p = _ := List.mem_singleton.mp hp
      subst e
      obtain ⟨o, e⟩ := hobj _ z
      exact absurd (Heap.lt_size e) (Nat.lt_irrefl _)
    have I3' : Inv (X.blk cp.names sc H2.objs.size s H fp) [(s.heap.objs.size, ({ cls := .type "list", data := .seq its.toArray k } : Obj))] σ3 H3 s3 := I3.pins_of fun p hp => by
      have e : p = _ := List.mem_singleton.mp hp
      subst e
      exact ⟨e3, hD3, hDC, nfs _ (Nat.le_refl _), fun v z => by cases z⟩
    have stat : ∀ b ∈ fp, FpOk (X.blk cp.names sc H2.objs.size s H fp) [(s.heap.objs.size, ({ cls := .type "list", data := .seq its.toArray k } : Obj))] H3 b := fpb fr3 dpin
    rcases tr with ⟨stop, qn⟩ | ⟨go, N, hN, step⟩
    . refine thn (T.done (X.blk cp.names sc H2.objs.size s H fp) rfl rfl rfl hc i _ s3 σ3 H3 _ I3' stat st3 stop) fun r s4 ⟨hr, I4⟩ => ?_
      subst hr
      obtain ⟨e4, n4, _⟩ := I4.pin (s.heap.objs.size, ({ cls := .type "list", data := .seq its.toArray k } : Obj)) (by simp)
      have new : ObjOk X.prog X.w (upd H3 s.heap.objs.size (.lst ys)) s4.heap s.heap.objs.size (.lst ys) := ⟨Nat.le_of_lt hz, its, k, rv, e4⟩
      obtain ⟨mC, hnC, _⟩ := I4.loc
      have I4' : Inv (X.blk cp.names sc H2.objs.size s H fp) [] σ3 H3 s4 := I4.pins_of fun p hp => by cases hp
      have I5 := blk_end I I4' fpo (Nat.le_refl _) n4 new
      refine hR _ _ s4 _ mC I5 (qn _ n4) hnC ?_ (Nat.ne_of_gt (Nat.lt_of_lt_of_le I.lt hCle)) (Nat.le_trans I.sz hCle) (ncell _ hCle) fun p hp z => ?_
      . rw [upd_ne (Ne.symm hDC)]; exact I4.free
      . exact absurd (Nat.lt_of_lt_of_le (Heap.lt_size (I.pin p hp).1) (by rw [z]; exact hCle)) (Nat.lt_irrefl _)
    . refine thn (T.item (X.blk cp.names sc H2.objs.size s H fp) rfl rfl rfl hc i _ s3 σ3 H3 _ I3' stat st3 go) fun r s4 ⟨u, hr, h4⟩ => ?_
      subst hr
      refine thn h4 fun _ s5 ⟨x, H5, I5, r5, y5, st5, fr5⟩ => ?_
      have I5' := I5.pinned (fpb fr5 dpin) (T.obj _ _ st5)
      have fin : ∀ {σ7 : St} {H7 : Hp} {s7 : Shared}, Inv (X.blk cp.names sc H2.objs.size s H fp) ([(s.heap.objs.size, ({ cls := .type "list", data := .seq its.toArray k } : Obj))] ++ pinsAt fp s5.heap) σ7 H7 s7 ->
          s7.heap.get? s.heap.objs.size = some { cls := .type "list", data := .seq its.toArray k } /\ H7 s.heap.objs.size = none /\ (∀ b ∈ fp, H7 b = none) /\ ∀ b ∈ fp, ∀ o, s5.heap.get? b = some o -> s7.heap.get? b = some o := fun {σ7 H7 s7} I7 => by
        obtain ⟨e7, n7, _⟩ := I7.pin (s.heap.objs.size, ({ cls := .type "list", data := .seq its.toArray k } : Obj)) (by simp)
        refine ⟨e7, n7, fun b hb => ?_, fun b hb o e => ?_⟩
        . obtain ⟨o, e, _⟩ := T.obj _ _ st5 b hb
          exact (I7.pin (b, o) (List.mem_append_right _ (List.mem_append_right _ (mem_pinsAt hb e)))).2.1
        . exact (I7.pin (b, o) (List.mem_append_right _ (List.mem_append_right _ (mem_pinsAt hb e)))).1
      refine wpAny_mono (hg _ _ _ _ _ s5 σ3 H5 x u _ I5' r5 (step x H5 y5)) (fun _ s6 ⟨σ6, H6, I6, q6⟩ => ?_) fun _ _ z => False.elim z
      refine wpAny_mono (hf _ _ _ _ _ s6 σ6 H6 _ I6 q6) (fun ok s7 ⟨H7, I7, q7⟩ => ?_) fun _ _ z => False.elim z
      cases ok with
      | false =>
        rw [if_neg Bool.false_ne_true]
        rw [if_neg Bool.false_ne_true] at q7
        obtain ⟨m', hm, w7⟩ := hN _ _ _ q7
        obtain ⟨e7, n7, fr7, k7⟩ := fin I7
        exact ⟨m', hm, i + 1, σ6, H7, ys, its, k, I7.pins_of (fun p hp => by cases hp), T.keep _ _ _ st5 k7, fr7, n7, e7, rv, w7⟩
      | true =>
        rw [if_pos rfl]
        rw [if_pos rfl] at q7
        refine wpAny_mono (he _ _ _ _ _ s7 σ6 H7 _ I7 q7) (fun v s8 ⟨y, H8, I8, r8, q8⟩ => ?_) fun _ _ z => False.elim z
        obtain ⟨m', hm, w8⟩ := hN _ _ _ q8
        obtain ⟨e8, n8, fr8, k8⟩ := fin I8
        refine call_meets F.slot_list_append ⟨_, e8, rfl⟩ F.entry_list_append (F.args_list_append_2 _ _) (PySem.list_append s.heap.objs.size its.toArray k v (by rw [List.size_toArray]; omega)) ⟨e8, ?_⟩
        obtain ⟨k', q⟩ : ∃ k', (s8.heap.update s.heap.objs.size (Obj.mapSeq fun x => x.push v)).get? s.heap.objs.size = some { cls := .type "list", data := .seq (its ++ [v]).toArray k' } := ⟨_, by
          have q := PySem.IsL.update e8 fun x => x.push v
          have e : (its ++ [v]).toArray = its.toArray.push v := by simp
          rw [e]
          exact q⟩
        have I8' : Inv (X.blk cp.names sc H2.objs.size s H fp) [] σ6 H8 s8 := I8.pins_of fun p hp => by cases hp
        have I9 : Inv (X.blk cp.names sc H2.objs.size s H fp) [] σ6 H8 { s8 with heap := s8.heap.update s.heap.objs.size (Obj.mapSeq fun x => x.push v), toks := s8.toks } :=
          I8'.turned (it := s.heap.objs.size) (fun b o hb e => (Heap.get?_update_other _ _ (Ne.symm hb)).trans e) n8 hDC (.inr (Nat.le_refl _)) (fun x c e => ncell _ (Nat.le_refl _) x c (blk_lookup I S e)) (fun p hp => by cases hp)
        refine ⟨m', hm, i + 1, σ6, H8, ys ++ [y], its ++ [v], k', I9, T.keep (i + 1) s5.heap _ st5 (fun b hb o e => ?_), fr8, n8, q, rv.append (.cons r8 .nil), w8⟩
        . refine (Heap.get?_update_other _ _ ?_).trans (k8 b hb o e)
          intro z
          obtain ⟨ob, eb⟩ := hobj b hb
          exact absurd (Heap.lt_size eb) (by rw [<- z]; exact Nat.lt_irrefl _)
  exact codeAny_compStart_list (loop _ rfl) (T.self _ 0 _ _ _ hst₁ (loop _ rfl))
theorem pe_comp (hc : X.calm = true) (S : BlkSc X sc) (hcp : CapsOk X.N sc cp) (hi : PI X tg iter wi)
    (hg : ∀ C s₀ H₀ ex, PG (X.blk cp.names sc C s₀ H₀ ex) tg g) (hf : ∀ C s₀ H₀ ex, PF (X.blk cp.names sc C s₀ H₀ ex) ifs tc) (he : ∀ C s₀ H₀ ex, PE (X.blk cp.names sc C s₀ H₀ ex) elt te)
    (hs : ∀ x, foldedSetIterable iter X.env x = pure x := by intro _; rfl) : PE X (.ListComp elt [⟨tg, iter, ifs, 0⟩] sc pos) (tComp wi cp g tc te) := by
  intro pins s σ H Q I h
  rw [eval_ListComp]
  refine wpAny_comprehension_free (use := none) rfl hs (closure_eq (blk_cells I S)) S.kind S.loc (thn (hi pins s σ H _ I h) fun xv s₁ h₁ => thn h₁ fun itv s₂ h₂ => ?_)
  obtain ⟨it, fp, tn, J, H2, e, I2, T, st2, f2, hw⟩ := h₂
  subst e
  refine comp_core (RR := fun acc C => compPost (model X.prog X.w) X.A X.xe none (EP X pins σ Q) acc C) hc S hcp hg hf he I2 T st2 f2 hw ?_
  intro D C s' H' m I' q hn hC hL hz hcl hp
  exact ⟨m, hn, fun h' hs' => ⟨.ref D, H', I'.turned (t' := s'.toks) (it := C) (fun b o hb e => hs'.extBut b o hb e) hC hL (.inr hz) hcl hp, rfl, q⟩⟩
theorem ps_setC {i : Nat} {x : Str} {px spos : Pos} (hN : X.N.Nodup) (hi : X.N[i]? = some x) (hx : X.env.scope.names.lookup x = some .local) (hc : X.calm = true) (S : BlkSc X sc) (hcp : CapsOk X.N sc cp) (hit : PI X tg iter wi)
    (hg : ∀ C s₀ H₀ ex, PG (X.blk cp.names sc C s₀ H₀ ex) tg g) (hf : ∀ C s₀ H₀ ex, PF (X.blk cp.names sc C s₀ H₀ ex) ifs tc) (he : ∀ C s₀ H₀ ex, PE (X.blk cp.names sc C s₀ H₀ ex) elt te)
    (hsw : swapsWith (.ListComp elt [⟨tg, iter, ifs, 0⟩] sc pos) (some (.Name x px)) spos.line X.env = pure true := by rfl)
    (hs : ∀ x, foldedSetIterable iter X.env x = pure x := by intro _; rfl) : PS X (.Assign [.Name x px] (.ListComp elt [⟨tg, iter, ifs, 0⟩] sc pos) spos) (tAsg (tComp wi cp g tc te) (gName i)) := by
  intro pins s σ H D I h
  rw [exec_Assign_Name_used _ _ _ _ hsw]
  refine wpAny_bind (wpAny_standAt (wpAny_bind ?_))
  show wpAny _ X.A (do let _ <- comprehension (.ListComp elt [⟨tg, iter, ifs, 0⟩] sc pos) sc X.env _ (newList []) false (eval iter X.env) (some (assign (.Name x px) X.env))) _ _ s
  refine wpAny_bind (wpAny_mono (wpAny_comprehension_free (use := some (assign (.Name x px) X.env)) (Q := fun _ s' => SP X pins D .next s') rfl hs (closure_eq (blk_cells I S)) S.kind S.loc
    (thn (hit pins s σ H _ I h) fun xv s₁ h₁ => thn h₁ fun itv s₂ h₂ => ?_)) (fun _ s' hq => wpAny_pure (wpAny_pure hq)) fun _ _ e => e)
  obtain ⟨it, fp, tn, J, H2, e, I2, T, st2, f2, hw⟩ := h₂
  subst e
  refine comp_core (RR := fun acc C => compPost (model X.prog X.w) X.A X.xe (some (assign (.Name x px) X.env)) (fun _ s' => SP X pins D .next s') acc C) (Q := fun v H1 => gName i v σ H1 D.nx) hc S hcp hg hf he I2 T st2 f2 hw ?_
  intro Dl C s' H' m I' q hn hC hL hz hcl hp
  show wpAny _ X.A (assign (.Name x px) X.env (.ref Dl)) _ _ _
  refine wpAny_assign_Name (store_ok2 I' hN hi (.inl hx) (v := .ref Dl) rfl (fun s'' I'' ⟨a, hsb, ha⟩ => ?_) (.inr hx))
  have hne : C ≠ a := by
    rcases ha with rfl | ha
    . exact hL
    . exact fun z => hcl _ _ ha z.symm
  refine ⟨m, hn.sameBut hsb hne, fun h' hs' => ⟨_, H', I''.turned (t' := s''.toks) (it := C) (fun b o hb e => hs'.extBut b o hb e) hC hL (.inr hz) hcl hp, q⟩⟩
end
theorem comp_list {K : PySem.W.Frag} {a : Addr} {xs : List V} {g : TG} {tc : TT} {te : TE} {Q : VK} {σ : St} {H : Hp} (Pv : Nat -> List V -> St -> Hp -> Prop) (h0 : Pv 0 [] σ H) (hz : xs.length < sizeLine)
    (hl : ∀ i ys σ H, i <= xs.length -> Pv i ys σ H -> SqL K H a xs /\ ys.length <= i)
    (hs : ∀ i x ys σ H, xs[i]? = some x -> Pv i ys σ H -> g x σ H fun σ2 H2 => tc σ2 H2 fun b H3 => if b = true then te σ2 H3 fun v H4 => Pv (i + 1) (ys ++ [v]) σ2 H4 else Pv (i + 1) ys σ2 H3)
    (hd : ∀ ys σ H, Pv xs.length ys σ H -> ∀ D, H D = none -> Q (.ref D) (upd H D (.lst ys))) :
    ∃ W : Nat -> Nat -> List V -> St -> Hp -> Prop, (∃ m, W 0 m [] σ H) /\ ∀ i m ys σ' H', W i m ys σ' H' ->
      ys.length < sizeLine /\ (((Itl K a).stop i H' /\ ∀ D, H' D = none -> Q (.ref D) (upd H' D (.lst ys))) \/ ((Itl K a).go i H' /\ ∃ N : List V -> St -> Hp -> Prop, (∀ zs σ2 H2, N zs σ2 H2 -> ∃ m', m' < m /\ W (i + 1) m' zs σ2 H2) /\ ∀ x H2, (Itl K a).yld i H' x H2 -> g x σ' H2 fun σ2 H3 => tc σ2 H3 fun b H4 =>
        if b = true then te σ2 H4 fun v H5 => N (ys ++ [v]) σ2 H5 else N ys σ2 H4)) := by
  refine ⟨fun i m ys σ H => m = xs.length - i /\ i <= xs.length /\ Pv i ys σ H, ⟨xs.length, by simp, Nat.zero_le _, h0⟩, ?_⟩
  rintro i m ys σ H ⟨rfl, hi, p⟩
  obtain ⟨q, ly⟩ := hl i ys σ H hi p
  refine ⟨by omega, ?_⟩
  by_cases hlt : i < xs.length
  . refine .inr ⟨⟨xs, xs[i], q, by simp [hlt]⟩, Pv (i + 1), fun zs σ' H' p' => ⟨xs.length - (i + 1), by omega, rfl, hlt, p'⟩, fun x H' y => ?_⟩
    obtain ⟨e, y⟩ := y
    subst e
    exact hs i x ys σ _ (y xs q) p
  . have e : i = xs.length := by omega
    subst e
    exact .inl ⟨⟨xs, q, Nat.le_refl _⟩, hd ys σ H p⟩
theorem comp_tup {K : PySem.W.Frag} {a : Addr} {xs : List V} {g : TG} {tc : TT} {te : TE} {Q : VK} {σ : St} {H : Hp} (Pv : Nat -> List V -> St -> Hp -> Prop) (h0 : Pv 0 [] σ H) (hz : xs.length < sizeLine)
    (hl : ∀ i ys σ H, i <= xs.length -> Pv i ys σ H -> SqT K H a xs /\ ys.length <= i)
    (hs : ∀ i x ys σ H, xs[i]? = some x -> Pv i ys σ H -> g x σ H fun σ2 H2 => tc σ2 H2 fun b H3 => if b = true then te σ2 H3 fun v H4 => Pv (i + 1) (ys ++ [v]) σ2 H4 else Pv (i + 1) ys σ2 H3)
    (hd : ∀ ys σ H, Pv xs.length ys σ H -> ∀ D, H D = none -> Q (.ref D) (upd H D (.lst ys))) :
    ∃ W : Nat -> Nat -> List V -> St -> Hp -> Prop, (∃ m, W 0 m [] σ H) /\ ∀ i m ys σ' H', W i m ys σ' H' ->
      ys.length < sizeLine /\ (((Itt K a).stop i H' /\ ∀ D, H' D = none -> Q (.ref D) (upd H' D (.lst ys))) \/ ((Itt K a).go i H' /\ ∃ N : List V -> St -> Hp -> Prop, (∀ zs σ2 H2, N zs σ2 H2 -> ∃ m', m' < m /\ W (i + 1) m' zs σ2 H2) /\ ∀ x H2, (Itt K a).yld i H' x H2 -> g x σ' H2 fun σ2 H3 => tc σ2 H3 fun b H4 =>
        if b = true then te σ2 H4 fun v H5 => N (ys ++ [v]) σ2 H5 else N ys σ2 H4)) := by
  refine ⟨fun i m ys σ H => m = xs.length - i /\ i <= xs.length /\ Pv i ys σ H, ⟨xs.length, by simp, Nat.zero_le _, h0⟩, ?_⟩
  rintro i m ys σ H ⟨rfl, hi, p⟩
  obtain ⟨q, ly⟩ := hl i ys σ H hi p
  refine ⟨by omega, ?_⟩
  by_cases hlt : i < xs.length
  . refine .inr ⟨⟨xs, xs[i], q, by simp [hlt]⟩, Pv (i + 1), fun zs σ' H' p' => ⟨xs.length - (i + 1), by omega, rfl, hlt, p'⟩, fun x H' y => ?_⟩
    obtain ⟨e, y⟩ := y
    subst e
    exact hs i x ys σ _ (y xs q) p
  . have e : i = xs.length := by omega
    subst e
    exact .inl ⟨⟨xs, q, Nat.le_refl _⟩, hd ys σ H p⟩
theorem comp_range {lo : Int} {n : Nat} {g : TG} {tc : TT} {te : TE} {Q : VK} {σ : St} {H : Hp} (Pv : Nat -> List V -> St -> Hp -> Prop) (h0 : Pv 0 [] σ H) (hz : n < sizeLine)
    (hl : ∀ i ys σ H, i <= n -> Pv i ys σ H -> ys.length <= i)
    (hs : ∀ i ys σ H, i < n -> Pv i ys σ H -> g (.int (lo + i)) σ H fun σ2 H2 => tc σ2 H2 fun b H3 => if b = true then te σ2 H3 fun v H4 => Pv (i + 1) (ys ++ [v]) σ2 H4 else Pv (i + 1) ys σ2 H3)
    (hd : ∀ ys σ H, Pv n ys σ H -> ∀ D, H D = none -> Q (.ref D) (upd H D (.lst ys))) :
    ∃ W : Nat -> Nat -> List V -> St -> Hp -> Prop, (∃ m, W 0 m [] σ H) /\ ∀ i m ys σ' H', W i m ys σ' H' ->
      ys.length < sizeLine /\ (((Itr lo n).stop i H' /\ ∀ D, H' D = none -> Q (.ref D) (upd H' D (.lst ys))) \/ ((Itr lo n).go i H' /\ ∃ N : List V -> St -> Hp -> Prop, (∀ zs σ2 H2, N zs σ2 H2 -> ∃ m', m' < m /\ W (i + 1) m' zs σ2 H2) /\ ∀ x H2, (Itr lo n).yld i H' x H2 -> g x σ' H2 fun σ2 H3 => tc σ2 H3 fun b H4 =>
        if b = true then te σ2 H4 fun v H5 => N (ys ++ [v]) σ2 H5 else N ys σ2 H4)) := by
  refine ⟨fun i m ys σ H => m = n - i /\ i <= n /\ Pv i ys σ H, ⟨n, by simp, Nat.zero_le _, h0⟩, ?_⟩
  rintro i m ys σ H ⟨rfl, hi, p⟩
  have ly := hl i ys σ H hi p
  refine ⟨by omega, ?_⟩
  by_cases hlt : i < n
  . refine .inr ⟨hlt, Pv (i + 1), fun zs σ' H' p' => ⟨n - (i + 1), by omega, rfl, hlt, p'⟩, fun x H' y => ?_⟩
    obtain ⟨e, y⟩ := y
    subst e y
    exact hs i ys σ _ hlt p
  . have e : i = n := by omega
    subst e
    exact .inl ⟨Nat.le_refl _, hd ys σ H p⟩
end L2
set_option Elab.async false
set_option linter.all false
set_option maxRecDepth 100000
set_option maxHeartbeats 4000000
namespace L2
open PySem PySem.Spec PyProof.Rows
section
variable {X : Cx}
theorem call_isinst : CallR X (.builtin "isinstance") (fun xs H Q => ∃ x c cv t b, xs = [x, c] /\ TyOf X.K H x t /\ (∀ u, RelV c u -> u = cv) /\ PySem.W.kitOne X.K t cv = some b /\ Q (.bl b) H) := by
  intro pins s σ H xs us Q I r h
  obtain ⟨x, c, cv, t, b, rfl, ty, hc, hk, q⟩ := h
  obtain ⟨u, w', rfl, rx, rc⟩ := vals2 r
  rw [hc _ rc]
  exact isinst_ok I rx ty hk fun tk => ⟨.bl b, H, I.tok tk, rfl, q⟩
end
end L2
namespace L2
open PySem PySem.Spec PyProof.Rows
def blkOk (outer : List (Str × NameKind)) (sc : Scope) : Bool :=
  sc.kind == .function && sc.names.all (fun y => y.2 != .cell && (y.2 != .local || sc.names.lookup y.1 == some .local) && (y.2 != .free || outer.lookup y.1 == some .cell || outer.lookup y.1 == some .free))
theorem blk_mk {X : Cx} {sc : Scope} (h : blkOk X.env.scope.names sc = true) : BlkSc X sc := by
  unfold blkOk at h
  rw [Bool.and_eq_true, List.all_eq_true] at h
  obtain ⟨h1, h2⟩ := h
  refine ⟨by simpa using h1, fun y hy z => ?_, fun y hy z => ?_, fun y hy z => ?_⟩
  . have := h2 y hy
    simp only [Bool.and_eq_true] at this
    have := this.1.1
    rw [z] at this
    exact absurd this (by decide)
  . have := h2 y hy
    simp only [Bool.and_eq_true] at this
    have := this.1.2
    rw [z] at this
    simpa using this
  . have := h2 y hy
    simp only [Bool.and_eq_true] at this
    have := this.2
    rw [z] at this
    have t : (X.env.scope.names.lookup y.1 == some .cell || X.env.scope.names.lookup y.1 == some .free) = true := by simpa using this
    rw [Bool.or_eq_true] at t
    rcases t with t | t
    . exact .inl (by show X.env.scope.names.lookup y.1 = some .cell; simpa using t)
    . exact .inr (by show X.env.scope.names.lookup y.1 = some .free; simpa using t)
end L2
set_option Elab.async false
set_option linter.all false
set_option maxRecDepth 100000
set_option maxHeartbeats 4000000
namespace L2
open PySem PySem.Spec PyProof.Rows
section
variable {t u : TS} {te ta tb tc' : TE} {tt tu : TT} {A B : TA} {D : Ends} {σ : St} {H : Hp} {Q : VK} {R : Bool -> Hp -> Prop} {S : List V -> Hp -> Prop} {i : Nat} {v : V} {g : TG} {r r' : R2} {K : PySem.W.Frag} {wi : TI} {cp : Caps}
theorem r_seq : tSeq t u D σ H = t { D with nx := u D } σ H := rfl
theorem r_next : tNext D σ H = D.nx σ H := rfl
theorem r_asg : tAsg te g D σ H = te σ H fun x H1 => g x σ H1 D.nx := rfl
theorem r_gname {N : St -> Hp -> Prop} : gName i v σ H N = N (σ.set i (some v)) H := rfl
theorem r_var : tVar i σ H Q = ∃ v, σ[i]? = some (some v) /\ Q v H := rfl
theorem r_c : tC v σ H Q = Q v H := rfl
theorem r_op : tOp r ta tb σ H Q = ta σ H fun x H1 => tb σ H1 fun y H2 => r x y H2 Q := rfl
theorem r_I {C : Int -> Int -> Prop} {f : Int -> Int -> V} {x y : V} : rI C f x y H Q = ∃ i j, x = .int i /\ y = .int j /\ C i j /\ Q (f i j) H := rfl
theorem r_I0 {f : Int -> Int -> V} {x y : V} : rI0 f x y H Q = ∃ i j, x = .int i /\ y = .int j /\ Q (f i j) H := rfl
theorem r_call {sp : Sp} {dvs : List V} {E : XK} : tCall sp dvs E A σ H Q = A σ H fun vs H1 => sp (vs ++ dvs) H1 Q E := rfl
theorem r_cons : tCons te A σ H S = te σ H fun x H1 => A σ H1 fun xs H2 => S (x :: xs) H2 := rfl
theorem r_nil : tNil σ H S = S [] H := rfl
theorem r_ret : tRet te D σ H = te σ H D.rt := rfl
theorem r_drop : tDrop te D σ H = te σ H fun _ H1 => D.nx σ H1 := rfl
theorem r_if : tIfS tt t u D σ H = tt σ H fun b H1 => if b = true then t D σ H1 else u D σ H1 := rfl
theorem r_B : tB te σ H R = te σ H fun x H1 => ∃ c, x = .bl c /\ R c H1 := rfl
theorem r_test : tTest te σ H R = te σ H fun x H1 => ∃ c, x = .bl c /\ R c H1 := rfl
theorem r_and : tAnd tt tu σ H R = tt σ H fun c H1 => if c = true then tu σ H1 R else R false H1 := rfl
theorem r_or : tOr tt tu σ H R = tt σ H fun c H1 => if c = true then R true H1 else tu σ H1 R := rfl
theorem r_not : tNot tt σ H R = tt σ H fun c H1 => R (!c) H1 := rfl
theorem r_andV : tAndV ta tb σ H Q = ta σ H fun x H1 => ∃ c, x = .bl c /\ if c = true then tb σ H1 Q else Q (.bl false) H1 := rfl
theorem r_CB {f : List V -> Hp -> VK -> Prop} : tCB f A σ H Q = A σ H fun vs H1 => f vs H1 Q := rfl
theorem r_lst : tLst A σ H Q = A σ H fun xs H1 => xs.length <= sizeLine /\ ∀ p, H1 p = none -> Q (.ref p) (upd H1 p (.lst xs)) := rfl
theorem r_tup : tTup A σ H Q = A σ H fun xs H1 => xs.length <= sizeLine /\ ∀ p, H1 p = none -> Q (.ref p) (upd H1 p (.tup xs)) := rfl
theorem r_ixL {x y : V} : rIxL K x y H Q = ∃ p xs i v, x = .ref p /\ y = .int i /\ SqL K H p xs /\ atI xs i = some v /\ Q v H := rfl
theorem r_ixT {x y : V} : rIxT K x y H Q = ∃ p xs i v, x = .ref p /\ y = .int i /\ SqT K H p xs /\ atI xs i = some v /\ Q v H := rfl
theorem r_BM {T : String} {f : V -> List V -> Hp -> VK -> Prop} : tBM K T f te A σ H Q = te σ H fun x H1 => tyV K T x H1 /\ A σ H1 fun xs H2 => f x xs H2 Q := rfl
theorem r_append {x : V} {vs : List V} : rAppend x vs H Q = ∃ l xs y, x = .ref l /\ vs = [y] /\ H l = some (.lst xs) /\ xs.length < sizeLine /\ Q .non (upd H l (.lst (xs ++ [y]))) := rfl
theorem r_gsub {to ti : TE} {ts : TSet} {N : St -> Hp -> Prop} : gSub to ti ts v σ H N = to σ H fun o H1 => ti σ H1 fun i H2 => ts o i v H2 fun H3 => N σ H3 := rfl
theorem r_setL {o k : V} {N : Hp -> Prop} : rSetL o k v H N = ∃ p xs m j, o = .ref p /\ k = .int m /\ H p = some (.lst xs) /\ ixN xs.length m = some j /\ N (upd H p (.lst (xs.set j v))) := rfl
theorem r_Eq {x y : V} : rEq x y H Q = (scal x y = true /\ Q (.bl (decide (x = y))) H) := rfl
theorem r_Ne {x y : V} : rNe x y H Q = (scal x y = true /\ Q (.bl (!decide (x = y))) H) := rfl
theorem r_iList {Z : It -> Hp -> Prop} : iList K te σ H Z = te σ H fun x H1 => ∃ a, x = .ref a /\ (∃ xs, SqL K H1 a xs) /\ Z (Itl K a) H1 := rfl
theorem r_iTup {Z : It -> Hp -> Prop} : iTup K te σ H Z = te σ H fun x H1 => ∃ a, x = .ref a /\ (∃ xs, SqT K H1 a xs) /\ Z (Itt K a) H1 := rfl
theorem r_iRng1 {Z : It -> Hp -> Prop} : iRng1 A σ H Z = A σ H fun vs H1 => ∃ j : Int, vs = [.int j] /\ -(2 ^ 62) <= j /\ j < 2 ^ 62 /\ Z (Itr 0 j.toNat) H1 := rfl
theorem r_aug {ti : TIp} : tAug i te ti D σ H = ∃ x, σ[i]? = some (some x) /\ te σ H fun y H1 => ti x y H1 fun z H2 => D.nx (σ.set i (some z)) H2 := rfl
theorem r_ip {f : Int -> Int -> Int} {x y : V} : ipI f x y H Q = ∃ i j, x = .int i /\ y = .int j /\ Q (.int (f i j)) H := rfl
theorem r_true : tTrue σ H R = R true H := rfl
end
theorem Same.new {H : Hp} {p : Addr} {o : HO} (h : H p = none) : Same H (upd H p o) := fun b u e => by rw [upd_ne (ne_of_none e h)]; exact e
theorem Same.newT {H H' : Hp} {p : Addr} {o : HO} (s : Same H H') (h : H' p = none) : Same H (upd H' p o) := s.trans (Same.new h)
theorem Same.over {H H' : Hp} {p : Addr} {o : HO} (s : Same H H') (h : H p = none) : Same H (upd H' p o) := fun b u e => by rw [upd_ne (ne_of_none e h)]; exact s b u e
theorem none_of_upd {H : Hp} {p D : Addr} {o : HO} (h : upd H p o D = none) : H D = none /\ D ≠ p := by
  by_cases e : D = p
  . subst e; rw [upd_same] at h; cases h
  . rw [upd_ne e] at h; exact ⟨h, e⟩
theorem Same.seqT {K : PySem.W.Frag} {H H' : Hp} {a : Addr} {xs : List V} (e : Same H H') (h : SqT K H a xs) : SqT K H' a xs := by
  rcases h with (h | ⟨o, h⟩) | h
  . exact .inl (.inl (e _ _ h))
  . exact .inl (.inr ⟨o, e _ _ h⟩)
  . exact .inr h
section
variable {K : PySem.W.Frag} {wi : TI} {cp : Caps} {g : TG} {tc : TT} {te : TE} {σ : St} {H : Hp} {Q : VK}
theorem r_cxK {CX : CXT} {P : Program} {w : World} {mg : Str -> Option Value} {base : Heap} {N : List Str} {qual : Str} {scope : Scope} {f : Addr} {cd : Value} {A : Around} {outer : List Env} {s : Shared} {E : XK} : (cxOf CX P w K mg base N qual scope f cd A outer s H E).K = K := rfl
def CompW (J : It) (cp : Caps) (g : TG) (tc : TT) (te : TE) (σ : St) (H1 : Hp) (Q : VK) : Prop := ∃ W : Nat -> Nat -> List V -> St -> Hp -> Prop, (∃ m, W 0 m [] (cp.st σ) H1) /\ ∀ i m ys σ' H', W i m ys σ' H' ->
  ys.length < sizeLine /\ ((J.stop i H' /\ ∀ D, H' D = none -> Q (.ref D) (upd H' D (.lst ys))) \/ (J.go i H' /\ ∃ N : List V -> St -> Hp -> Prop, (∀ zs σ2 H2, N zs σ2 H2 -> ∃ m', m' < m /\ W (i + 1) m' zs σ2 H2) /\ ∀ x H2, J.yld i H' x H2 -> g x σ' H2 fun σ2 H3 => tc σ2 H3 fun b H4 =>
    if b = true then te σ2 H4 fun v H5 => N (ys ++ [v]) σ2 H5 else N ys σ2 H4))
theorem r_comp : tComp wi cp g tc te σ H Q = wi σ H fun J H1 => CompW J cp g tc te σ H1 Q := rfl
def ForW (J : It) (g : TG) (tb : TS) (D : Ends) (σ : St) (H1 : Hp) : Prop := ∃ W : Nat -> Nat -> St -> Hp -> Prop, (∃ m, W 0 m σ H1) /\ ∀ i m σ H, W i m σ H ->
  (J.stop i H /\ D.nx σ H) \/ (J.go i H /\ ∃ N : St -> Hp -> Prop, (∀ σ' H', N σ' H' -> ∃ m', m' < m /\ W (i + 1) m' σ' H') /\ ∀ x H', J.yld i H x H' -> g x σ H' fun σ2 H2 => tb { D with nx := N, ct := N, bk := D.nx } σ2 H2)
theorem r_for {tb : TS} {D : Ends} : tFor wi g tb D σ H = wi σ H fun J H1 => ForW J g tb D σ H1 := rfl
theorem forL {a : Addr} {xs : List V} {g : TG} {tb : TS} {D : Ends} {σ : St} {H : Hp} (Pv : Nat -> St -> Hp -> Prop) (h0 : Pv 0 σ H) (hl : ∀ i σ H, i <= xs.length -> Pv i σ H -> SqL K H a xs)
    (hs : ∀ i x σ H, xs[i]? = some x -> Pv i σ H -> g x σ H fun σ2 H2 => tb { D with nx := Pv (i + 1), ct := Pv (i + 1), bk := D.nx } σ2 H2) (hd : ∀ σ H, Pv xs.length σ H -> D.nx σ H) : ForW (Itl K a) g tb D σ H := for_list Pv h0 hl hs hd
theorem forT {a : Addr} {xs : List V} {g : TG} {tb : TS} {D : Ends} {σ : St} {H : Hp} (Pv : Nat -> St -> Hp -> Prop) (h0 : Pv 0 σ H) (hl : ∀ i σ H, i <= xs.length -> Pv i σ H -> SqT K H a xs)
    (hs : ∀ i x σ H, xs[i]? = some x -> Pv i σ H -> g x σ H fun σ2 H2 => tb { D with nx := Pv (i + 1), ct := Pv (i + 1), bk := D.nx } σ2 H2) (hd : ∀ σ H, Pv xs.length σ H -> D.nx σ H) : ForW (Itt K a) g tb D σ H := for_tup Pv h0 hl hs hd
theorem forR {lo : Int} {n : Nat} {g : TG} {tb : TS} {D : Ends} {σ : St} {H : Hp} (Pv : Nat -> St -> Hp -> Prop) (h0 : Pv 0 σ H)
    (hs : ∀ i σ H, i < n -> Pv i σ H -> g (.int (lo + i)) σ H fun σ2 H2 => tb { D with nx := Pv (i + 1), ct := Pv (i + 1), bk := D.nx } σ2 H2) (hd : ∀ σ H, Pv n σ H -> D.nx σ H) : ForW (Itr lo n) g tb D σ H := for_range Pv h0 hs hd
theorem compL {a : Addr} {xs : List V} (Pv : Nat -> List V -> St -> Hp -> Prop) (h0 : Pv 0 [] (cp.st σ) H) (hz : xs.length < sizeLine)
    (hl : ∀ i ys σ H, i <= xs.length -> Pv i ys σ H -> SqL K H a xs /\ ys.length <= i)
    (hs : ∀ i x ys σ H, xs[i]? = some x -> Pv i ys σ H -> g x σ H fun σ2 H2 => tc σ2 H2 fun b H3 => if b = true then te σ2 H3 fun v H4 => Pv (i + 1) (ys ++ [v]) σ2 H4 else Pv (i + 1) ys σ2 H3)
    (hd : ∀ ys σ H, Pv xs.length ys σ H -> ∀ D, H D = none -> Q (.ref D) (upd H D (.lst ys))) : CompW (Itl K a) cp g tc te σ H Q := comp_list Pv h0 hz hl hs hd
theorem compT {a : Addr} {xs : List V} (Pv : Nat -> List V -> St -> Hp -> Prop) (h0 : Pv 0 [] (cp.st σ) H) (hz : xs.length < sizeLine)
    (hl : ∀ i ys σ H, i <= xs.length -> Pv i ys σ H -> SqT K H a xs /\ ys.length <= i)
    (hs : ∀ i x ys σ H, xs[i]? = some x -> Pv i ys σ H -> g x σ H fun σ2 H2 => tc σ2 H2 fun b H3 => if b = true then te σ2 H3 fun v H4 => Pv (i + 1) (ys ++ [v]) σ2 H4 else Pv (i + 1) ys σ2 H3)
    (hd : ∀ ys σ H, Pv xs.length ys σ H -> ∀ D, H D = none -> Q (.ref D) (upd H D (.lst ys))) : CompW (Itt K a) cp g tc te σ H Q := comp_tup Pv h0 hz hl hs hd
theorem compR {lo : Int} {n : Nat} (Pv : Nat -> List V -> St -> Hp -> Prop) (h0 : Pv 0 [] (cp.st σ) H) (hz : n < sizeLine)
    (hl : ∀ i ys σ H, i <= n -> Pv i ys σ H -> ys.length <= i)
    (hs : ∀ i ys σ H, i < n -> Pv i ys σ H -> g (.int (lo + i)) σ H fun σ2 H2 => tc σ2 H2 fun b H3 => if b = true then te σ2 H3 fun v H4 => Pv (i + 1) (ys ++ [v]) σ2 H4 else Pv (i + 1) ys σ2 H3)
    (hd : ∀ ys σ H, Pv n ys σ H -> ∀ D, H D = none -> Q (.ref D) (upd H D (.lst ys))) : CompW (Itr lo n) cp g tc te σ H Q := comp_range Pv h0 hz hl hs hd
theorem compMapT {a : Addr} {xs : List V} {σ' : St} (f : V -> V) (e : cp.st σ = none :: σ') (hl : SqT K H a xs) (hz : xs.length < sizeLine) (hs : ∀ x ∈ xs, ∀ R : VK, R (f x) H -> te (some x :: σ') H R) (hd : ∀ D, H D = none -> Q (.ref D) (upd H D (.lst (xs.map f)))) :
    CompW (Itt K a) cp (gName 0) tTrue te σ H Q := by
  refine compT (xs := xs) (fun i ys σ2 H2 => H2 = H /\ ys = (xs.take i).map f /\ ∃ o, σ2 = o :: σ') ⟨rfl, by simp, none, e⟩ hz (fun i ys σ2 H2 hi h => ?_) (fun i x ys σ2 H2 hx h => ?_) (fun ys σ2 H2 h => ?_)
  . obtain ⟨rfl, rfl, _⟩ := h
    exact ⟨hl, by rw [List.length_map, List.length_take]; omega⟩
  . obtain ⟨rfl, rfl, o, rfl⟩ := h
    refine hs x (List.mem_of_getElem? hx) _ ⟨rfl, ?_, some x, rfl⟩
    rw [List.take_add_one, hx]; simp
  . obtain ⟨rfl, rfl, _⟩ := h
    rw [List.take_length]
    exact hd
theorem compMapL {a : Addr} {xs : List V} {σ' : St} (f : V -> V) (e : cp.st σ = none :: σ') (hl : SqL K H a xs) (hz : xs.length < sizeLine) (hs : ∀ x ∈ xs, ∀ R : VK, R (f x) H -> te (some x :: σ') H R) (hd : ∀ D, H D = none -> Q (.ref D) (upd H D (.lst (xs.map f)))) :
    CompW (Itl K a) cp (gName 0) tTrue te σ H Q := by
  refine compL (xs := xs) (fun i ys σ2 H2 => H2 = H /\ ys = (xs.take i).map f /\ ∃ o, σ2 = o :: σ') ⟨rfl, by simp, none, e⟩ hz (fun i ys σ2 H2 hi h => ?_) (fun i x ys σ2 H2 hx h => ?_) (fun ys σ2 H2 h => ?_)
  . obtain ⟨rfl, rfl, _⟩ := h
    exact ⟨hl, by rw [List.length_map, List.length_take]; omega⟩
  . obtain ⟨rfl, rfl, o, rfl⟩ := h
    refine hs x (List.mem_of_getElem? hx) _ ⟨rfl, ?_, some x, rfl⟩
    rw [List.take_add_one, hx]; simp
  . obtain ⟨rfl, rfl, _⟩ := h
    rw [List.take_length]
    exact hd
end
def tCut (t u : TS) : TS := fun D σ H => ∃ R : St -> Hp -> Prop, t { D with nx := R } σ H /\ ∀ σ' H', R σ' H' -> u D σ' H'
theorem pss_cut {X : Cx} {st : Stmt} {rest : List Stmt} {t u : TS} (h1 : PS X st t) (h2 : PSs X rest u) : PSs X (st :: rest) (tCut t u) := by
  intro pins s σ H D I h
  obtain ⟨R, ha, hb⟩ := h
  refine wpAny_execs_cons (thn (h1 pins s σ H { D with nx := R } I ha) fun f s1 q => ?_)
  cases f with
  | next =>
    obtain ⟨σ', H', I', q⟩ := q
    exact h2 pins s1 σ' H' D I' (hb σ' H' q)
  | ret v => exact q
  | brk => exact q
  | cont => exact q
theorem line1000 : 1000000 < sizeLine := by rw [sizeLine_eq]; decide
theorem mem_mapI {ns : List Int} {x : V} (h : x ∈ ns.map V.int) : ∃ n, n ∈ ns /\ x = .int n := by
  obtain ⟨n, hn, e⟩ := List.mem_map.mp h
  exact ⟨n, hn, e.symm⟩
theorem get_mapI {ns : List Int} {i : Nat} {x : V} (h : (ns.map V.int)[i]? = some x) : ∃ n, ns[i]? = some n /\ x = .int n := by
  rw [List.getElem?_map] at h
  cases e : ns[i]? with
  | none => rw [e] at h; cases h
  | some n => rw [e] at h; exact ⟨n, rfl, (Option.some.inj h).symm⟩
theorem set_ints (ns : List Int) (j : Nat) (x : Int) : (ns.map V.int).set j (.int x) = (ns.set j x).map V.int := by rw [List.map_set]
theorem ixN_of {n : Nat} {i : Int} (h0 : 0 <= i) (h1 : i < n) : ixN n i = some i.toNat := by
  unfold ixN; rw [if_pos h0, if_pos h1]
theorem atI_of {α : Type} {xs : List α} {i : Int} {v : α} (h0 : 0 <= i) (h : xs[i.toNat]? = some v) : atI xs i = some v := by
  have := atI_nat h
  rwa [show ((i.toNat : Nat) : Int) = i by omega] at this
theorem kit_self {K : PySem.W.Frag} {t : Value} : PySem.W.kitOne K t t = some true := by unfold PySem.W.kitOne; rw [if_pos (by simp)]
theorem rel_ty {n : String} : ∀ u, RelV (V.ty n) u -> u = .type n := fun _ h => h
theorem rel_ref {a : Addr} : ∀ u, RelV (V.ref a) u -> u = .ref a := fun _ h => h
end L2
set_option Elab.async false
set_option linter.all false
set_option maxRecDepth 100000
set_option maxHeartbeats 4000000
namespace L2
open PySem PySem.W PySem.Spec PySem.Calls PyProof.Rows
section
variable {prog : Program} {w : World} {A : Around} {E : Value -> Shared -> Prop} {s : Shared} {K : Frag} {x D : Addr} {ox : Obj}
structure ExcCls (K : Frag) (D : Addr) : Prop where
  ga : findIn K (.ref D) "__getattribute__" = some (some (.builtin "BaseException.__getattribute__"))
  hk : findIn K (.ref D) "__getattr__" = some none
  cl : (clsIn K D).isSome = true
  ca : findIn K (.ref D) "__class__" = some (some (.builtin "object.__class__"))
  gs : specialIn K (.builtin "object.__class__") "__get__" = some (some (.builtin "getset_descriptor.__get__"))
  tk : takesIn K (.builtin "object.__class__") = some true
  mo : mroIn K D (.type "object") = some true
  mb : mroIn K D (.type "BaseException") = some true
def ExcAt (x D : Addr) (h : Heap) : Prop := ∃ ox, h.get? x = some ox /\ ox.cls = .ref D
theorem ExcAt.type {M : Model} {h : Heap} (I : ExcAt x D h) : Looks M h (typeOf (.ref x)) (.ref D) := by
  obtain ⟨ox, h1, h2⟩ := I
  exact h2 ▸ (Looks.ld h1).andThen .now
theorem exc_find {M : Model} {h : Heap} (X : K.In h) (C : ExcCls K D) : Looks M h (Builtin.ObjectAttr.find (.ref x) (.ref D) "__class__") (.bind (.builtin "getset_descriptor.__get__") (.builtin "object.__class__")) :=
  (looks_findIn X C.ca).andThen ((show Looks M h (Builtin.ObjectAttr.getOf (some (.builtin "object.__class__"))) _ from looks_specialIn X C.gs).andThen
    ((show Looks M h (Builtin.ObjectAttr.dataDescriptor? (some (.builtin "object.__class__")) (some (.builtin "getset_descriptor.__get__"))) (some (.builtin "getset_descriptor.__get__", .builtin "object.__class__")) from (looks_takesIn X C.tk).andThen .now).andThen (Looks.tag .now)))
open Builtin Builtin.ObjectAttr Builtin.Getset_descriptor in
theorem exc_get {R : Result -> Shared -> Prop} {tp : Value} (X : K.In s.heap) (I : ExcAt x D s.heap) (hm : mroIn K D (.type "object") = some true) (h : R (.ok (.ret (.ref D))) s) : codeAny (model prog w) A (.call (.builtin "getset_descriptor.__get__") ⟨[.builtin "object.__class__", .ref x, tp], []⟩) R s := by
  have l0 := I.type (M := model prog w)
  have l1 := looks_mroIn (M := model prog w) X hm
  obtain ⟨_, _, _, _, _⟩ := s
  have sg := KF.slot_gs
  refine codeAny_call_builtin sg.plain KF.entry_gs (sg.check _ _ _ _ _ _ _ _ KF.type_class (KF.args_gs _ _ _) ?_)
  unfold Builtin.«getset_descriptor.__get__» descrGet
  rw [dga_obj]
  unfold descrGetter descrCheckInstance isInstance descrNameAndClass
  refine wpAny_bind (wpAny_pure ?_)
  simp only [KF.owner_class]
  repeat lk
  refine ⟨Code.quiet_builtin _ (by decide +kernel), codeAny_builtin KF.entry_class ?_⟩
  unfold Builtin.«object.__class__» shownTypeOf
  repeat lk
  exact h
theorem exc_check {M : Model} {nameV : Value} {Q : Unit -> Shared -> Prop} (X : K.In s.heap) (I : ExcAt x D s.heap) (C : ExcCls K D) (hq : Q () s) : wpAny M A (checkBuiltinCall "BaseException.__getattribute__" ⟨[.ref x, nameV], []⟩) Q E s := by
  have a1 := F.args_bexc_ga (.ref x) nameV
  have l0 := I.type (M := M)
  have l1 := looks_mroIn (M := M) X C.mb
  obtain ⟨_, _, _, _, _⟩ := s
  simp only [checkBuiltinCall, show builtinKind "BaseException.__getattribute__" = some .slot by decide +kernel, show splitId "BaseException.__getattribute__" = some ("BaseException", "__getattribute__") by decide +kernel, isInstance]
  repeat (first | lk | wp_step)
  exact hq
theorem exc_entry {tk : Tok} {Q : Fin -> Shared -> Prop} (X : K.In s.heap) (I : ExcAt x D s.heap) (C : ExcCls K D) (hq : Q (.done (.ret (.ref D))) s) : wpAny (model prog w) A (Builtin.«object.__getattribute__» ⟨[.ref x, .str "__class__" tk], []⟩) Q E s := by
  obtain ⟨hh, g, d, t, os⟩ := s
  have L0 := I.type (M := model prog w)
  have L1 := exc_find (M := model prog w) (x := x) X C
  unfold Builtin.«object.__getattribute__»
  refine wpAny_bind (wpAny_pure ?_)
  refine wpAny_bind (wpAny_pure ?_)
  refine wpAny_bind (L0.at ?_)
  refine wpAny_bind (L1.at ?_)
  show wpAny _ _ (Builtin.ObjectAttr.bindTo _ _ _ _) _ _ _
  unfold Builtin.ObjectAttr.bindTo
  dsimp only
  refine wpAny_bind (wpAny_holding (wpAny_call (exc_get (K := K) (s := ⟨hh, g, d, t, os⟩) X I C.mo ?_)))
  exact wpAny_pure hq
theorem exc_class {Q : Option Value -> Shared -> Prop} (X : K.In s.heap) (I : ExcAt x D s.heap) (C : ExcCls K D) (h : Q (some (.ref D)) { s with toks := s.toks + 1 }) : wpAny (model prog w) A (getAttr? (.ref x) "__class__") Q E s := by
  obtain ⟨hh, g, d, t, os⟩ := s
  have L0 := I.type (M := model prog w)
  have L1 := looks_findIn (M := model prog w) X C.ga
  have L2 := looks_findIn (M := model prog w) X C.hk
  unfold getAttr? getAttrBy? getAttrBy
  refine wpAny_bind (wpAny_mkText (wpAny_bind (wpAny_attempt (wpAny_holding (wpAny_bind (L0.at (wpAny_bind (L1.at ?_))))))))
  show wpAny _ _ (getAttrByItsOwn _ _ _ _ _ _) _ _ _
  unfold getAttrByItsOwn hookBefore
  refine wpAny_bind ?_
  rw [if_pos (by rfl)]
  refine L2.at (wpAny_bind (wpAny_attempt (wpAny_holding ?_)))
  unfold callGetattribute
  rw [if_neg (by decide)]
  unfold boundAndCalled
  have f3 := PySem.F.attr_ValueError.ga.bind (.ref x)
  refine wpAny_bind (wpAny_of_eq f3 ?_)
  refine wpAny_call (codeAny_call_builtin PySem.F.attr_ValueError.ga.plain F.entry_bexc_ga (exc_check (K := K) (s := ⟨hh, g, d, t + 1, os⟩) X I C (exc_entry (K := K) (s := ⟨hh, g, d, t + 1, os⟩) X I C ?_)))
  exact wpAny_pure (wpAny_pure h)
theorem kitx_exc (C : ExcCls K D) : KitX K (.ref x) (.ref D) (ExcAt x D) := by
  have cl := C.cl
  unfold clsIn at cl
  refine ⟨fun _ _ _ I => I.type, fun _ _ X _ => ?_, fun h tp dd its n sl X htp => ?_, fun X I k => exc_class X I C k⟩
  . split at cl
    . rename_i ho
      intro A' Q' E' s' k q
      exact wpAny_bind (wpAny_loadPart (k _ _ (X _ _ ho)) (wpAny_pure q))
    . cases cl
  . split at cl
    . rename_i ho
      cases hb : (Value.ref D == Value.ref tp) with
      | false => rfl
      | true =>
        obtain rfl : D = tp := Value.ref.inj (beq_iff_eq.mp hb)
        cases (X _ _ ho).symm.trans htp
    . cases cl
end
section
variable {P : Program} {w : World}
theorem ObjOk.there {H : Hp} {h : Heap} {a : Addr} {o : HO} (x : ObjOk P w H h a o) : ∃ ob, h.get? a = some ob := by
  induction o with
  | lst xs => obtain ⟨_, _, _, _, e⟩ := x; exact ⟨_, e⟩
  | tup xs => obtain ⟨_, _, _, ob, e, _⟩ := x; exact ⟨_, e⟩
  | dK kvs => obtain ⟨_, _, _, _, o, _, _, e, _⟩ := x; exact ⟨_, e⟩
  | dT kvs => obtain ⟨_, _, _, _, o, _, _, e, _⟩ := x; exact ⟨_, e⟩
  | set S n => obtain ⟨o, _, _, _, e, _⟩ := x; exact ⟨_, e⟩
  | ins C dx fs => obtain ⟨_, _, _, e, _⟩ := x; exact ⟨_, e⟩
  | own y => obtain ⟨_, e⟩ := x; exact ⟨_, e⟩
  | xd fs => obtain ⟨_, ⟨_, _, _, e, _⟩, _⟩ := x; exact ⟨_, e⟩
  | rng lo hi => obtain ⟨_, _, _, e⟩ := x; exact ⟨_, e⟩
  | frz ob u ih => obtain ⟨e, _⟩ := x; exact ⟨_, e⟩
  | tbl ps => exact ⟨_, (show h.get? a = some _ from x)⟩
  | met f y => exact ⟨_, (show h.get? a = some _ from x)⟩
  | ext φ => obtain ⟨_, ⟨_, e⟩, _⟩ := x; exact ⟨_, e⟩
structure Fly (P : Program) (w : World) (fs : List Addr) (H1 H' : Hp) (h1 g B : Heap) : Prop where
  un : Un fs [] H1 H' h1 g
  hok : HOk P w H' g
  cov : ∀ b o, g.get? b = some o -> (H' b ≠ none \/ ∃ o', h1.get? b = some o') -> b ∉ fs -> B.get? b = some o
theorem Fly.move {fs : List Addr} {H1 H' : Hp} {h1 g B h2 : Heap} (x : Fly P w fs H1 H' h1 g B) (frees : ∀ b ∈ fs, H' b = none) (st : B.StaysIn h2) (up : ∀ b ∈ fs, ∀ o, g.get? b = some o -> ∃ sl, h2.get? b = some { o with slots := sl }) : Fly P w fs H1 H' h1 h2 B := by
  have keep : ∀ b o, g.get? b = some o -> (H' b ≠ none \/ ∃ o', h1.get? b = some o') -> b ∉ fs -> h2.get? b = some o := fun b o e h n => st b o (x.cov b o e h n)
  have nfs : ∀ b u, H' b = some u -> b ∉ fs := fun b u e z => by rw [frees b z] at e; cases e
  refine ⟨⟨fun b o e n hb hx => ?_, fun b o e n hb hx => ?_, fun b o e n hx => x.un.free b o e n hx, fun b o e hx => ?_, x.un.tups, x.un.frzs, x.un.tbls⟩, fun b u e => ?_, fun b o e h n => ?_⟩
  . exact keep b o (x.un.keep b o e n hb hx) (.inr ⟨o, e⟩) hb
  . obtain ⟨sl, e1⟩ := x.un.slot b o e n hb hx
    obtain ⟨sl', e2⟩ := up b hb _ e1
    exact ⟨sl', e2⟩
  . obtain ⟨o', e1⟩ := x.un.there b o e hx
    by_cases hb : b ∈ fs
    . obtain ⟨sl', e2⟩ := up b hb _ e1
      exact ⟨_, e2⟩
    . exact ⟨o', keep b o' e1 (.inr ⟨o, e⟩) hb⟩
  . refine (x.hok b u e).stay (fun c v hc q => ?_) (fun _ q => q) fun _ _ q => q
    rcases hc with rfl | hc
    . exact keep c v q (.inl (by rw [e]; simp)) (nfs c u e)
    . exact keep c v q (.inl (by rw [hc]; simp)) (nfs c _ hc)
  . -- B has it still
    have ⟨o1, e1⟩ : ∃ o1, g.get? b = some o1 := by
      rcases h with h | ⟨o', h⟩
      . cases q : H' b with
        | none => exact absurd q h
        | some u => exact (x.hok b u q).there
      . exact x.un.there b o' h (by simp)
    have e2 := x.cov b o1 e1 h n
    have e3 := st b o1 e2
    rw [e] at e3
    cases e3
    exact e2
def CXe (P : Program) (w : World) : CXT := fun outer H s E e s' => ∃ (ea : Addr) (cls a0 : Value) (H' : Hp) (B : Heap), e = .ref ea /\ s'.os = s.os /\ AllBare s'.gens /\ Fly P w (frs outer) H H' s.heap s'.heap B /\ Heap.FlyingW B outer ea cls a0 s'.heap /\ E cls none H'
theorem fly_frees {X : Cx} {pins : List (Addr × Obj)} {σ : St} {H1 H' : Hp} {s1 : Shared} {g B : Heap} (I : Inv X pins σ H1 s1) (x : Fly P w (frs X.stack) H1 H' s1.heap g B) : ∀ b ∈ frs X.stack, H' b = none := fun b hb => by
  obtain ⟨_, o, ho, _⟩ := I.stack.mem hb
  exact x.un.free b o ho (I.stkFree b hb) (by simp)
theorem passE {K : PySem.W.Frag} {mg : Str -> Option Value} {base : Heap} {N : List Str} {qual : Str} {scope : Scope} {f : Addr} {cd : Value} {A : Around} {outer : List Env} {s : Shared} {H : Hp} {E E' : XK} (hE : ∀ c d H', E' c d H' -> E c d H') :
    Passes (CXe P w) (cxOf (CXe P w) P w K mg base N qual scope f cd A outer s H E) E' := by
  intro pins σ H1 s1 e s' I hc
  obtain ⟨ea, cls, a0, H', B, rfl, os, bare, fl, fw, q⟩ := hc
  have fr : (cxOf (CXe P w) P w K mg base N qual scope f cd A outer s H E).A.frames = some (envOfC qual scope s.heap.objs.size f cd :: outer) := I.ok.frames
  refine wpAny_leaves_onW fr rfl fw fun h' fw' ups => ?_
  have fl2 := fl.move (fly_frees I fl) fw'.1 (fun b hb o e => by
    obtain ⟨_, o', ho', nf⟩ := fw.2.2.1.mem hb
    rw [e] at ho'; cases ho'
    exact ups b o e nf)
  have I2 : Inv (cxOf (CXe P w) P w K mg base N qual scope f cd A outer s H E) pins σ H' { s' with heap := h' } := I.call' (s' := { s' with heap := h' }) os fl2.un fl2.hok bare (fun b hb => by cases hb)
  refine ⟨ea, cls, a0, H', B, rfl, I2.os, I2.bare, ⟨I2.base, I2.hok, fun b o e h n => fl2.cov b o e ?_ (fun z => ?_)⟩, fw', hE _ _ _ q⟩
  . rcases h with h | ⟨o', h⟩
    . exact .inl h
    . obtain ⟨o2, e2⟩ := I.base.there b o' h (by show b ∉ ([] : List Addr); simp)
      exact .inr ⟨o2, e2⟩
  . rcases List.mem_cons.mp (I.stkSub b z) with e' | e'
    . rcases h with h | ⟨o', h⟩
      . exact h (by rw [e']; exact I2.free)
      . have := Heap.lt_size h
        rw [e'] at this
        exact absurd (Nat.lt_of_lt_of_le this I.ok.above) (Nat.lt_irrefl _)
    . exact n e'
theorem raiseE {K : PySem.W.Frag} {mg : Str -> Option Value} {base : Heap} {N : List Str} {qual : Str} {scope : Scope} {f : Addr} {cd : Value} {A : Around} {outer : List Env} {s : Shared} {H : Hp} {E : XK}
    {pins : List (Addr × Obj)} {σ : St} {H1 : Hp} {s1 : Shared} {h' : Heap} {ea : Addr} {cls : Value} {vs : List Value}
    (I : Inv (cxOf (CXe P w) P w K mg base N qual scope f cd A outer s H E) pins σ H1 s1) (hx : Heap.MadeExcOf s1.heap h' ea cls vs) (q : E cls none H1) :
    (cxOf (CXe P w) P w K mg base N qual scope f cd A outer s H E).xe (.ref ea) { s1 with heap := h' } := by
  have fr : (cxOf (CXe P w) P w K mg base N qual scope f cd A outer s H E).A.frames = some (envOfC qual scope s.heap.objs.size f cd :: outer) := I.ok.frames
  have hin : ∀ env ∈ (envOfC qual scope s.heap.objs.size f cd :: outer), ∀ b, env.frame = some b -> b ∈ frs (envOfC qual scope s.heap.objs.size f cd :: outer) := fun env he b hb => List.mem_filterMap.mpr ⟨env, he, hb⟩
  have stk := I.stack
  have fl : Fly P w (frs (envOfC qual scope s.heap.objs.size f cd :: outer)) H1 H1 s1.heap s1.heap (PySem.W.hideAll s1.heap (frs (envOfC qual scope s.heap.objs.size f cd :: outer))) := ⟨Un.refl, I.hok, fun b o e _ n => PySem.W.hideAll_get _ e n⟩
  refine wpAny_leaves_madeW (base := PySem.W.hideAll s1.heap (frs (envOfC qual scope s.heap.objs.size f cd :: outer))) (h := s1.heap) fr rfl (fun b o q => PySem.W.of_hideAll _ q) ?_ hx fun h'' t fw' ht hnt ups => ?_
  . exact PySem.W.funFrames_hide stk hin
  . have fl2 := fl.move (fly_frees (X := cxOf (CXe P w) P w K mg base N qual scope f cd A outer s H E) I fl) fw'.1 (fun b hb o e => by
      obtain ⟨_, o', ho', nf⟩ := stk.mem hb
      rw [e] at ho'; cases ho'
      exact ups b o (hx.keeps b o e) nf)
    have I2 : Inv (cxOf (CXe P w) P w K mg base N qual scope f cd A outer s H E) pins σ H1 { s1 with heap := h'' } := I.call' (s' := { s1 with heap := h'' }) rfl fl2.un fl2.hok I.bare (fun b hb => by cases hb)
    refine ⟨ea, cls, .ref t, H1, _, rfl, I2.os, I2.bare, ⟨I2.base, I2.hok, fun b o e h n => fl2.cov b o e ?_ (fun z => ?_)⟩, fw', q⟩
    . rcases h with h | ⟨o', h⟩
      . exact .inl h
      . obtain ⟨o2, e2⟩ := I.base.there b o' h (by show b ∉ ([] : List Addr); simp)
        exact .inr ⟨o2, e2⟩
    . rcases List.mem_cons.mp (I.stkSub b z) with e' | e'
      . rcases h with h | ⟨o', h⟩
        . exact h (by rw [e']; exact I2.free)
        . have := Heap.lt_size h
          rw [e'] at this
          exact absurd (Nat.lt_of_lt_of_le this I.ok.above) (Nat.lt_irrefl _)
      . exact n e'
end
theorem exc_obj {K : Frag} {h : Heap} {C : Addr} {bmB : List Value} {newId : String} (X : K.In h) (q : excIn K C bmB newId = true) :
    ∃ bm N nm q bs hdct sn sub ab col dd k0 k1 k2 k3 k5 mN, h.get? C = some (excClassObj nm q C N bs bm hdct sn sub ab col dd k0 k1 k2 k3 k5 newId) /\ h.Ns N mN /\ mN "__init__" = none /\ OwnTail h bmB bm := by
  delta excIn at q
  split at q
  case h_2 => cases q
  rename_i d0 c0 s0 hl
  split at q
  case h_2 => cases q
  rename_i B tl a0 a1 a2 a3 id0 a5 em es
  have g := X C _ hl
  repeat rw [Bool.and_eq_true] at q
  rcases q with ⟨⟨⟨⟨⟨e1, e2⟩, e3⟩, e4⟩, e5⟩, e6⟩
  cases eq_of_beq e1
  cases eq_of_beq e2
  rcases s0 with ⟨l0⟩
  cases es
  rcases c0 with ⟨f0, f1, f2, f3, f4, f5, f6, f7, f8, f9, f10⟩
  cases em
  cases f10
  . exact ⟨tl, f3, f0, f4, f1, f5, f6, f7, f8, f9, d0, a0, a1, a2, a3, a5, h.nsMap f3, g, .of_isNs (isNs_of_in X e5), nsMap_none_of_in X e5 (eq_of_beq e6), tail_of_in X e4⟩
  . cases e3
def bmV : List Value := [.type "ValueError", .type "Exception", .type "BaseException", .type "object"]
section
variable {P : Program} {w : World} {K : PySem.W.Frag} {mg : Str -> Option Value} {base : Heap} {N : List Str} {qual : Str} {scope : Scope} {f : Addr} {cd : Value} {A : Around} {outer : List Env} {s : Shared} {H : Hp} {E : XK}
def tRaise (C : Addr) (E : XK) (ta : TA) : TS := fun _ σ H => ta σ H fun vs H1 => vs.length <= sizeLine /\ E (.ref C) none H1
theorem ps_raise {x : Str} {C : Addr} {newId : String} {np cpos pos : Pos} {e₀ : Expr} {rest : List Expr} {ta : TA} (hm : mg x = some (.ref C)) (hx : excIn K C bmV newId = true) (hg : Gl (cxOf (CXe P w) P w K mg base N qual scope f cd A outer s H E) x)
    (hn : newId = "ValueError.__new__") (ha : PA (cxOf (CXe P w) P w K mg base N qual scope f cd A outer s H E) (e₀ :: rest) ta)
    (he : starEach (e₀ :: rest) (cxOf (CXe P w) P w K mg base N qual scope f cd A outer s H E).env = (false, eval e₀ (cxOf (CXe P w) P w K mg base N qual scope f cd A outer s H E).env) :: starEach rest (cxOf (CXe P w) P w K mg base N qual scope f cd A outer s H E).env := by rfl)
    (hplain : (backTo cpos (starEach rest (cxOf (CXe P w) P w K mg base N qual scope f cd A outer s H E).env)).any (·.1) = false := by rfl) (hd : (x == ("__debug__" : Str)) = false := by decide) :
    PS (cxOf (CXe P w) P w K mg base N qual scope f cd A outer s H E) (.Raise (some (.Call (.Name x np) (e₀ :: rest) [] cpos)) none pos) (tRaise C E ta) := by
  intro pins s1 σ H1 D I h
  subst hn
  obtain ⟨bm, Nc, nm, q, bs, hdct, sn, sub, ab, col, dd, k0, k1, k2, k3, k5, mN, hC, hN, hni, T⟩ := exc_obj I.mod.kin hx
  refine wpAny_Raise_call_subU (C := C) (nm := nm) (q := q) (N := Nc) (bs := bs) (bm := bm) (hdct := hdct) (sn := sn) (sub := sub) (ab := ab) (col := col) (dd := dd) (k0 := k0) (k1 := k1) (k2 := k2) (k3 := k3) (k5 := k5)
    PySem.F.excBase_ValueError (bmB := bmV) (by decide +kernel) PySem.F.excBase_ValueError (mN := mN) (T.hasType PySem.F.excBase_ValueError.hasBase) (I.ok.hd rfl) (by rw [he]; show (false || (backTo cpos (starEach rest _)).any (·.1)) = false; rw [hplain]; rfl) hni (ld_glob I hg hm ⟨rfl, ?_⟩ hd)
  have hA := ha cpos pins s1 σ H1 _ I h
  rw [he] at hA ⊢
  refine Calls.evalArgs_plain (thn hA fun us s2 ⟨vs, H2, I2, r2, hz, q2⟩ => ⟨rfl, by rw [<- r2.length]; exact hz, I2.bk _ _ hC, hN.keeps I2.bk, T.keeps I2.bk, fun h' e hm => raiseE I2 hm q2⟩)
end
end L2
set_option Elab.async false
set_option linter.all false
set_option maxRecDepth 100000
set_option maxHeartbeats 4000000
namespace L2
open PySem PySem.Spec PyProof.Rows
abbrev Cx.body (X : Cx) (xe : Value -> Shared -> Prop) (pn : List (Addr × Obj)) : Cx := { X with xe := xe, pn := pn }
abbrev Cx.suite (X : Cx) (ea : Addr) (pn : List (Addr × Obj)) : Cx := { X with A := X.A.mark (some (.ref ea)), calm := false, xe := fun _ _ => False, pn := pn }
section
variable {X : Cx} {pins pins' : List (Addr × Obj)} {σ : St} {H : Hp} {s : Shared} {xe xe' : Value -> Shared -> Prop} {ea : Addr}
theorem Inv.toBody (I : Inv X pins σ H s) : Inv (X.body xe (X.pn ++ pins)) [] σ H s :=
  ⟨⟨I.ok.mod, I.ok.kind, I.ok.glob, I.ok.blt, I.ok.above, I.ok.inj, I.ok.has, I.ok.cab, I.ok.hd, I.ok.frames, I.ok.stk, I.ok.exf, I.ok.bs, I.ok.bsz, I.ok.noex, I.ok.exfs, I.ok.funs, I.ok.frf⟩, I.os, I.bare, I.base, I.loc, I.cell, I.free, I.freeC, fun p hp => I.pin p (by simpa using hp), I.hok, I.len⟩
theorem Inv.ofBody (I : Inv (X.body xe (X.pn ++ pins)) pins' σ H s) : Inv X pins σ H s :=
  ⟨⟨I.ok.mod, I.ok.kind, I.ok.glob, I.ok.blt, I.ok.above, I.ok.inj, I.ok.has, I.ok.cab, I.ok.hd, I.ok.frames, I.ok.stk, I.ok.exf, I.ok.bs, I.ok.bsz, I.ok.noex, I.ok.exfs, I.ok.funs, I.ok.frf⟩, I.os, I.bare, I.base, I.loc, I.cell, I.free, I.freeC, fun p hp => I.pin p (List.mem_append_left _ hp), I.hok, I.len⟩
theorem Inv.reBody {pn : List (Addr × Obj)} (I : Inv (X.body xe pn) pins' σ H s) : Inv (X.body xe' pn) pins' σ H s :=
  ⟨⟨I.ok.mod, I.ok.kind, I.ok.glob, I.ok.blt, I.ok.above, I.ok.inj, I.ok.has, I.ok.cab, I.ok.hd, I.ok.frames, I.ok.stk, I.ok.exf, I.ok.bs, I.ok.bsz, I.ok.noex, I.ok.exfs, I.ok.funs, I.ok.frf⟩, I.os, I.bare, I.base, I.loc, I.cell, I.free, I.freeC, I.pin, I.hok, I.len⟩
theorem Inv.toSuite (I : Inv X pins σ H s) : Inv (X.suite ea (X.pn ++ pins)) [] σ H s :=
  ⟨⟨I.ok.mod, I.ok.kind, I.ok.glob, I.ok.blt, I.ok.above, I.ok.inj, I.ok.has, I.ok.cab, fun z => absurd (show false = true from z) Bool.false_ne_true, I.ok.frames, I.ok.stk, I.ok.exf, I.ok.bs, I.ok.bsz, I.ok.noex, I.ok.exfs, I.ok.funs, I.ok.frf⟩, I.os, I.bare, I.base, I.loc, I.cell, I.free, I.freeC, fun p hp => I.pin p (by simpa using hp), I.hok, I.len⟩
theorem Inv.ofSuite (hd : X.calm = true -> X.A.handled = none) (I : Inv (X.suite ea (X.pn ++ pins)) pins' σ H s) : Inv X pins σ H s :=
  ⟨⟨I.ok.mod, I.ok.kind, I.ok.glob, I.ok.blt, I.ok.above, I.ok.inj, I.ok.has, I.ok.cab, hd, I.ok.frames, I.ok.stk, I.ok.exf, I.ok.bs, I.ok.bsz, I.ok.noex, I.ok.exfs, I.ok.funs, I.ok.frf⟩, I.os, I.bare, I.base, I.loc, I.cell, I.free, I.freeC, fun p hp => I.pin p (List.mem_append_left _ hp), I.hok, I.len⟩
theorem Inv.forget {i : Nat} {n : Str} {m : Str -> Option Value} {v : Option Value} {h' : Heap} {t' : Nat} (I : Inv X pins σ H s) (hN : X.N.Nodup) (hi : X.N[i]? = some n) (hx : X.env.scope.names.lookup n = some .local)
    (hl : ∀ (i : Nat) (x : Str) (v : V), X.N[i]? = some x -> σ[i]? = some (some v) -> Vis X.env.scope x -> ∃ u, RelV v u /\ Look X.env s.heap m x u) (hn : s.heap.Ns X.env.locals m)
    (hn' : h'.Ns X.env.locals (fun x => if x = n then v else m x)) (hs : Heap.SameBut X.env.locals s.heap h') : Inv X pins (σ.set i none) H { s with heap := h', toks := t' } := by
  have cne := I.cne
  obtain ⟨oL, _, _, hoL, _⟩ := id hn
  have tracked : HOk X.prog X.w H h' := fun b ob e => by
    refine (I.hok b ob e).stay (fun c w' hc q => (hs.2 c ?_).trans q) (fun _ q => q) fun _ _ q => q
    rintro rfl
    rcases hc with rfl | hc
    . rw [I.free] at e; cases e
    . rw [I.free] at hc; cases hc
  refine ⟨I.ok, I.os, I.bare, ⟨fun b o e n hb hx => ?_, fun b o e n hb hx => ?_, I.base.free, fun b o e hx => ?_, I.base.tups, I.base.frzs, I.base.tbls⟩, ⟨_, hn', fun j y v' e1 e2 e3 => ?_⟩, fun y c e => ?_, I.free, I.freeC, fun p hp => ?_, tracked, by simpa using I.len⟩
  . exact (hs.2 b (Nat.ne_of_lt (Nat.lt_of_lt_of_le (Heap.lt_size e) I.ok.above))).trans (I.base.keep b o e n hb hx)
  . obtain ⟨sl, e1⟩ := I.base.slot b o e n hb hx
    exact ⟨sl, (hs.2 b (Nat.ne_of_lt (Nat.lt_of_lt_of_le (Heap.lt_size e) I.ok.above))).trans e1⟩
  . obtain ⟨o', e1⟩ := I.base.there b o e hx
    exact ⟨o', (hs.2 b (Nat.ne_of_lt (Nat.lt_of_lt_of_le (Heap.lt_size e) I.ok.above))).trans e1⟩
  . by_cases hj : j = i
    . subst hj
      have hlt : j < σ.length := by
        have := (List.getElem?_eq_some_iff.mp e2).1
        simpa using this
      rw [List.getElem?_set_self hlt] at e2
      cases e2
    . rw [List.getElem?_set_ne (Ne.symm hj)] at e2
      obtain ⟨u', r', q⟩ := hl j y v' e1 e2 e3
      refine ⟨u', r', ?_⟩
      rcases q with ⟨k, e⟩ | ⟨k, c, e, z⟩
      . refine .inl ⟨k, ?_⟩
        have : y ≠ n := fun e => hj (nodup_ix hN e1 (e ▸ hi))
        simp [this, e]
      . exact .inr ⟨k, c, e, z.sameBut hs (cne y c e)⟩
  . obtain ⟨w', z⟩ := I.cell y c e
    exact ⟨w', z.sameBut hs (cne y c e)⟩
  . obtain ⟨e, n, ne, nf, d⟩ := I.pin p hp
    exact ⟨(hs.2 p.1 ne).trans e, n, ne, nf, d⟩
end
def PassesAt (CX : CXT) (X : Cx) (σ : St) (E : XK) : Prop := ∀ (pins : List (Addr × Obj)) (H : Hp) (s : Shared) (e : Value) (s' : Shared), Inv X pins σ H s -> CX X.stack H s E e s' -> X.xe e s'
def tCallE (sp : Sp) (dvs : List V) (E : St -> XK) (t : TA) : TE := fun σ H Q => t σ H fun vs H1 => sp (vs ++ dvs) H1 Q (E σ)
section
variable {X : Cx} {CX : CXT} {k : Nat} {f C : Addr} {fd : FuncData} {ps : List Str} {sp : Sp} {dvs : List V} {ds : List Value} {E : St -> XK} {x : Str} {p pos : Pos} {e : Expr} {es : List Expr} {t : TA}
theorem run_fnE {pins : List (Addr × Obj)} {σ : St} {H : Hp} {s : Shared} {Q : VK} {us : List Value} {vs : List V} {E : XK} (F : FnOk X.prog X.w X.K X.mg X.base CX k f fd ps sp) (hr : Room k X.A) (hb : Binds X.K fd ps ds) (hd : Vals dvs ds) (hx : PassesAt CX X σ E)
    (I : Inv X pins σ H s) (r : Vals vs us) (h : sp (vs ++ dvs) H Q E) : wpAny (model X.prog X.w) X.A (call (.ref f) us) (EP X pins σ Q) X.xe s := by
  have r2 : Vals (vs ++ dvs) (us ++ ds) := r.append hd
  have hl : (us ++ ds).length = ps.length := by rw [<- r2.length]; exact F.len _ _ _ _ h
  refine wpAny_call (codeAny_mono (F.run X.A X.stack s H ⟨us, []⟩ (us ++ ds) (vs ++ dvs) Q E hr I.env0 (hb s us I.kIn hl) r2 h) fun r s' hq => ?_)
  cases r with
  | error e => exact hx pins H s e s' I hq
  | ok fl =>
    cases fl with
    | ret u => exact I.after hq
    | next => exact False.elim hq
    | brk => exact False.elim hq
    | cont => exact False.elim hq
theorem pe_callE (F : FnOk X.prog X.w X.K X.mg X.base CX k f fd ps sp) (hr : Room k X.A) (hg : Gl X x) (hm : X.mg x = some (.ref f)) (hk : PySem.W.keepIn X.K (.ref f) = true) (hb : Binds X.K fd ps ds) (hd : Vals dvs ds) (hx : ∀ σ, PassesAt CX X σ (E σ))
    (ha : PA X (e :: es) t) (hdb : (x == ("__debug__" : Str)) = false := by decide) (he : starEach (e :: es) X.env = (false, eval e X.env) :: starEach es X.env := by rfl) (hpl : (backTo pos (starEach es X.env)).any (·.1) = false := by rfl) :
    PE X (.Call (.Name x p) (e :: es) [] pos) (tCallE sp dvs E t) := by
  intro pins s σ H Q I h
  refine wpAny_Call_Name_kw (ld_glob I hg hm ?_ hdb)
  refine PySem.W.callWith_K (h₀ := X.base) I.ok.mod.kin hk (thn (ha pos pins s σ H _ I h) fun us s1 ⟨vs, H1, I1, r, q⟩ => ⟨I1.kIn, ?_⟩) he hpl
  exact run_fnE F hr hb hd (hx σ) I1 r q
end
def excO (ea C : Addr) : HO := .ext (ExcAt ea C)
def Ends.un (D : Ends) (i : Nat) : Ends := { nx := fun σ H => D.nx (σ.set i none) H, rt := D.rt, bk := fun σ H => D.bk (σ.set i none) H, ct := fun σ H => D.ct (σ.set i none) H }
def tTry (K : PySem.W.Frag) (Ca : Addr) (i : Nat) (E : St -> XK) (tb ts : TS) : TS := fun D σ H => tb D σ H /\ ∀ σ' cls H', E σ' cls none H' ->
  ∃ C, cls = .ref C /\ PySem.W.exmOne K (.ref C) (.ref Ca) = some true /\ ∀ ea, H' ea = none -> ts (D.un i) (σ'.set i (some (.ref ea))) (upd H' ea (excO ea C))
theorem ps_try {X : Cx} {body : List Stmt} {c n : Str} {Ca : Addr} {np hpos pos : Pos} {b₀ : Stmt} {suite : List Stmt} {i : Nat} {E : St -> XK} {tb ts : TS} (hN : X.N.Nodup) (hi : X.N[i]? = some n) (hn : X.env.scope.names.lookup n = some .local)
    (hg : Gl X c) (hm : X.mg c = some (.ref Ca)) (hst : X.stack = X.env :: X.outer) (hL : X.env.frame = some X.env.locals) (hex : X.ex = [])
    (hb : ∀ xe pn, (∀ σ, PassesAt (CXe X.prog X.w) (X.body xe pn) σ (E σ)) -> PSs (X.body xe pn) body tb) (hs : ∀ ea pn, PSs (X.suite ea pn) (b₀ :: suite) ts) (hd : (c == ("__debug__" : Str)) = false := by decide) :
    PS X (.Try body [.ExceptHandler (some (.Name c np)) (some n) (b₀ :: suite) hpos] [] [] pos) (tTry X.K Ca i E tb ts) := by
  intro pins s σ H D I h
  obtain ⟨hbody, hhand⟩ := h
  have hB := hb (fun e s' => ∃ pins' σ' H1 s1, Inv (X.body (fun _ _ => True) (X.pn ++ pins)) pins' σ' H1 s1 /\ CXe X.prog X.w X.stack H1 s1 (E σ') e s') (X.pn ++ pins) (fun σ pins' H s e s' I' hcx => ⟨pins', σ, H, s, I'.reBody, hcx⟩) [] s σ H D I.toBody hbody
  refine wpAny_Try_except (wpAny_mono hB (fun f s1 q => ?_) fun e s1 q => ?_)
  . cases f with
    | next => obtain ⟨σ1, H1, I1, q1⟩ := q; exact wpAny_execs_nil ⟨σ1, H1, I1.ofBody, q1⟩
    | brk => obtain ⟨σ1, H1, I1, q1⟩ := q; exact ⟨σ1, H1, I1.ofBody, q1⟩
    | cont => obtain ⟨σ1, H1, I1, q1⟩ := q; exact ⟨σ1, H1, I1.ofBody, q1⟩
    | ret v => obtain ⟨x1, σ1, H1, I1, r1, q1⟩ := q; exact ⟨x1, σ1, H1, I1.ofBody, r1, q1⟩
  . obtain ⟨pins', σ', H1, s2, I2, ea, cls, a0, H', B, rfl, os, bare, fl, fw, hE⟩ := q
    obtain ⟨C, rfl, hexm, hts⟩ := hhand σ' cls H' hE
    have I2' : Inv X pins σ' H1 s2 := I2.ofBody
    have fr : X.A.frames = some (X.env :: X.outer) := by rw [I.ok.frames, hst]
    have frees := fly_frees I2' fl
    have fw0 := fw
    rw [hst] at fw
    have invAt : ∀ h', Heap.FlyingW B (X.env :: X.outer) ea (.ref C) a0 h' -> s1.heap.UpToSlots h' -> Inv X pins σ' H' { s1 with heap := h' } := fun h' fw' ups => by
      have fl2 := fl.move frees fw'.1 (fun b hb o e => by
        obtain ⟨_, o', ho', nf⟩ := fw0.2.2.1.mem hb
        rw [e] at ho'; cases ho'
        exact ups b o e nf)
      exact I2'.call' (s' := { s1 with heap := h' }) os fl2.un fl2.hok bare (fun b hb => by cases hb)
    refine wpAny_looks_onW fr hL fw fun h4 held4 up4 => ?_
    refine wpAny_landsW held4 fun h5 fw5 up5 => ?_
    have I5 := invAt h5 fw5 (up4.trans up5)
    have I5m : Inv (X.suite ea (X.pn ++ pins)) [] σ' H' { s1 with heap := h5 } := I5.toSuite
    refine wpAny_handleBy_cons (codeAny_handlers_test (ld_glob (X := X.suite ea (X.pn ++ pins)) I5m hg hm ?_ hd)) (by intro q; cases q)
    have LT : PySem.W.Looks (model X.prog X.w) h5 (typeOf (.ref ea)) (.ref C) := by
      obtain ⟨ob, hob, hoc⟩ := fw5.there
      exact hoc ▸ (PySem.W.Looks.ld hob).andThen .now
    refine (PySem.W.exm_one (K := X.K) (M := model X.prog X.w) I5.kIn LT hexm) _ _ _ _ (fun b o e => e) ?_
    refine codeAny_handlers_suite_as ?_
    refine lands_againW fw5 fun h6 fw6 up6 => ?_
    have I6 := invAt h6 fw6 ((up4.trans up5).trans up6)
    -- the exception's object is not tracked yet
    have hne : H' ea = none := by
      cases q : H' ea with
      | none => rfl
      | some u =>
        have nfs : ea ∉ frs X.stack := fun z => by rw [frees ea z] at q; cases q
        obtain ⟨o, ho⟩ := (fl.hok ea u q).there
        have := fl.cov ea o ho (.inl (by rw [q]; simp)) nfs
        rw [fw.2.1] at this
        cases this
    have new : ObjOk X.prog X.w (upd H' ea (excO ea C)) h6 ea (excO ea C) := by
      obtain ⟨ob, hob, hoc⟩ := fw6.there
      refine ⟨⟨ob, hob, hoc⟩, ⟨ob, hob⟩, fun g1 g2 ⟨o1, e1, c1⟩ k => ⟨o1, k o1 e1, c1⟩⟩
    have hsz : s2.heap.get? ea = none := by
      cases q : s2.heap.get? ea with
      | none => rfl
      | some o =>
        by_cases z : ea ∈ frs X.stack
        . obtain ⟨_, o', ho', nf⟩ := fw0.2.2.1.mem z
          obtain ⟨oe, vs, hoe, _, hdt, _⟩ := fw.first
          rw [ho'] at hoe; cases hoe
          exact absurd hdt (nf vs)
        . obtain ⟨o', e'⟩ := fl.un.there ea o q (by simp)
          have := fl.cov ea o' e' (.inr ⟨o, q⟩) z
          rw [fw.2.1] at this
          cases this
    have I6t : Inv X pins σ' (upd H' ea (excO ea C)) { s1 with heap := h6 } := by
      refine ⟨I6.ok, I6.os, I6.bare, ?_, I6.loc, I6.cell, ?_, fun x c e => ?_, fun p hp => ?_, I6.hok.track hne new, I6.len⟩
      . -- newer than the entry
        have h0 : X.s₀.heap.get? ea = none := by
          cases q : X.s₀.heap.get? ea with
          | none => rfl
          | some o =>
            obtain ⟨o', e'⟩ := I2'.base.there ea o q (by rw [hex]; simp)
            rw [hsz] at e'; cases e'
        refine ⟨I6.base.keep, I6.base.slot, fun b o e n hx => ?_, I6.base.there, fun b xs q => ?_, fun b ob xs q => ?_, fun b ps q => ?_⟩
        . rw [upd_ne (fun z => by rw [z, h0] at e; cases e)]; exact I6.base.free b o e n hx
        . have := I6.base.tups b xs q; rw [upd_ne (ne_of_none this hne)]; exact this
        . have := I6.base.frzs b ob xs q; rw [upd_ne (ne_of_none this hne)]; exact this
        . obtain ⟨more, e⟩ := I6.base.tbls b ps q
          exact ⟨more, by rw [upd_ne (ne_of_none e hne)]; exact e⟩
      . rw [upd_ne (fun z => ?_)]
        . exact I6.free
        . have := I2'.lt
          obtain ⟨m, ⟨o, _, _, ho, _⟩, _⟩ := I2'.loc
          rw [z, hsz] at ho; cases ho
      . rw [upd_ne (fun z => ?_)]
        . exact I6.freeC x c e
        . obtain ⟨v, o, ho, _⟩ := I2'.cell x c e
          rw [z, hsz] at ho; cases ho
      . obtain ⟨e, n, r⟩ := I6.pin p hp
        refine ⟨e, ?_, r⟩
        rw [upd_ne (fun z => ?_)]
        . exact n
        . have := (I2'.pin p hp).1
          rw [z, hsz] at this; cases this
    have I6m : Inv (X.suite ea (X.pn ++ pins)) [] σ' (upd H' ea (excO ea C)) { s1 with heap := h6 } := I6t.toSuite
    refine store_ok (X := X.suite ea (X.pn ++ pins)) I6m hN hi (.inl hn) (v := .ref ea) rfl (fun s7 I7 => ?_) (.inr hn)
    refine wpAny_mono (hs ea (X.pn ++ pins) [] s7 _ _ (D.un i) I7 (hts ea hne)) (fun f s8 q8 => ?_) (fun _ _ z => False.elim z)
    have hcl : (X.env.scope.kind == .class || (X.env.scope.kind == .module && X.env.locals != X.env.globals)) = false := by rw [I.ok.kind]; rfl
    have goes : ∀ {σ8 : St} {H8 : Hp}, Inv (X.suite ea (X.pn ++ pins)) [] σ8 H8 s8 -> ∀ (R : Unit -> Shared -> Prop), (∀ s9, Inv X pins (σ8.set i none) H8 s9 -> R () s9) ->
        wpAny (model X.prog X.w) X.A (do bindName X.env n .none; unbindBehindTheSuite X.env n hpos) R X.xe s8 := fun {σ8 H8} I8 R hR => by
      have I8' : Inv X pins σ8 H8 s8 := I8.ofSuite I.ok.hd
      obtain ⟨m, hns, hl⟩ := I8'.loc
      exact wpAny_nameGoes_keeps hn hns hcl fun h9 v hn9 sb => hR _ (I8'.forget hN hi hn hl hns hn9 sb)
    cases f with
    | next => obtain ⟨σ8, H8, I8, q⟩ := q8; exact goes I8 _ fun s9 I9 => ⟨_, H8, I9, q⟩
    | brk => obtain ⟨σ8, H8, I8, q⟩ := q8; exact goes I8 _ fun s9 I9 => ⟨_, H8, I9, q⟩
    | cont => obtain ⟨σ8, H8, I8, q⟩ := q8; exact goes I8 _ fun s9 I9 => ⟨_, H8, I9, q⟩
    | ret v => obtain ⟨x8, σ8, H8, I8, r8, q⟩ := q8; exact goes I8 _ fun s9 I9 => ⟨x8, _, H8, I9, r8, q⟩
theorem call_isinstE {X : Cx} : CallR X (.builtin "isinstance") (fun xs H Q => ∃ ea C c cv b, xs = [.ref ea, c] /\ H ea = some (excO ea C) /\ ExcCls X.K C /\ (∀ u, RelV c u -> u = cv) /\ PySem.W.kitOne X.K (.ref C) cv = some b /\ Q (.bl b) H) := by
  intro pins s σ H xs us Q I r h
  obtain ⟨ea, C, c, cv, b, rfl, hea, hC, hc, hk, q⟩ := h
  obtain ⟨u, w', rfl, rx, rc⟩ := vals2 r
  rw [hc _ rc]
  cases rx
  obtain ⟨p, _, _⟩ := (show ObjOk X.prog X.w H s.heap ea (.ext (ExcAt ea C)) from I.hok ea _ hea)
  exact PySem.W.kia_one (kitx_exc hC) I.kIn p hk (fun z => nomatch z) fun tk => ⟨.bl b, H, I.tok tk, rfl, q⟩
end L2
set_option Elab.async false
set_option linter.all false
set_option maxRecDepth 100000
set_option maxHeartbeats 4000000
namespace HT
open PySem PySem.Spec PyProof.Rows
open PySem.AutoSeq1 (wpAny_loadPart')
section
open PySem.SeqAt PySem.MeetsSeq PySem.MeetsSeq2 PySem.MeetsSeq3
theorem int_rmul_tup (a : Int) (t : Tok) (l : Addr) (items : Array Value) (n : Nat) (dd : Option Addr) (sl : Array (Option Value)) :
    Meets (Builtin.«int.__rmul__» ⟨[.int a t, .ref l], []⟩) (fun _ R s => s.heap.get? l = some { cls := .type "tuple", dict := dd, data := .seq items n, slots := sl } /\ R (.ok (.ret Value.notImplemented)) s) :=
  .of_wp fun prog w A R s h => by obtain ⟨hp, g, d, tk, os⟩ := s; obtain ⟨hl, h⟩ := h; wp_walk using wpAny_loadPart' hl; exact ⟨_, rfl, h⟩
theorem noFill_tuple_mul : fillsNumberSlot (.type "tuple") "mul" = pure false := by
  first | exact fillsNumberSlot_false (by decide +kernel) | (unfold fillsNumberSlot; kernel_rfl) | kernel_rfl
theorem repeat_tuple : seqRepeat? (.type "tuple") = pure (some (.builtin "tuple.__mul__")) := by
  unfold seqRepeat?
  rw [PySem.seqSlot_of (T := "tuple") (name := "__mul__") (id := "tuple.__mul__") F.slot_tuple_mul.lookup (by decide +kernel), PySem.seqSlot_of (T := "tuple") (name := "__rmul__") (id := "tuple.__rmul__") F.slot_tuple_rmul.lookup (by decide +kernel)]
  rfl
theorem tup_mul_one (l : Addr) (items : Array Value) (n : Nat) (dd : Option Addr) (sl : Array (Option Value)) (u : Tok) :
    Meets (Builtin.«tuple.__mul__» ⟨[.ref l, .int 1 u], []⟩) (fun _ R s => s.heap.get? l = some { cls := .type "tuple", dict := dd, data := .seq items n, slots := sl } /\ R (.ok (.ret (Value.ref l))) s) :=
  .of_wp fun prog w A R s h => by
    obtain ⟨hp, g, d, tk, os⟩ := s; obtain ⟨hl, h⟩ := h
    have f1 := AutoSeq1.idx_int
    unfold Builtin.«tuple.__mul__»
    wp_walk using wpAny_loadPart' hl
    exact ⟨_, rfl, h⟩
theorem tup_mul_none (l : Addr) (items : Array Value) (n : Nat) (dd : Option Addr) (sl : Array (Option Value)) (x : Int) (u : Tok) (h0 : ¬ items.isEmpty = true) (h1 : x <= 0) (h2 : -(2 ^ 63) <= x) :
    Meets (Builtin.«tuple.__mul__» ⟨[.ref l, .int x u], []⟩) (fun _ R s => s.heap.get? l = some { cls := .type "tuple", dict := dd, data := .seq items n, slots := sl } /\ R (.ok (.ret (Value.ref s.heap.objs.size))) { s with heap := s.heap.push { cls := .type "tuple", data := .seq #[] } }) :=
  .of_wp fun prog w A R s h => by
    obtain ⟨hp, g, d, tk, os⟩ := s; obtain ⟨hl, h⟩ := h
    have f1 := AutoSeq1.idx_int
    have c1 : (decide (x < -(2 ^ 63 : Int)) || decide (x >= 2 ^ 63)) = false := by simp; omega
    have c2 : (items.isEmpty || x == 1) = false := by simp at h0 ⊢; exact ⟨h0, by omega⟩
    have c3 : (decide (x <= 0) || items.isEmpty) = true := by simp [h1]
    unfold Builtin.«tuple.__mul__»
    wp_walk using wpAny_loadPart' hl
    rw [if_neg (by rw [c1]; exact Bool.false_ne_true)]
    wp_walk using wpAny_loadPart' hl
    rw [if_neg (by rw [c2]; exact Bool.false_ne_true)]
    rw [if_pos c3]
    wp_walk using wpAny_loadPart' hl
    exact ⟨_, rfl, h⟩
theorem tup_mul_many (l : Addr) (items : Array Value) (n : Nat) (dd : Option Addr) (sl : Array (Option Value)) (x : Int) (u : Tok) (h0 : ¬ items.isEmpty = true) (h1 : 1 < x) (h2 : x < 2 ^ 63) (h3 : items.size * x.toNat <= sizeLine) :
    Meets (Builtin.«tuple.__mul__» ⟨[.ref l, .int x u], []⟩) (fun _ R s => s.heap.get? l = some { cls := .type "tuple", dict := dd, data := .seq items n, slots := sl } /\ R (.ok (.ret (Value.ref s.heap.objs.size))) { s with heap := s.heap.push { cls := .type "tuple", data := .seq ((List.replicate x.toNat items).foldl (· ++ ·) #[]) } }) :=
  .of_wp fun prog w A R s h => by
    obtain ⟨hp, g, d, tk, os⟩ := s; obtain ⟨hl, h⟩ := h
    have f1 := AutoSeq1.idx_int
    have hs : sizeLine = 16777216 := sizeLine_eq
    have c1 : (decide (x < -(2 ^ 63 : Int)) || decide (x >= 2 ^ 63)) = false := by simp; omega
    have c2 : (items.isEmpty || x == 1) = false := by simp at h0 ⊢; exact ⟨h0, by omega⟩
    have c3 : (decide (x <= 0) || items.isEmpty) = false := by simp at h0 ⊢; exact ⟨by omega, h0⟩
    obtain ⟨k, rfl⟩ : ∃ k : Nat, x = (k : Int) := ⟨x.toNat, by omega⟩
    have c4 : ¬ ((items.size : Int) * (k : Int) > (2 ^ 63 - 1) / 8) := by
      rw [Int.toNat_natCast] at h3
      have : ((items.size * k : Nat) : Int) = (items.size : Int) * (k : Int) := by push_cast; rfl
      omega
    have c5 : Builtin.Tuple.tupleTooMany ((items.size : Int) * (k : Int)) = false := by
      unfold Builtin.Tuple.tupleTooMany
      rw [Int.toNat_natCast] at h3
      have : ((items.size * k : Nat) : Int) = (items.size : Int) * (k : Int) := by push_cast; rfl
      simp
      omega
    unfold Builtin.«tuple.__mul__»
    wp_walk using wpAny_loadPart' hl
    rw [if_neg (by rw [c1]; exact Bool.false_ne_true)]
    wp_walk using wpAny_loadPart' hl
    rw [if_neg (by rw [c2]; exact Bool.false_ne_true)]
    rw [if_neg (by rw [c3]; exact Bool.false_ne_true), if_neg c4, if_neg (by rw [c5]; exact Bool.false_ne_true)]
    wp_walk using wpAny_loadPart' hl
    have hz : ¬ (List.foldl (fun x1 x2 => x1 ++ x2) #[] (List.replicate ((k : Int)).toNat items)).size > sizeLine := by
      have := L2.foldl_rep items.toList k []
      rw [List.nil_append] at this
      have e : items.toList.toArray = items := by simp
      rw [e] at this
      rw [Int.toNat_natCast, this, List.size_toArray, L2.len_rep]
      rw [Int.toNat_natCast] at h3
      rw [Array.length_toList, Nat.mul_comm]
      omega
    rw [if_neg hz]
    wp_walk using wpAny_loadPart' hl
    exact ⟨_, rfl, h⟩
end
end HT
namespace L2
open PySem PySem.Spec PyProof.Rows
section
variable {X : Cx}
def rRepT (K : PySem.W.Frag) : R2 := fun x y H Q => ∃ l k xs, x = .ref l /\ y = .int k /\ SqT K H l xs /\ xs ≠ [] /\ -(2 ^ 63) <= k /\ k < 2 ^ 63 /\ xs.length * k.toNat <= sizeLine /\
  (k = 1 -> Q (.ref l) H) /\ (k ≠ 1 -> ∀ p, H p = none -> Q (.ref p) (upd H p (.tup (List.replicate k.toNat xs).flatten)))
theorem op_repT : OpR X (binaryOp .Mult) (rRepT X.K) := by
  intro pins s σ H x y v u Q I rx ry h
  obtain ⟨l, k, xs, rfl, rfl, hq, hne, h1, h2, hz, q1, q2⟩ := h
  cases rx
  obtain ⟨t, rfl⟩ := ry
  obtain ⟨its, r, p1, _⟩ := I.tuple hq
  have hlen := r.length
  have hn' : ¬ its.toArray.isEmpty = true := by
    intro z
    have : its = [] := by simpa using z
    exact hne (r.nil_iff.mp this)
  obtain ⟨⟨cls, dd, data, sl⟩, ho, hc, n, hd⟩ := id p1
  simp only at hc hd
  subst hc hd
  refine wpAny_binaryOp_repeat_ref (T := "tuple") (U := "int") (by decide) ⟨_, ho, rfl⟩ (fun s' => typeIs_int s' k t) HT.noFill_tuple_mul F.fills_int_mul F.slot_int_rmul HT.repeat_tuple F.slot_int_index.lookup
    (call_meets F.slot_int_rmul (typeIs_int s k t) F.entry_int_rmul (F.args_int_rmul_2 _ _) (HT.int_rmul_tup k t l its.toArray n dd sl) ⟨ho, rfl, ⟨_, ho, rfl⟩, ?_⟩)
  by_cases k1 : k = 1
  . subst k1
    exact call_meets F.slot_tuple_mul ⟨_, ho, rfl⟩ F.entry_tuple_mul (F.args_tuple_mul_2 _ _) (HT.tup_mul_one l its.toArray n dd sl t) ⟨ho, ⟨.ref l, H, I, rfl, q1 rfl⟩⟩
  . have fin : ∀ (ys : List Value), Vals (List.replicate k.toNat xs).flatten ys -> EP X pins σ Q (.ref s.heap.objs.size) { s with heap := s.heap.push { cls := .type "tuple", data := .seq ys.toArray } } := fun ys rv =>
      ⟨.ref s.heap.objs.size, _, I.laid (t' := s.toks) (o := .tup (List.replicate k.toNat xs).flatten) (fun b ob q => Heap.get?_push_of_some _ q) (Nat.le_refl _) ⟨by rw [len_rep, Nat.mul_comm]; exact hz, _, rv, IsTup.new _ _⟩, rfl, q2 k1 _ (I.hok.fresh (Nat.le_refl _))⟩
    by_cases k0 : k <= 0
    . refine call_meets F.slot_tuple_mul ⟨_, ho, rfl⟩ F.entry_tuple_mul (F.args_tuple_mul_2 _ _) (HT.tup_mul_none l its.toArray n dd sl k t hn' k0 h1) ⟨ho, ?_⟩
      exact fin [] (by rw [show k.toNat = 0 by omega]; exact .nil)
    . refine call_meets F.slot_tuple_mul ⟨_, ho, rfl⟩ F.entry_tuple_mul (F.args_tuple_mul_2 _ _) (HT.tup_mul_many l its.toArray n dd sl k t hn' (by omega) h2 (by rw [List.size_toArray, <- hlen]; exact hz)) ⟨ho, ?_⟩
      have e := foldl_rep its k.toNat []
      rw [List.nil_append] at e
      have e' : List.foldl (fun x1 x2 => x1 ++ x2) #[] (List.replicate k.toNat its.toArray) = (List.replicate k.toNat its).flatten.toArray := e
      rw [e']
      exact fin _ (r.rep k.toNat)
def rCatT2 (K : PySem.W.Frag) : R2 := fun x y H Q => ∃ a b xs ys, x = .ref a /\ y = .ref b /\ SqT K H a xs /\ SqT K H b ys /\ xs.length + ys.length <= sizeLine /\
  (xs = [] -> Q (.ref b) H) /\ (xs ≠ [] -> ys = [] -> Q (.ref a) H) /\ (xs ≠ [] -> ys ≠ [] -> ∀ p, H p = none -> Q (.ref p) (upd H p (.tup (xs ++ ys))))
theorem op_catT2 : OpR X (binaryOp .Add) (rCatT2 X.K) := by
  intro pins s σ H x y v u Q I rx ry h
  obtain ⟨a, b, xs, ys, rfl, rfl, ha, hb, hz, q0, q1, q2⟩ := h
  by_cases hx : xs = []
  . subst hx
    cases rx
    cases ry
    obtain ⟨its, r1, p1, _⟩ := I.tuple ha
    obtain ⟨its2, r2, p2, _⟩ := I.tuple hb
    have : its = [] := r1.nil_iff.mpr rfl
    subst this
    obtain ⟨⟨cls, dd, data, sl⟩, ho, hc, n, hd⟩ := id p1
    obtain ⟨⟨cls2, dd2, data2, sl2⟩, ho2, hc2, n2, hd2⟩ := id p2
    simp only at hc hd hc2 hd2
    subst hc hd hc2 hd2
    exact concat_meets ⟨_, ho, rfl⟩ ⟨_, ho2, rfl⟩ noFill_tuple_add seq_tuple_add PySem.F.slot_tuple_add PySem.F.entry_tuple_add (PySem.F.args_tuple_add_2 _ _)
      (PyProof.Rows.tuple_addW0 a b _ _ n n2 dd dd2 sl sl2 rfl) ⟨ho, ho2, ⟨.ref b, H, I, rfl, q0 rfl⟩⟩
  . exact op_catT pins s σ H _ _ v u Q I rx ry ⟨a, b, xs, ys, rfl, rfl, ha, hb, hx, hz, q1 hx, q2 hx⟩
end
theorem whileW {c : TT} {tb : TS} {D : Ends} {σ : St} {H : Hp} (Pv : Nat -> St -> Hp -> Prop) (h0 : ∃ m, Pv m σ H)
    (hs : ∀ m σ H, Pv m σ H -> c σ H fun b H1 => if b = true then ∃ N : St -> Hp -> Prop, (∀ σ' H', N σ' H' -> ∃ m', m' < m /\ Pv m' σ' H') /\ tb { D with nx := N, ct := N, bk := D.nx } σ H1 else D.nx σ H1) : tWhile c tb D σ H := ⟨Pv, h0, hs⟩
section
variable {K : PySem.W.Frag} {H : Hp} {Q : VK}
theorem rRepT.of {l : Addr} {k : Int} {xs : List V} (hq : SqT K H l xs) (hne : xs ≠ []) (h1 : -(2 ^ 63) <= k) (h2 : k < 2 ^ 63) (hz : xs.length * k.toNat <= sizeLine) (h : ∀ p H', Same H H' -> SqT K H' p (List.replicate k.toNat xs).flatten -> Q (.ref p) H') : rRepT K (.ref l) (.int k) H Q := by
  refine ⟨l, k, xs, rfl, rfl, hq, hne, h1, h2, hz, fun e => ?_, fun _ p hp => h p _ (Same.new hp) (SqT.of upd_same)⟩
  subst e
  exact h l H (Same.refl _) (by simpa using hq)
theorem rCatT2.of {a b : Addr} {xs ys : List V} (ha : SqT K H a xs) (hb : SqT K H b ys) (hz : xs.length + ys.length <= sizeLine) (h : ∀ p H', Same H H' -> SqT K H' p (xs ++ ys) -> Q (.ref p) H') : rCatT2 K (.ref a) (.ref b) H Q := by
  refine ⟨a, b, xs, ys, rfl, rfl, ha, hb, hz, fun e => ?_, fun _ e => ?_, fun _ _ p hp => h p _ (Same.new hp) (SqT.of upd_same)⟩
  . subst e; exact h b H (Same.refl _) (by simpa using hb)
  . subst e; exact h a H (Same.refl _) (by simpa using ha)
end
theorem flat_rep1 {α : Type} (x : α) (k : Nat) : (List.replicate k [x]).flatten = List.replicate k x := by
  induction k with
  | zero => rfl
  | succ k ih => rw [List.replicate_succ, List.flatten_cons, ih, List.replicate_succ]; rfl
inductive TyW (K : PySem.W.Frag) (H : Hp) : V -> Value -> Prop where
  | non : TyW K H .non (.type "NoneType")
  | bl (x : Bool) : TyW K H (.bl x) (.type "bool")
  | int (i : Int) : TyW K H (.int i) (.type "int")
  | str (x : Str) : TyW K H (.str x) (.type "str")
  | lst {a : Addr} {xs : List V} (e : SqL K H a xs) : TyW K H (.ref a) (.type "list")
  | tup {a : Addr} {xs : List V} (e : SqT K H a xs) : TyW K H (.ref a) (.type "tuple")
  | exc {a C : Addr} (e : H a = some (excO a C)) (c : ExcCls K C) : TyW K H (.ref a) (.ref C)
theorem call_isinstW {X : Cx} : CallR X (.builtin "isinstance") (fun xs H Q => ∃ x c cv t b, xs = [x, c] /\ TyW X.K H x t /\ (∀ u, RelV c u -> u = cv) /\ PySem.W.kitOne X.K t cv = some b /\ Q (.bl b) H) := by
  intro pins s σ H xs us Q I r h
  obtain ⟨x, c, cv, t, b, rfl, ty, hc, hk, q⟩ := h
  cases ty with
  | non => exact call_isinst pins s σ H _ us Q I r ⟨_, c, cv, _, b, rfl, .non, hc, hk, q⟩
  | bl y => exact call_isinst pins s σ H _ us Q I r ⟨_, c, cv, _, b, rfl, .bl y, hc, hk, q⟩
  | int y => exact call_isinst pins s σ H _ us Q I r ⟨_, c, cv, _, b, rfl, .int y, hc, hk, q⟩
  | str y => exact call_isinst pins s σ H _ us Q I r ⟨_, c, cv, _, b, rfl, .str y, hc, hk, q⟩
  | exc e hC => exact call_isinstE pins s σ H _ us Q I r ⟨_, _, c, cv, b, rfl, e, hC, hc, hk, q⟩
  | @lst a xs e =>
    obtain ⟨u, w', rfl, rx, rc⟩ := vals2 r
    rw [hc _ rc]
    cases rx
    obtain ⟨its, _, pl, _⟩ := I.list e
    obtain ⟨o, ho, hcl, _⟩ := pl.isList
    exact PySem.W.kia_one PySem.W.kitx_list I.kIn ⟨o, ho, hcl⟩ hk (fun z => nomatch z) fun tk => ⟨.bl b, H, I.tok tk, rfl, q⟩
  | @tup a xs e =>
    obtain ⟨u, w', rfl, rx, rc⟩ := vals2 r
    rw [hc _ rc]
    cases rx
    obtain ⟨its, _, ⟨o, ho, hcl, _⟩, _⟩ := I.tuple e
    exact PySem.W.kia_one PySem.W.kitx_tuple I.kIn ⟨o, ho, hcl⟩ hk (fun z => nomatch z) fun tk => ⟨.bl b, H, I.tok tk, rfl, q⟩
end L2
set_option Elab.async false
set_option linter.all false
set_option maxRecDepth 100000
set_option maxHeartbeats 4000000
namespace GW
def placeR (L : Int) : List Int -> Int
  | [] => 0
  | x :: r => placeR L r * L + x + 1
def place (L : Int) (w : List Int) : Int := placeR L w.reverse
def inW (L x : Int) : Bool := decide (0 <= x) && decide (x < L)
def isW (L : Int) (ws : List Int) : Bool := ws.all (inW L)
theorem inW_iff {L x : Int} : inW L x = true ↔ 0 <= x /\ x < L := by simp [inW]
theorem isW_iff {L : Int} {ws : List Int} : isW L ws = true ↔ ∀ x ∈ ws, 0 <= x /\ x < L := by simp [isW, inW_iff]
def many (L : Int) : Nat -> Int
  | 0 => 0
  | k + 1 => many L k * L + 1
theorem place_snoc (L : Int) (w : List Int) (x : Int) : place L (w ++ [x]) = place L w * L + x + 1 := by
  unfold place
  rw [List.reverse_append]; rfl
end GW
set_option Elab.async false
set_option linter.all false
set_option maxRecDepth 100000
set_option maxHeartbeats 4000000
namespace PySem
section
variable {prog : Program} {w : World} {A : Around} {E : Value -> Shared -> Prop} {s : Shared}
abbrev lsO (acc : Array Value) (c : Nat) : Obj := { cls := .type "list", dict := none, data := .seq acc c, slots := #[] }
def KP (wr : Addr -> Prop) (h h' : Heap) : Prop := ∀ b o, ¬ wr b -> h.get? b = some o -> h'.get? b = some o
structure Gat (prog : Program) (w : World) (s : Shared) (r I : Addr) (T : String) (n : Nat) (wr : Addr -> Prop) (J : Nat -> List Value -> Heap -> Prop) (Fn : List Value -> Heap -> Prop) : Prop where
  type : s.TypeIs (.ref r) T
  nl : (Value.type T == Value.type "list") = false
  nt : (Value.type T == Value.type "tuple") = false
  le : n <= sizeLine
  hint : ∀ (A : Around) (t : Shared) (Q : Bool -> Shared -> Prop) (E : Value -> Shared -> Prop), (∀ b o, s.heap.get? b = some o -> t.heap.get? b = some o) -> (∀ b tk, Q b { t with toks := tk }) -> wpAny (model prog w) A (Builtin.List.listLengthHint (.ref r)) Q E t
  iter : ∀ (A : Around) (h1 : Heap) (Q : Value -> Shared -> Prop) (E : Value -> Shared -> Prop), (∀ b o, s.heap.get? b = some o -> h1.get? b = some o) -> h1.objs.size = s.heap.objs.size + 1 -> (∀ h', J 0 [] h' -> (∀ b o, h1.get? b = some o -> h'.get? b = some o) -> Q (.ref I) { s with heap := h' }) -> wpAny (model prog w) A (pyIter (.ref r)) Q E { s with heap := h1 }
  next : ∀ (A : Around) i acc (t : Shared) (Q : Option Value -> Shared -> Prop) (E : Value -> Shared -> Prop), A.handled = none -> J i acc t.heap -> acc.length = i -> i <= n -> s.heap.objs.size < t.heap.objs.size ->
    (∀ v h' tk, i < n -> J (i + 1) (acc ++ [v]) h' -> KP wr t.heap h' -> Q (some v) { t with heap := h', toks := tk }) -> (∀ h' tk, i = n -> Fn acc h' -> KP wr t.heap h' -> Q none { t with heap := h', toks := tk }) -> wpAny (model prog w) A (pyNext (.ref I)) Q E t
  frame : ∀ i acc h h', J i acc h -> (∀ b o, b ≠ s.heap.objs.size -> h.get? b = some o -> h'.get? b = some o) -> J i acc h'
  nw : ¬ wr s.heap.objs.size
variable {I r : Addr} {T : String} {n : Nat} {wr : Addr -> Prop} {J : Nat -> List Value -> Heap -> Prop} {Fn : List Value -> Heap -> Prop} {R : Result -> Shared -> Prop} {res : Value}
theorem Gat.loop (G : Gat prog w s r I T n wr J Fn) (hh : A.handled = none)
    (hR : ∀ h' tk acc c, Fn acc h' -> acc.length = n -> h'.get? s.heap.objs.size = some (lsO acc.toArray c) -> KP wr s.heap h' -> R (.ok (.ret res)) { s with heap := h', toks := tk }) :
    ∀ (k : Nat) (h : Heap) (tk c : Nat) (acc : List Value), n - acc.length = k -> acc.length <= n -> J acc.length acc h -> h.get? s.heap.objs.size = some (lsO acc.toArray c) -> KP wr s.heap h -> codeAny (model prog w) A (.builtin "list.extend.loop" ⟨[.ref s.heap.objs.size, .ref I, res], []⟩) R { s with heap := h, toks := tk } := by
  intro k
  induction k with
  | zero =>
    intro h tk c acc hk hi j hS kp
    refine codeAny_builtin F.entry_extend_loop ?_
    rw [Around.under_plainId F.plain_extend_loop _]
    refine wpAny_bind (G.next A.in1 _ acc { s with heap := h, toks := tk } _ _ hh j rfl hi (Heap.lt_size hS) (fun v h' tk l => by omega) fun h' tk e j' kk => ?_)
    exact wpAny_pure (hR h' tk acc c j' (by omega) (kk _ _ G.nw hS) fun b o m q => kk b o m (kp b o m q))
  | succ k ih =>
    intro h tk c acc hk hi j hS kp
    refine codeAny_builtin F.entry_extend_loop ?_
    rw [Around.under_plainId F.plain_extend_loop _]
    refine wpAny_bind (G.next A.in1 _ acc { s with heap := h, toks := tk } _ _ hh j rfl hi (Heap.lt_size hS) (fun v h' tk l j' kk => ?_) fun h' tk e => by omega)
    have hS' := kk _ _ G.nw hS
    have up : ∀ b o, b ≠ s.heap.objs.size -> h'.get? b = some o -> (h'.update s.heap.objs.size (Obj.mapSeq (·.push v))).get? b = some o := fun b o m q => (Heap.get?_update_other _ _ (Ne.symm m)).trans q
    have hl : (acc ++ [v]).length = acc.length + 1 := by simp
    have := G.le
    obtain ⟨c', hS2⟩ : ∃ c', (h'.update s.heap.objs.size (Obj.mapSeq (·.push v))).get? s.heap.objs.size = some (lsO (acc ++ [v]).toArray c') := ⟨_, by rw [<- List.push_toArray]; exact Heap.get?_update_self _ hS' rfl⟩
    exact wpAny_bind (wpAny_updateSeq hS' rfl (wpAny_pure ⟨plainId_quiet F.plain_extend_loop _, ih _ tk c' (acc ++ [v]) (by omega) (by omega) (by rw [hl]; exact G.frame _ _ _ _ j' up) hS2 fun b o m q => up b o (Nat.ne_of_lt (Heap.lt_size q)) (kk b o m (kp b o m q))⟩) (by simp; omega))
theorem Gat.extend {Z : Fin -> Shared -> Prop} {c₀ : Nat} {h1 : Heap} (G : Gat prog w s r I T n wr J Fn) (hh : A.handled = none) (k1 : ∀ b o, s.heap.get? b = some o -> h1.get? b = some o) (hz : h1.objs.size = s.heap.objs.size + 1) (hS : h1.get? s.heap.objs.size = some (lsO #[] c₀))
    (hZ : ∀ c t, c.quiet = true -> codeAny (model prog w) A c R t -> Z (.again c) t)
    (hR : ∀ h' tk acc c, Fn acc h' -> acc.length = n -> h'.get? s.heap.objs.size = some (lsO acc.toArray c) -> KP wr s.heap h' -> R (.ok (.ret res)) { s with heap := h', toks := tk }) :
    wpAny (model prog w) A.in1 (Builtin.List.listExtendWith (.ref s.heap.objs.size) (.ref r) res) Z E { s with heap := h1 } := by
  have hr : r < s.heap.objs.size := let ⟨_, ho, _⟩ := G.type; Heap.lt_size ho
  have e1 : Builtin.List.listSameRef (.ref s.heap.objs.size) (.ref r) = false := by simp [Builtin.List.listSameRef, Nat.ne_of_gt hr]
  have hT : Shared.TypeIs { s with heap := h1 } (.ref r) T := let ⟨o, ho, x⟩ := G.type; ⟨o, k1 _ _ ho, x⟩
  have oth : ∀ (h : Heap) f b o, b ≠ s.heap.objs.size -> h.get? b = some o -> (h.update s.heap.objs.size f).get? b = some o := fun h f b o n q => (Heap.get?_update_other _ _ (Ne.symm n)).trans q
  have go : ∀ (h : Heap) c tk, J 0 [] h -> h.get? s.heap.objs.size = some (lsO #[] c) -> (∀ b o, b ≠ s.heap.objs.size -> h1.get? b = some o -> h.get? b = some o) -> Z (.again (.builtin "list.extend.loop" ⟨[.ref s.heap.objs.size, .ref I, res], []⟩)) { s with heap := h, toks := tk } := fun h c tk j q k =>
    hZ _ _ (plainId_quiet F.plain_extend_loop _) (G.loop hh hR n h tk c [] rfl (Nat.zero_le _) j q fun b o _ x => k b o (Nat.ne_of_lt (Heap.lt_size x)) (k1 b o x))
  unfold Builtin.List.listExtendWith
  refine wpAny_bind (wpAny_typeOf hT ?_)
  simp only [e1, G.nl, G.nt, Bool.or_false, Bool.false_eq_true, if_false]
  refine wpAny_bind (G.iter A.in1 h1 _ _ k1 hz fun h' j kk => wpAny_bind (wpAny_holding (G.hint A.in1 _ _ _ (fun b o q => kk b o (k1 b o q)) fun bb tk => ?_)))
  have hS' := kk _ _ hS
  refine wpAny_ite_split (fun _ => ?_) fun _ => wpAny_pure (go h' c₀ tk j hS' fun b o _ q => kk b o q)
  wp_walk
  exact go _ _ tk (G.frame _ _ _ _ (G.frame _ _ _ _ j fun b o m q => oth _ _ b o m q) fun b o m q => oth _ _ b o m q) (Heap.get?_update_self _ (Heap.get?_update_self _ hS' rfl) rfl) fun b o m q => oth _ _ b o m (oth _ _ b o m (kk b o q))
theorem Gat.list {Q : Value -> Shared -> Prop} (G : Gat prog w s r I T n wr J Fn) (hh : A.handled = none)
    (hQ : ∀ h' tk acc c, Fn acc h' -> acc.length = n -> h'.get? s.heap.objs.size = some (lsO acc.toArray c) -> KP wr s.heap h' -> Q (.ref s.heap.objs.size) { s with heap := h', toks := tk }) : wpAny (model prog w) A (call (.type "list") [.ref r]) Q E s := by
  have hS : (s.heap.push (lsO #[] 0)).get? s.heap.objs.size = some (lsO #[] 0) := Heap.get?_push_size _ rfl
  refine callType_codes (Q₁ := fun obj s₁ => obj = .ref s.heap.objs.size /\ s₁ = { s with heap := s.heap.push (lsO #[] 0) }) F.called_list (F.typeCall_list_1 _) F.entry_list_init (code_list_new _ ⟨rfl, rfl⟩) fun obj s₁ h₁ => ?_
  obtain ⟨rfl, rfl⟩ := h₁
  have oth : ∀ b o, s.heap.get? b = some o -> ((s.heap.push (lsO #[] 0)).update s.heap.objs.size (Obj.mapSeq fun _ => #[])).get? b = some o := fun b o q => (Heap.get?_update_other _ _ (Nat.ne_of_gt (Heap.lt_size q))).trans (Heap.get?_push_of_some _ q)
  obtain ⟨c2, hS2⟩ : ∃ c, ((s.heap.push (lsO #[] 0)).update s.heap.objs.size (Obj.mapSeq fun _ => #[])).get? s.heap.objs.size = some (lsO #[] c) := ⟨_, Heap.get?_update_self _ hS rfl⟩
  have hz : ((s.heap.push (lsO #[] 0)).update s.heap.objs.size (Obj.mapSeq fun _ => #[])).objs.size = s.heap.objs.size + 1 := by rw [Heap.size_after_update, Heap.size_push]
  refine ⟨⟨_, hS, rfl⟩, F.args_list_init_2 _ _, ?_⟩
  wp_walk using Gat.extend (A := A.in1) (R := wants (fun r s₂ => r = .none /\ Q (.ref s.heap.objs.size) s₂) E) (c₀ := c2) G hh oth hz hS2
  . exact fun _ _ a b => ⟨a, b⟩
  exact fun h' tk acc c k1 k2 k3 k4 => ⟨rfl, hQ h' tk acc c k1 k2 k3 k4⟩
theorem Gat.collect {Q : List Value -> Shared -> Prop} (G : Gat prog w s r I T n wr J Fn) (hh : A.handled = none) (hQ : ∀ h' tk acc, Fn acc h' -> acc.length = n -> KP wr s.heap h' -> Q acc { s with heap := h', toks := tk }) : wpAny (model prog w) A (collect (.ref r)) Q E s := by
  have hS : (s.heap.push (lsO #[] 0)).get? s.heap.objs.size = some (lsO #[] 0) := Heap.get?_push_size _ rfl
  unfold PySem.collect
  refine wpAny_bind (wpAny_runValue (codeAny_builtin F.entry_proto_collect ?_))
  rw [Around.under_plainId F.plain_proto_collect _]
  wp_walk
  refine ⟨plainId_quiet F.plain_list_iadd _, codeAny_builtin F.entry_list_iadd ?_⟩
  rw [Around.under_plainId F.plain_list_iadd _]
  refine G.extend hh (fun b o e => Heap.get?_push_of_some _ e) (Heap.size_push ..) hS (fun _ _ a b => ⟨a, b⟩) fun h' tk acc c k1 k2 k3 k4 => ?_
  exact wpAny_bind (wpAny_load k3 (wpAny_pure (hQ h' tk acc k1 k2 k4)))
theorem Gat.tuple {Q : Value -> Shared -> Prop} (G : Gat prog w s r I T n wr J Fn) (hh : A.handled = none)
    (hQ : ∀ (h' : Heap) tk acc, Fn acc h' -> acc.length = n -> KP wr s.heap h' -> Q (.ref h'.objs.size) { s with heap := h'.push { cls := .type "tuple", data := .seq acc.toArray }, toks := tk }) : wpAny (model prog w) A (call (.type "tuple") [.ref r]) Q E s := by
  have hsub := sub_tuple_self
  have hinit := init_tuple_lookup
  have hmh := madeHere_tuple
  have hT := G.type
  refine callType_codes (Q₁ := fun obj s₁ => s₁.TypeIs obj "tuple" /\ Q obj s₁) F.called_tuple (F.typeCall_tuple_1 _) F.entry_object_init ?_ fun obj s₁ h₁ => ⟨h₁.1, F.args_object_init_2 obj _, object_init_meets F.called_tuple.init.lookup F.called_tuple.made (by decide) prog w A.in1 _ s₁ ⟨h₁.1, rfl, h₁.2⟩⟩
  refine codeAny_of_tree (wpAny_bind (wpAny_of_eq (F.newCall_tuple_1 _) (wpAny_pure ⟨plainId_quiet F.plain_tuple_new _, codeAny_builtin F.entry_tuple_new ?_⟩)))
  rw [Around.under_plainId F.plain_tuple_new _]
  have h2 : A.in1.in1.handled = none := hh
  have n1 := G.nl
  have n2 := G.nt
  wp_walk using wpAny_typeOf hT, G.collect h2
  intro h' tk acc k1 k2 k3
  have hl : acc.length <= sizeLine := k2 ▸ G.le
  have q := hQ h' tk acc k1 k2 k3
  clear k2
  wp_walk
  exact ⟨⟨_, Heap.get?_push_size _ rfl, rfl⟩, q⟩
theorem Gat.ofWalks {fp wl : List Addr} {P : Nat -> Value -> Prop} {St : Nat -> Heap -> Prop} (W : ∀ A : Around, A.handled = none -> Walks prog w A I fp wl n P St) (hh : A.handled = none) (hf : s.heap.objs.size ∉ fp) (ty : s.TypeIs (.ref r) T) (nl : (Value.type T == Value.type "list") = false) (nt : (Value.type T == Value.type "tuple") = false) (le : n <= sizeLine)
    (hint : ∀ (A : Around) (t : Shared) (Q : Bool -> Shared -> Prop) (E : Value -> Shared -> Prop), (∀ b o, s.heap.get? b = some o -> t.heap.get? b = some o) -> (∀ b tk, Q b { t with toks := tk }) -> wpAny (model prog w) A (Builtin.List.listLengthHint (.ref r)) Q E t)
    (iter : ∀ (A : Around) (h1 : Heap) (Q : Value -> Shared -> Prop) (E : Value -> Shared -> Prop), (∀ b o, s.heap.get? b = some o -> h1.get? b = some o) -> h1.objs.size = s.heap.objs.size + 1 -> (∀ h', St 0 h' -> (∀ b o, h1.get? b = some o -> h'.get? b = some o) -> Q (.ref I) { s with heap := h' }) -> wpAny (model prog w) A (pyIter (.ref r)) Q E { s with heap := h1 }) :
    Gat prog w s r I T n (· ∈ wl) (fun i acc h => St i h /\ ∀ (j : Nat) v, acc[j]? = some v -> P j v) (fun acc _ => ∀ (j : Nat) v, acc[j]? = some v -> P j v) where
  type := ty
  nl := nl
  nt := nt
  le := le
  hint := hint
  iter := fun A h1 Q E k z q => iter A h1 Q E k z fun h' st => q h' ⟨st, fun j v e => by simp at e⟩
  next := fun A i acc t Q E hh j hl hi _ q1 q2 => by
    have W := W A hh
    rcases Nat.lt_or_ge i n with l | l
    . refine W.item i t Q E l j.1 fun v h' tk p st' k => q1 v h' tk l ⟨st', fun m u e => ?_⟩ k
      rcases Nat.lt_or_ge m acc.length with a | a
      . rw [List.getElem?_append_left a] at e
        exact j.2 m u e
      . have := (List.getElem?_eq_some_iff.mp e).1
        obtain rfl : m = i := by simp at this; omega
        rw [List.getElem?_append_right a, hl, Nat.sub_self] at e
        exact (show v = u by simpa using e) ▸ p
    . obtain rfl : i = n := by omega
      exact W.done t Q E j.1 fun h' tk k => q2 h' tk rfl j.2 k
  frame := fun i acc h h' j k => ⟨(W A hh).frame _ _ _ j.1 fun b hb o q => k b o (fun z => hf (z ▸ hb)) q, j.2⟩
  nw := fun m => hf ((W A hh).sub _ m)
end
end PySem
set_option Elab.async false
set_option linter.all false
set_option maxRecDepth 100000
set_option maxHeartbeats 4000000
namespace PySem
open Sem (wp)
open AutoSeq1 (wpAny_loadPart')
namespace F
theorem lri_no_len : typeLookup (.type "list_reverseiterator") "__len__" = pure none := by rw [typeLookup_type, builtinLookup_eq_fast]; kernel_rfl
theorem lri_hint : typeLookup (.type "list_reverseiterator") "__length_hint__" = pure (some (.builtin "list_reverseiterator.__length_hint__")) := by rw [typeLookup_type, builtinLookup_eq_fast]; kernel_rfl
end F
section
variable {prog : Program} {w : World} {A : Around} {E : Value -> Shared -> Prop} {s : Shared}
theorem wpAny_hint_rev {I l : Addr} {i : Int} {Q : Bool -> Shared -> Prop} (hit : s.heap.IsRevIter I l i) (h : Q false s) : wpAny (model prog w) A (Builtin.List.listLengthHint (.ref I)) Q E s := by
  unfold Builtin.List.listLengthHint
  refine wpAny_bind (wpAny_specialOf hit.typeIs F.lri_no_len ?_)
  show wpAny _ A (specialOf (Value.ref I) (Str.ofString "__length_hint__") >>= _) _ _ _
  refine wpAny_bind (wpAny_specialOf hit.typeIs F.lri_hint ?_)
  generalize hid : ("list_reverseiterator.__length_hint__" : String) = id0
  wp_delta
  rw [show splitId id0 = some ("list_reverseiterator", "__length_hint__") from by subst hid; decide +kernel]
  subst hid
  refine wpAny_bind (wpAny_isInstance (T := "list_reverseiterator") (b := true) hit.typeIs (by rw [isSubtype_type]; kernel_rfl) ?_)
  refine wpAny_ite_split (fun hab => absurd hab (by decide)) (fun _ => ?_)
  refine wpAny_ite_split (fun _ => ?_) (fun hab => absurd (by decide +kernel) hab)
  refine wpAny_ite_split (fun hab => absurd hab (by decide +kernel)) (fun _ => ?_)
  exact wpAny_pure h
theorem rev_gat {I l : Addr} {items : Array Value} (hh : A.handled = none) (hit : s.heap.IsRevIter I l ((items.size : Int) - 1)) (hl : s.heap.IsList l items) (hz : items.size <= sizeLine) :
    Gat prog w s I I "list_reverseiterator" items.size (· ∈ [I]) (fun i acc h => (i <= items.size /\ h.IsRevIter I l ((items.size : Int) - 1 - (i : Int)) /\ h.IsList l items) /\ ∀ (j : Nat) v, acc[j]? = some v -> items[items.size - 1 - j]? = some v) (fun acc _ => ∀ (j : Nat) v, acc[j]? = some v -> items[items.size - 1 - j]? = some v) := by
  obtain ⟨oi, e1, e2, e3⟩ := id hit
  obtain ⟨ol, f1, f2, f3⟩ := id hl
  have ne : l ≠ I := fun z => by
    subst z
    rw [e1] at f1
    cases f1
    rw [e2] at f2
    exact absurd f2 (by decide)
  refine Gat.ofWalks (fun A h => Walks.listRev h I l ne items) hh (fun m => ?_) hit.typeIs (by decide) (by decide) hz (fun A t Q E k q => wpAny_hint_rev (hit.at fun o z => k _ o z) (q false t.toks)) fun A h1 Q E k _ q => ?_
  . rcases List.mem_cons.mp m with z | z
    . exact absurd (Heap.lt_size e1) (by rw [<- z]; exact Nat.lt_irrefl _)
    . exact absurd (Heap.lt_size f1) (by rw [<- List.mem_singleton.mp z]; exact Nat.lt_irrefl _)
  . exact wpAny_pyIter_revIter (hit.at (h' := h1) fun o z => k _ o z) (q h1 ⟨Nat.zero_le _, by simpa using hit.at (h' := h1) fun o z => k _ o z, hl.at fun o z => k _ o z⟩ fun b o z => z)
theorem rev_items {items : Array Value} {acc : List Value} (l : acc.length = items.size) (h : ∀ (j : Nat) v, acc[j]? = some v -> items[items.size - 1 - j]? = some v) : ItemsOf (fun i v => items[items.size - 1 - i]? = some v) acc.toArray items.size := ⟨by simpa using l, fun i v e => h i v (by simpa using e)⟩
theorem call_tuple_rev {Q : Value -> Shared -> Prop} {I l : Addr} {items : Array Value} (hh : A.handled = none) (hit : s.heap.IsRevIter I l ((items.size : Int) - 1)) (hl : s.heap.IsList l items) (hz : items.size <= sizeLine)
    (hQ : ∀ (h' : Heap) (tk : Nat) (acc' : Array Value), (∀ b o, b ≠ I -> s.heap.get? b = some o -> h'.get? b = some o) -> ItemsOf (fun i v => items[items.size - 1 - i]? = some v) acc' items.size -> Q (.ref h'.objs.size) { s with heap := h'.push { cls := .type "tuple", data := .seq acc' }, toks := tk }) :
    wpAny (model prog w) A (call (.type "tuple") [.ref I]) Q E s :=
  (rev_gat hh hit hl hz).tuple hh fun h' tk acc f l k4 => hQ h' tk acc.toArray (fun b o n q => k4 b o (fun z => n (List.mem_singleton.mp z)) q) (rev_items l f)
end
end PySem
namespace L2
open PySem PySem.Spec PyProof.Rows
theorem boot_ValueError : bootBuiltins "ValueError" = some (.type "ValueError") := by decide +kernel
section
variable {P : Program} {w : World} {K : PySem.W.Frag} {mg : Str -> Option Value} {base : Heap}
theorem Fun.okE {x qual : Str} {st : Stmt} {f : Addr} {fd : FuncData} {N ps : List Str} {k : Nat} {sp : Sp} (F : Fun K x qual st f fd) (S : FnScope N ps (defScope st)) (len : ∀ vs H Q E, sp vs H Q E -> vs.length = ps.length)
    (hbody : ∀ (cdv : Value) (A : Around) (outer : List Env) (s : Shared) (H : Hp) (vs : List V) (Q : VK) (E : XK), Room k (A.deeper (envOfC qual (defScope st) s.heap.objs.size f cdv)) -> sp vs H Q E ->
      ∃ t, PSs (cxOf (CXe P w) P w K mg base N qual (defScope st) f cdv A outer s H E) (defBody st) t /\ t { nx := fun _ H' => Q .non H', rt := Q } (start N vs) H) : FnOk P w K mg base (CXe P w) (k + 1) f fd ps sp := by
  obtain ⟨oc, od, kV, doc, pm, an, cdv, ct, osl, rfl, lk, hcd⟩ := F.ex
  exact fn_of lk hcd S len fun A outer s H vs Q E hr hsp => hbody cdv A outer s H vs Q E hr hsp
theorem passNev {X : Cx} : Passes (CXe P w) X E0 := fun _ _ _ _ _ _ _ h => by
  obtain ⟨_, _, _, _, _, _, _, _, _, _, q⟩ := h
  exact q.elim
end
section
variable {te ta tb : TE} {A : TA} {D : Ends} {σ : St} {H : Hp} {Q : VK} {K : PySem.W.Frag} {tbd ts : TS}
theorem r_cat {x y : V} : rCat x y H Q = ∃ l b xs zs, x = .ref l /\ y = .ref b /\ H l = some (.lst xs) /\ H b = some (.lst zs) /\ xs.length + zs.length <= sizeLine /\ ∀ p, H p = none -> Q (.ref p) (upd H p (.lst (xs ++ zs))) := rfl
theorem r_rep {x y : V} : rRep x y H Q = ∃ l k xs, x = .ref l /\ y = .int k /\ H l = some (.lst xs) /\ -(2 ^ 63) <= k /\ k < 2 ^ 63 /\ xs.length * k.toNat <= sizeLine /\ ∀ p, H p = none -> Q (.ref p) (upd H p (.lst (List.replicate k.toNat xs).flatten)) := rfl
theorem r_raise {C : Addr} {E : XK} : tRaise C E A D σ H = A σ H fun vs H1 => vs.length <= sizeLine /\ E (.ref C) none H1 := rfl
theorem r_callE {sp : Sp} {dvs : List V} {E : St -> XK} : tCallE sp dvs E A σ H Q = A σ H fun vs H1 => sp (vs ++ dvs) H1 Q (E σ) := rfl
theorem r_try {Ca : Addr} {i : Nat} {E : St -> XK} : tTry K Ca i E tbd ts D σ H = (tbd D σ H /\ ∀ σ' cls H', E σ' cls none H' ->
  ∃ C, cls = .ref C /\ PySem.W.exmOne K (.ref C) (.ref Ca) = some true /\ ∀ ea, H' ea = none -> ts (D.un i) (σ'.set i (some (.ref ea))) (upd H' ea (excO ea C))) := rfl
theorem r_unnx {i : Nat} : (Ends.un D i).nx σ H = D.nx (σ.set i none) H := rfl
theorem r_unrt {i : Nat} {v : V} : (Ends.un D i).rt v H = D.rt v H := rfl
end
section
variable {X : Cx} {tg : Expr}
theorem items_rev {xs : List V} {its : List Value} {acc : Array Value} (rv : Vals xs its) (h : ItemsOf (fun i v => its.toArray[its.toArray.size - 1 - i]? = some v) acc its.toArray.size) : Vals xs.reverse acc.toList := by
  have hl := rv.length
  have e : acc.toList = its.reverse := by
    apply List.ext_getElem?
    intro i
    by_cases hi : i < its.length
    . have hs : acc.size = its.length := by rw [h.1, List.size_toArray]
      have := h.2 i acc[i] (by simp [hs, hi])
      rw [List.size_toArray] at this
      rw [List.getElem?_reverse hi]
      have z : its[its.length - 1 - i]? = some acc[i] := by simpa using this
      rw [z]; simp [hs, hi]
    . have hs : acc.size = its.length := by rw [h.1, List.size_toArray]
      rw [List.getElem?_eq_none (by simp; omega), List.getElem?_eq_none (by simp; omega)]
  rw [e]
  exact rv.reverse
def tTupRev (K : PySem.W.Frag) (te : TE) : TE := fun σ H Q => te σ H fun x H1 => ∃ a xs, x = .ref a /\ SqL K H1 a xs /\ ∀ p, H1 p = none -> Q (.ref p) (upd H1 p (.tup xs.reverse))
theorem r_tupRev {K : PySem.W.Frag} {te : TE} {σ : St} {H : Hp} {Q : VK} : tTupRev K te σ H Q = te σ H fun x H1 => ∃ a xs, x = .ref a /\ SqL K H1 a xs /\ ∀ p, H1 p = none -> Q (.ref p) (upd H1 p (.tup xs.reverse)) := rfl
theorem rev_arg {e : Expr} {te : TE} {p pos pos1 : Pos} {pins : List (Addr × Obj)} {σ : St} {H : Hp} {s : Shared} {W : Hp -> Addr -> List V -> Prop} {QQ : List Value -> Shared -> Prop} (hg : Gl X "reversed") (hm : X.mg "reversed" = none) (he : PE X e te) (I : Inv X pins σ H s)
    (h : te σ H fun x H1 => ∃ a xs, x = .ref a /\ SqL X.K H1 a xs /\ W H1 a xs) (hs1 : starEach [.Call (.Name "reversed" p) [e] [] pos] X.env = [(false, eval (.Call (.Name "reversed" p) [e] [] pos) X.env)]) (hs : starEach [e] X.env = [(false, eval e X.env)])
    (k : ∀ s1 H1 a xs its, Inv X pins σ H1 s1 -> Vals xs its -> s1.heap.IsList a its.toArray -> xs.length <= sizeLine -> H1 a ≠ none \/ True -> W H1 a xs -> QQ [.ref s1.heap.objs.size] { s1 with heap := s1.heap.push (revObj a ((its.toArray.size : Int) - 1)) }) :
    wpAny (model X.prog X.w) X.A (spliced (backTo pos1 (starEach [.Call (.Name "reversed" p) [e] [] pos] X.env))) QQ X.xe s := by
  rw [hs1]
  refine Calls.spliced_cons ?_
  refine Call_ (ld_blt I hg hm boot_reversed (PyProof.Rows.callWith_type1 (thn (pa_cons he pa_nil hs pos pins s σ H (fun vs H1 => ∃ a xs, vs = [.ref a] /\ SqL X.K H1 a xs /\ W H1 a xs) I ?_) fun us s1 ⟨vs, H1, I1, r1, q1⟩ => ?_) hs rfl))
  . show te σ H _
    have : (fun x H1 => ∃ a xs, x = V.ref a /\ SqL X.K H1 a xs /\ W H1 a xs) = (fun x H1 => tNil σ H1 fun xs H2 => ∃ a ys, x :: xs = [V.ref a] /\ SqL X.K H2 a ys /\ W H2 a ys) := by
      funext x H1
      simp [tNil]
    rw [<- this]
    exact h
  . obtain ⟨a, xs, rfl, hq, q⟩ := q1
    cases r1 with
    | cons r rr =>
      cases rr
      cases r
      obtain ⟨its, rv, p, hz⟩ := I1.list hq
      refine call_reversed_list p.isList ?_
      exact Calls.spliced_nil (k s1 H1 a xs its I1 rv p.isList hz (.inr trivial) q)
theorem pe_tupleRev {e : Expr} {te : TE} {p p2 pos pos2 : Pos} (hc : X.calm = true) (hg : Gl X "tuple") (hm : X.mg "tuple" = none) (hg2 : Gl X "reversed") (hm2 : X.mg "reversed" = none) (he : PE X e te)
    (hs1 : starEach [.Call (.Name "reversed" p2) [e] [] pos2] X.env = [(false, eval (.Call (.Name "reversed" p2) [e] [] pos2) X.env)] := by rfl) (hs : starEach [e] X.env = [(false, eval e X.env)] := by rfl) :
    PE X (.Call (.Name "tuple" p) [.Call (.Name "reversed" p2) [e] [] pos2] [] pos) (tTupRev X.K te) := by
  intro pins s σ H Q I h
  refine wpAny_Call_Name_kw (ld_blt I hg hm boot_tuple ?_)
  refine PyProof.Rows.callWith_type1 (rev_arg (W := fun H1 a xs => ∀ p, H1 p = none -> Q (.ref p) (upd H1 p (.tup xs.reverse))) hg2 hm2 he I h hs1 hs fun s1 H1 a xs its I1 rv pl hz _ q => ?_) hs1 rfl
  have hl := rv.length
  refine call_tuple_rev (items := its.toArray) (I.ok.hd hc) ⟨_, Heap.get?_push_size _ rfl, rfl, rfl⟩ (pl.at fun o e => Heap.get?_push_of_some _ e) (by rw [List.size_toArray, <- hl]; exact hz) fun h' tk acc' hk hacc => ?_
  have kp : ∀ b o, s1.heap.get? b = some o -> h'.get? b = some o := fun b o e => hk b o (Nat.ne_of_lt (Heap.lt_size e)) (Heap.get?_push_of_some _ e)
  have I2 : Inv X pins σ H1 { s1 with heap := h', toks := tk } := I1.kept kp
  refine ⟨.ref h'.objs.size, _, I2.laid (t' := tk) (fun b o e => Heap.get?_push_of_some _ e) (Nat.le_refl _) (show ObjOk X.prog X.w _ _ _ (.tup xs.reverse) from ⟨by rw [List.length_reverse]; exact hz, acc'.toList, items_rev rv hacc, by simpa using IsTup.new _ _⟩), rfl, q _ (I2.hok.fresh (Nat.le_refl _))⟩
end
end L2
namespace L2
open PySem PySem.Spec PyProof.Rows
theorem iteB {c A B : Prop} [Decidable c] (hB : B) (h : c -> B -> A) : if c then A else B := by
  by_cases hc : c
  . rw [if_pos hc]; exact h hc hB
  . rw [if_neg hc]; exact hB
end L2
namespace GW
end GW
namespace GW
end GW
namespace L2
open PySem PySem.Spec PyProof.Rows
def iSeq (K : PySem.W.Frag) (tl : TE) : TI := fun σ H R => tl σ H fun x H1 => ∃ a, x = .ref a /\ (((∃ xs, SqL K H1 a xs) /\ R (Itl K a) H1) \/ ((∃ xs, SqT K H1 a xs) /\ R (Itt K a) H1))
theorem r_iSeq {K : PySem.W.Frag} {te : TE} {σ : St} {H : Hp} {Z : It -> Hp -> Prop} : iSeq K te σ H Z = te σ H fun x H1 => ∃ a, x = .ref a /\ (((∃ xs, SqL K H1 a xs) /\ Z (Itl K a) H1) \/ ((∃ xs, SqT K H1 a xs) /\ Z (Itt K a) H1)) := rfl
theorem pi_seq {X : Cx} {tg l : Expr} {tl : TE} (hl : PE X l tl) : PI X tg l (iSeq X.K tl) := by
  intro pins s σ H R I h
  refine thn (hl pins s σ H _ I h) fun v s1 ⟨x, H1, I1, r1, q1⟩ => ?_
  obtain ⟨a, e, q⟩ := q1
  subst e
  cases r1
  rcases q with ⟨⟨xs, hq⟩, q⟩ | ⟨⟨xs, hq⟩, q⟩
  . obtain ⟨its, rv, p, hz⟩ := I1.list hq
    refine wpAny_pyIter_list p.isList ?_
    refine ⟨s1.heap.objs.size, [s1.heap.objs.size], _, _, H1, rfl, I1.kept (t' := s1.toks) fun b o e => Heap.get?_push_of_some _ e, turn_list a _, ⟨_, Heap.get?_push_size _ rfl, rfl, rfl⟩, fun b hb => ?_, q⟩
    have e : b = s1.heap.objs.size := by simpa using hb
    subst e
    exact I1.fpOk (Nat.le_refl _) (I1.hok.fresh (Nat.le_refl _))
  . obtain ⟨its, rv, p, hz⟩ := I1.tuple hq
    refine wpAny_pyIter_tuple (show s1.heap.IsTuple a its.toArray from p) ?_
    refine ⟨s1.heap.objs.size, [s1.heap.objs.size], _, _, H1, rfl, I1.kept (t' := s1.toks) fun b o e => Heap.get?_push_of_some _ e, turn_tuple a _, ⟨_, Heap.get?_push_size _ rfl, rfl, rfl⟩, fun b hb => ?_, q⟩
    have e : b = s1.heap.objs.size := by simpa using hb
    subst e
    exact I1.fpOk (Nat.le_refl _) (I1.hok.fresh (Nat.le_refl _))
end L2
namespace GW
end GW
namespace L2
open PySem PySem.Spec PyProof.Rows
end L2
namespace L2
open PySem PySem.Spec PyProof.Rows
theorem call_isinstK {X : Cx} {K : PySem.W.Frag} (hK : X.K = K) : CallR X (.builtin "isinstance") (fun xs H Q => ∃ x c cv t b, xs = [x, c] /\ TyW K H x t /\ (∀ u, RelV c u -> u = cv) /\ PySem.W.kitOne K t cv = some b /\ Q (.bl b) H) := by
  subst hK
  exact call_isinstW
end L2
namespace L2
open PySem PySem.Spec PyProof.Rows
section
variable {X : Cx} {K : PySem.W.Frag}
theorem ix_tupK (h : X.K = K) : IxR X (rIxT K) := by subst h; exact ix_tup
theorem ix_listK (h : X.K = K) : IxR X (rIxL K) := by subst h; exact ix_list
theorem call_len_seqK (h : X.K = K) : CallR X (.builtin "len") (fun xs H Q => ∃ p ys, xs = [.ref p] /\ (SqL K H p ys \/ SqT K H p ys) /\ Q (.int ys.length) H) := by subst h; exact call_len_seq
theorem call_list_ofK (h : X.K = K) : CallR X (.type "list") (fun xs H Q => ∃ p ys, xs = [.ref p] /\ (SqL K H p ys \/ SqT K H p ys) /\ ∀ l, H l = none -> Q (.ref l) (upd H l (.lst ys))) := by subst h; exact call_list_of
theorem call_tuple_ofK (h : X.K = K) : CallR X (.type "tuple") (fun xs H Q => ∃ p ys, xs = [.ref p] /\ ((SqL K H p ys /\ ∀ l, H l = none -> Q (.ref l) (upd H l (.tup ys))) \/ (SqT K H p ys /\ Q (.ref p) H))) := by subst h; exact call_tuple_of
end
end L2
set_option Elab.async false
set_option linter.all false
set_option maxRecDepth 100000
set_option maxHeartbeats 4000000
namespace GW
def stepW (ways : List (List Int)) (r x : Int) : Int := (ways.getD r.toNat []).getD x.toNat 0
def walkW (ways : List (List Int)) (ws : List Int) : Int := ws.foldl (stepW ways) 0
structure Wf (L : Int) (marks : List Int) (ways : List (List Int)) : Prop where
  l1 : 1 <= L
  l6 : L <= 6
  n1 : 1 <= marks.length
  n40 : marks.length <= 40
  len : ways.length = marks.length
  rows : ∀ row ∈ ways, (row.length : Int) = L /\ ∀ x ∈ row, 0 <= x /\ x < marks.length
  mks : ∀ m ∈ marks, 0 <= m /\ m <= 1000000000
theorem stepW_of {ways : List (List Int)} {r x : Int} {row : List Int} {g : Int} (h1 : ways[r.toNat]? = some row) (h2 : row[x.toNat]? = some g) : stepW ways r x = g := by
  unfold stepW
  have e : ways.getD r.toNat [] = row := by rw [List.getD_eq_getElem?_getD, h1]; rfl
  rw [e, List.getD_eq_getElem?_getD, h2]; rfl
theorem Wf.row {L : Int} {marks : List Int} {ways : List (List Int)} (wf : Wf L marks ways) {r : Int} (h0 : 0 <= r) (h1 : r < marks.length) : ∃ row, ways[r.toNat]? = some row /\ row ∈ ways /\ (row.length : Int) = L := by
  have hlt : r.toNat < ways.length := by rw [wf.len]; omega
  exact ⟨ways[r.toNat], by simp [hlt], List.getElem_mem hlt, (wf.rows _ (List.getElem_mem hlt)).1⟩
theorem Wf.step {L : Int} {marks : List Int} {ways : List (List Int)} (wf : Wf L marks ways) {r x : Int} (h0 : 0 <= r) (h1 : r < marks.length) (x0 : 0 <= x) (x1 : x < L) : ∃ row g, ways[r.toNat]? = some row /\ row[x.toNat]? = some g /\ stepW ways r x = g /\ 0 <= g /\ g < marks.length := by
  obtain ⟨row, hr, hm, hl⟩ := wf.row h0 h1
  have hlt : x.toNat < row.length := by omega
  have hg : row[x.toNat]? = some row[x.toNat] := by simp [hlt]
  exact ⟨row, row[x.toNat], hr, hg, stepW_of hr hg, (wf.rows row hm).2 _ (List.getElem_mem hlt)⟩
theorem walkW_snoc (ways : List (List Int)) (ws : List Int) (x : Int) : walkW ways (ws ++ [x]) = stepW ways (walkW ways ws) x := by
  unfold walkW
  rw [List.foldl_append]; rfl
end GW
namespace L2
open PySem PySem.Spec PyProof.Rows GW
def Rows (K : PySem.W.Frag) (H : Hp) (w : Addr) (ways : List (List Int)) : Prop := ∃ ts : List Addr, SqT K H w (ts.map V.ref) /\ ts.length = ways.length /\ ∀ (i : Nat) (t : Addr) (row : List Int), ts[i]? = some t -> ways[i]? = some row -> SqT K H t (row.map V.int)
def House (K : PySem.W.Frag) (H : Hp) (h : Addr) (L : Int) (marks : List Int) (ways : List (List Int)) : Prop := ∃ m w : Addr, SqT K H h [.int L, .ref m, .ref w] /\ SqT K H m (marks.map V.int) /\ Rows K H w ways
theorem Rows.mono {K : PySem.W.Frag} {H H' : Hp} {w : Addr} {ways : List (List Int)} (h : Rows K H w ways) (e : Same H H') : Rows K H' w ways := by
  obtain ⟨ts, h1, h2, h3⟩ := h
  exact ⟨ts, e.seqT h1, h2, fun i t r a b => e.seqT (h3 i t r a b)⟩
theorem House.mono {K : PySem.W.Frag} {H H' : Hp} {h : Addr} {L : Int} {marks : List Int} {ways : List (List Int)} (x : House K H h L marks ways) (e : Same H H') : House K H' h L marks ways := by
  obtain ⟨m, w, h1, h2, h3⟩ := x
  exact ⟨m, w, e.seqT h1, e.seqT h2, h3.mono e⟩
theorem Rows.at {K : PySem.W.Frag} {H : Hp} {w : Addr} {ways : List (List Int)} (h : Rows K H w ways) {i : Nat} {row : List Int} (hr : ways[i]? = some row) : ∃ xs t, SqT K H w xs /\ atI xs (i : Int) = some (V.ref t) /\ SqT K H t (row.map V.int) := by
  obtain ⟨ts, h1, h2, h3⟩ := h
  have hlt : i < ts.length := by rw [h2]; exact (List.getElem?_eq_some_iff.mp hr).1
  have ht : ts[i]? = some ts[i] := by simp [hlt]
  exact ⟨_, ts[i], h1, atI_nat (by rw [List.getElem?_map, ht]; rfl), h3 i _ _ ht hr⟩
theorem Rows.atZ {K : PySem.W.Frag} {H : Hp} {w : Addr} {ways : List (List Int)} (h : Rows K H w ways) {r : Int} {row : List Int} (h0 : 0 <= r) (hr : ways[r.toNat]? = some row) : ∃ xs t, SqT K H w xs /\ atI xs r = some (V.ref t) /\ SqT K H t (row.map V.int) := by
  obtain ⟨xs, t, a, b, c⟩ := h.at hr
  exact ⟨xs, t, a, by rw [<- b]; congr 1; omega, c⟩
theorem atI_int {ns : List Int} {i : Int} {v : Int} (h0 : 0 <= i) (h : ns[i.toNat]? = some v) : atI (ns.map V.int) i = some (V.int v) := atI_of h0 (by rw [List.getElem?_map, h]; rfl)
end L2
namespace L2
open PySem PySem.Spec PyProof.Rows GW
theorem seqT_off {K : PySem.W.Frag} {H : Hp} {p t : Addr} {xs ys zs : List V} (hp : H p = some (.lst zs)) (h : SqT K H t xs) : SqT K (upd H p (.lst ys)) t xs := by
  rcases h with (q | ⟨o, q⟩) | q
  . refine .inl (.inl ?_)
    rw [upd_ne (fun z => by rw [z, hp] at q; cases q)]; exact q
  . refine .inl (.inr ⟨o, ?_⟩)
    rw [upd_ne (fun z => by rw [z, hp] at q; cases q)]; exact q
  . exact .inr q
def TupsL (K : PySem.W.Frag) (H : Hp) (l : Addr) (ws : List (List Int)) : Prop := ∃ ts : List Addr, H l = some (.lst (ts.map V.ref)) /\ ts.length = ws.length /\ ∀ (i : Nat) (t : Addr) (w : List Int), ts[i]? = some t -> ws[i]? = some w -> SqT K H t (w.map V.int)
theorem TupsL.mono {K : PySem.W.Frag} {H H' : Hp} {l : Addr} {ws : List (List Int)} (h : TupsL K H l ws) (e : Same H H') : TupsL K H' l ws := by
  obtain ⟨ts, h1, h2, h3⟩ := h
  exact ⟨ts, e _ _ h1, h2, fun i t w a b => e.seqT (h3 i t w a b)⟩
theorem TupsL.off {K : PySem.W.Frag} {H : Hp} {l p : Addr} {ws : List (List Int)} {zs ys : List V} (h : TupsL K H l ws) (hp : H p = some (.lst zs)) (ne : l ≠ p) : TupsL K (upd H p (.lst ys)) l ws := by
  obtain ⟨ts, h1, h2, h3⟩ := h
  exact ⟨ts, by rw [upd_ne ne]; exact h1, h2, fun i t w a b => seqT_off hp (h3 i t w a b)⟩
theorem TupsL.push {K : PySem.W.Frag} {H : Hp} {l t : Addr} {ws : List (List Int)} {w : List Int} (h : TupsL K H l ws) (hw : SqT K H t (w.map V.int)) : ∃ xs, H l = some (.lst xs) /\ xs.length = ws.length /\ TupsL K (upd H l (.lst (xs ++ [V.ref t]))) l (ws ++ [w]) := by
  obtain ⟨ts, h1, h2, h3⟩ := h
  refine ⟨ts.map V.ref, h1, by rw [List.length_map, h2], ts ++ [t], by rw [upd_same, List.map_append]; rfl, by simp [h2], fun i t' w' a b => seqT_off h1 ?_⟩
  by_cases hi : i < ts.length
  . rw [List.getElem?_append_left hi] at a
    rw [List.getElem?_append_left (by omega)] at b
    exact h3 i t' w' a b
  . have ht := (List.getElem?_eq_some_iff.mp a).1
    rw [List.length_append, List.length_singleton] at ht
    have e : i = ts.length := by omega
    subst e
    rw [List.getElem?_append_right (Nat.le_refl _), Nat.sub_self] at a
    rw [List.getElem?_append_right (by omega), h2, Nat.sub_self] at b
    simp at a b
    subst a b
    exact hw
theorem TupsL.nil {K : PySem.W.Frag} {H : Hp} {l : Addr} (h : H l = some (.lst [])) : TupsL K H l [] := ⟨[], h, rfl, fun i t w a _ => by simp at a⟩
theorem TupsL.rows {K : PySem.W.Frag} {H : Hp} {l : Addr} {ws : List (List Int)} (h : TupsL K H l ws) : ∃ xs, H l = some (.lst xs) /\ ∀ t, H t = none -> Rows K (upd H t (.tup xs)) t ws := by
  obtain ⟨ts, h1, h2, h3⟩ := h
  exact ⟨_, h1, fun t ht => ⟨ts, SqT.of upd_same, h2, fun i t' w a b => (Same.new ht).seqT (h3 i t' w a b)⟩⟩
end L2
set_option Elab.async false
set_option linter.all false
set_option maxRecDepth 100000
set_option maxHeartbeats 4000000
namespace PySem
open Sem (wp)
open AutoSeq1 (wpAny_loadPart')
section
variable {prog : Program} {w : World} {A : Around} {E : Value -> Shared -> Prop} {s : Shared}
theorem newT {l : List Value} {Q : Value -> Shared -> Prop} (hl : l.length <= sizeLine) (h : ∀ h', s.heap.push { cls := .type "tuple", data := .seq l.toArray } = h' -> Q (.ref s.heap.objs.size) { s with heap := h' }) : wpAny (model prog w) A (newTuple l) Q E s := wpAny_newTuple (h _ rfl)
theorem psh {h h' : Heap} {o : Obj} (q : h.push o = h') (ho : o.isFreed = false) : (∀ c u, h.get? c = some u -> h'.get? c = some u) /\ h'.get? h.objs.size = some o /\ h'.objs.size = h.objs.size + 1 := by
  subst q
  exact ⟨fun c u x => Heap.get?_push_of_some _ x, Heap.get?_push_size _ ho, Heap.size_push ..⟩
theorem nextOf_tup {it l : Addr} {i : Nat} {items : Array Value} {Q : Value -> Shared -> Prop} (hit : s.heap.IsTupleIter it l i) (hl : s.heap.IsTuple l items)
    (hQ : ∀ x h', items[i]? = some x -> h'.IsTupleIter it l (i + 1) -> Heap.SameBut it s.heap h' -> Q x { s with heap := h' })
    (hE : items[i]? = none -> A.handled = none /\ ∀ h' e, Heap.ExtBut it s.heap h' -> (∃ o, h'.get? e = some o /\ o.cls = .type "StopIteration") -> E (.ref e) { s with heap := h' }) : wpAny (model prog w) A (Builtin.SmallTypes.nextOf (.ref it)) Q E s := by
  obtain ⟨⟨c, dc, da, sl⟩, ho, hc, hd⟩ := id hit
  obtain ⟨⟨c', dc', da', sl'⟩, hol, hc', nl, hdl⟩ := hl
  replace hc : c = _ := hc; replace hd : da = _ := hd; replace hc' : c' = _ := hc'; replace hdl : da' = _ := hdl
  subst hc hd hc' hdl
  have e1 := F.slot_tuple_iterator_next
  unfold Builtin.SmallTypes.nextOf
  refine wpAny_bind (wpAny_callSpecial?_slot hit.typeIs e1 (wpAny_call_entry e1 hit.typeIs F.entry_tuple_iterator_next ?_ (F.args_tuple_iterator_next_1 _)))
  wp_walk
  cases hx : items[i]? with
  | some x =>
    simp only [Int.toNat_natCast, hx]
    wp_walk
    exact ⟨x, rfl, wpAny_pure (hQ x _ hx ⟨_, Heap.get?_update_self _ ho (by simp [Obj.mapFields, Obj.isFreed]), rfl, by simp [Obj.mapFields, rawInt]⟩ (Heap.SameBut.update ..))⟩
  | none =>
    obtain ⟨hh, hE⟩ := hE hx
    have h1 : A.in1.handled = none := hh
    simp only [Int.toNat_natCast, hx]
    wp_walk
    unfold raiseNew
    wp_walk
    exact hE _ _ (((Heap.SameBut.update ..).extBut.push _).push _) ⟨_, Heap.get?_push_size _ rfl, rfl⟩
theorem Draws.tuple (hh : A.handled = none) (it l : Addr) (hne : l ≠ it) (items : Array Value) :
    Draws prog w A it [it, l] items.size (fun i v => items[i]? = some v) (fun i h => h.IsTupleIter it l i /\ h.IsTuple l items) where
  live := fun _ _ st => let ⟨o, e, _⟩ := st.1; ⟨o, e⟩
  frame := fun _ _ _ st k => ⟨st.1.at fun o e => k it (by simp) o e, let ⟨o, e, r⟩ := st.2; ⟨o, k l (by simp) o e, r⟩⟩
  item := fun i t Q E hi st q => nextOf_tup st.1 st.2 (fun x h' e1 e2 e3 => q x h' t.toks e1 ⟨e2, st.2.extBut e3.extBut hne⟩ e3) fun z => by rw [Array.getElem?_eq_none_iff] at z; omega
  done := fun t Q E st q => nextOf_tup st.1 st.2 (fun x h' e1 => by have := (Array.getElem?_eq_some_iff.mp e1).1; omega) fun _ => ⟨hh, q⟩
theorem call_enumerate_tuple {l : Addr} {items : Array Value} {Q : Value -> Shared -> Prop} (hL : s.heap.IsTuple l items)
    (h : ∀ h', IsEnum h' (s.heap.objs.size + 1) s.heap.objs.size 0 .none -> h'.IsTupleIter s.heap.objs.size l 0 -> h'.objs.size = s.heap.objs.size + 2 -> (∀ b o, s.heap.get? b = some o -> h'.get? b = some o) -> Q (.ref (s.heap.objs.size + 1)) { s with heap := h' }) :
    wpAny (model prog w) A (call (.type "enumerate") [.ref l]) Q E s := by
  have M : Meets (Builtin.«enumerate.__new__» ⟨[.type "enumerate", .ref l], []⟩) fun _ R t => t.heap.IsTuple l items /\ ∀ h', IsEnum h' (t.heap.objs.size + 1) t.heap.objs.size 0 .none -> h'.IsTupleIter t.heap.objs.size l 0 -> h'.objs.size = t.heap.objs.size + 2 -> (∀ b o, t.heap.get? b = some o -> h'.get? b = some o) -> R (.ok (.ret (.ref (t.heap.objs.size + 1)))) { t with heap := h' } := .of_wp fun prog w A R t ⟨hl, q⟩ => by
    have hsub := sub_enumerate
    obtain ⟨hp, g, d, tk, os⟩ := t
    obtain ⟨⟨c, dc, da, sl⟩, e1, hc, n, hd⟩ := id hl
    have fin : ∀ f, f = Fin.done (.ret (.ref (hp.push { cls := .type "tuple_iterator", data := .fields #[.ref l, .int 0 0] }).objs.size)) -> ∃ x, f = .done (.ret x) /\ R (.ok (.ret x)) ⟨(hp.push { cls := .type "tuple_iterator", data := .fields #[.ref l, .int 0 0] }).push { cls := .type "enumerate", data := .fields #[.none, .bool false, .ref hp.objs.size, rawInt 0, .none, .none] }, g, d, tk, os⟩ := fun f hf => by
      have z := Heap.size_push hp { cls := .type "tuple_iterator", data := .fields #[.ref l, .int 0 0] }
      rw [z] at hf
      have y := Heap.get?_push_size (hp.push { cls := .type "tuple_iterator", data := .fields #[.ref l, .int 0 0] }) (o := { cls := .type "enumerate", data := .fields #[.none, .bool false, .ref hp.objs.size, rawInt 0, .none, .none] }) rfl
      rw [z] at y
      exact ⟨_, hf, q _ y ⟨_, Heap.get?_push_of_some _ (Heap.get?_push_size _ rfl), rfl, rfl⟩ (by rw [Heap.size_push, z]) fun b o x => Heap.get?_push_of_some _ (Heap.get?_push_of_some _ x)⟩
    wp_walk using AutoSeq1.wpAny_loadPart' e1
    refine wpAny_stack_any fun st => wpAny_pure ?_
    split
    . rename_i c _ _ _ _ _
      cases (c == Value.type "enumerate") <;> (wp_walk using AutoSeq1.wpAny_loadPart' e1, wpAny_pyIter_tuple hl; exact fin _ rfl)
    . wp_walk using AutoSeq1.wpAny_loadPart' e1, wpAny_pyIter_tuple hl
      exact fin _ rfl
  exact callType_new F.called_enumerate (by decide) (F.typeCall_enumerate_1 _) (F.newCall_enumerate_1 _) (fun obj => F.args_object_init_2 obj _) F.entry_enumerate_new M ⟨hL, fun h' a b c d => ⟨⟨_, a, rfl⟩, h h' a b c d⟩⟩
end
end PySem
namespace L2
open PySem PySem.Spec PyProof.Rows
section
variable {X : Cx} {pins : List (Addr × Obj)} {σ : St} {H : Hp} {s : Shared}
theorem Inv.un2 {h' : Heap} {e it : Addr} (I : Inv X pins σ H s) (k : ∀ b o, b ≠ e -> b ≠ it -> s.heap.get? b = some o -> h'.get? b = some o) (f1 : FpOk X pins H e) (f2 : FpOk X pins H it) : Un (frs X.stack) [e, it] H H s.heap h' /\ HOk X.prog X.w H h' := by
  have ne : ∀ b u, H b = some u -> b ≠ e /\ b ≠ it := fun b u q => ⟨(fun z => by rw [z, f1.1] at q; cases q), (fun z => by rw [z, f2.1] at q; cases q)⟩
  have nch : ∀ {b : Addr}, b ∉ [e, it] -> b ≠ e /\ b ≠ it := fun hb => by simpa using hb
  refine ⟨⟨fun b o q _ _ hb => k b o (nch hb).1 (nch hb).2 q, fun b o q _ _ hb => ⟨o.slots, k b o (nch hb).1 (nch hb).2 q⟩, fun _ _ _ n _ => n, fun b o q hb => ⟨o, k b o (nch hb).1 (nch hb).2 q⟩, fun _ _ q => q, fun _ _ _ q => q, fun b ps q => ⟨#[], by rw [q]; simp⟩⟩, fun b u q => ?_⟩
  refine (I.hok b u q).stay (fun c v hc qv => ?_) (fun _ q => q) fun _ _ q => q
  have hne : c ≠ e /\ c ≠ it := by
    rcases hc with rfl | hc
    . exact ne _ _ q
    . exact ne _ _ hc
  exact k c v hne.1 hne.2 qv
theorem FpOk.ch {b : Addr} (f : FpOk X pins H b) : (b ∈ X.ex \/ X.s₀.heap.objs.size <= b) /\ b ≠ X.env.locals /\ (∀ x c, X.env.cells.lookup x = some c -> c ≠ b) /\ ∀ p ∈ X.pn ++ pins, p.1 ≠ b := ⟨f.2.2.2.1, f.2.1, f.2.2.2.2.1, f.2.2.2.2.2⟩
end
def Itn (K : PySem.W.Frag) (a : Addr) (xs : List V) : It := ⟨fun i H => i < xs.length /\ SqT K H a xs, fun i H x H' => ∃ t v, H t = none /\ xs[i]? = some v /\ x = .ref t /\ H' = upd H t (.tup [.int i, v]), fun i H => i = xs.length /\ SqT K H a xs⟩
theorem turn_enumT {P : Program} {w : World} {K : PySem.W.Frag} {elts : List Expr} {x1} {tpos : Pos} (a e it : Addr) (hei : e ≠ it) (hai : a ≠ it) (hae : a ≠ e) (xs : List V) : Turn P w K (.Tuple elts x1 tpos) (Itn K a xs) [e, it] e (fun i h => ∃ old, IsEnum h e it (i : Nat) old /\ h.IsTupleIter it a i) where
  mem := by simp
  obj := fun i h st b hb => by
    obtain ⟨old, h1, o, h2, c, d⟩ := st
    rcases List.mem_cons.mp hb with rfl | hb
    . exact ⟨_, h1, fun v z => by cases z⟩
    . rw [List.mem_singleton.mp hb]
      exact ⟨o, h2, fun v z => by rw [d] at z; cases z⟩
  keep := fun i h h' st k => by
    obtain ⟨old, h1, h2⟩ := st
    exact ⟨old, k e (by simp) _ h1, h2.at fun o q => k it (by simp) o q⟩
  item := by
    intro X hP hw hK hc i pins s σ H E I hf st hg
    subst hP hw hK
    obtain ⟨hi, hq⟩ := hg
    obtain ⟨old, he, hit⟩ := st
    obtain ⟨its, rv, p, hz⟩ := I.tuple hq
    have hl := rv.length
    have pt : s.heap.IsTuple a its.toArray := p
    have f1 := hf e (by simp)
    have f2 := hf it (by simp)
    have Dw := Draws.tuple (prog := X.prog) (w := X.w) (A := X.A.in1) (I.ok.hd hc) it a hai its.toArray
    refine wpAny_pyNext_enum_itemD Dw he ⟨hit, pt⟩ (by simp; omega) hei (by simp [hei, Ne.symm hae]) fun u h' tk hu heo hst' hget hsz hk => ?_
    have hT : s.heap.objs.size ≠ e := Nat.ne_of_gt (Heap.lt_size he)
    refine ⟨_, rfl, wpAny_letOwnedTupleGo_enum heo fun h2 he2 hs2 => ?_⟩
    have hk2 : ∀ b o, b ≠ e -> b ≠ it -> s.heap.get? b = some o -> h2.get? b = some o := fun b o h1 h3 q => (hs2.2 b h1).trans (hk b o h1 h3 q)
    obtain ⟨un, hok⟩ := I.un2 hk2 f1 f2
    have hn : H s.heap.objs.size = none := I.hok.fresh (Nat.le_refl _)
    have hv : xs[i]? = some xs[i] := by simp [hi]
    obtain ⟨u', hu', ru⟩ := rv.get hv
    have eu : u' = u := by
      have hu2 : its[i]? = some u := by simpa using hu
      rw [hu'] at hu2
      exact Option.some.inj hu2
    subst eu
    have hget2 : h2.get? s.heap.objs.size = some { cls := .type "tuple", data := .seq #[.int i tk, u'] } := (hs2.2 _ hT).trans hget
    have new : ObjOk X.prog X.w (upd H s.heap.objs.size (.tup [.int i, xs[i]])) h2 s.heap.objs.size (.tup [.int i, xs[i]]) := ⟨by have := line1000; simp; omega, [.int i tk, u'], .cons ⟨tk, rfl⟩ (.cons ru .nil), _, hget2, rfl, _, rfl⟩
    refine ⟨.ref s.heap.objs.size, upd H s.heap.objs.size (.tup [.int i, xs[i]]), I.call' (s' := { s with heap := h2, toks := tk + 1 }) (ch := [e, it]) rfl (un.track (Nat.le_refl _) hn) (hok.track hn new) I.bare (fun b hb => ?_), rfl, ⟨_, _, hn, hv, rfl, rfl⟩, ?_, fun b hb => ?_⟩
    . exact (hf b hb).ch
    . refine ⟨u', by simpa using he2, ?_⟩
      exact hst'.1.at fun o q => (hs2.2 it (Ne.symm hei)).trans q
    . have hb' := hf b hb
      have : ∃ o, s.heap.get? b = some o := by
        rcases List.mem_cons.mp hb with rfl | hb
        . exact ⟨_, he⟩
        . rw [List.mem_singleton.mp hb]
          obtain ⟨o, ho, _⟩ := hit
          exact ⟨o, ho⟩
      obtain ⟨o, ho⟩ := this
      rw [upd_ne (Nat.ne_of_lt (Heap.lt_size ho))]
      exact hb'.1
  done := by
    intro X hP hw hK hc i pins s σ H E I hf st hg
    subst hP hw hK
    obtain ⟨hi, hq⟩ := hg
    subst hi
    obtain ⟨old, he, hit⟩ := st
    obtain ⟨its, rv, p, hz⟩ := I.tuple hq
    have hl := rv.length
    have pt : s.heap.IsTuple a its.toArray := p
    have Dw := Draws.tuple (prog := X.prog) (w := X.w) (A := X.A.in1) (I.ok.hd hc) it a hai its.toArray
    obtain ⟨f0, f1, f2, f3, f4, f5⟩ := hf it (by simp)
    refine wpAny_pyNext_enum_endD Dw he ⟨by rw [List.size_toArray, <- hl]; exact hit, pt⟩ fun h' eb => ⟨rfl, I.turned (t' := s.toks) (fun b o hb e => eb b o hb e) f0 f1 f3 f4 f5⟩
  self := fun A i s Q E st h => by
    obtain ⟨old, he, _⟩ := st
    exact wpAny_pyIter_enum he h
def iEnumT (K : PySem.W.Frag) (tl : TE) : TI := fun σ H R => tl σ H fun x H1 => ∃ a xs, x = .ref a /\ SqT K H1 a xs /\ R (Itn K a xs) H1
theorem r_iEnumT {K : PySem.W.Frag} {te : TE} {σ : St} {H : Hp} {Z : It -> Hp -> Prop} : iEnumT K te σ H Z = te σ H fun x H1 => ∃ a xs, x = .ref a /\ SqT K H1 a xs /\ Z (Itn K a xs) H1 := rfl
theorem r_gTup {K : PySem.W.Frag} {n : Nat} {t : TGs} {v : V} {σ : St} {H : Hp} {N : St -> Hp -> Prop} : gTup K n t v σ H N = ∃ a xs, v = .ref a /\ SqT K H a xs /\ xs.length = n /\ t xs σ H N := rfl
theorem r_gCons {t : TG} {u : TGs} {vs : List V} {σ : St} {H : Hp} {N : St -> Hp -> Prop} : gCons t u vs σ H N = ∃ v r, vs = v :: r /\ t v σ H fun σ' H' => u r σ' H' N := rfl
theorem r_gNil {vs : List V} {σ : St} {H : Hp} {N : St -> Hp -> Prop} : gNil vs σ H N = (vs = [] /\ N σ H) := rfl
theorem pi_enumT {X : Cx} {elts : List Expr} {x1} {tpos : Pos} {e : Expr} {te : TE} {p pos : Pos} (hg : Gl X "enumerate") (hm : X.mg "enumerate" = none) (he : PE X e te) (hs : starEach [e] X.env = [(false, eval e X.env)] := by rfl) : PI X (.Tuple elts x1 tpos) (.Call (.Name "enumerate" p) [e] [] pos) (iEnumT X.K te) := by
  intro pins s σ H R I h
  refine Call_ (ld_blt I hg hm boot_enumerate (PyProof.Rows.callWith_type1 (thn (pa_cons he pa_nil hs pos pins s σ H (fun vs H1 => ∃ a xs, vs = [.ref a] /\ SqT X.K H1 a xs /\ R (Itn X.K a xs) H1) I ?_) fun us s1 ⟨vs, H1, I1, r1, q1⟩ => ?_) hs rfl))
  . show te σ H _
    have : (fun x H1 => ∃ a xs, x = V.ref a /\ SqT X.K H1 a xs /\ R (Itn X.K a xs) H1) = (fun x H1 => tNil σ H1 fun xs H2 => ∃ a ys, x :: xs = [V.ref a] /\ SqT X.K H2 a ys /\ R (Itn X.K a ys) H2) := by
      funext x H1
      simp [tNil]
    rw [<- this]
    exact h
  . obtain ⟨a, xs, rfl, hq, q⟩ := q1
    cases r1 with
    | cons r rr =>
      cases rr
      cases r
      obtain ⟨its, rv, p, hz⟩ := I1.tuple hq
      have pt : s1.heap.IsTuple a its.toArray := p
      obtain ⟨oa, hoa, _⟩ := id pt
      have ha := Heap.lt_size hoa
      refine call_enumerate_tuple pt fun h' he' hit' hsz hk => ?_
      refine wpAny_pyIter_enum (s := { s1 with heap := h' }) he' ?_
      have I2 : Inv X pins σ H1 { s1 with heap := h' } := I1.kept (t' := s1.toks) hk
      refine ⟨s1.heap.objs.size + 1, [s1.heap.objs.size + 1, s1.heap.objs.size], _, _, H1, rfl, I2, turn_enumT a (s1.heap.objs.size + 1) s1.heap.objs.size (Nat.succ_ne_self _) (Nat.ne_of_lt ha) (Nat.ne_of_lt (Nat.lt_succ_of_lt ha)) xs, ⟨_, he', hit'⟩, fun b hb => ?_, q⟩
      have hle : s1.heap.objs.size <= b := by
        rcases List.mem_cons.mp hb with rfl | hb
        . omega
        . rw [List.mem_singleton.mp hb]; exact Nat.le_refl _
      exact I1.fpOk hle (I1.hok.fresh hle)
theorem forN {K : PySem.W.Frag} {a : Addr} {xs : List V} {g : TG} {tb : TS} {D : Ends} {σ : St} {H : Hp} (Pv : Nat -> St -> Hp -> Prop) (h0 : Pv 0 σ H) (hl : ∀ i σ H, i <= xs.length -> Pv i σ H -> SqT K H a xs)
    (hs : ∀ i v σ H t, xs[i]? = some v -> Pv i σ H -> H t = none -> g (.ref t) σ (upd H t (.tup [.int i, v])) fun σ2 H2 => tb { D with nx := Pv (i + 1), ct := Pv (i + 1), bk := D.nx } σ2 H2) (hd : ∀ σ H, Pv xs.length σ H -> D.nx σ H) : ForW (Itn K a xs) g tb D σ H := by
  refine ⟨fun i m σ H => m = xs.length - i /\ i <= xs.length /\ Pv i σ H, ⟨xs.length, by simp, Nat.zero_le _, h0⟩, ?_⟩
  rintro i m σ H ⟨rfl, hi, p⟩
  by_cases hlt : i < xs.length
  . refine .inr ⟨⟨hlt, hl i σ H hi p⟩, Pv (i + 1), fun σ' H' p' => ⟨xs.length - (i + 1), by omega, rfl, hlt, p'⟩, fun x H' y => ?_⟩
    obtain ⟨t, v, hn, hv, rfl, rfl⟩ := y
    exact hs i v σ H t hv p hn
  . have e : i = xs.length := by omega
    subst e
    exact .inl ⟨⟨rfl, hl _ σ H hi p⟩, hd σ H p⟩
section
variable {td ty tv tx : TE} {D : Ends} {σ : St} {H : Hp} {Q : VK}
theorem r_dget : tDGet td ty σ H Q = td σ H fun x H1 => ty σ H1 fun y H2 => ∃ a v, x = .ref a /\ DGet H2 a y (some v) /\ Q v H2 := rfl
theorem r_dnotin : tDNotIn ty td σ H Q = ty σ H fun y H1 => td σ H1 fun x H2 => ∃ a o, x = .ref a /\ DGet H2 a y o /\ Q (.bl (!o.isSome)) H2 := rfl
theorem r_dput : sDPut td ty tv D σ H = tv σ H fun v H1 => td σ H1 fun x H2 => ty σ H2 fun y H3 => ∃ a H4, x = .ref a /\ DPut H3 a y v H4 /\ D.nx σ H4 := rfl
theorem r_disp {trs : List (TE × TE)} : tDisp trs σ H Q = ∀ p, H p = none -> tPairs trs σ (upd H p (.dK [])) fun ps H2 => H2 p = some (.dK []) /\ ∃ kvs : List (Key × V), ps = kvs.map (fun kv => (kV kv.1, kv.2)) /\ kvs.length <= 15 /\ Q (.ref p) (upd H2 p (.dK (mergeK [] kvs))) := rfl
theorem r_pairs0 {R : List (V × V) -> Hp -> Prop} : tPairs [] σ H R = R [] H := rfl
theorem r_pairs1 {r : List (TE × TE)} {R : List (V × V) -> Hp -> Prop} : tPairs ((td, tv) :: r) σ H R = td σ H fun x H1 => tv σ H1 fun y H2 => tPairs r σ H2 fun ps H3 => R ((x, y) :: ps) H3 := rfl
end
end L2
namespace HT
open PySem PySem.Spec PyProof.Rows
section
open PySem.SeqAt PySem.MeetsSeq PySem.MeetsSeq2 PySem.MeetsSeq3
open PySem.AutoSeq1 (wpAny_loadPart')
end
end HT
namespace L2
open PySem PySem.Spec PyProof.Rows
end L2
set_option Elab.async false
set_option linter.all false
set_option maxRecDepth 100000
set_option maxHeartbeats 4000000
namespace GW
def addRow (w : List Int) : List (Int × List Int) -> Nat -> List Int -> List (Int × List Int)
  | ents, _, [] => ents
  | ents, x, g :: r => addRow w (if g ∈ ents.map (·.1) then ents else ents ++ [(g, w ++ [(x : Int)])]) (x + 1) r
def bfs (ways : List (List Int)) : Nat -> List (Int × List Int) -> Nat -> List (Int × List Int)
  | 0, ents, _ => ents
  | f + 1, ents, i => match ents[i]? with
    | none => ents
    | some e => bfs ways f (addRow e.2 ents 0 (ways.getD e.1.toNat [])) (i + 1)
def wordsIn (ways : List (List Int)) : List (Int × List Int) := bfs ways (ways.length + 1) [(0, [])] 0
theorem bfs_stop {ways : List (List Int)} {ents : List (Int × List Int)} {i : Nat} (h : ents[i]? = none) : ∀ f, bfs ways f ents i = ents
  | 0 => rfl
  | f + 1 => by rw [bfs, h]
theorem bfs_step {ways : List (List Int)} {ents : List (Int × List Int)} {i : Nat} {e : Int × List Int} (h : ents[i]? = some e) (f : Nat) : bfs ways (f + 1) ents i = bfs ways f (addRow e.2 ents 0 (ways.getD e.1.toNat [])) (i + 1) := by rw [bfs, h]
theorem nodup_len : ∀ (n : Nat) {l : List Int}, l.Nodup -> (∀ x ∈ l, 0 <= x /\ x < (n : Int)) -> l.length <= n
  | 0, l, _, h => by
    cases l with
    | nil => simp
    | cons x r => have := h x List.mem_cons_self; omega
  | n + 1, l, hn, h => by
    by_cases hm : (n : Int) ∈ l
    . have e := List.length_erase_of_mem hm
      have := nodup_len n (l := l.erase (n : Int)) (hn.erase _) (fun x hx => by
        have h1 := (hn.mem_erase_iff).mp hx
        have h2 := h x h1.2
        have h3 := h1.1
        omega)
      omega
    . have := nodup_len n hn (fun x hx => by
        have h2 := h x hx
        have : x ≠ n := fun z => hm (z ▸ hx)
        omega)
      omega
structure Bfs (L : Int) (n : Nat) (ways : List (List Int)) (ents : List (Int × List Int)) (i : Nat) (top : Int) : Prop where
  hd : ents[0]? = some (0, [])
  il : i <= ents.length
  sh : ∀ (j : Nat) (e : Int × List Int), ents[j]? = some e -> e.2.length <= j
  nod : (ents.map (·.1)).Nodup
  rng : ∀ e ∈ ents, 0 <= e.1 /\ e.1 < (n : Int)
  wd : ∀ e ∈ ents, isW L e.2 = true /\ walkW ways e.2 = e.1
  inc : ∀ (j k : Nat) (a b : Int × List Int), j < k -> ents[j]? = some a -> ents[k]? = some b -> place L a.2 < place L b.2
  bnd : ∀ e ∈ ents, place L e.2 < top
  don : ∀ j, j < i -> ∀ e, ents[j]? = some e -> ∀ x : Int, 0 <= x -> x < L -> ∃ e' ∈ ents, e'.1 = stepW ways e.1 x /\ place L e'.2 <= place L (e.2 ++ [x])
theorem Bfs.len {L : Int} {n : Nat} {ways : List (List Int)} {ents : List (Int × List Int)} {i : Nat} {top : Int} (h : Bfs L n ways ents i top) : ents.length <= n := by
  have := nodup_len n h.nod (fun x hx => by
    obtain ⟨e, he, rfl⟩ := List.mem_map.mp hx
    exact h.rng e he)
  simpa using this
theorem Bfs.start (L : Int) {n : Nat} (hn : 1 <= n) (ways : List (List Int)) : Bfs L n ways [(0, [])] 0 1 := by
  refine ⟨rfl, by simp, (fun j e he => by cases j with | zero => (simp at he; subst he; simp) | succ j => simp at he), by simp, fun e he => ?_, fun e he => ?_, fun j k a b h h1 h2 => ?_, fun e he => ?_, fun j hj => absurd hj (Nat.not_lt_zero _)⟩
  . simp at he; subst he; simp; omega
  . simp at he; subst he; exact ⟨rfl, rfl⟩
  . have := (List.getElem?_eq_some_iff.mp h2).1; simp at this; omega
  . simp at he; subst he; simp [place, placeR]
theorem Bfs.add {L : Int} (hL : 0 < L) {n : Nat} {ways : List (List Int)} {ents : List (Int × List Int)} {i : Nat} {top : Int} (h : Bfs L n ways ents i top) {w : List Int} {r x g : Int} (hw : (r, w) ∈ ents) (hx : 0 <= x /\ x < L) (ht : top <= place L w * L + x + 1)
    (hg : g = stepW ways r x) (hgr : 0 <= g /\ g < (n : Int)) (hno : g ∉ ents.map (·.1)) : Bfs L n ways (ents ++ [(g, w ++ [x])]) i (place L w * L + x + 2) := by
  obtain ⟨v1, v2⟩ := h.wd _ hw
  have hp := place_snoc L w x
  have hlen : 0 < ents.length := by have := (List.getElem?_eq_some_iff.mp h.hd).1; omega
  refine ⟨?_, by have := h.il; simp; omega, fun j e he => ?_, ?_, fun e he => ?_, fun e he => ?_, fun j k a b hjk h1 h2 => ?_, fun e he => ?_, fun j hj e he y hy0 hy1 => ?_⟩
  . rw [List.getElem?_append_left hlen]; exact h.hd
  . have hj := (List.getElem?_eq_some_iff.mp he).1
    rw [List.length_append, List.length_singleton] at hj
    by_cases hjl : j < ents.length
    . rw [List.getElem?_append_left hjl] at he
      exact h.sh j e he
    . have e1 : j = ents.length := by omega
      subst e1
      rw [List.getElem?_append_right (Nat.le_refl _), Nat.sub_self] at he
      simp at he
      subst he
      obtain ⟨j', hj', ej⟩ := List.getElem_of_mem hw
      have := h.sh j' (r, w) (by rw [List.getElem?_eq_getElem hj', ej])
      have this' : w.length <= j' := this
      show (w ++ [x]).length <= ents.length
      simp; omega
  . rw [List.map_append, List.nodup_append]
    refine ⟨h.nod, by simp, fun a ha b hb => ?_⟩
    simp at hb
    subst hb
    exact fun z => hno (z ▸ ha)
  . rcases List.mem_append.mp he with he | he
    . exact h.rng e he
    . rw [List.mem_singleton.mp he]; exact hgr
  . rcases List.mem_append.mp he with he | he
    . exact h.wd e he
    . rw [List.mem_singleton.mp he]
      refine ⟨?_, ?_⟩
      . rw [isW_iff] at v1 ⊢
        intro z hz
        rcases List.mem_append.mp hz with hz | hz
        . exact v1 z hz
        . rw [List.mem_singleton.mp hz]; exact hx
      . show walkW ways (w ++ [x]) = g
        rw [walkW_snoc]
        have v2' : walkW ways w = r := v2
        rw [v2', hg]
  . have hk := (List.getElem?_eq_some_iff.mp h2).1
    rw [List.length_append, List.length_singleton] at hk
    by_cases hkl : k < ents.length
    . rw [List.getElem?_append_left hkl] at h2
      rw [List.getElem?_append_left (by omega)] at h1
      exact h.inc j k a b hjk h1 h2
    . have hke : k = ents.length := by omega
      subst hke
      rw [List.getElem?_append_left (by omega)] at h1
      rw [List.getElem?_append_right (Nat.le_refl _), Nat.sub_self] at h2
      simp at h2
      subst h2
      have := h.bnd a (List.mem_of_getElem? h1)
      show place L a.2 < place L (w ++ [x])
      rw [hp]; omega
  . rcases List.mem_append.mp he with he | he
    . have := h.bnd e he; omega
    . rw [List.mem_singleton.mp he]
      show place L (w ++ [x]) < _
      rw [hp]; omega
  . have hjl : j < ents.length \/ j = ents.length := by
      have := (List.getElem?_eq_some_iff.mp he).1
      rw [List.length_append, List.length_singleton] at this
      omega
    rcases hjl with hjl | hjl
    . rw [List.getElem?_append_left hjl] at he
      obtain ⟨e', m, q⟩ := h.don j hj e he y hy0 hy1
      exact ⟨e', List.mem_append_left _ m, q⟩
    . exact absurd hjl (by have := h.il; omega)
theorem Bfs.up {L : Int} {n : Nat} {ways : List (List Int)} {ents : List (Int × List Int)} {i : Nat} {top top' : Int} (h : Bfs L n ways ents i top) (ht : top <= top') : Bfs L n ways ents i top' :=
  ⟨h.hd, h.il, h.sh, h.nod, h.rng, h.wd, h.inc, fun e he => Int.lt_of_lt_of_le (h.bnd e he) ht, h.don⟩
def Seen (L : Int) (ways : List (List Int)) (ents : List (Int × List Int)) (r : Int) (w : List Int) (x : Nat) : Prop := ∀ y : Int, 0 <= y -> y < x -> ∃ e' ∈ ents, e'.1 = stepW ways r y /\ place L e'.2 <= place L (w ++ [y])
theorem Bfs.letter {L : Int} (hL : 0 < L) {n : Nat} {ways : List (List Int)} {ents : List (Int × List Int)} {i x : Nat} {w : List Int} {r g : Int} (h : Bfs L n ways ents i (place L w * L + x + 1)) (hs : Seen L ways ents r w x) (hw : (r, w) ∈ ents) (hx : (x : Int) < L)
    (hg : g = stepW ways r x) (hgr : 0 <= g /\ g < (n : Int)) : Bfs L n ways (if g ∈ ents.map (·.1) then ents else ents ++ [(g, w ++ [(x : Int)])]) i (place L w * L + ((x + 1 : Nat) : Int) + 1) /\ Seen L ways (if g ∈ ents.map (·.1) then ents else ents ++ [(g, w ++ [(x : Int)])]) r w (x + 1) := by
  by_cases hm : g ∈ ents.map (·.1)
  . rw [if_pos hm]
    refine ⟨h.up (by push_cast; omega), fun y hy0 hy1 => ?_⟩
    by_cases hyx : y < x
    . exact hs y hy0 hyx
    . have e : y = x := by push_cast at hy1; omega
      subst e
      obtain ⟨e', he', e1⟩ := List.mem_map.mp hm
      refine ⟨e', he', by rw [<- hg]; exact e1, ?_⟩
      have := h.bnd e' he'
      rw [place_snoc]; omega
  . rw [if_neg hm]
    refine ⟨(h.add hL hw ⟨by omega, hx⟩ (Int.le_refl _) hg hgr hm).up (by push_cast; omega), fun y hy0 hy1 => ?_⟩
    by_cases hyx : y < x
    . obtain ⟨e', m, q⟩ := hs y hy0 hyx
      exact ⟨e', List.mem_append_left _ m, q⟩
    . have e : y = x := by push_cast at hy1; omega
      subst e
      exact ⟨_, List.mem_append_right _ List.mem_cons_self, hg, Int.le_refl _⟩
theorem Bfs.next {L : Int} (hL : 0 < L) {n i m : Nat} {ways : List (List Int)} {ents : List (Int × List Int)} {w : List Int} {r : Int} (h : Bfs L n ways ents i (place L w * L + m + 1)) (hm : (m : Int) = L) (hs : Seen L ways ents r w m) (hw : ents[i]? = some (r, w)) :
    Bfs L n ways ents (i + 1) (place L w * L + L + 1) /\ ∀ e, ents[i + 1]? = some e -> place L w * L + L + 1 <= place L e.2 * L + 1 := by
  have hi := (List.getElem?_eq_some_iff.mp hw).1
  rw [hm] at h
  refine ⟨⟨h.hd, hi, h.sh, h.nod, h.rng, h.wd, h.inc, h.bnd, fun j hj e he x h0 h1 => ?_⟩, fun e he => ?_⟩
  . by_cases hji : j < i
    . exact h.don j hji e he x h0 h1
    . have e1 : j = i := by omega
      subst e1
      rw [hw] at he
      cases he
      exact hs x h0 (by omega)
  . have := h.inc i (i + 1) _ _ (Nat.lt_succ_self _) hw he
    have h2 := Int.mul_le_mul_of_nonneg_right (show place L w + 1 <= place L e.2 from this) (Int.le_of_lt hL)
    rw [Int.add_mul] at h2
    omega
theorem addRow_nil (w : List Int) (ents : List (Int × List Int)) (x : Nat) : addRow w ents x [] = ents := rfl
theorem addRow_cons (w : List Int) (ents : List (Int × List Int)) (x : Nat) (g : Int) (r : List Int) : addRow w ents x (g :: r) = addRow w (if g ∈ ents.map (·.1) then ents else ents ++ [(g, w ++ [(x : Int)])]) (x + 1) r := rfl
theorem letter_keep {ents : List (Int × List Int)} {g : Int} {v : List Int} {i : Nat} {e : Int × List Int} (h : ents[i]? = some e) : (if g ∈ ents.map (·.1) then ents else ents ++ [(g, v)])[i]? = some e := by
  split
  . exact h
  . rw [List.getElem?_append_left (List.getElem?_eq_some_iff.mp h).1]; exact h
end GW
namespace L2
open PySem PySem.Spec PyProof.Rows GW
def Ents (K : PySem.W.Frag) (H : Hp) (d : Addr) (ents : List (Int × List Int)) : Prop := ∃ kvs : List (Key × V), H d = some (.dK kvs) /\ kvs.length = ents.length /\ ∀ (i : Nat) (e : Int × List Int), ents[i]? = some e -> ∃ t, kvs[i]? = some (Sum.inl e.1, V.ref t) /\ SqT K H t (e.2.map V.int)
theorem Ents.mono {K : PySem.W.Frag} {H H' : Hp} {d : Addr} {ents : List (Int × List Int)} (h : Ents K H d ents) (s : Same H H') : Ents K H' d ents := by
  obtain ⟨kvs, h1, h2, h3⟩ := h
  refine ⟨kvs, s _ _ h1, h2, fun i e he => ?_⟩
  obtain ⟨t, a, b⟩ := h3 i e he
  exact ⟨t, a, s.seqT b⟩
theorem Ents.off {K : PySem.W.Frag} {H : Hp} {d p : Addr} {ents : List (Int × List Int)} {zs ys : List V} (h : Ents K H d ents) (hp : H p = some (.lst zs)) : Ents K (upd H p (.lst ys)) d ents := by
  obtain ⟨kvs, h1, h2, h3⟩ := h
  refine ⟨kvs, by rw [upd_ne (fun z => by rw [z, hp] at h1; cases h1)]; exact h1, h2, fun i e he => ?_⟩
  obtain ⟨t, a, b⟩ := h3 i e he
  exact ⟨t, a, seqT_off hp b⟩
theorem seqT_offD {K : PySem.W.Frag} {H : Hp} {p t : Addr} {xs : List V} {kvs kvs' : List (Key × V)} (hp : H p = some (.dK kvs)) (h : SqT K H t xs) : SqT K (upd H p (.dK kvs')) t xs := by
  rcases h with (q | ⟨o, q⟩) | q
  . refine .inl (.inl ?_)
    rw [upd_ne (fun z => by rw [z, hp] at q; cases q)]; exact q
  . refine .inl (.inr ⟨o, ?_⟩)
    rw [upd_ne (fun z => by rw [z, hp] at q; cases q)]; exact q
  . exact .inr q
theorem Ents.no {K : PySem.W.Frag} {H : Hp} {d : Addr} {ents : List (Int × List Int)} (h : Ents K H d ents) {g : Int} (hg : g ∉ ents.map (·.1)) : DGet H d (.int g) none := by
  obtain ⟨kvs, h1, h2, h3⟩ := h
  have e : valV kvs (Sum.inl g : Key) = none := by
    unfold valV
    rw [Option.map_eq_none_iff, List.find?_eq_none]
    intro kv hkv
    obtain ⟨i, hi, e⟩ := List.getElem_of_mem hkv
    obtain ⟨t, a, _⟩ := h3 i ents[i] (by simp [show i < ents.length by omega])
    have e2 : kvs[i]? = some kv := by rw [List.getElem?_eq_getElem hi, e]
    rw [e2] at a
    cases a
    simp only [decide_eq_true_eq]
    intro z
    injection z with z
    exact hg (List.mem_map.mpr ⟨ents[i], List.getElem_mem _, z⟩)
  have := DGet.k (k := (Sum.inl g : Key)) h1
  rw [e] at this
  exact this
theorem Ents.yes {K : PySem.W.Frag} {H : Hp} {d : Addr} {ents : List (Int × List Int)} (h : Ents K H d ents) (nod : (ents.map (·.1)).Nodup) {g : Int} {w : List Int} (hg : (g, w) ∈ ents) : ∃ t, DGet H d (.int g) (some (.ref t)) /\ SqT K H t (w.map V.int) := by
  obtain ⟨kvs, h1, h2, h3⟩ := h
  obtain ⟨i, hi, ei⟩ := List.getElem_of_mem hg
  have ei' : ents[i]? = some (g, w) := by rw [List.getElem?_eq_getElem hi, ei]
  obtain ⟨t, a, b⟩ := h3 i _ ei'
  refine ⟨t, ?_, b⟩
  have hf : valV kvs (Sum.inl g : Key) = some (.ref t) := by
    unfold valV
    cases hq : kvs.find? (fun kv => decide (kv.1 = (Sum.inl g : Key))) with
    | none =>
      rw [List.find?_eq_none] at hq
      have := hq _ (List.mem_of_getElem? a)
      simp at this
    | some kv =>
      have hk := List.find?_some hq
      simp only [decide_eq_true_eq] at hk
      obtain ⟨j, hj, ej⟩ := List.getElem_of_mem (List.mem_of_find?_eq_some hq)
      have hj' : j < ents.length := by omega
      obtain ⟨t', a', b'⟩ := h3 j ents[j] (by simp [hj'])
      have e2 : kvs[j]? = some kv := by rw [List.getElem?_eq_getElem hj, ej]
      rw [e2] at a'
      have a2 : kv = (Sum.inl ents[j].1, V.ref t') := Option.some.inj a'
      rw [a2] at hk
      have hk' : ents[j].1 = g := by injection hk
      have ij : i = j := by
        refine (List.getElem_inj (h₀ := by simpa using hi) (h₁ := by simpa using hj') nod).mp ?_
        simp [ei, hk']
      subst ij
      rw [e2] at a
      have a3 : kv = (Sum.inl g, V.ref t) := Option.some.inj a
      rw [a3]; rfl
  have := DGet.k (k := (Sum.inl g : Key)) h1
  rw [hf] at this
  exact this
theorem Ents.put {K : PySem.W.Frag} {H : Hp} {d t : Addr} {ents : List (Int × List Int)} {g : Int} {w : List Int} (h : Ents K H d ents) (hg : g ∉ ents.map (·.1)) (hz : ents.length < 1000) (ht : SqT K H t (w.map V.int)) : ∃ H', DPut H d (.int g) (.ref t) H' /\ (∃ kvs kvs', H d = some (.dK kvs) /\ H' = upd H d (.dK kvs')) /\ Ents K H' d (ents ++ [(g, w)]) := by
  have hno := h.no hg
  obtain ⟨kvs, h1, h2, h3⟩ := h
  have hl := line1000
  have hv : valV kvs (Sum.inl g : Key) = none := by
    rcases hno with ⟨kvs', k, e, ey, er⟩ | ⟨kvs', k, b, e, ey, _⟩
    . have e1 : kvs' = kvs := by
        rcases e with e | ⟨o, e⟩
        . rw [h1] at e; cases e; rfl
        . rw [h1] at e; cases e
      subst e1
      cases k with
      | inl m =>
        have : m = g := by injection ey with ey; exact ey.symm
        subst this
        exact er.symm
      | inr m => cases ey
    . cases ey
  have hp : putK kvs (Sum.inl g : Key) (V.ref t) = kvs ++ [(Sum.inl g, V.ref t)] := by
    unfold putK
    rw [valV_any, hv]
    rfl
  refine ⟨_, DPut.k (k := (Sum.inl g : Key)) h1 (by omega), ⟨kvs, _, h1, rfl⟩, kvs ++ [(Sum.inl g, V.ref t)], by rw [upd_same, hp], by simp [h2], fun i e he => ?_⟩
  by_cases hi : i < ents.length
  . rw [List.getElem?_append_left hi] at he
    obtain ⟨t', a, b⟩ := h3 i e he
    exact ⟨t', by rw [List.getElem?_append_left (by omega)]; exact a, seqT_offD h1 b⟩
  . have hlt := (List.getElem?_eq_some_iff.mp he).1
    rw [List.length_append, List.length_singleton] at hlt
    have e1 : i = ents.length := by omega
    subst e1
    rw [List.getElem?_append_right (Nat.le_refl _), Nat.sub_self] at he
    simp at he
    subst he
    exact ⟨t, by rw [List.getElem?_append_right (by omega), h2, Nat.sub_self]; rfl, seqT_offD h1 ht⟩
end L2
namespace L2
end L2
namespace L2
open PySem PySem.Spec PyProof.Rows
def ups (n : Nat) : List Int := (List.range n).map fun i : Nat => (i : Int)
def tListRng (te : TE) : TE := fun σ H Q => te σ H fun x H1 => ∃ j : Int, x = .int j /\ 0 <= j /\ j <= 100000 /\ ∀ p, H1 p = none -> Q (.ref p) (upd H1 p (.lst ((ups j.toNat).map V.int)))
theorem r_listRng {te : TE} {σ : St} {H : Hp} {Q : VK} : tListRng te σ H Q = te σ H fun x H1 => ∃ j : Int, x = .int j /\ 0 <= j /\ j <= 100000 /\ ∀ p, H1 p = none -> Q (.ref p) (upd H1 p (.lst ((ups j.toNat).map V.int))) := rfl
theorem items_ups {n : Nat} {acc : Array Value} (h : ItemsOf (fun i v => ∃ t, v = .int ((0 : Int) + (i : Nat) * 1) t) acc n) : Vals ((ups n).map V.int) acc.toList := by
  have hs := h.1
  have key : ∀ (l : List Value) (k : Nat), (∀ i v, l[i]? = some v -> ∃ t, v = Value.int ((k + i : Nat) : Int) t) -> Vals (((List.range l.length).map fun i => ((k + i : Nat) : Int)).map V.int) l := by
    intro l
    induction l with
    | nil => intro k _; exact .nil
    | cons u r ih =>
      intro k hk
      rw [List.length_cons, List.range_succ_eq_map, List.map_cons, List.map_cons]
      refine .cons ?_ ?_
      . obtain ⟨t, e⟩ := hk 0 u (by simp)
        exact ⟨t, by simpa using e⟩
      . have := ih (k + 1) (fun i v hv => by
          obtain ⟨t, e⟩ := hk (i + 1) v (by simpa using hv)
          exact ⟨t, by rw [e]; congr 1; push_cast; omega⟩)
        have e : ((List.map Nat.succ (List.range r.length)).map fun i => ((k + i : Nat) : Int)) = ((List.range r.length).map fun i => ((k + 1 + i : Nat) : Int)) := by
          rw [List.map_map]
          apply List.map_congr_left
          intro i _
          show ((k + (i + 1) : Nat) : Int) = _
          congr 1; omega
        rw [e]
        exact this
  have := key acc.toList 0 (fun i v hv => by
    obtain ⟨t, e⟩ := h.2 i v (by simpa using hv)
    exact ⟨t, by rw [e]; congr 1; push_cast; omega⟩)
  have hl : acc.toList.length = n := by simpa using hs
  rw [hl] at this
  have e2 : ((List.range n).map fun i => ((0 + i : Nat) : Int)) = ups n := by
    unfold ups
    apply List.map_congr_left
    intro i _
    congr 1; omega
  rw [e2] at this
  exact this
theorem pe_listRng {X : Cx} {e : Expr} {te : TE} {p p2 pos pos2 : Pos} (hc : X.calm = true) (hg : Gl X "list") (hm : X.mg "list" = none) (hg2 : Gl X "range") (hm2 : X.mg "range" = none) (he : PE X e te)
    (hs1 : starEach [.Call (.Name "range" p2) [e] [] pos2] X.env = [(false, eval (.Call (.Name "range" p2) [e] [] pos2) X.env)] := by rfl) (hs : starEach [e] X.env = [(false, eval e X.env)] := by rfl) :
    PE X (.Call (.Name "list" p) [.Call (.Name "range" p2) [e] [] pos2] [] pos) (tListRng te) := by
  intro pins s σ H Q I h
  refine wpAny_Call_Name_kw (ld_blt I hg hm boot_list ?_)
  refine PyProof.Rows.callWith_type1 ?_ hs1 rfl
  rw [hs1]
  refine Calls.spliced_cons ?_
  refine Call_ (ld_blt I hg2 hm2 boot_range (PyProof.Rows.callWith_type1 (thn (pa_cons he pa_nil hs pos2 pins s σ H (fun vs H1 => ∃ j : Int, vs = [.int j] /\ 0 <= j /\ j <= 100000 /\ ∀ p, H1 p = none -> Q (.ref p) (upd H1 p (.lst ((ups j.toNat).map V.int)))) I ?_) fun us s1 ⟨vs, H1, I1, r1, q1⟩ => ?_) hs rfl))
  . show te σ H _
    have : (fun x H1 => ∃ j : Int, x = V.int j /\ 0 <= j /\ j <= 100000 /\ ∀ p, H1 p = none -> Q (.ref p) (upd H1 p (.lst ((ups j.toNat).map V.int)))) = (fun x H1 => tNil σ H1 fun xs H2 => ∃ j : Int, x :: xs = [V.int j] /\ 0 <= j /\ j <= 100000 /\ ∀ p, H2 p = none -> Q (.ref p) (upd H2 p (.lst ((ups j.toNat).map V.int)))) := by
      funext x H1
      simp [tNil]
    rw [<- this]
    exact h
  . obtain ⟨j, rfl, h0, h1, q⟩ := q1
    cases r1 with
    | cons r rr =>
      cases rr
      obtain ⟨t, rfl⟩ := r
      refine call_range_1 ?_
      refine Calls.spliced_nil ?_
      refine call_list_range (n := j.toNat) (I.ok.hd hc) (IsRange.new ..) (small_one (by omega) (by omega) (by omega) (by omega)) ?_ (by omega) fun h' tk acc' c' hk hS hacc => ?_
      . rw [rangeSize_one]; split <;> omega
      . have kp : ∀ b o, s1.heap.get? b = some o -> h'.get? b = some o := fun b o e => hk b o (Heap.get?_push_of_some _ e)
        have hz : (ups j.toNat).length = j.toNat := by simp [ups]
        have hl := line1000
        refine ⟨.ref _, _, I1.laid (t' := tk) kp (by rw [Heap.size_push]; exact Nat.le_succ _) (show ObjOk X.prog X.w _ h' _ (.lst ((ups j.toNat).map V.int)) from ⟨by rw [List.length_map, hz]; omega, acc'.toList, c', items_ups hacc, by simpa using hS⟩), rfl, q _ (I1.hok.fresh (by rw [Heap.size_push]; exact Nat.le_succ _))⟩
end L2
namespace L2
open PySem PySem.Spec PyProof.Rows
end L2
namespace L2
open PySem PySem.Spec PyProof.Rows
def tDisp1 (tk tv : TE) : TE := tDisp [(tk, tv)]
theorem pe_disp1 {X : Cx} {pos : Pos} {k v : Expr} {tk tv : TE} (hk : PE X k tk) (hv : PE X v tv) : PE X (.Dict [some k] [v] pos) (tDisp1 tk tv) := pe_disp (pps_cons hk hv pps_nil) rfl rfl (by intro z; cases z) (by show 1 <= 15; decide)
theorem r_disp1 {tk tv : TE} {σ : St} {H : Hp} {Q : VK} : tDisp1 tk tv σ H Q = ∀ p, H p = none -> tk σ (upd H p (.dK [])) fun x H1 => tv σ H1 fun y H2 => H2 p = some (.dK []) /\ ∃ kvs : List (Key × V), [(x, y)] = kvs.map (fun kv => (kV kv.1, kv.2)) /\ kvs.length <= 15 /\ Q (.ref p) (upd H2 p (.dK (mergeK [] kvs))) := rfl
end L2
namespace L2
open PySem PySem.Spec PyProof.Rows
theorem ps_setD {X : Cx} {i : Nat} {x : Str} {k v : Expr} {tk tv : TE} {pos pos' dpos : Pos} (hN : X.N.Nodup) (hi : X.N[i]? = some x) (hx : Loc X.env.scope x) (hk : PE X k tk) (hv : PE X v tv) (hs : swapsWith (.Dict [some k] [v] dpos) (some (.Name x pos')) pos.line X.env = pure false)
    (hf : X.fn x = true \/ X.env.scope.names.lookup x = some .local) : PS X (.Assign [.Name x pos'] (.Dict [some k] [v] dpos) pos) (tAsg (tDisp1 tk tv) (gName i)) := ps_set hN hi hx (pe_disp1 hk hv) hs hf
end L2
namespace GW
end GW
namespace L2
end L2
namespace L2
open PySem GW
def mkW (marks : List Int) (r : Int) : Int := marks.getD r.toNat 0
theorem mkW_in {marks : List Int} {r : Int} (h0 : 0 <= r) (h1 : r < marks.length) : mkW marks r ∈ marks := by
  have hlt : r.toNat < marks.length := by omega
  unfold mkW
  rw [List.getD_eq_getElem?_getD, List.getElem?_eq_getElem hlt]
  exact List.getElem_mem hlt
theorem mkW_at {marks : List Int} {r : Int} (h0 : 0 <= r) (h1 : r < marks.length) : atI (marks.map V.int) r = some (V.int (mkW marks r)) := by
  have hlt : r.toNat < marks.length := by omega
  refine atI_int h0 ?_
  unfold mkW
  rw [List.getD_eq_getElem?_getD, List.getElem?_eq_getElem hlt]; rfl
end L2
namespace GW
end GW
namespace L2
open PySem GW
end L2
namespace GW
end GW
set_option Elab.async false
set_option linter.all false
set_option maxRecDepth 100000
set_option maxHeartbeats 4000000
namespace L2
open PySem PySem.Spec PyProof.Rows
theorem Vals.ofIx : ∀ {xs : List V} {us : List Value}, us.length = xs.length -> (∀ (i : Nat) (v : Value), us[i]? = some v -> ∃ x, xs[i]? = some x /\ RelV x v) -> Vals xs us
  | [], [], _, _ => .nil
  | [], _ :: _, h, _ => by simp at h
  | _ :: _, [], h, _ => by simp at h
  | x :: xs, u :: us, h, k => by
    refine .cons ?_ (Vals.ofIx (by simpa using h) fun i v hv => ?_)
    . obtain ⟨y, e, r⟩ := k 0 u rfl
      cases e
      exact r
    . obtain ⟨y, e, r⟩ := k (i + 1) v (by simpa using hv)
      exact ⟨y, by simpa using e, r⟩
theorem keyIs_rel {k : Key} {v : Value} (h : keyIs k v = true) : RelV (kV k) v := by
  rcases keyIs_shape h with ⟨i, t, rfl, e⟩ | ⟨x, t, rfl, e⟩
  . exact ⟨t, e⟩
  . exact ⟨t, e⟩
theorem call_list_dict {X : Cx} (hc : X.calm = true) : CallR X (.type "list") (fun xs H Q => ∃ p kvs, xs = [.ref p] /\ H p = some (.dK kvs) /\ ∀ l, H l = none -> Q (.ref l) (upd H l (.lst (kvs.map fun kv => kV kv.1)))) := by
  intro pins s σ H xs us Q I r h
  obtain ⟨p, kvs, rfl, hp, q⟩ := h
  obtain ⟨u, rfl, rx⟩ := vals1 r
  cases rx
  obtain ⟨hz, hS, vs, rr, m⟩ := dk_of I.hok hp
  obtain ⟨ep, hat⟩ := m.dictAt
  have hlen := rr.length
  have hks := rr.keys
  refine PySem.W.kdl_call (PySem.W.kdl_dict (knd := mixKind X.prog X.w) (kvs := vs) (ep := ep) hS) (I.ok.hd hc) hat (by omega) fun h' tk acc' c' hk hD hacc => ?_
  have hv : Vals (kvs.map fun kv => kV kv.1) acc'.toList := by
    refine Vals.ofIx (by rw [List.length_map, hlen]; simpa using hacc.1) fun i v hv => ?_
    obtain ⟨k, x, hx, hki⟩ := hacc.2 i v (by simpa using hv)
    refine ⟨kV k, ?_, keyIs_rel hki⟩
    have e1 : (kvs.map (·.1))[i]? = some k := by rw [hks, List.getElem?_map, hx]; rfl
    rw [List.getElem?_map] at e1 ⊢
    cases hq : kvs[i]? with
    | none => rw [hq] at e1; cases e1
    | some kv => rw [hq] at e1; cases e1; rfl
  exact ⟨.ref _, _, I.laid (t' := tk) hk (Nat.le_refl _) (show ObjOk X.prog X.w _ h' _ (.lst (kvs.map fun kv => kV kv.1)) from ⟨by rw [List.length_map]; exact hz, acc'.toList, c', hv, by simpa using hD⟩), rfl, q _ (I.hok.fresh (Nat.le_refl _))⟩
end L2
namespace HT
open PySem PyProof.Rows
section
open PySem.SeqAt
open PySem.AutoSeq1 (wpAny_loadPart')
open PySem.MeetsSeq PySem.MeetsSeq2 PySem.MeetsSeq3
end
end HT
namespace L2
open PySem PySem.Spec PyProof.Rows
end L2
namespace L2
end L2
namespace GW
end GW
set_option Elab.async false
set_option linter.all false
set_option maxRecDepth 100000
set_option maxHeartbeats 4000000
namespace L2
open PySem PySem.Spec PyProof.Rows
end L2
namespace L2
open PySem PySem.Spec PyProof.Rows
def rng (i j : Int) : List Int := (List.range (j - i).toNat).map fun k : Nat => i + (k : Int)
end L2
namespace GW
open L2
theorem perm_of_sub : ∀ {l m : List Int}, l.Nodup -> (∀ x ∈ l, x ∈ m) -> m.length <= l.length -> l.Perm m
  | [], m, _, _, h => by
    have : m = [] := List.eq_nil_of_length_eq_zero (by simpa using h)
    subst this; exact .refl _
  | x :: l, m, hn, h, hl => by
    have hx := h x List.mem_cons_self
    have hn' := List.nodup_cons.mp hn
    have p := perm_of_sub (l := l) (m := m.erase x) hn'.2 (fun y hy => (List.mem_erase_of_ne (fun (z : y = x) => hn'.1 (z ▸ hy))).mpr (h y (List.mem_cons_of_mem _ hy))) (by rw [List.length_erase_of_mem hx]; simp at hl; omega)
    exact (p.cons x).trans (List.perm_cons_erase hx).symm
theorem ups_nodup (n : Nat) : (ups n).Nodup := by
  unfold ups
  exact List.Pairwise.map (R := (· ≠ ·)) _ (fun a b hab z => hab (by omega)) List.nodup_range
theorem ups_mem {n : Nat} {x : Int} : x ∈ ups n ↔ 0 <= x /\ x < (n : Int) := by
  unfold ups
  rw [List.mem_map]
  constructor
  . rintro ⟨r, hr, rfl⟩
    have := List.mem_range.mp hr
    omega
  . exact fun h => ⟨x.toNat, List.mem_range.mpr (by omega), by omega⟩
theorem ups_len (n : Nat) : (ups n).length = n := by simp [ups]
def IsOrd (n : Nat) (o : List Int) : Prop := o.Perm (ups n) /\ o[0]? = some 0
theorem IsOrd.len {n : Nat} {o : List Int} (h : IsOrd n o) : o.length = n := by rw [h.1.length_eq, ups_len]
theorem IsOrd.nod {n : Nat} {o : List Int} (h : IsOrd n o) : o.Nodup := (h.1.nodup_iff).mpr (ups_nodup n)
theorem IsOrd.mem {n : Nat} {o : List Int} (h : IsOrd n o) {x : Int} : x ∈ o ↔ 0 <= x /\ x < (n : Int) := by rw [h.1.mem_iff, ups_mem]
def ordW (o : List Int) (r : Int) : Int := o.getD r.toNat 0
theorem ordW_at {o : List Int} {r : Int} (h0 : 0 <= r) (h1 : r < o.length) : o[r.toNat]? = some (ordW o r) := by
  unfold ordW
  rw [List.getD_eq_getElem?_getD, List.getElem?_eq_getElem (by omega)]; rfl
theorem IsOrd.at {n : Nat} {o : List Int} (h : IsOrd n o) {r : Int} (h0 : 0 <= r) (h1 : r < (n : Int)) : o[r.toNat]? = some (ordW o r) /\ 0 <= ordW o r /\ ordW o r < (n : Int) := by
  have := ordW_at (o := o) h0 (by rw [h.len]; exact h1)
  exact ⟨this, h.mem.mp (List.mem_of_getElem? this)⟩
theorem IsOrd.inv {n : Nat} {o : List Int} (h : IsOrd n o) {x : Int} (h0 : 0 <= x) (h1 : x < (n : Int)) : ∃ r : Nat, r < n /\ o[r]? = some x := by
  obtain ⟨r, hr, e⟩ := List.getElem_of_mem (h.mem.mpr ⟨h0, h1⟩)
  exact ⟨r, by rw [<- h.len]; exact hr, by rw [List.getElem?_eq_getElem hr, e]⟩
end GW
namespace GW
end GW
namespace GW
open L2
def setAll {α : Type} (o : List Int) (f : Nat -> α) : Nat -> List α -> List α
  | 0, d => d
  | i + 1, d => (setAll o f i d).set (ordW o i).toNat (f i)
theorem setAll_len {α : Type} (o : List Int) (f : Nat -> α) : ∀ (i : Nat) (d : List α), (setAll o f i d).length = d.length
  | 0, _ => rfl
  | i + 1, d => by rw [setAll, List.length_set, setAll_len o f i d]
theorem IsOrd.inj {n : Nat} {o : List Int} (h : IsOrd n o) {r q : Nat} (hr : r < n) (hq : q < n) (e : ordW o r = ordW o q) : r = q := by
  have a := (h.at (r := (r : Int)) (by omega) (by omega)).1
  have b := (h.at (r := (q : Int)) (by omega) (by omega)).1
  rw [Int.toNat_natCast] at a b
  have hr' : r < o.length := by rw [h.len]; exact hr
  have hq' : q < o.length := by rw [h.len]; exact hq
  refine (List.getElem_inj (h₀ := hr') (h₁ := hq') h.nod).mp ?_
  rw [List.getElem?_eq_getElem hr'] at a
  rw [List.getElem?_eq_getElem hq'] at b
  rw [Option.some.inj a, Option.some.inj b, e]
theorem setAll_at {α : Type} {n : Nat} {o : List Int} (h : IsOrd n o) (f : Nat -> α) : ∀ (i : Nat) (d : List α), i <= n -> d.length = n -> ∀ r : Nat, r < i -> (setAll o f i d)[(ordW o r).toNat]? = some (f r)
  | 0, _, _, _, r, hr => absurd hr (Nat.not_lt_zero _)
  | i + 1, d, hi, hd, r, hr => by
    have b := (h.at (r := (r : Int)) (by omega) (by omega)).2
    have c := (h.at (r := (i : Int)) (by omega) (by omega)).2
    rw [setAll]
    by_cases e : r = i
    . subst e
      rw [List.getElem?_set_self (by rw [setAll_len, hd]; omega)]
    . have ne : ordW o i ≠ ordW o r := fun z => e (h.inj (by omega) (by omega) z.symm)
      rw [List.getElem?_set_ne (by omega)]
      exact setAll_at h f i d (by omega) hd r (by omega)
def turnM (n : Nat) (o marks : List Int) : List Int := setAll o (fun r => marks.getD r 0) n (List.replicate n 0)
def turnW (n : Nat) (o : List Int) (ways : List (List Int)) : List (List Int) := setAll o (fun r => (ways.getD r []).map (ordW o)) n (List.replicate n [])
end GW
namespace L2
open PySem PySem.Spec PyProof.Rows GW
theorem TupsL.set {K : PySem.W.Frag} {H : Hp} {l t : Addr} {ws : List (List Int)} {w : List Int} {j : Nat} (h : TupsL K H l ws) (hw : SqT K H t (w.map V.int)) : ∃ xs, H l = some (.lst xs) /\ xs.length = ws.length /\ TupsL K (upd H l (.lst (xs.set j (V.ref t)))) l (ws.set j w) := by
  obtain ⟨ts, h1, h2, h3⟩ := h
  refine ⟨_, h1, by simpa using h2, ts.set j t, by rw [upd_same, List.map_set], by simpa using h2, fun i t' w' a b => ?_⟩
  have key : ∀ {u : Addr} {v : List Int}, SqT K H u (v.map V.int) -> SqT K (upd H l (.lst ((ts.map V.ref).set j (V.ref t)))) u (v.map V.int) := fun q => seqT_off h1 q
  by_cases e : j = i
  . subst e
    rw [List.getElem?_set_self (by have := (List.getElem?_eq_some_iff.mp a).1; simpa using this)] at a
    rw [List.getElem?_set_self (by have := (List.getElem?_eq_some_iff.mp b).1; simpa using this)] at b
    cases a; cases b
    exact key hw
  . rw [List.getElem?_set_ne e] at a b
    exact key (h3 i t' w' a b)
end L2
namespace L2
theorem rep_flat {α : Type} (x : α) : ∀ n : Nat, (List.replicate n [x]).flatten = List.replicate n x
  | 0 => rfl
  | n + 1 => by rw [List.replicate_succ, List.flatten_cons, rep_flat x n, List.replicate_succ]; rfl
end L2
namespace L2
theorem ixN_in {n : Nat} {x : Int} (h0 : 0 <= x) (h1 : x < (n : Int)) : ixN n x = some x.toNat := by
  unfold ixN
  simp only [h0, h1, and_self, if_true]
end L2
namespace L2
open PySem PySem.Spec PyProof.Rows GW
end L2
namespace GW
theorem turnM_len (n : Nat) (o marks : List Int) : (turnM n o marks).length = n := by unfold turnM; rw [setAll_len, List.length_replicate]
theorem turnW_len (n : Nat) (o : List Int) (ways : List (List Int)) : (turnW n o ways).length = n := by unfold turnW; rw [setAll_len, List.length_replicate]
theorem turnM_at {n : Nat} {o : List Int} (h : IsOrd n o) (marks : List Int) {r : Nat} (hr : r < n) : (turnM n o marks)[(ordW o r).toNat]? = some (marks.getD r 0) := setAll_at h _ n _ (Nat.le_refl _) (List.length_replicate) r hr
theorem turnW_at {n : Nat} {o : List Int} (h : IsOrd n o) (ways : List (List Int)) {r : Nat} (hr : r < n) : (turnW n o ways)[(ordW o r).toNat]? = some ((ways.getD r []).map (ordW o)) := setAll_at h _ n _ (Nat.le_refl _) (List.length_replicate) r hr
end GW
namespace GW
open L2
end GW
set_option Elab.async false
set_option linter.all false
set_option maxRecDepth 100000
set_option maxHeartbeats 4000000
namespace GW
open L2
theorem IsOrd.nat {n : Nat} {o : List Int} (h : IsOrd n o) {j : Nat} (hj : j < n) : ∃ r : Nat, r < n /\ ordW o r = (j : Int) := by
  obtain ⟨r, hr, er⟩ := h.inv (x := (j : Int)) (by omega) (by omega)
  have a := (h.at (r := (r : Int)) (by omega) (by omega)).1
  rw [Int.toNat_natCast, er] at a
  exact ⟨r, hr, (Option.some.inj a).symm⟩
theorem Wf.getW {L : Int} {marks : List Int} {ways : List (List Int)} (wf : Wf L marks ways) {r : Nat} (hr : r < marks.length) : ways[r]? = some (ways.getD r []) /\ ways.getD r [] ∈ ways := by
  have hlt : r < ways.length := by rw [wf.len]; exact hr
  have e : ways.getD r [] = ways[r] := by rw [List.getD_eq_getElem?_getD, List.getElem?_eq_getElem hlt]; rfl
  rw [e]
  exact ⟨List.getElem?_eq_getElem hlt, List.getElem_mem hlt⟩
theorem turn_row {L : Int} {marks : List Int} {ways : List (List Int)} {o : List Int} (wf : Wf L marks ways) (h : IsOrd marks.length o) {j : Nat} {row : List Int} (hj : (turnW marks.length o ways)[j]? = some row) : ∃ r : Nat, r < marks.length /\ ordW o r = (j : Int) /\ row = (ways.getD r []).map (ordW o) := by
  have hlt := (List.getElem?_eq_some_iff.mp hj).1
  rw [turnW_len] at hlt
  obtain ⟨r, hr, er⟩ := h.nat hlt
  have := turnW_at h ways hr
  rw [er, Int.toNat_natCast, hj] at this
  exact ⟨r, hr, er, Option.some.inj this⟩
theorem turn_wf {L : Int} {marks : List Int} {ways : List (List Int)} {o : List Int} (wf : Wf L marks ways) (h : IsOrd marks.length o) : Wf L (turnM marks.length o marks) (turnW marks.length o ways) := by
  refine ⟨wf.l1, wf.l6, by rw [turnM_len]; exact wf.n1, by rw [turnM_len]; exact wf.n40, by rw [turnM_len, turnW_len], fun row hrow => ?_, fun m hm => ?_⟩
  . rw [turnM_len]
    obtain ⟨j, hj, e⟩ := List.getElem_of_mem hrow
    obtain ⟨r, hr, _, rfl⟩ := turn_row wf h (j := j) (row := row) (by rw [List.getElem?_eq_getElem hj, e])
    have hw := wf.rows _ (wf.getW hr).2
    refine ⟨by rw [List.length_map]; exact hw.1, fun x hx => ?_⟩
    obtain ⟨g, hg, rfl⟩ := List.mem_map.mp hx
    have := hw.2 g hg
    exact (h.at this.1 this.2).2
  . obtain ⟨j, hj, e⟩ := List.getElem_of_mem hm
    have hlt := hj
    rw [turnM_len] at hlt
    obtain ⟨r, hr, er⟩ := h.nat hlt
    have := turnM_at h marks hr
    rw [er, Int.toNat_natCast, List.getElem?_eq_getElem hj, e] at this
    have : m = marks.getD r 0 := Option.some.inj this
    rw [this, List.getD_eq_getElem?_getD, List.getElem?_eq_getElem hr]
    exact wf.mks _ (List.getElem_mem hr)
end GW
set_option Elab.async false
set_option linter.all false
set_option maxRecDepth 100000
set_option maxHeartbeats 4000000
namespace PySem
open Sem (wp)
def Heap.DEnt (h : Heap) (d : Addr) (es : Array DictEntry) (ep : Nat) : Prop := ∃ o, h.get? d = some o /\ o.ExactDict /\ o.data = .dict es ep
section
variable {prog : Program} {w : World} {A : Around} {E : Value -> Shared -> Prop} {s : Shared} {d it : Addr} {es : Array DictEntry} {i ep : Nat}
theorem Heap.DEnt.typeIs (h : s.heap.DEnt d es ep) : s.TypeIs (.ref d) "dict" := let ⟨o, ho, hc, _⟩ := h; ⟨o, ho, hc.1⟩
theorem pyIter_dent {Q : Value -> Shared -> Prop} (hd : (d == sysModules) = false) (hm : s.heap.DEnt d es ep)
    (hQ : Q (.ref s.heap.objs.size) { s with heap := s.heap.push { cls := .type "dict_keyiterator", data := .fields #[.ref d, .int 0 0, .int es.size 0, .int ep 0] } }) : wpAny (model prog w) A (pyIter (.ref d)) Q E s := by
  have hT := hm.typeIs
  obtain ⟨o, ho, hc, hdat⟩ := id hm
  refine wpAny_pyIter_slot hT F.slot_dict_iter (wpAny_call_entry F.slot_dict_iter hT F.entry_dict_iter (?_ : wpAny _ _ (Builtin.«dict.__iter__» _) _ _ s) (F.args_dict_iter_1 _))
  unfold Builtin.«dict.__iter__»; refine wpAny_bind ?_
  unfold Builtin.Dict.dictSlotNone; refine wpAny_bind (wpAny_notOrdered_dict hT ?_)
  show wpAny _ _ (pure (Value.ref d)) _ _ s; refine wpAny_pure ?_
  show wpAny _ _ (Builtin.Dict.showsAll d >>= _) _ _ s; unfold Builtin.Dict.showsAll
  rw [if_neg (fun z => by rw [hd] at z; cases z)]
  refine wpAny_bind (wpAny_pure (wpAny_bind (wpAny_dictEntries ho hdat (wpAny_bind (wpAny_dictEpoch ho hdat ?_)))))
  refine wpAny_bind (wpAny_newObj_type (wpAny_pure ⟨_, rfl, "dict_keyiterator", _, ⟨_, Heap.get?_push_size _ rfl, rfl⟩, F.slot_dict_keyiterator_next.lookup, ?_⟩)); simpa [rawInt] using hQ
theorem pyNext_dent_item {Q : Option Value -> Shared -> Prop} (hit : s.heap.IsKeyIter it d i es.size ep) (hm : s.heap.DEnt d es ep) (hlt : i < es.size)
    (hQ : ∀ h', h'.IsKeyIter it d (i + 1) es.size ep -> Heap.SameBut it s.heap h' -> Q (some es[i].key) { s with heap := h' }) : wpAny (model prog w) A (pyNext (.ref it)) Q E s := by
  obtain ⟨o, ho, hc, hd⟩ := id hit
  obtain ⟨od, hod, hcd, hdd⟩ := id hm
  have hown : Builtin.Dict_items.ownsTuple "dict_keyiterator" = false := by decide
  unfold pyNext
  refine wpAny_bind (wpAny_attempt (wpAny_callSpecial?_slot (name := Str.ofString "__next__") hit.typeIs F.slot_dict_keyiterator_next (wpAny_call_entry F.slot_dict_keyiterator_next hit.typeIs F.entry_dict_keyiterator_next ?_ (F.args_dict_keyiterator_next_1 _))))
  refine wpAny_bind (wpAny_pure (wpAny_bind (wpAny_bind ?_)))
  first | refine wpAny_bind (wpAny_typeNameOfWhole_keyiter hit.typeIs (wpAny_pure (wpAny_bind (wpAny_fieldsOf ho hd ?_)))) | refine wpAny_bind (wpAny_typeNameOf_keyiter hit.typeIs (wpAny_pure (wpAny_bind (wpAny_fieldsOf ho hd ?_))))
  simp only [hown, Bool.false_eq_true, if_false]; show wpAny _ _ (if (Value.ref d == Value.none) = true then _ else _) _ _ s
  rw [if_neg (show ¬ ((Value.ref d == Value.none) = true) from fun z => Bool.false_ne_true z)]
  refine wpAny_bind (wpAny_pure (wpAny_bind (wpAny_dictEntries hod hdd ?_)))
  rw [if_neg (by simp)]; refine wpAny_bind (wpAny_pure (wpAny_bind (wpAny_dictEpoch hod hdd ?_)))
  rw [if_neg (by simp)]; refine wpAny_pure ?_
  simp only [show ¬ ((i : Int) < 0) from by omega, if_false, Int.toNat_natCast, Array.getElem?_eq_getElem hlt]; refine wpAny_bind ?_
  first | refine wpAny_bind (wpAny_typeNameOfWhole_keyiter hit.typeIs (wpAny_pure (wpAny_bind (wpAny_isOneOf_keyiter hit.typeIs ?_)))) | refine wpAny_bind (wpAny_typeNameOf_keyiter hit.typeIs (wpAny_pure (wpAny_bind (wpAny_isOneOf_keyiter hit.typeIs ?_))))
  show wpAny _ _ (setField (.ref it) 1 (rawInt ((i : Int) + 1)) >>= _) _ _ s; refine wpAny_bind (wpAny_setField ho hd (by simp) ?_)
  have hit' : (s.heap.update it (Obj.mapFields (·.setIfInBounds 1 (rawInt ((i : Int) + 1))))).IsKeyIter it d (i + 1) es.size ep := ⟨_, Heap.get?_update_self _ ho (Obj.isFreed_of_fields (Obj.data_mapFields hd _)), (Obj.cls_mapFields ..).trans hc, by rw [Obj.data_mapFields hd]; simp [rawInt]⟩
  refine wpAny_bind (wpAny_holding (wpAny_bind (wpAny_isOneOf_keyiter (s := { s with heap := s.heap.update it (Obj.mapFields (·.setIfInBounds 1 (rawInt ((i : Int) + 1)))) }) hit'.typeIs ?_)))
  show wpAny _ _ (pure es[i].key) _ _ _; exact wpAny_pure (wpAny_pure ⟨_, rfl, wpAny_pure (hQ _ hit' (Heap.SameBut.update ..))⟩)
theorem pyNext_dent_end {Q : Option Value -> Shared -> Prop} (hh : A.handled = none) (hit : s.heap.IsKeyIter it d i es.size ep) (hm : s.heap.DEnt d es ep) (hge : es.size <= i)
    (hQ : ∀ h', Heap.ExtBut it s.heap h' -> Q none { s with heap := h' }) : wpAny (model prog w) A (pyNext (.ref it)) Q E s := by
  obtain ⟨o, ho, hc, hd⟩ := id hit
  obtain ⟨od, hod, hcd, hdd⟩ := id hm
  have hown : Builtin.Dict_items.ownsTuple "dict_keyiterator" = false := by decide
  unfold pyNext
  refine wpAny_bind (wpAny_attempt (wpAny_callSpecial?_slot (name := Str.ofString "__next__") hit.typeIs F.slot_dict_keyiterator_next (wpAny_call_entry F.slot_dict_keyiterator_next hit.typeIs F.entry_dict_keyiterator_next ?_ (F.args_dict_keyiterator_next_1 _))))
  refine wpAny_bind (wpAny_pure (wpAny_bind (wpAny_bind ?_)))
  first | refine wpAny_bind (wpAny_typeNameOfWhole_keyiter hit.typeIs (wpAny_pure (wpAny_bind (wpAny_fieldsOf ho hd ?_)))) | refine wpAny_bind (wpAny_typeNameOf_keyiter hit.typeIs (wpAny_pure (wpAny_bind (wpAny_fieldsOf ho hd ?_))))
  simp only [hown, Bool.false_eq_true, if_false]; show wpAny _ _ (if (Value.ref d == Value.none) = true then _ else _) _ _ s
  rw [if_neg (show ¬ ((Value.ref d == Value.none) = true) from fun z => Bool.false_ne_true z)]
  refine wpAny_bind (wpAny_pure (wpAny_bind (wpAny_dictEntries hod hdd ?_)))
  rw [if_neg (by simp)]; refine wpAny_bind (wpAny_pure (wpAny_bind (wpAny_dictEpoch hod hdd ?_)))
  rw [if_neg (by simp)]; refine wpAny_pure ?_
  simp only [show ¬ ((i : Int) < 0) from by omega, if_false, Int.toNat_natCast, Array.getElem?_eq_none hge]; refine wpAny_bind ?_
  first | refine wpAny_bind (wpAny_typeNameOfWhole_keyiter hit.typeIs (wpAny_pure ?_)) | refine wpAny_bind (wpAny_typeNameOf_keyiter hit.typeIs (wpAny_pure ?_))
  show wpAny _ _ (setField (.ref it) 0 .none >>= _) _ _ s; refine wpAny_bind (wpAny_setField ho hd (by simp) ?_)
  show wpAny _ _ (newExc (.type "StopIteration") [] >>= _) _ _ _; refine wpAny_bind ?_
  simp only [newExc, newTuple]; refine wpAny_bind (wpAny_newObj_type ?_ (by size_fits))
  refine wpAny_bind (m := firstArgMember _ _) (wpAny_of_eq (a := Value.none) (by first | rfl | (simp only [firstArgMember]; rfl)) (wpAny_newObj_type ?_ (by size_fits)))
  simp only [raiseNew]; refine wpAny_bind (wpAny_handled ?_)
  rw [show A.in1.handled = none from hh]; refine wpAny_bind (wpAny_pure (wpAny_throw ?_))
  refine wpAny_bind (wpAny_isInstance (T := "StopIteration") (b := true) ⟨_, Heap.get?_push_size _ rfl, rfl⟩ isSubtype_stop (wpAny_pure (hQ _ (((Heap.SameBut.update ..).extBut.push _).push _))))
end
end PySem
namespace L2
open PySem PySem.Spec PyProof.Rows
theorem paired_get {α β : Type} {F : α -> β -> Prop} : ∀ {l : List α} {m : List β} {i : Nat} {a : α}, Paired F l m -> l[i]? = some a -> ∃ b, m[i]? = some b /\ F a b
  | _, _, _, _, .nil, e => by simp at e
  | _, _, 0, _, .cons r _, e => by simp at e; subst e; exact ⟨_, rfl, r⟩
  | _, _, i + 1, a, .cons _ t, e => by
    obtain ⟨b, h1, h2⟩ := paired_get (i := i) (a := a) t (by simpa using e)
    exact ⟨b, by simpa using h1, h2⟩
theorem dent_of {P : Program} {w : World} {H : Hp} {h : Heap} {a : Addr} {kvs : List (List Key × V)} (ok : HOk P w H h) (e : Rd H a (.dT kvs)) :
    ∃ o es ep, h.get? a = some o /\ o.ExactDict /\ o.data = .dict es ep /\ es.size = kvs.length /\ (a == sysModules) = false /\ kvs.length <= sizeLine /\
      ∀ (i : Nat) (k : List Key) (v : V), kvs[i]? = some (k, v) -> ∃ b en, es[i]? = some en /\ en.key = .ref b /\ H b = some (.tup (k.map kV)) := by
  obtain ⟨z, y, xs, r, o, es, ep, h1, h2, h3, h4, h5⟩ := (show ObjOk P w H h a (.dT kvs) from rd_of ok e)
  have hl := Paired.length r
  have hs : es.size = kvs.length := by rw [<- Array.length_toList, h4, List.length_map, hl]
  refine ⟨o, es, ep, h1, h2, h3, hs, y, z, fun i k v hk => ?_⟩
  obtain ⟨q, hq, e1, e2, _⟩ := paired_get r hk
  refine ⟨q.2.1, entryOfKey (tupleKind (mixKind P w)) q, ?_, rfl, e2⟩
  rw [<- Array.getElem?_toList, h4, List.getElem?_map, hq]; rfl
section
variable {X : Cx} {pins : List (Addr × Obj)} {σ : St} {H : Hp} {s : Shared} {a : Addr}
theorem Inv.freeze {kvs : List (List Key × V)} {o : Obj} (I : Inv X pins σ H s) (e : H a = some (.dT kvs)) (ho : s.heap.get? a = some o) : Inv X pins σ (upd H a (.frz o (.dT kvs))) s := by
  refine d_write (h' := s.heap) (t' := s.toks) I (by rw [e]; exact True.intro) ⟨rfl, fun _ _ => rfl⟩ ⟨o, ho⟩ ?_
  obtain ⟨z, y, xs, r, q⟩ := (show ObjOk X.prog X.w H s.heap a (.dT kvs) from I.hok a _ e)
  refine ⟨ho, z, y, xs, Paired.mapP r fun p x hx => ⟨hx.1, ?_, hx.2.2⟩, q⟩
  rw [upd_ne (fun z => by have h1 := hx.2.1; rw [z, e] at h1; cases h1)]
  exact hx.2.1
end
def Itd (o : Obj) (a : Addr) (kvs : List (List Key × V)) : It := ⟨fun i H => i < kvs.length /\ H a = some (.frz o (.dT kvs)), fun i H x H' => H' = H /\ ∃ b k v, kvs[i]? = some (k, v) /\ x = .ref b /\ H b = some (.tup (k.map kV)), fun i H => kvs.length <= i /\ H a = some (.frz o (.dT kvs))⟩
theorem turn_dictT {P : Program} {w : World} {K : PySem.W.Frag} {tg : Expr} {o : Obj} {a it : Addr} {kvs : List (List Key × V)} {es : Array DictEntry} {ep : Nat} (hai : a ≠ it) (hc : o.ExactDict) (hd : o.data = .dict es ep) (hs : es.size = kvs.length) :
    Turn P w K tg (Itd o a kvs) [it] it (fun i h => h.IsKeyIter it a i es.size ep) where
  mem := by simp
  obj := fun i h st b hb => by
    have e : b = it := by simpa using hb
    subst e
    obtain ⟨o, e, c, d⟩ := st
    exact ⟨o, e, fun v z => by rw [d] at z; cases z⟩
  keep := fun i h h' st k => st.at fun o e => k it (by simp) o e
  item := by
    intro X hP hw hK hcm i pins s σ H E I hf st hg
    subst hP hw hK
    obtain ⟨hi, hq⟩ := hg
    obtain ⟨hko, _⟩ := (show ObjOk X.prog X.w H s.heap a (.frz o (.dT kvs)) from I.hok a _ hq)
    obtain ⟨o', es', ep', g1, g2, g3, g4, g5, g6, g7⟩ := dent_of I.hok (.inr ⟨o, hq⟩)
    rw [hko] at g1
    cases g1
    rw [hd] at g3
    cases g3
    obtain ⟨kv, hkv⟩ : ∃ kv, kvs[i]? = some kv := ⟨kvs[i], by simp [hi]⟩
    obtain ⟨k, v⟩ := kv
    obtain ⟨b, en, e1, e2, e3⟩ := g7 i k v hkv
    obtain ⟨f0, f1, f2, f3, f4, f5⟩ := hf it (by simp)
    have hlt : i < es.size := by omega
    have ee : es[i] = en := by rw [Array.getElem?_eq_getElem hlt] at e1; exact Option.some.inj e1
    refine pyNext_dent_item st ⟨o, hko, hc, hd⟩ hlt fun h' st' sb => ?_
    have I1 : Inv X pins σ H { s with heap := h' } := I.turned (t' := s.toks) (fun b o hb e => (sb.2 b hb).trans e) f0 f1 f3 f4 f5
    obtain ⟨io, e, c, d⟩ := id st'
    exact ⟨_, rfl, go_of (s := { s with heap := h' }) e c d (by decide) ⟨.ref b, H, I1, (by rw [ee, e2]; rfl), ⟨rfl, b, k, v, hkv, rfl, e3⟩, st', fun b hb => (hf b hb).1⟩⟩
  done := by
    intro X hP hw hK hcm i pins s σ H E I hf st hg
    subst hP hw hK
    obtain ⟨hi, hq⟩ := hg
    obtain ⟨hko, _⟩ := (show ObjOk X.prog X.w H s.heap a (.frz o (.dT kvs)) from I.hok a _ hq)
    obtain ⟨f0, f1, f2, f3, f4, f5⟩ := hf it (by simp)
    exact pyNext_dent_end (I.ok.hd hcm) st ⟨o, hko, hc, hd⟩ (by omega) fun h' eb => ⟨rfl, I.turned (t' := s.toks) (fun b o hb e => eb b o hb e) f0 f1 f3 f4 f5⟩
  self := fun _ _ _ _ _ st h => wpAny_pyIter_keyiter st h
def iDictT (td : TE) : TI := fun σ H R => td σ H fun x H1 => ∃ a kvs, x = .ref a /\ H1 a = some (.dT kvs) /\ ∀ o, R (Itd o a kvs) (upd H1 a (.frz o (.dT kvs)))
theorem r_iDictT {te : TE} {σ : St} {H : Hp} {Z : It -> Hp -> Prop} : iDictT te σ H Z = te σ H fun x H1 => ∃ a kvs, x = .ref a /\ H1 a = some (.dT kvs) /\ ∀ o, Z (Itd o a kvs) (upd H1 a (.frz o (.dT kvs))) := rfl
theorem pi_dictT {X : Cx} {tg : Expr} {l : Expr} {tl : TE} (hl : PE X l tl) : PI X tg l (iDictT tl) := by
  intro pins s σ H R I h
  refine thn (hl pins s σ H _ I h) fun v s1 ⟨x, H1, I1, r1, q1⟩ => ?_
  obtain ⟨a, kvs, e, hq, q⟩ := q1
  subst e
  cases r1
  obtain ⟨o, es, ep, g1, g2, g3, g4, g5, g6, g7⟩ := dent_of I1.hok (.inl hq)
  have I2 := I1.freeze hq g1
  refine pyIter_dent g5 ⟨o, g1, g2, g3⟩ ?_
  refine ⟨s1.heap.objs.size, [s1.heap.objs.size], _, _, _, rfl, I2.kept (t' := s1.toks) fun b o e => Heap.get?_push_of_some _ e, turn_dictT (o := o) (kvs := kvs) (Nat.ne_of_lt (Heap.lt_size g1)) g2 g3 g4, ⟨_, Heap.get?_push_size _ rfl, rfl, rfl⟩, fun b hb => ?_, q o⟩
  have e : b = s1.heap.objs.size := by simpa using hb
  subst e
  exact I2.fpOk (Nat.le_refl _) (I2.hok.fresh (Nat.le_refl _))
theorem forD {o : Obj} {a : Addr} {kvs : List (List Key × V)} {g : TG} {tb : TS} {D : Ends} {σ : St} {H : Hp} (Pv : Nat -> St -> Hp -> Prop) (h0 : Pv 0 σ H) (hl : ∀ i σ H, i <= kvs.length -> Pv i σ H -> H a = some (.frz o (.dT kvs)))
    (hs : ∀ i k v b σ H, kvs[i]? = some (k, v) -> Pv i σ H -> H b = some (.tup (k.map kV)) -> g (.ref b) σ H fun σ2 H2 => tb { D with nx := Pv (i + 1), ct := Pv (i + 1), bk := D.nx } σ2 H2) (hd : ∀ σ H, Pv kvs.length σ H -> D.nx σ H) : ForW (Itd o a kvs) g tb D σ H := by
  refine ⟨fun i m σ H => m + i = kvs.length /\ Pv i σ H, ⟨kvs.length, by omega, h0⟩, fun i m σ H ⟨hm, hp⟩ => ?_⟩
  have hq := hl i σ H (by omega) hp
  by_cases hi : i < kvs.length
  . refine .inr ⟨⟨hi, hq⟩, Pv (i + 1), fun σ' H' h => ⟨m - 1, by omega, by omega, h⟩, fun x H' hy => ?_⟩
    obtain ⟨rfl, b, k, v, hk, rfl, hb⟩ := hy
    exact hs i k v b σ _ hk hp hb
  . have e : i = kvs.length := by omega
    subst e
    exact .inl ⟨⟨Nat.le_refl _, hq⟩, hd σ H hp⟩
def tDispT1 (tk tv : TE) : TE := fun σ H Q => ∀ p, H p = none -> tk σ (upd H p (.dT [])) fun x H1 => tv σ H1 fun y H2 => H2 p = some (.dT []) /\ ∃ b k, x = .ref b /\ H2 b = some (.tup (k.map kV)) /\ Q (.ref p) (upd H2 p (.dT [(k, y)]))
theorem r_dispT1 {tk tv : TE} {σ : St} {H : Hp} {Q : VK} : tDispT1 tk tv σ H Q = ∀ p, H p = none -> tk σ (upd H p (.dT [])) fun x H1 => tv σ H1 fun y H2 => H2 p = some (.dT []) /\ ∃ b k, x = .ref b /\ H2 b = some (.tup (k.map kV)) /\ Q (.ref p) (upd H2 p (.dT [(k, y)])) := rfl
theorem pe_dispT1 {X : Cx} {pos : Pos} {k v : Expr} {tk tv : TE} (hu : X.A.units + 1 < cLine) (hk : PE X k tk) (hv : PE X v tv) : PE X (.Dict [some k] [v] pos) (tDispT1 tk tv) := by
  intro pins s σ H Q I q
  have hn := I.hok.fresh (Nat.le_refl s.heap.objs.size)
  have I1 := I.laid (a := s.heap.objs.size) (o := .dT []) (h' := s.heap.push { cls := .type "dict", data := .dict #[] }) (t' := s.toks) (fun _ _ q => Heap.get?_push_of_some _ q) (Nat.le_refl _) (dt_empty s.heap I.big)
  refine wpAny_Dict_any rfl rfl (by intro z; cases z) (by show 1 <= 15; decide) (pairTrees_cons_walk (thn (hk pins _ σ _ _ I1 (q _ hn)) fun u s1 ⟨x, H1, J1, rx, q1⟩ => thn (hv pins s1 σ H1 _ J1 q1) fun w2 s2 ⟨y, H2, J2, ry, q2⟩ => pairTrees_nil_walk ?_))
  obtain ⟨e, b, ks, rfl, hb, q3⟩ := q2
  obtain rfl : u = Value.ref b := rx
  obtain ⟨z, hd, xs, rel, dd⟩ := dt_of J2.hok e
  cases rel
  unfold storeAll
  rw [List.forIn_cons]
  refine wpAny_bind (wpAny_bind (wpAny_dictSet_heap (hsz := by simp) (show (tupleKind (mixKind X.prog X.w)).room X.A from (show X.A.units < cLine by omega)) (key_of J2.hok hb) dd fun h' dd' hs => wpAny_pure ?_))
  show wpAny _ _ (forIn [] PUnit.unit _) _ _ _
  rw [List.forIn_nil]
  refine wpAny_pure ⟨.ref s.heap.objs.size, _, ?_, rfl, q3⟩
  obtain ⟨qo, es, ep, hq, h2, h3, h4, _, h5⟩ := dd'
  have hl : ([(ks, y)] : List (List Key × V)).length <= sizeLine := by rw [sizeLine_eq]; simp
  refine d_write J2 (by rw [e]; exact True.intro) hs ⟨qo, hq⟩ ⟨hl, hd, _, KT.keeps (.cons ⟨rfl, hb, ry⟩ .nil) fun c ys ec => ?_, qo, es, ep, hq, h2, h3, h4, h5⟩
  rw [upd_ne (ne_of ec e (fun z => nomatch z))]
  exact ec
theorem ps_setDT {X : Cx} {i : Nat} {x : Str} {k v : Expr} {tk tv : TE} {pos pos' dpos : Pos} (hu : X.A.units + 1 < cLine) (hN : X.N.Nodup) (hi : X.N[i]? = some x) (hx : Loc X.env.scope x) (hk : PE X k tk) (hv : PE X v tv) (hs : swapsWith (.Dict [some k] [v] dpos) (some (.Name x pos')) pos.line X.env = pure false)
    (hf : X.fn x = true \/ X.env.scope.names.lookup x = some .local) : PS X (.Assign [.Name x pos'] (.Dict [some k] [v] dpos) pos) (tAsg (tDispT1 tk tv) (gName i)) := ps_set hN hi hx (pe_dispT1 hu hk hv) hs hf
end L2
namespace HT
open PySem PyProof.Rows
section
open PySem.SeqAt
open PySem.AutoSeq1 (wpAny_loadPart')
open PySem.MeetsSeq PySem.MeetsSeq2 PySem.MeetsSeq3
end
end HT
namespace L2
open PySem PySem.Spec PyProof.Rows
end L2
set_option Elab.async false
set_option linter.all false
set_option maxRecDepth 100000
set_option maxHeartbeats 4000000
namespace GB
open GW
variable {α : Type} [DecidableEq α]
def walkF (step : α -> Int -> α) (a : α) (ws : List Int) : α := ws.foldl step a
theorem walkF_snoc (step : α -> Int -> α) (a : α) (ws : List Int) (x : Int) : walkF step a (ws ++ [x]) = step (walkF step a ws) x := by
  unfold walkF
  rw [List.foldl_append]; rfl
theorem walkF_cons (step : α -> Int -> α) (a : α) (ws : List Int) (x : Int) : walkF step a (x :: ws) = walkF step (step a x) ws := rfl
def put (step : α -> Int -> α) (r : α) (w : List Int) (ents : List (α × List Int)) (x : Nat) : List (α × List Int) := if step r x ∈ ents.map (·.1) then ents else ents ++ [(step r x, w ++ [(x : Int)])]
def addF (step : α -> Int -> α) (r : α) (w : List Int) : Nat -> Nat -> List (α × List Int) -> List (α × List Int)
  | 0, _, ents => ents
  | m + 1, x, ents => addF step r w m (x + 1) (put step r w ents x)
def bfsF (step : α -> Int -> α) (m : Nat) : Nat -> List (α × List Int) -> Nat -> List (α × List Int)
  | 0, ents, _ => ents
  | f + 1, ents, i => match ents[i]? with
    | none => ents
    | some e => bfsF step m f (addF step e.1 e.2 m 0 ents) (i + 1)
theorem bfsF_stop {step : α -> Int -> α} {m : Nat} {ents : List (α × List Int)} {i : Nat} (h : ents[i]? = none) : ∀ f, bfsF step m f ents i = ents
  | 0 => rfl
  | f + 1 => by rw [bfsF, h]
theorem bfsF_step {step : α -> Int -> α} {m : Nat} {ents : List (α × List Int)} {i : Nat} {e : α × List Int} (h : ents[i]? = some e) (f : Nat) : bfsF step m (f + 1) ents i = bfsF step m f (addF step e.1 e.2 m 0 ents) (i + 1) := by rw [bfsF, h]
theorem addF_zero (step : α -> Int -> α) (r : α) (w : List Int) (x : Nat) (ents : List (α × List Int)) : addF step r w 0 x ents = ents := rfl
theorem addF_succ (step : α -> Int -> α) (r : α) (w : List Int) (m x : Nat) (ents : List (α × List Int)) : addF step r w (m + 1) x ents = addF step r w m (x + 1) (put step r w ents x) := rfl
structure B (L : Int) (step : α -> Int -> α) (st : α) (ok : α -> Prop) (ents : List (α × List Int)) (i : Nat) (top : Int) : Prop where
  hd : ents[0]? = some (st, [])
  il : i <= ents.length
  sh : ∀ (j : Nat) (e : α × List Int), ents[j]? = some e -> e.2.length <= j
  nod : (ents.map (·.1)).Nodup
  rng : ∀ e ∈ ents, ok e.1
  wd : ∀ e ∈ ents, isW L e.2 = true /\ walkF step st e.2 = e.1
  inc : ∀ (j k : Nat) (a b : α × List Int), j < k -> ents[j]? = some a -> ents[k]? = some b -> place L a.2 < place L b.2
  bnd : ∀ e ∈ ents, place L e.2 < top
  don : ∀ j, j < i -> ∀ e, ents[j]? = some e -> ∀ x : Int, 0 <= x -> x < L -> ∃ e' ∈ ents, e'.1 = step e.1 x /\ place L e'.2 <= place L (e.2 ++ [x])
variable {L : Int} {step : α -> Int -> α} {st : α} {ok : α -> Prop} {ents : List (α × List Int)} {i : Nat} {top : Int}
theorem B.start (L : Int) (step : α -> Int -> α) {st : α} {ok : α -> Prop} (h : ok st) : B L step st ok [(st, [])] 0 1 := by
  refine ⟨rfl, by simp, (fun j e he => by cases j with | zero => (simp at he; subst he; simp) | succ j => simp at he), by simp, fun e he => ?_, fun e he => ?_, fun j k a b h h1 h2 => ?_, fun e he => ?_, fun j hj => absurd hj (Nat.not_lt_zero _)⟩
  . simp at he; subst he; exact h
  . simp at he; subst he; exact ⟨rfl, rfl⟩
  . have := (List.getElem?_eq_some_iff.mp h2).1; simp at this; omega
  . simp at he; subst he; simp [place, placeR]
theorem B.up {top' : Int} (h : B L step st ok ents i top) (ht : top <= top') : B L step st ok ents i top' :=
  ⟨h.hd, h.il, h.sh, h.nod, h.rng, h.wd, h.inc, fun e he => Int.lt_of_lt_of_le (h.bnd e he) ht, h.don⟩
theorem B.add (h : B L step st ok ents i top) {w : List Int} {r : α} {x : Int} (hw : (r, w) ∈ ents) (hx : 0 <= x /\ x < L) (ht : top <= place L w * L + x + 1)
    (hgr : ok (step r x)) (hno : step r x ∉ ents.map (·.1)) : B L step st ok (ents ++ [(step r x, w ++ [x])]) i (place L w * L + x + 2) := by
  obtain ⟨v1, v2⟩ := h.wd _ hw
  have hp := place_snoc L w x
  have hlen : 0 < ents.length := by have := (List.getElem?_eq_some_iff.mp h.hd).1; omega
  refine ⟨?_, by have := h.il; simp; omega, fun j e he => ?_, ?_, fun e he => ?_, fun e he => ?_, fun j k a b hjk h1 h2 => ?_, fun e he => ?_, fun j hj e he y hy0 hy1 => ?_⟩
  . rw [List.getElem?_append_left hlen]; exact h.hd
  . have hj := (List.getElem?_eq_some_iff.mp he).1
    rw [List.length_append, List.length_singleton] at hj
    by_cases hjl : j < ents.length
    . rw [List.getElem?_append_left hjl] at he
      exact h.sh j e he
    . have e1 : j = ents.length := by omega
      subst e1
      rw [List.getElem?_append_right (Nat.le_refl _), Nat.sub_self] at he
      simp at he
      subst he
      obtain ⟨j', hj', ej⟩ := List.getElem_of_mem hw
      have := h.sh j' (r, w) (by rw [List.getElem?_eq_getElem hj', ej])
      have this' : w.length <= j' := this
      show (w ++ [x]).length <= ents.length
      simp; omega
  . rw [List.map_append, List.nodup_append]
    refine ⟨h.nod, by simp, fun a ha b hb => ?_⟩
    simp at hb
    subst hb
    exact fun z => hno (z ▸ ha)
  . rcases List.mem_append.mp he with he | he
    . exact h.rng e he
    . rw [List.mem_singleton.mp he]; exact hgr
  . rcases List.mem_append.mp he with he | he
    . exact h.wd e he
    . rw [List.mem_singleton.mp he]
      refine ⟨?_, ?_⟩
      . rw [isW_iff] at v1 ⊢
        intro z hz
        rcases List.mem_append.mp hz with hz | hz
        . exact v1 z hz
        . rw [List.mem_singleton.mp hz]; exact hx
      . show walkF step st (w ++ [x]) = step r x
        rw [walkF_snoc]
        have v2' : walkF step st w = r := v2
        rw [v2']
  . have hk := (List.getElem?_eq_some_iff.mp h2).1
    rw [List.length_append, List.length_singleton] at hk
    by_cases hkl : k < ents.length
    . rw [List.getElem?_append_left hkl] at h2
      rw [List.getElem?_append_left (by omega)] at h1
      exact h.inc j k a b hjk h1 h2
    . have hke : k = ents.length := by omega
      subst hke
      rw [List.getElem?_append_left (by omega)] at h1
      rw [List.getElem?_append_right (Nat.le_refl _), Nat.sub_self] at h2
      simp at h2
      subst h2
      have := h.bnd a (List.mem_of_getElem? h1)
      show place L a.2 < place L (w ++ [x])
      rw [hp]; omega
  . rcases List.mem_append.mp he with he | he
    . have := h.bnd e he; omega
    . rw [List.mem_singleton.mp he]
      show place L (w ++ [x]) < _
      rw [hp]; omega
  . have hjl : j < ents.length \/ j = ents.length := by
      have := (List.getElem?_eq_some_iff.mp he).1
      rw [List.length_append, List.length_singleton] at this
      omega
    rcases hjl with hjl | hjl
    . rw [List.getElem?_append_left hjl] at he
      obtain ⟨e', m, q⟩ := h.don j hj e he y hy0 hy1
      exact ⟨e', List.mem_append_left _ m, q⟩
    . exact absurd hjl (by have := h.il; omega)
def SeenF (L : Int) (step : α -> Int -> α) (ents : List (α × List Int)) (r : α) (w : List Int) (x : Nat) : Prop := ∀ y : Int, 0 <= y -> y < x -> ∃ e' ∈ ents, e'.1 = step r y /\ place L e'.2 <= place L (w ++ [y])
theorem B.letter {x : Nat} {w : List Int} {r : α} (h : B L step st ok ents i (place L w * L + x + 1)) (hs : SeenF L step ents r w x) (hw : (r, w) ∈ ents) (hx : (x : Int) < L)
    (hgr : ok (step r x)) : B L step st ok (put step r w ents x) i (place L w * L + ((x + 1 : Nat) : Int) + 1) /\ SeenF L step (put step r w ents x) r w (x + 1) := by
  unfold put
  by_cases hm : step r x ∈ ents.map (·.1)
  . rw [if_pos hm]
    refine ⟨h.up (by push_cast; omega), fun y hy0 hy1 => ?_⟩
    by_cases hyx : y < x
    . exact hs y hy0 hyx
    . have e : y = x := by push_cast at hy1; omega
      subst e
      obtain ⟨e', he', e1⟩ := List.mem_map.mp hm
      refine ⟨e', he', e1, ?_⟩
      have := h.bnd e' he'
      rw [place_snoc]; omega
  . rw [if_neg hm]
    refine ⟨(h.add hw ⟨by omega, hx⟩ (Int.le_refl _) hgr hm).up (by push_cast; omega), fun y hy0 hy1 => ?_⟩
    by_cases hyx : y < x
    . obtain ⟨e', m, q⟩ := hs y hy0 hyx
      exact ⟨e', List.mem_append_left _ m, q⟩
    . have e : y = x := by push_cast at hy1; omega
      subst e
      exact ⟨_, List.mem_append_right _ List.mem_cons_self, rfl, Int.le_refl _⟩
theorem B.next (hL : 0 < L) {m : Nat} {w : List Int} {r : α} (h : B L step st ok ents i (place L w * L + m + 1)) (hm : (m : Int) = L) (hs : SeenF L step ents r w m) (hw : ents[i]? = some (r, w)) :
    B L step st ok ents (i + 1) (place L w * L + L + 1) /\ ∀ e, ents[i + 1]? = some e -> place L w * L + L + 1 <= place L e.2 * L + 1 := by
  have hi := (List.getElem?_eq_some_iff.mp hw).1
  rw [hm] at h
  refine ⟨⟨h.hd, hi, h.sh, h.nod, h.rng, h.wd, h.inc, h.bnd, fun j hj e he x h0 h1 => ?_⟩, fun e he => ?_⟩
  . by_cases hji : j < i
    . exact h.don j hji e he x h0 h1
    . have e1 : j = i := by omega
      subst e1
      rw [hw] at he
      cases he
      exact hs x h0 (by omega)
  . have := h.inc i (i + 1) _ _ (Nat.lt_succ_self _) hw he
    have h2 := Int.mul_le_mul_of_nonneg_right (show place L w + 1 <= place L e.2 from this) (Int.le_of_lt hL)
    rw [Int.add_mul] at h2
    omega
theorem put_keep {r : α} {w : List Int} {x j : Nat} {e : α × List Int} (h : ents[j]? = some e) : (put step r w ents x)[j]? = some e := by
  unfold put
  split
  . exact h
  . rw [List.getElem?_append_left (List.getElem?_eq_some_iff.mp h).1]; exact h
theorem B.least (h : B L step st ok ents ents.length top) {ws : List Int} (hv : isW L ws = true) : ∀ i, i <= ws.length -> ∃ w', (walkF step st (ws.take i), w') ∈ ents /\ place L w' <= place L (ws.take i)
  | 0, _ => ⟨[], by simpa [walkF] using List.mem_of_getElem? h.hd, by simp⟩
  | i + 1, hi => by
    obtain ⟨w', m, hp⟩ := B.least h hv i (by omega)
    have hwi : ws[i]? = some ws[i] := by simp
    have hin := isW_iff.mp hv ws[i] (List.getElem_mem _)
    obtain ⟨j, hj, ej⟩ := List.getElem_of_mem m
    obtain ⟨e', me, e1, e2⟩ := h.don j hj _ (by rw [List.getElem?_eq_getElem hj, ej]) ws[i] hin.1 hin.2
    obtain ⟨g, v⟩ := e'
    have e1 : g = step (walkF step st (ws.take i)) ws[i] := e1
    have e2 : place L v <= place L (w' ++ [ws[i]]) := e2
    have et : ws.take (i + 1) = ws.take i ++ [ws[i]] := by rw [List.take_add_one, hwi]; rfl
    have hL : 0 <= L := by omega
    refine ⟨v, ?_, ?_⟩
    . rw [et, walkF_snoc, <- e1]; exact me
    . rw [et]
      rw [place_snoc] at e2 ⊢
      have := Int.mul_le_mul_of_nonneg_right hp hL
      omega
theorem B.leastW (h : B L step st ok ents ents.length top) {ws : List Int} (hv : isW L ws = true) : ∃ w', (walkF step st ws, w') ∈ ents /\ place L w' <= place L ws := by
  have := h.least hv ws.length (Nat.le_refl _)
  rwa [List.take_length] at this
def stepP (w1 w2 : List (List Int)) (p : Int × Int) (x : Int) : Int × Int := (stepW w1 p.1 x, stepW w2 p.2 x)
def okP (n m : Nat) (p : Int × Int) : Prop := (0 <= p.1 /\ p.1 < (n : Int)) /\ (0 <= p.2 /\ p.2 < (m : Int))
def walkR (ways : List (List Int)) (r : Int) (ws : List Int) : Int := ws.foldl (stepW ways) r
theorem walkR_zero (ways : List (List Int)) (ws : List Int) : walkR ways 0 ws = walkW ways ws := rfl
theorem walkR_cons (ways : List (List Int)) (r x : Int) (ws : List Int) : walkR ways r (x :: ws) = walkR ways (stepW ways r x) ws := rfl
theorem walkP (w1 w2 : List (List Int)) : ∀ (ws : List Int) (p : Int × Int), walkF (stepP w1 w2) p ws = (walkR w1 p.1 ws, walkR w2 p.2 ws)
  | [], p => rfl
  | x :: ws, p => by rw [walkF_cons, walkP w1 w2 ws, walkR_cons, walkR_cons]; rfl
theorem pair_len (n m : Nat) {l : List (Int × Int)} (hn : l.Nodup) (h : ∀ p ∈ l, okP n m p) : l.length <= n * m := by
  have hk : ∀ p ∈ l.map (fun p : Int × Int => p.1 * m + p.2), 0 <= p /\ p < ((n * m : Nat) : Int) := fun q hq => by
    obtain ⟨p, hp, rfl⟩ := List.mem_map.mp hq
    obtain ⟨⟨a0, a1⟩, b0, b1⟩ := h p hp
    have h1 := Int.mul_nonneg a0 (show (0 : Int) <= m by omega)
    have h2 := Int.mul_le_mul_of_nonneg_right (show p.1 <= (n : Int) - 1 by omega) (show (0 : Int) <= m by omega)
    rw [Int.sub_mul] at h2
    push_cast
    exact ⟨by show 0 <= p.1 * m + p.2; omega, by show p.1 * m + p.2 < _; omega⟩
  have hd : (l.map (fun p : Int × Int => p.1 * m + p.2)).Nodup := by
    refine List.pairwise_map.mpr (List.Pairwise.imp_of_mem (fun {a b} ha hb hab z => hab ?_) hn)
    obtain ⟨⟨a0, a1⟩, b0, b1⟩ := h a ha
    obtain ⟨⟨c0, c1⟩, d0, d1⟩ := h b hb
    have z : a.1 * m + a.2 = b.1 * m + b.2 := z
    have e1 : a.1 = b.1 := by
      have q1 : (a.1 * m + a.2) / m = a.1 := by rw [Int.add_comm, Int.add_mul_ediv_right _ _ (by omega), Int.ediv_eq_zero_of_lt b0 b1]; omega
      have q2 : (b.1 * m + b.2) / m = b.1 := by rw [Int.add_comm, Int.add_mul_ediv_right _ _ (by omega), Int.ediv_eq_zero_of_lt d0 d1]; omega
      rw [<- q1, <- q2, z]
    rw [e1] at z
    exact Prod.ext e1 (by omega)
  have := nodup_len (n * m) hd hk
  simpa using this
theorem B.lenP {n m : Nat} {w1 w2 : List (List Int)} {st : Int × Int} {ents : List ((Int × Int) × List Int)} {i : Nat} {top : Int} (h : B L (stepP w1 w2) st (okP n m) ents i top) : ents.length <= n * m := by
  have := pair_len n m h.nod (fun p hp => by
    obtain ⟨e, he, rfl⟩ := List.mem_map.mp hp
    exact h.rng e he)
  simpa using this
end GB
namespace L2
open PySem PySem.Spec PyProof.Rows GW GB
def TK (H H' : Hp) : Prop := ∀ b xs, H b = some (.tup xs) -> H' b = some (.tup xs)
theorem TK.of {H H' : Hp} (s : Same H H') : TK H H' := fun b xs h => s b _ h
theorem TK.new {H : Hp} {p : Addr} {o : HO} (h : H p = none) : TK H (upd H p o) := TK.of (Same.new h)
theorem TK.lst {H : Hp} {p : Addr} {o : HO} {xs : List V} (h : H p = some (.lst xs)) : TK H (upd H p o) := fun b ys e => by rw [upd_ne (fun z => by rw [z, h] at e; cases e)]; exact e
theorem TK.dT {H : Hp} {p : Addr} {o : HO} {kvs : List (List Key × V)} (h : H p = some (.dT kvs)) : TK H (upd H p o) := fun b ys e => by rw [upd_ne (fun z => by rw [z, h] at e; cases e)]; exact e
def keyP (p : Int × Int) : List Key := [Sum.inl p.1, Sum.inl p.2]
theorem keyP_inj {p q : Int × Int} (h : keyP p = keyP q) : p = q := by
  unfold keyP at h
  injection h with h1 h2
  injection h2 with h2 _
  injection h1 with h1
  injection h2 with h2
  exact Prod.ext h1 h2
def StepsT (H : Hp) (ents : List ((Int × Int) × List Int)) (kvs : List (List Key × V)) : Prop := kvs.length = ents.length /\ ∀ (i : Nat) (e : (Int × Int) × List Int), ents[i]? = some e -> ∃ v, kvs[i]? = some (keyP e.1, v) /\
  ((v = .non /\ e.2 = []) \/ ∃ (t p : Addr) (x : Int) (e' : (Int × Int) × List Int), v = .ref t /\ H t = some (.tup [.ref p, .int x]) /\ H p = some (.tup [.int e'.1.1, .int e'.1.2]) /\ e' ∈ ents /\ e.2 = e'.2 ++ [x])
theorem StepsT.mono {H H' : Hp} {ents : List ((Int × Int) × List Int)} {kvs : List (List Key × V)} (h : StepsT H ents kvs) (k : TK H H') : StepsT H' ents kvs := by
  refine ⟨h.1, fun i e he => ?_⟩
  obtain ⟨v, h1, h2⟩ := h.2 i e he
  refine ⟨v, h1, ?_⟩
  rcases h2 with h2 | ⟨t, p, x, e', a, b, c, d⟩
  . exact .inl h2
  . exact .inr ⟨t, p, x, e', a, k _ _ b, k _ _ c, d⟩
theorem StepsT.no {H : Hp} {ents : List ((Int × Int) × List Int)} {kvs : List (List Key × V)} (h : StepsT H ents kvs) {g : Int × Int} (hg : g ∉ ents.map (·.1)) : valV kvs (keyP g) = none := by
  unfold valV
  rw [Option.map_eq_none_iff, List.find?_eq_none]
  intro kv hkv
  obtain ⟨i, hi, e⟩ := List.getElem_of_mem hkv
  have hie : i < ents.length := by rw [<- h.1]; exact hi
  obtain ⟨v, h1, _⟩ := h.2 i ents[i] (by simp [hie])
  rw [List.getElem?_eq_getElem hi, e] at h1
  cases h1
  simp only [decide_eq_true_eq]
  intro z
  exact hg (List.mem_map.mpr ⟨ents[i], List.getElem_mem _, keyP_inj z⟩)
theorem valV_at {κ : Type} [DecidableEq κ] {kvs : List (κ × V)} {i : Nat} {k : κ} {v : V} (hn : (kvs.map (·.1)).Nodup) (h : kvs[i]? = some (k, v)) : valV kvs k = some v := by
  induction kvs generalizing i with
  | nil => simp at h
  | cons p r ih =>
    rw [List.map_cons, List.nodup_cons] at hn
    cases i with
    | zero => simp at h; subst h; exact valV_pos rfl
    | succ i =>
      have h' : r[i]? = some (k, v) := by simpa using h
      rw [valV_neg (fun z => hn.1 (List.mem_map.mpr ⟨(k, v), List.mem_of_getElem? h', z.symm⟩))]
      exact ih hn.2 h'
theorem StepsT.nod {H : Hp} {ents : List ((Int × Int) × List Int)} {kvs : List (List Key × V)} (h : StepsT H ents kvs) (hn : (ents.map (·.1)).Nodup) : (kvs.map (·.1)).Nodup := by
  have e : kvs.map (·.1) = (ents.map (·.1)).map keyP := by
    refine List.ext_getElem? fun i => ?_
    rw [List.getElem?_map, List.getElem?_map, List.getElem?_map]
    cases he : ents[i]? with
    | none =>
      rw [List.getElem?_eq_none (by rw [h.1]; exact List.getElem?_eq_none_iff.mp he)]; rfl
    | some e =>
      obtain ⟨v, h1, _⟩ := h.2 i e he
      rw [h1]; rfl
  rw [e]
  exact List.Pairwise.map (R := (· ≠ ·)) _ (fun a b hab z => hab (keyP_inj z)) hn
theorem StepsT.yes {H : Hp} {ents : List ((Int × Int) × List Int)} {kvs : List (List Key × V)} (h : StepsT H ents kvs) (hn : (ents.map (·.1)).Nodup) {e : (Int × Int) × List Int} (he : e ∈ ents) : ∃ v, valV kvs (keyP e.1) = some v /\
    ((v = .non /\ e.2 = []) \/ ∃ (t p : Addr) (x : Int) (e' : (Int × Int) × List Int), v = .ref t /\ H t = some (.tup [.ref p, .int x]) /\ H p = some (.tup [.int e'.1.1, .int e'.1.2]) /\ e' ∈ ents /\ e.2 = e'.2 ++ [x]) := by
  obtain ⟨i, hi, ei⟩ := List.getElem_of_mem he
  obtain ⟨v, h1, h2⟩ := h.2 i e (by rw [List.getElem?_eq_getElem hi, ei])
  exact ⟨v, valV_at (h.nod hn) h1, h2⟩
theorem StepsT.put {H : Hp} {ents : List ((Int × Int) × List Int)} {kvs : List (List Key × V)} (h : StepsT H ents kvs) {g : Int × Int} (hg : g ∉ ents.map (·.1)) {t p : Addr} {x : Int} {e' : (Int × Int) × List Int} (ht : H t = some (.tup [.ref p, .int x])) (hp : H p = some (.tup [.int e'.1.1, .int e'.1.2])) (he : e' ∈ ents) :
    StepsT H (ents ++ [(g, e'.2 ++ [x])]) (putK kvs (keyP g) (.ref t)) := by
  rw [putK_new _ (h.no hg)]
  refine ⟨by rw [List.length_append, List.length_append, h.1]; rfl, fun i e hi => ?_⟩
  by_cases hil : i < ents.length
  . rw [List.getElem?_append_left hil] at hi
    rw [List.getElem?_append_left (by rw [h.1]; exact hil)]
    obtain ⟨v, h1, h2⟩ := h.2 i e hi
    refine ⟨v, h1, ?_⟩
    rcases h2 with h2 | ⟨t, p, x, e', a, b, c, d, f⟩
    . exact .inl h2
    . exact .inr ⟨t, p, x, e', a, b, c, List.mem_append_left _ d, f⟩
  . have := (List.getElem?_eq_some_iff.mp hi).1
    rw [List.length_append, List.length_singleton] at this
    have ei : i = ents.length := by omega
    subst ei
    rw [List.getElem?_append_right (Nat.le_refl _), Nat.sub_self] at hi
    simp at hi
    subst hi
    refine ⟨.ref t, ?_, .inr ⟨t, p, x, e', rfl, ht, hp, List.mem_append_left _ he, rfl⟩⟩
    rw [List.getElem?_append_right (by rw [h.1]; exact Nat.le_refl _), h.1, Nat.sub_self]; rfl
def FoundT (H : Hp) (ps : List (Int × Int)) (rs : List V) : Prop := rs.length = ps.length /\ ∀ (i : Nat) (p : Int × Int), ps[i]? = some p -> ∃ b, rs[i]? = some (.ref b) /\ H b = some (.tup [.int p.1, .int p.2])
theorem FoundT.mono {H H' : Hp} {ps : List (Int × Int)} {rs : List V} (h : FoundT H ps rs) (k : TK H H') : FoundT H' ps rs := by
  refine ⟨h.1, fun i p hp => ?_⟩
  obtain ⟨b, h1, h2⟩ := h.2 i p hp
  exact ⟨b, h1, k _ _ h2⟩
theorem FoundT.snoc {H : Hp} {ps : List (Int × Int)} {rs : List V} (h : FoundT H ps rs) {p : Int × Int} {b : Addr} (hb : H b = some (.tup [.int p.1, .int p.2])) : FoundT H (ps ++ [p]) (rs ++ [.ref b]) := by
  refine ⟨by rw [List.length_append, List.length_append, h.1]; rfl, fun i q hi => ?_⟩
  by_cases hil : i < ps.length
  . rw [List.getElem?_append_left hil] at hi
    rw [List.getElem?_append_left (by rw [h.1]; exact hil)]
    exact h.2 i q hi
  . have := (List.getElem?_eq_some_iff.mp hi).1
    rw [List.length_append, List.length_singleton] at this
    have ei : i = ps.length := by omega
    subst ei
    rw [List.getElem?_append_right (Nat.le_refl _), Nat.sub_self] at hi
    simp at hi
    subst hi
    refine ⟨b, ?_, hb⟩
    rw [List.getElem?_append_right (by rw [h.1]; exact Nat.le_refl _), h.1, Nat.sub_self]; rfl
end L2
namespace L2
theorem r_dnewK {σ : St} {H : Hp} {Q : VK} : tDNewK σ H Q = ∀ p, H p = none -> Q (.ref p) (upd H p (.dK [])) := rfl
theorem r_dnewT {σ : St} {H : Hp} {Q : VK} : tDNewT σ H Q = ∀ p, H p = none -> Q (.ref p) (upd H p (.dT [])) := rfl
end L2
namespace GB
open GW
theorem isW_cons {L x : Int} {w : List Int} : isW L (x :: w) = true ↔ (0 <= x /\ x < L) /\ isW L w = true := by
  rw [isW_iff, isW_iff]
  simp
end GB
set_option Elab.async false
set_option linter.all false
set_option maxRecDepth 100000
set_option maxHeartbeats 4000000
namespace GB
open GW
end GB
namespace L2
open GW
def spinO (n : Nat) (num : Int) : List Int := 0 :: (List.range (n - 1)).map fun j : Nat => 1 + ((j : Int) + num) % ((n : Int) - 1)
theorem spinO_ord {n : Nat} (hn : 2 <= n) (num : Int) : IsOrd n (spinO n num) := by
  have rng : ∀ j : Nat, 0 <= ((j : Int) + num) % ((n : Int) - 1) /\ ((j : Int) + num) % ((n : Int) - 1) < (n : Int) - 1 := fun j => ⟨Int.emod_nonneg _ (by omega), Int.emod_lt_of_pos _ (by omega)⟩
  refine ⟨perm_of_sub ?_ (fun x hx => ?_) ?_, rfl⟩
  . unfold spinO
    rw [List.nodup_cons]
    refine ⟨fun h => ?_, ?_⟩
    . obtain ⟨j, _, e⟩ := List.mem_map.mp h
      have := rng j
      omega
    . refine List.pairwise_map.mpr (List.Pairwise.imp_of_mem (fun {a b} ha hb hab z => hab ?_) List.nodup_range)
      have ha := List.mem_range.mp ha
      have hb := List.mem_range.mp hb
      have z : ((a : Int) + num) % ((n : Int) - 1) = ((b : Int) + num) % ((n : Int) - 1) := by omega
      have key : ∀ {a b : Nat}, b <= a -> a < n - 1 -> ((a : Int) + num) % ((n : Int) - 1) = ((b : Int) + num) % ((n : Int) - 1) -> a = b := fun {a b} h1 h2 z => by
        have := Int.emod_eq_emod_iff_emod_sub_eq_zero.mp z
        rw [show (a : Int) + num - ((b : Int) + num) = (a : Int) - b by omega, Int.emod_eq_of_lt (by omega) (by omega)] at this
        omega
      rcases Nat.le_total b a with h | h
      . exact key h ha z
      . exact (key h hb z.symm).symm
  . rw [ups_mem]
    unfold spinO at hx
    rcases List.mem_cons.mp hx with rfl | hx
    . omega
    . obtain ⟨j, _, rfl⟩ := List.mem_map.mp hx
      have := rng j
      omega
  . unfold spinO
    rw [ups_len]; simp; omega
end L2
namespace L2
open PySem PySem.Spec PyProof.Rows GW
def LLs (H0 H : Hp) (xs : List V) (ws : List (List Int)) : Prop := ∃ ts : List Addr, xs = ts.map V.ref /\ ts.length = ws.length /\ ts.Nodup /\ (∀ (i : Nat) (t : Addr) (w : List Int), ts[i]? = some t -> ws[i]? = some w -> H t = some (.lst (w.map V.int))) /\ ∀ t ∈ ts, H0 t = none
theorem LLs.nil (H0 H : Hp) : LLs H0 H [] [] := ⟨[], rfl, rfl, List.nodup_nil, fun i t w h => by simp at h, fun t h => by simp at h⟩
theorem LLs.mono {H0 H H' : Hp} {xs : List V} {ws : List (List Int)} (h : LLs H0 H xs ws) (s : Same H H') : LLs H0 H' xs ws := by
  obtain ⟨ts, a, b, c, d, e⟩ := h
  exact ⟨ts, a, b, c, fun i t w h1 h2 => s _ _ (d i t w h1 h2), e⟩
theorem LLs.len {H0 H : Hp} {xs : List V} {ws : List (List Int)} (h : LLs H0 H xs ws) : xs.length = ws.length := by
  obtain ⟨ts, a, b, _⟩ := h
  rw [a, List.length_map, b]
theorem LLs.snoc {H0 H : Hp} {xs : List V} {ws : List (List Int)} {p : Addr} {w : List Int} (h : LLs H0 H xs ws) (h0 : H0 p = none) (hp : H p = none) : LLs H0 (upd H p (.lst (w.map V.int))) (xs ++ [.ref p]) (ws ++ [w]) := by
  obtain ⟨ts, a, b, c, d, e⟩ := h
  have hts : ∀ t ∈ ts, t ≠ p := fun t ht z => by
    obtain ⟨i, hi, ei⟩ := List.getElem_of_mem ht
    have := d i t ws[i] (by rw [List.getElem?_eq_getElem hi, ei]) (by simp [show i < ws.length by omega])
    rw [z, hp] at this; cases this
  refine ⟨ts ++ [p], by rw [a]; simp, by simp [b], ?_, fun i t v h1 h2 => ?_, fun t ht => ?_⟩
  . rw [List.nodup_append]
    refine ⟨c, by simp, fun x hx y hy => ?_⟩
    simp at hy; subst hy; exact hts x hx
  . by_cases hi : i < ts.length
    . rw [List.getElem?_append_left hi] at h1
      rw [List.getElem?_append_left (by omega)] at h2
      rw [upd_ne (hts t (List.mem_of_getElem? h1))]
      exact d i t v h1 h2
    . have := (List.getElem?_eq_some_iff.mp h1).1
      rw [List.length_append, List.length_singleton] at this
      have ei : i = ts.length := by omega
      subst ei
      rw [List.getElem?_append_right (Nat.le_refl _), Nat.sub_self] at h1
      rw [b, List.getElem?_append_right (Nat.le_refl _), Nat.sub_self] at h2
      simp at h1 h2
      subst h1 h2
      exact upd_same
  . rcases List.mem_append.mp ht with ht | ht
    . exact e t ht
    . rw [List.mem_singleton.mp ht]; exact h0
theorem LLs.at {H0 H : Hp} {xs : List V} {ws : List (List Int)} (h : LLs H0 H xs ws) {i : Nat} {w : List Int} (hw : ws[i]? = some w) : ∃ t, xs[i]? = some (.ref t) /\ H t = some (.lst (w.map V.int)) /\ H0 t = none /\ ∀ j x, LLs H0 (upd H t (.lst ((w.set j x).map V.int))) xs (ws.set i (w.set j x)) := by
  obtain ⟨ts, a, b, c, d, e⟩ := h
  have hi : i < ts.length := by rw [b]; exact (List.getElem?_eq_some_iff.mp hw).1
  have ht : ts[i]? = some ts[i] := by simp [hi]
  refine ⟨ts[i], by rw [a, List.getElem?_map, ht]; rfl, d i _ w ht hw, e _ (List.getElem_mem hi), fun j x => ⟨ts, a, by rw [List.length_set]; exact b, c, fun k t v h1 h2 => ?_, e⟩⟩
  by_cases hk : k = i
  . subst hk
    rw [ht] at h1; cases h1
    rw [List.getElem?_set_self (by omega)] at h2; cases h2
    exact upd_same
  . have hne : t ≠ ts[i] := fun z => hk (by
      have hk' := (List.getElem?_eq_some_iff.mp h1).1
      refine (List.getElem_inj (h₀ := hk') (h₁ := hi) c).mp ?_
      rw [<- z]
      exact (List.getElem?_eq_some_iff.mp h1).2)
    rw [List.getElem?_set_ne (Ne.symm hk)] at h2
    rw [upd_ne hne]
    exact d k t v h1 h2
theorem Same.none {H H' : Hp} (s : Same H H') {p : Addr} (h : H' p = none) : H p = none := by
  cases e : H p with
  | none => rfl
  | some u => rw [s _ _ e] at h; cases h
theorem compTups {K : PySem.W.Frag} {cp : Caps} {te : TE} {σ σ' : St} {H : Hp} {Q : VK} {a : Addr} {xs : List V} {ws : List (List Int)} (hl : SqL K H a xs) (hlen : xs.length = ws.length) (e : cp.st σ = Option.none :: σ') (hz : xs.length < sizeLine)
    (hs : ∀ (i : Nat) (x : V) (w : List Int) H2, Same H H2 -> xs[i]? = some x -> ws[i]? = some w -> ∀ R : VK, (∀ p H3, Same H2 H3 -> SqT K H3 p (w.map V.int) -> R (.ref p) H3) -> te (some x :: σ') H2 R)
    (hd : ∀ H2 D ys, Same H H2 -> H2 D = Option.none -> TupsL K (upd H2 D (.lst ys)) D ws -> Q (.ref D) (upd H2 D (.lst ys))) : CompW (Itl K a) cp (gName 0) tTrue te σ H Q := by
  refine compL (xs := xs) (fun i ys σ2 H2 => Same H H2 /\ (∃ ts : List Addr, ys = ts.map V.ref /\ ts.length = i /\ ∀ (j : Nat) (t : Addr) (w : List Int), ts[j]? = some t -> ws[j]? = some w -> SqT K H2 t (w.map V.int)) /\ ∃ o, σ2 = o :: σ') ⟨Same.refl _, ⟨[], rfl, rfl, fun j t w h => by simp at h⟩, Option.none, e⟩ hz (fun i ys σ2 H2 hi h => ?_) (fun i x ys σ2 H2 hx h => ?_) (fun ys σ2 H2 h => ?_)
  . obtain ⟨s, ⟨ts, rfl, hm, _⟩, _⟩ := h
    exact ⟨s.seq hl, by rw [List.length_map]; omega⟩
  . obtain ⟨s, ⟨ts, rfl, hm, ht⟩, o, rfl⟩ := h
    have hi : i < ws.length := by rw [<- hlen]; exact (List.getElem?_eq_some_iff.mp hx).1
    refine hs i x ws[i] H2 s hx (by simp [hi]) _ fun p H3 s3 hp => ⟨s.trans s3, ⟨ts ++ [p], by simp, by simp [hm], fun j t w h1 h2 => ?_⟩, some x, rfl⟩
    by_cases hj : j < ts.length
    . rw [List.getElem?_append_left hj] at h1
      exact s3.seqT (ht j t w h1 h2)
    . have := (List.getElem?_eq_some_iff.mp h1).1
      rw [List.length_append, List.length_singleton] at this
      have ej : j = i := by omega
      subst ej
      rw [<- hm, List.getElem?_append_right (Nat.le_refl _), Nat.sub_self] at h1
      simp at h1
      subst h1
      rw [List.getElem?_eq_getElem hi] at h2
      cases h2
      exact hp
  . obtain ⟨s, ⟨ts, rfl, hm, ht⟩, _⟩ := h
    exact fun D hD => hd H2 D _ s hD ⟨ts, upd_same, by omega, fun j t w h1 h2 => (Same.new hD).seqT (ht j t w h1 h2)⟩
end L2
namespace GW
theorem Wf.setM {L : Int} {marks : List Int} {ways : List (List Int)} (wf : Wf L marks ways) (r : Nat) {m : Int} (h : 0 <= m /\ m <= 1000000000) : Wf L (marks.set r m) ways := by
  refine ⟨wf.l1, wf.l6, by rw [List.length_set]; exact wf.n1, by rw [List.length_set]; exact wf.n40, by rw [List.length_set]; exact wf.len, fun row hr => ?_, fun x hx => ?_⟩
  . rw [List.length_set]; exact wf.rows row hr
  . rcases List.mem_or_eq_of_mem_set hx with hx | rfl
    . exact wf.mks x hx
    . exact h
theorem Wf.setW {L : Int} {marks : List Int} {ways : List (List Int)} (wf : Wf L marks ways) {i : Nat} {row : List Int} (hr : ways[i]? = some row) (j : Nat) {g : Int} (h : 0 <= g /\ g < marks.length) : Wf L marks (ways.set i (row.set j g)) := by
  refine ⟨wf.l1, wf.l6, wf.n1, wf.n40, by rw [List.length_set]; exact wf.len, fun x hx => ?_, wf.mks⟩
  rcases List.mem_or_eq_of_mem_set hx with hx | rfl
  . exact wf.rows x hx
  . have := wf.rows row (List.mem_of_getElem? hr)
    refine ⟨by rw [List.length_set]; exact this.1, fun y hy => ?_⟩
    rcases List.mem_or_eq_of_mem_set hy with hy | rfl
    . exact this.2 y hy
    . exact h
end GW
namespace L2
open PySem GW
theorem LLs.off {H0 H : Hp} {xs : List V} {ws : List (List Int)} {p : Addr} {o u : HO} (h : LLs H0 H xs ws) (hp : H0 p = some u) : LLs H0 (upd H p o) xs ws := by
  obtain ⟨ts, a, b, c, d, e⟩ := h
  refine ⟨ts, a, b, c, fun i t w h1 h2 => ?_, e⟩
  rw [upd_ne (fun z => by have := e t (List.mem_of_getElem? h1); rw [z, hp] at this; cases this)]
  exact d i t w h1 h2
end L2
set_option Elab.async false
set_option linter.all false
set_option maxRecDepth 100000
set_option maxHeartbeats 4000000
namespace L2
open PySem PySem.Spec PyProof.Rows
theorem cf_cell : ∀ (names : List (Str × NameKind)) (h : Heap) (acc : List (Str × Addr)) (x : Str) (c : Addr), (cellsFrom h.objs.size names acc).lookup x = some c -> ((pushCells h names).IsCell c none /\ h.objs.size <= c) \/ acc.lookup x = some c
  | [], _, _, _, _, e => .inr e
  | (y, k) :: r, h, acc, x, c, e => by
    unfold cellsFrom at e
    unfold pushCells
    by_cases hk : (k == .cell) = true
    . rw [if_pos hk] at e ⊢
      have e' : (cellsFrom (h.push { cls := .type "cell", data := .cell none }).objs.size r ((y, h.objs.size) :: acc)).lookup x = some c := by rw [Heap.size_push]; exact e
      rcases cf_cell r _ _ x c e' with ⟨a, b⟩ | q
      . rw [Heap.size_push] at b
        exact .inl ⟨a, Nat.le_of_succ_le b⟩
      . rw [List.lookup_cons] at q
        cases hx : x == y with
        | true =>
          rw [hx] at q
          have : h.objs.size = c := Option.some.inj q
          subst this
          exact .inl ⟨⟨_, pushCells_keeps _ _ _ _ (Heap.get?_push_size _ rfl), rfl⟩, Nat.le_refl _⟩
        | false => rw [hx] at q; exact .inr q
    . rw [if_neg hk] at e ⊢
      exact cf_cell r h acc x c e
theorem cf_cases : ∀ (names : List (Str × NameKind)) (n : Nat) (acc : List (Str × Addr)) (x : Str) (c : Addr), (cellsFrom n names acc).lookup x = some c -> n <= c \/ acc.lookup x = some c
  | [], _, _, _, _, e => .inr e
  | (y, k) :: r, n, acc, x, c, e => by
    unfold cellsFrom at e
    by_cases hk : (k == .cell) = true
    . rw [if_pos hk] at e
      rcases cf_cases r _ _ x c e with b | q
      . exact .inl (Nat.le_of_succ_le b)
      . rw [List.lookup_cons] at q
        cases hx : x == y with
        | true => rw [hx] at q; have : n = c := Option.some.inj q; exact .inl (Nat.le_of_eq this)
        | false => rw [hx] at q; exact .inr q
    . rw [if_neg hk] at e
      exact cf_cases r n acc x c e
theorem cf_inj : ∀ (names : List (Str × NameKind)) (n : Nat) (acc : List (Str × Addr)), (∀ x y c, acc.lookup x = some c -> acc.lookup y = some c -> x = y) -> (∀ x c, acc.lookup x = some c -> c < n) -> ∀ x y c, (cellsFrom n names acc).lookup x = some c -> (cellsFrom n names acc).lookup y = some c -> x = y
  | [], _, _, hi, _, x, y, c, e1, e2 => hi x y c e1 e2
  | (z, k) :: r, n, acc, hi, hb, x, y, c, e1, e2 => by
    unfold cellsFrom at e1 e2
    by_cases hk : (k == .cell) = true
    . rw [if_pos hk] at e1 e2
      refine cf_inj r (n + 1) ((z, n) :: acc) (fun x y c h1 h2 => ?_) (fun x c h => ?_) x y c e1 e2
      . rw [List.lookup_cons] at h1 h2
        cases hx : x == z with
        | true =>
          cases hy : y == z with
          | true => rw [beq_iff_eq.mp hx, beq_iff_eq.mp hy]
          | false =>
            rw [hx] at h1; rw [hy] at h2
            have e : n = c := Option.some.inj h1
            exact absurd (hb y c h2) (by rw [<- e]; exact Nat.lt_irrefl _)
        | false =>
          cases hy : y == z with
          | true =>
            rw [hx] at h1; rw [hy] at h2
            have e : n = c := Option.some.inj h2
            exact absurd (hb x c h1) (by rw [<- e]; exact Nat.lt_irrefl _)
          | false => rw [hx] at h1; rw [hy] at h2; exact hi x y c h1 h2
      . rw [List.lookup_cons] at h
        cases hx : x == z with
        | true => rw [hx] at h; have e : n = c := Option.some.inj h; rw [<- e]; exact Nat.lt_succ_self _
        | false => rw [hx] at h; exact Nat.lt_succ_of_lt (hb x c h)
    . rw [if_neg hk] at e1 e2
      exact cf_inj r n acc hi hb x y c e1 e2
theorem cf_keep : ∀ (names : List (Str × NameKind)) (n : Nat) (acc : List (Str × Addr)) (x : Str), (∀ p ∈ names, p.1 = x -> p.2 ≠ .cell) -> (cellsFrom n names acc).lookup x = acc.lookup x
  | [], _, _, _, _ => rfl
  | (y, k) :: r, n, acc, x, h => by
    unfold cellsFrom
    by_cases hk : (k == .cell) = true
    . rw [if_pos hk, cf_keep r _ _ x fun p hp => h p (List.mem_cons_of_mem _ hp), List.lookup_cons]
      cases hx : x == y with
      | true => exact absurd (beq_iff_eq.mp hk) (h (y, k) List.mem_cons_self (beq_iff_eq.mp hx).symm)
      | false => rfl
    . rw [if_neg hk]
      exact cf_keep r n acc x fun p hp => h p (List.mem_cons_of_mem _ hp)
theorem newEnv_cells {M : Model} {A : Around} {E : Value -> Shared -> Prop} {s : Shared} {sc : Scope} {globals : Addr} {cl : List (Str × Addr)} {qual : Str} {outer : Env} {Q : Env -> Shared -> Prop}
    (hQ : Q { scope := sc, locals := s.heap.objs.size, globals, cells := cellsFrom (s.heap.objs.size + 1) sc.names cl, qual, func := none, code := outer.code, frame := outer.frame, builtins := outer.builtins } { s with heap := pushCells (s.heap.push { cls := .type "dict", data := .dict #[] }) sc.names }) :
    wpAny M A (newFunctionEnv sc globals cl [] qual none .none (some outer)) Q E s := by
  simp only [newFunctionEnv, Option.isSome_some, if_true]
  refine wpAny_bind (wpAny_alloc (wpAny_bind (wpAny_layCells _ (fun name kind cells => by cases hkc : kind == NameKind.cell <;> simp [hkc]) _ _ _ _ ?_)))
  rw [show ({ s with heap := s.heap.push { cls := .type "dict", data := .dict #[] } } : Shared).heap.objs.size = s.heap.objs.size + 1 from Heap.size_push ..]
  refine wpAny_bind ?_
  rw [List.forIn_nil]
  exact wpAny_pure (wpAny_pure hQ)
abbrev ownC (X : Cx) (sc : Scope) (C : Addr) : List (Str × Addr) := cellsFrom (C + 1) sc.names (clOf X.env sc.names [])
abbrev Cx.blkC (X : Cx) (N : List Str) (sc : Scope) (C : Addr) (s₀ : Shared) (H₀ : Hp) (ex : List Addr) : Cx :=
  { X with N := N, env := compEnvC sc (ownC X sc C) C X.env, outer := X.stack, s₀ := s₀, H₀ := H₀, ex := ex, fn := fun x => sc.names.lookup x == some .cell, pn := [], xe := fun _ _ => False }
theorem clOf_free {env : Env} : ∀ (l : List (Str × NameKind)) (acc : List (Str × Addr)) (x : Str) (c : Addr), (x, c) ∈ clOf env l acc -> (x, NameKind.free) ∈ l \/ (x, c) ∈ acc
  | [], _, _, _, h => .inr h
  | (n, k) :: r, acc, x, c, h => by
    unfold clOf at h
    by_cases hk : (k == .free) = true
    . rw [if_pos hk] at h
      rcases clOf_free r _ x c h with q | q
      . exact .inl (List.mem_cons_of_mem _ q)
      . rcases List.mem_cons.mp q with q | q
        . cases q
          rw [beq_iff_eq.mp hk]
          exact .inl List.mem_cons_self
        . exact .inr q
    . rw [if_neg hk] at h
      rcases clOf_free r _ x c h with q | q
      . exact .inl (List.mem_cons_of_mem _ q)
      . exact .inr q
structure BlkScC (X : Cx) (sc : Scope) : Prop where
  kind : sc.kind = .function
  one : ∀ y ∈ sc.names, ∀ z ∈ sc.names, y.1 = z.1 -> y.2 = z.2
  loc : ∀ y ∈ sc.names, y.2 = .local -> sc.names.lookup y.1 = some .local
  free : ∀ y ∈ sc.names, y.2 = .free -> X.env.kindOf y.1 = some .cell \/ X.env.kindOf y.1 = some .free
section
variable {X : Cx} {pins : List (Addr × Obj)} {σ : St} {H : Hp} {s : Shared} {sc : Scope} {fp : List Addr}
theorem blkC_cells (I : Inv X pins σ H s) (S : BlkScC X sc) : ∀ p ∈ sc.names, p.2 = .free -> ∃ c, X.env.cells.lookup p.1 = some c := fun p hp e => I.ok.has p.1 (S.free p hp e)
theorem blkC_old (I : Inv X pins σ H s) (S : BlkScC X sc) {x : Str} {c : Addr} (h : (clOf X.env sc.names []).lookup x = some c) : X.env.cells.lookup x = some c :=
  clOf_mem sc.names [] (blkC_cells I S) (fun q hq => by cases hq) (x, c) (PySem.mem_of_lookup h)
theorem blkC_cases {C : Addr} (I : Inv X pins σ H s) (S : BlkScC X sc) {x : Str} {c : Addr} (h : (ownC X sc C).lookup x = some c) : C + 1 <= c \/ X.env.cells.lookup x = some c := by
  rcases cf_cases _ _ _ _ _ h with q | q
  . exact .inl q
  . exact .inr (blkC_old I S q)
theorem relabel_kindC {env : Env} : ∀ {names : List (Str × NameKind)} {x : Str} {k : NameKind}, (names.map (relF env)).lookup x = some k -> (k = .cell \/ k = .free) -> (x, NameKind.free) ∈ names \/ names.lookup x = some .cell
  | [], _, _, h, _ => by simp at h
  | (n, k') :: r, x, k, h, hk => by
    have ih := @relabel_kindC env r x k
    rw [List.map_cons] at h
    rw [List.lookup_cons]
    by_cases hb : (k' == NameKind.free && env.scope.kind == .function && env.kindOf n == some .cell) = true
    . rw [relF_yes hb, List.lookup_cons] at h
      cases hx : x == n with
      | true =>
        have e : x = n := by simpa using hx
        subst e
        have e2 : k' = .free := by
          simp only [Bool.and_eq_true] at hb
          simpa using hb.1.1
        subst e2
        exact .inl List.mem_cons_self
      | false =>
        rw [hx] at h
        rcases ih h hk with q | q
        . exact .inl (List.mem_cons_of_mem _ q)
        . exact .inr q
    . rw [relF_no hb, List.lookup_cons] at h
      cases hx : x == n with
      | true =>
        rw [hx] at h
        have e : x = n := by simpa using hx
        subst e
        have e2 : k' = k := Option.some.inj h
        subst e2
        rcases hk with rfl | rfl
        . exact .inr rfl
        . exact .inl List.mem_cons_self
      | false =>
        rw [hx] at h
        rcases ih h hk with q | q
        . exact .inl (List.mem_cons_of_mem _ q)
        . exact .inr q
theorem blkC_ok {N : List Str} {C : Addr} (I : Inv X pins σ H s) (S : BlkScC X sc) (hC : s.heap.objs.size <= C) (hf : ∀ b ∈ fp, FpOk X pins H b) (ho : ∀ b ∈ fp, ∃ o, s.heap.get? b = some o) : (X.blkC N sc C s H fp).Ok where
  mod := I.ok.mod
  kind := S.kind
  glob := I.ok.glob
  blt := I.ok.blt
  above := hC
  inj := fun x y c h1 h2 => by
    refine cf_inj sc.names (C + 1) (clOf X.env sc.names []) (fun x y c h1 h2 => I.ok.inj x y c (blkC_old I S h1) (blkC_old I S h2)) (fun x c h => ?_) x y c h1 h2
    obtain ⟨v, q⟩ := I.cell x c (blkC_old I S h)
    exact Nat.lt_succ_of_lt (Nat.lt_of_lt_of_le q.lt hC)
  has := fun x hx => by
    have hx' : (x, NameKind.free) ∈ sc.names \/ sc.names.lookup x = some .cell := by
      rcases hx with hx | hx
      . exact relabel_kindC (env := X.env) hx (.inl rfl)
      . exact relabel_kindC (env := X.env) hx (.inr rfl)
    refine Option.isSome_iff_exists.mp (PySem.W.cellsFrom_some sc.names (C + 1) (clOf X.env sc.names []) ?_)
    rcases hx' with q | q
    . obtain ⟨c, hc⟩ := clOf_has (env := X.env) sc.names [] x (.inl q)
      obtain ⟨c', e⟩ := lookup_some_of_mem hc
      exact .inr (by rw [e]; rfl)
    . exact .inl q
  cab := fun x c h e => by
    have hx : sc.names.lookup x = some .cell := by simpa using h
    rcases cf_cases _ _ _ _ _ e with q | q
    . exact Nat.le_trans hC (Nat.le_of_succ_le q)
    . rcases clOf_free _ _ _ _ (PySem.mem_of_lookup q) with z | z
      . have := S.one _ (PySem.mem_of_lookup hx) _ z rfl
        cases this
      . cases z
  hd := I.ok.hd
  frames := I.ok.frames
  stk := .inl rfl
  exf := fun b hb => by
    obtain ⟨o, ho⟩ := ho b hb
    refine ⟨Nat.ne_of_lt (Nat.lt_of_lt_of_le (Heap.lt_size ho) hC), fun x c h => ?_⟩
    rcases blkC_cases I S h with q | q
    . intro z; rw [z] at q; exact absurd (Nat.lt_of_lt_of_le (Heap.lt_size ho) hC) (Nat.not_lt_of_le (Nat.le_of_succ_le q))
    . exact (hf b hb).2.2.2.2.1 x c q
  bs := I.bs
  bsz := Nat.le_trans I.ok.bsz I.sz
  noex := fun b o e hb => by
    rcases (hf b hb).2.2.2.1 with z | z
    . exact I.ok.noex b o e z
    . exact absurd (Nat.lt_of_lt_of_le (Heap.lt_size (I.ok.bs b o e).1) z) (Nat.lt_irrefl _)
  exfs := fun b hb z => by
    rcases List.mem_cons.mp (I.stkSub b z) with e | e
    . exact (hf b hb).2.1 e
    . exact (hf b hb).2.2.1 e
  funs := I.stack
  frf := I.stkFree
theorem blkC_start {c : Caps} {C : Addr} {s4 : Shared} {m : Str -> Option Value} (I : Inv X pins σ H s) (S : BlkScC X sc) (hc : CapsOk X.N sc c) (hC : s.heap.objs.size <= C) (hf : ∀ b ∈ fp, FpOk X pins H b) (ho : ∀ b ∈ fp, ∃ o, s.heap.get? b = some o)
    (hos : s4.os = s.os) (hb : s4.gens = s.gens) (hk : ∀ b o, s.heap.get? b = some o -> s4.heap.get? b = some o) (hn : s4.heap.Ns C m)
    (hcl : ∀ x c, (ownC X sc C).lookup x = some c -> (s4.heap.IsCell c none /\ C + 1 <= c) \/ (clOf X.env sc.names []).lookup x = some c) : Inv (X.blkC c.names sc C s H fp) [] (c.st σ) H s4 where
  ok := blkC_ok I S hC hf ho
  os := hos
  bare := by rw [hb]; exact I.bare
  base := Un.kept hk
  loc := by
    refine ⟨m, hn, fun i x v h1 h2 hv => ?_⟩
    have h1' : (c.map (·.1))[i]? = some x := h1
    have h2' : (c.map fun p => p.2.bind fun j => (σ[j]?).join)[i]? = some (some v) := h2
    rw [List.getElem?_map] at h1' h2'
    cases e : c[i]? with
    | none => rw [e] at h1'; cases h1'
    | some p =>
      obtain ⟨y, oj⟩ := p
      rw [e] at h1' h2'
      have e1 : y = x := Option.some.inj h1'
      subst e1
      have e2 : (oj.bind fun j => (σ[j]?).join) = some v := Option.some.inj h2'
      cases oj with
      | none => cases e2
      | some j =>
        have e3 : (σ[j]?).join = some v := e2
        have e4 : σ[j]? = some (some v) := by
          cases q : σ[j]? with
          | none => rw [q] at e3; cases e3
          | some z => rw [q] at e3; exact congrArg some e3
        obtain ⟨k1, k2⟩ := CapsOk.get hc e
        have kmem := PySem.mem_of_lookup k2
        have k3 : X.env.kindOf y = some .cell \/ X.env.kindOf y = some .free := S.free (y, .free) kmem rfl
        have vis : Vis X.env.scope y := by
          rcases k3 with k | k
          . exact .inr (.inl k)
          . exact .inr (.inr k)
        obtain ⟨mX, hnX, hl⟩ := I.loc
        obtain ⟨u, r, l⟩ := hl j y v k1 e4 vis
        refine ⟨u, r, ?_⟩
        rcases l with ⟨k, _⟩ | ⟨_, ca, hca, z⟩
        . rcases k3 with k' | k' <;> (rw [k] at k'; cases k')
        . obtain ⟨kd, hkd, ek⟩ := relabel_free (env := X.env) k2
          have hk2 : (compEnvC sc (ownC X sc C) C X.env).kindOf y = some kd := ek
          obtain ⟨c', hc'⟩ := clOf_has (env := X.env) sc.names [] y (.inl kmem)
          obtain ⟨c2, hc2⟩ := lookup_some_of_mem hc'
          have e5 := blkC_old I S hc2
          rw [hca] at e5
          have e6 : ca = c2 := Option.some.inj e5
          subst e6
          have e7 : (ownC X sc C).lookup y = some ca := by
            rw [cf_keep sc.names (C + 1) _ y fun p hp ep z => ?_]
            . exact hc2
            . have := S.one p hp (y, .free) kmem ep
              rw [z] at this; cases this
          refine .inr ⟨?_, ca, e7, ?_⟩
          . rcases hkd with rfl | rfl
            . exact .inl hk2
            . exact .inr hk2
          . obtain ⟨oc, hoc, hd⟩ := z
            exact ⟨oc, hk _ _ hoc, hd⟩
  cell := fun x ca h => by
    rcases hcl x ca h with ⟨q, _⟩ | q
    . exact ⟨_, q⟩
    . obtain ⟨v, oc, hoc, hd⟩ := I.cell x ca (blkC_old I S q)
      exact ⟨v, oc, hk _ _ hoc, hd⟩
  free := I.hok.fresh hC
  freeC := fun x ca h => by
    rcases hcl x ca h with ⟨_, q⟩ | q
    . exact I.hok.fresh (Nat.le_trans hC (Nat.le_of_succ_le q))
    . exact I.freeC x ca (blkC_old I S q)
  pin := fun p hp => absurd (show p ∈ ([] : List (Addr × Obj)) from hp) (by simp)
  hok := I.hok.kept hk
  len := by show (c.map _).length = (c.map _).length; rw [List.length_map, List.length_map]
theorem blkC_end {c : Caps} {C D : Addr} {s' : Shared} {σ' : St} {H' : Hp} {o : HO} (I : Inv X pins σ H s) (J : Inv (X.blkC c.names sc C s H fp) [] σ' H' s') (hf : ∀ b ∈ fp, FpOk X pins H b) (hD : s.heap.objs.size <= D) (hn : H' D = none)
    (new : ObjOk X.prog X.w (upd H' D o) s'.heap D o) : Inv X pins σ (upd H' D o) s' := by
  have u : Un (frs X.stack) fp H H' s.heap s'.heap := J.base
  exact I.call' J.os (u.track hD hn) (J.hok.track hn new) J.bare fun b hb => ⟨(hf b hb).2.2.2.1, (hf b hb).2.1, (hf b hb).2.2.2.2.1, (hf b hb).2.2.2.2.2⟩
end
section
variable {X : Cx} {tg iter elt : Expr} {ifs : List Expr} {sc : Scope} {pos : Pos} {wi : TI} {cp : Caps} {g : TG} {tc : TT} {te : TE}
theorem comp_coreC (hc : X.calm = true) (S : BlkScC X sc) (hcp : CapsOk X.N sc cp)
    (hg : ∀ C s₀ H₀ ex, PG (X.blkC cp.names sc C s₀ H₀ ex) tg g) (hf : ∀ C s₀ H₀ ex, PF (X.blkC cp.names sc C s₀ H₀ ex) ifs tc) (he : ∀ C s₀ H₀ ex, PE (X.blkC cp.names sc C s₀ H₀ ex) elt te)
    {pins : List (Addr × Obj)} {σ : St} {H : Hp} {s : Shared} {J : It} {it : Addr} {fp : List Addr} {tn : Nat -> Heap -> Prop} {Q : VK} {RR : Value -> Addr -> Result -> Shared -> Prop} {E : Value -> Shared -> Prop}
    (I : Inv X pins σ H s) (T : Turn X.prog X.w X.K tg J fp it tn) (st : tn 0 s.heap) (fpo : ∀ b ∈ fp, FpOk X pins H b)
    (hw : ∃ W : Nat -> Nat -> List V -> St -> Hp -> Prop, (∃ m, W 0 m [] (cp.st σ) H) /\ ∀ i m ys σ' H', W i m ys σ' H' ->
      ys.length < sizeLine /\ ((J.stop i H' /\ ∀ D, H' D = none -> Q (.ref D) (upd H' D (.lst ys))) \/ (J.go i H' /\ ∃ N : List V -> St -> Hp -> Prop, (∀ zs σ2 H2, N zs σ2 H2 -> ∃ m', m' < m /\ W (i + 1) m' zs σ2 H2) /\ ∀ x H2, J.yld i H' x H2 -> g x σ' H2 fun σ2 H3 => tc σ2 H3 fun b H4 =>
        if b = true then te σ2 H4 fun v H5 => N (ys ++ [v]) σ2 H5 else N ys σ2 H4)))
    (hR : ∀ D C s' H' (m : Str -> Option Value), Inv X pins σ H' s' -> Q (.ref D) H' -> s'.heap.Ns C m -> H' C = none -> C ≠ X.env.locals -> X.s₀.heap.objs.size <= C -> (∀ x c, X.env.cells.lookup x = some c -> c ≠ C) -> (∀ p ∈ X.pn ++ pins, p.1 ≠ C) -> RR (.ref D) C (.ok .next) s') :
    wpAny (model X.prog X.w) X.A (newList []) (fun acc s₃ => wpAny (model X.prog X.w) X.A (newFunctionEnv sc X.env.globals (clOf X.env sc.names []) [] X.env.qual none .none (some X.env)) (fun cenv s₄ =>
      codeAny (model X.prog X.w) X.A (.compStart (.ListComp elt [⟨tg, iter, ifs, 0⟩] sc pos) 0 (.ref it) acc { cenv with scope := relabel sc X.env }) (RR acc cenv.locals) s₄) E s₃) E s := by
  obtain ⟨W, ⟨m0, w0⟩, turn⟩ := hw
  refine wpAny_newObj_type (newEnv_cells ?_)
  dsimp only
  generalize hH2 : s.heap.push { cls := .type "list", dict := none, data := .seq ([] : List Value).toArray } = H2
  obtain ⟨h₁, hh₁⟩ : ∃ h₁, h₁ = pushCells (H2.push { cls := .type "dict", data := .dict #[] }) sc.names := ⟨_, rfl⟩
  rw [<- hh₁]
  have hcells : ∀ x c, (ownC X sc H2.objs.size).lookup x = some c -> (h₁.IsCell c none /\ H2.objs.size + 1 <= c) \/ (clOf X.env sc.names []).lookup x = some c := fun x c e => by
    have := cf_cell sc.names (H2.push { cls := .type "dict", data := .dict #[] }) (clOf X.env sc.names []) x c (by rw [Heap.size_push]; exact e)
    rw [Heap.size_push] at this
    rw [hh₁]; exact this
  have hns₁ : h₁.Ns H2.objs.size (fun _ => none) := by rw [hh₁]; exact (Heap.Ns.new H2 (.type "dict")).keeps (pushCells_keeps _ _)
  have keep₁ : ∀ b o, H2.get? b = some o -> h₁.get? b = some o := fun b o e => by rw [hh₁]; exact pushCells_keeps _ _ b o (Heap.get?_push_of_some _ e)
  have hC : H2.objs.size = s.heap.objs.size + 1 := by rw [<- hH2, Heap.size_push]
  have hDC : s.heap.objs.size ≠ H2.objs.size := by rw [hC]; exact Nat.ne_of_lt (Nat.lt_succ_self _)
  have hCle : s.heap.objs.size <= H2.objs.size := by rw [hC]; exact Nat.le_succ _
  have below : ∀ b, b < s.heap.objs.size -> b ≠ H2.objs.size := fun b hb => by rw [hC]; exact Nat.ne_of_lt (Nat.lt_succ_of_lt hb)
  have old : ∀ b o, s.heap.get? b = some o -> h₁.get? b = some o := fun b o e => keep₁ b o (hH2 ▸ Heap.get?_push_of_some _ e)
  have hacc : h₁.get? s.heap.objs.size = some { cls := .type "list", data := .seq ([] : List Value).toArray 0 } := keep₁ _ _ (hH2 ▸ Heap.get?_push_size _ rfl)
  have hst₁ : tn 0 h₁ := T.keep 0 _ _ st fun b _ o e => old b o e
  have hobj : ∀ b ∈ fp, ∃ o, s.heap.get? b = some o := fun b hb => let ⟨o, e, _⟩ := T.obj 0 _ st b hb; ⟨o, e⟩
  have J0 : Inv (X.blkC cp.names sc H2.objs.size s H fp) [] (cp.st σ) H { s with heap := h₁ } := blkC_start I S hcp hCle fpo hobj rfl rfl old hns₁ hcells
  have nfs : ∀ b, s.heap.objs.size <= b -> b ∉ frs X.stack := fun b hb z => by
    rcases List.mem_cons.mp (I.stkSub b z) with e | e
    . exact absurd (Nat.lt_of_lt_of_le I.lt (by rw [<- e]; exact hb)) (Nat.lt_irrefl _)
    . exact I.nofs hb e
  have ncell : ∀ b, s.heap.objs.size <= b -> ∀ x c, X.env.cells.lookup x = some c -> c ≠ b := fun b hb x c e z => by
    obtain ⟨v, q⟩ := I.cell x c e
    exact absurd (Nat.lt_of_lt_of_le q.lt (by rw [z]; exact hb)) (Nat.lt_irrefl _)
  have fpb : ∀ {pins' : List (Addr × Obj)} {H' : Hp}, (∀ b ∈ fp, H' b = none) -> (∀ p ∈ pins', p.1 ∉ fp) -> ∀ b ∈ fp, FpOk (X.blkC cp.names sc H2.objs.size s H fp) pins' H' b := fun {pins' H'} hn hp b hb => by
    obtain ⟨o, e⟩ := hobj b hb
    refine ⟨hn b hb, below b (Heap.lt_size e), fun z => ?_, .inl hb, fun x c h => (by
      rcases blkC_cases I S h with q | q
      . intro z; rw [z] at q; exact absurd (Heap.lt_size e) (Nat.not_lt_of_le (Nat.le_trans hCle (Nat.le_of_succ_le q)))
      . exact (fpo b hb).2.2.2.2.1 x c q), fun p hp' z => ?_⟩
    . rcases List.mem_cons.mp (I.stkSub b z) with e | e
      . exact (fpo b hb).2.1 e
      . exact (fpo b hb).2.2.1 e
    . have hp'' : p ∈ pins' := by simpa using hp'
      exact hp p hp'' (by rw [z]; exact hb)
  have loop : ∀ s₃ : Shared, s₃ = { s with heap := h₁ } ->
      codeAny (model X.prog X.w) X.A (.compLoop (.ListComp elt [⟨tg, iter, ifs, 0⟩] sc pos) 0 (.ref it) (.ref s.heap.objs.size) (compEnvC sc (ownC X sc H2.objs.size) H2.objs.size X.env))
        (RR (.ref s.heap.objs.size) H2.objs.size) s₃ := by
    rintro s₃ rfl
    refine compLoop_gen (fun n s' => ∃ i σ' H' ys its k, Inv (X.blkC cp.names sc H2.objs.size s H fp) [] σ' H' s' /\ tn i s'.heap /\ (∀ b ∈ fp, H' b = none) /\ H' s.heap.objs.size = none /\
      s'.heap.get? s.heap.objs.size = some { cls := .type "list", data := .seq its.toArray k } /\ Vals ys its /\ W i n ys σ' H') ?_ m0
      ⟨0, _, H, [], [], 0, J0, hst₁, fun b hb => (fpo b hb).1, I.hok.fresh (Nat.le_refl _), hacc, .nil, w0⟩
    rintro n s3 ⟨i, σ3, H3, ys, its, k, I3, st3, fr3, hD3, e3, rv, w3⟩
    obtain ⟨hz, tr⟩ := turn i n ys σ3 H3 w3
    have hlen := rv.length
    -- the accumulator stands still while anything else runs
    have dpin : ∀ p ∈ [(s.heap.objs.size, ({ cls := .type "list", data := .seq its.toArray k } : Obj))], p.1 ∉ fp := fun p hp z => by
      have e : p = _ := List.mem_singleton.mp hp
      subst e
      obtain ⟨o, e⟩ := hobj _ z
      exact absurd (Heap.lt_size e) (Nat.lt_irrefl _)
    have I3' : Inv (X.blkC cp.names sc H2.objs.size s H fp) [(s.heap.objs.size, ({ cls := .type "list", data := .seq its.toArray k } : Obj))] σ3 H3 s3 := I3.pins_of fun p hp => by
      have e : p = _ := List.mem_singleton.mp hp
      subst e
      exact ⟨e3, hD3, hDC, nfs _ (Nat.le_refl _), fun v z => by cases z⟩
    have stat : ∀ b ∈ fp, FpOk (X.blkC cp.names sc H2.objs.size s H fp) [(s.heap.objs.size, ({ cls := .type "list", data := .seq its.toArray k } : Obj))] H3 b := fpb fr3 dpin
    rcases tr with ⟨stop, qn⟩ | ⟨go, N, hN, step⟩
    . refine thn (T.done (X.blkC cp.names sc H2.objs.size s H fp) rfl rfl rfl hc i _ s3 σ3 H3 _ I3' stat st3 stop) fun r s4 ⟨hr, I4⟩ => ?_
      subst hr
      obtain ⟨e4, n4, _⟩ := I4.pin (s.heap.objs.size, ({ cls := .type "list", data := .seq its.toArray k } : Obj)) (by simp)
      have new : ObjOk X.prog X.w (upd H3 s.heap.objs.size (.lst ys)) s4.heap s.heap.objs.size (.lst ys) := ⟨Nat.le_of_lt hz, its, k, rv, e4⟩
      obtain ⟨mC, hnC, _⟩ := I4.loc
      have I4' : Inv (X.blkC cp.names sc H2.objs.size s H fp) [] σ3 H3 s4 := I4.pins_of fun p hp => by cases hp
      have I5 := blkC_end I I4' fpo (Nat.le_refl _) n4 new
      refine hR _ _ s4 _ mC I5 (qn _ n4) hnC ?_ (Nat.ne_of_gt (Nat.lt_of_lt_of_le I.lt hCle)) (Nat.le_trans I.sz hCle) (ncell _ hCle) fun p hp z => ?_
      . rw [upd_ne (Ne.symm hDC)]; exact I4.free
      . exact absurd (Nat.lt_of_lt_of_le (Heap.lt_size (I.pin p hp).1) (by rw [z]; exact hCle)) (Nat.lt_irrefl _)
    . refine thn (T.item (X.blkC cp.names sc H2.objs.size s H fp) rfl rfl rfl hc i _ s3 σ3 H3 _ I3' stat st3 go) fun r s4 ⟨u, hr, h4⟩ => ?_
      subst hr
      refine thn h4 fun _ s5 ⟨x, H5, I5, r5, y5, st5, fr5⟩ => ?_
      have I5' := I5.pinned (fpb fr5 dpin) (T.obj _ _ st5)
      have fin : ∀ {σ7 : St} {H7 : Hp} {s7 : Shared}, Inv (X.blkC cp.names sc H2.objs.size s H fp) ([(s.heap.objs.size, ({ cls := .type "list", data := .seq its.toArray k } : Obj))] ++ pinsAt fp s5.heap) σ7 H7 s7 ->
          s7.heap.get? s.heap.objs.size = some { cls := .type "list", data := .seq its.toArray k } /\ H7 s.heap.objs.size = none /\ (∀ b ∈ fp, H7 b = none) /\ ∀ b ∈ fp, ∀ o, s5.heap.get? b = some o -> s7.heap.get? b = some o := fun {σ7 H7 s7} I7 => by
        obtain ⟨e7, n7, _⟩ := I7.pin (s.heap.objs.size, ({ cls := .type "list", data := .seq its.toArray k } : Obj)) (by simp)
        refine ⟨e7, n7, fun b hb => ?_, fun b hb o e => ?_⟩
        . obtain ⟨o, e, _⟩ := T.obj _ _ st5 b hb
          exact (I7.pin (b, o) (List.mem_append_right _ (List.mem_append_right _ (mem_pinsAt hb e)))).2.1
        . exact (I7.pin (b, o) (List.mem_append_right _ (List.mem_append_right _ (mem_pinsAt hb e)))).1
      refine wpAny_mono (hg _ _ _ _ _ s5 σ3 H5 x u _ I5' r5 (step x H5 y5)) (fun _ s6 ⟨σ6, H6, I6, q6⟩ => ?_) fun _ _ z => False.elim z
      refine wpAny_mono (hf _ _ _ _ _ s6 σ6 H6 _ I6 q6) (fun ok s7 ⟨H7, I7, q7⟩ => ?_) fun _ _ z => False.elim z
      cases ok with
      | false =>
        rw [if_neg Bool.false_ne_true]
        rw [if_neg Bool.false_ne_true] at q7
        obtain ⟨m', hm, w7⟩ := hN _ _ _ q7
        obtain ⟨e7, n7, fr7, k7⟩ := fin I7
        exact ⟨m', hm, i + 1, σ6, H7, ys, its, k, I7.pins_of (fun p hp => by cases hp), T.keep _ _ _ st5 k7, fr7, n7, e7, rv, w7⟩
      | true =>
        rw [if_pos rfl]
        rw [if_pos rfl] at q7
        refine wpAny_mono (he _ _ _ _ _ s7 σ6 H7 _ I7 q7) (fun v s8 ⟨y, H8, I8, r8, q8⟩ => ?_) fun _ _ z => False.elim z
        obtain ⟨m', hm, w8⟩ := hN _ _ _ q8
        obtain ⟨e8, n8, fr8, k8⟩ := fin I8
        refine call_meets F.slot_list_append ⟨_, e8, rfl⟩ F.entry_list_append (F.args_list_append_2 _ _) (PySem.list_append s.heap.objs.size its.toArray k v (by rw [List.size_toArray]; omega)) ⟨e8, ?_⟩
        obtain ⟨k', q⟩ : ∃ k', (s8.heap.update s.heap.objs.size (Obj.mapSeq fun x => x.push v)).get? s.heap.objs.size = some { cls := .type "list", data := .seq (its ++ [v]).toArray k' } := ⟨_, by
          have q := PySem.IsL.update e8 fun x => x.push v
          have e : (its ++ [v]).toArray = its.toArray.push v := by simp
          rw [e]
          exact q⟩
        have I8' : Inv (X.blkC cp.names sc H2.objs.size s H fp) [] σ6 H8 s8 := I8.pins_of fun p hp => by cases hp
        have I9 : Inv (X.blkC cp.names sc H2.objs.size s H fp) [] σ6 H8 { s8 with heap := s8.heap.update s.heap.objs.size (Obj.mapSeq fun x => x.push v), toks := s8.toks } :=
          I8'.turned (it := s.heap.objs.size) (fun b o hb e => (Heap.get?_update_other _ _ (Ne.symm hb)).trans e) n8 hDC (.inr (Nat.le_refl _)) (fun x c e => by
            rcases blkC_cases I S e with q | q
            . intro z; rw [z] at q; exact absurd (Nat.le_trans q hCle) (Nat.not_succ_le_self _)
            . exact ncell _ (Nat.le_refl _) x c q) (fun p hp => by cases hp)
        refine ⟨m', hm, i + 1, σ6, H8, ys ++ [y], its ++ [v], k', I9, T.keep (i + 1) s5.heap _ st5 (fun b hb o e => ?_), fr8, n8, q, rv.append (.cons r8 .nil), w8⟩
        . refine (Heap.get?_update_other _ _ ?_).trans (k8 b hb o e)
          intro z
          obtain ⟨ob, eb⟩ := hobj b hb
          exact absurd (Heap.lt_size eb) (by rw [<- z]; exact Nat.lt_irrefl _)
  exact codeAny_compStart_list (loop _ rfl) (T.self _ 0 _ _ _ hst₁ (loop _ rfl))
theorem ps_setCC {i : Nat} {x : Str} {px spos : Pos} (hN : X.N.Nodup) (hi : X.N[i]? = some x) (hx : X.env.scope.names.lookup x = some .local) (hc : X.calm = true) (S : BlkScC X sc) (hcp : CapsOk X.N sc cp) (hit : PI X tg iter wi)
    (hg : ∀ C s₀ H₀ ex, PG (X.blkC cp.names sc C s₀ H₀ ex) tg g) (hf : ∀ C s₀ H₀ ex, PF (X.blkC cp.names sc C s₀ H₀ ex) ifs tc) (he : ∀ C s₀ H₀ ex, PE (X.blkC cp.names sc C s₀ H₀ ex) elt te)
    (hsw : swapsWith (.ListComp elt [⟨tg, iter, ifs, 0⟩] sc pos) (some (.Name x px)) spos.line X.env = pure true := by rfl)
    (hs : ∀ x, foldedSetIterable iter X.env x = pure x := by intro _; rfl) : PS X (.Assign [.Name x px] (.ListComp elt [⟨tg, iter, ifs, 0⟩] sc pos) spos) (tAsg (tComp wi cp g tc te) (gName i)) := by
  intro pins s σ H D I h
  rw [exec_Assign_Name_used _ _ _ _ hsw]
  refine wpAny_bind (wpAny_standAt (wpAny_bind ?_))
  show wpAny _ X.A (do let _ <- comprehension (.ListComp elt [⟨tg, iter, ifs, 0⟩] sc pos) sc X.env _ (newList []) false (eval iter X.env) (some (assign (.Name x px) X.env))) _ _ s
  refine wpAny_bind (wpAny_mono (wpAny_comprehension_free (use := some (assign (.Name x px) X.env)) (Q := fun _ s' => SP X pins D .next s') rfl hs (closure_eq (blkC_cells I S)) S.kind S.loc
    (thn (hit pins s σ H _ I h) fun xv s₁ h₁ => thn h₁ fun itv s₂ h₂ => ?_)) (fun _ s' hq => wpAny_pure (wpAny_pure hq)) fun _ _ e => e)
  obtain ⟨it, fp, tn, J, H2, e, I2, T, st2, f2, hw⟩ := h₂
  subst e
  refine comp_coreC (RR := fun acc C => compPost (model X.prog X.w) X.A X.xe (some (assign (.Name x px) X.env)) (fun _ s' => SP X pins D .next s') acc C) (Q := fun v H1 => gName i v σ H1 D.nx) hc S hcp hg hf he I2 T st2 f2 hw ?_
  intro Dl C s' H' m I' q hn hC hL hz hcl hp
  show wpAny _ X.A (assign (.Name x px) X.env (.ref Dl)) _ _ _
  refine wpAny_assign_Name (store_ok2 I' hN hi (.inl hx) (v := .ref Dl) rfl (fun s'' I'' ⟨a, hsb, ha⟩ => ?_) (.inr hx))
  have hne : C ≠ a := by
    rcases ha with rfl | ha
    . exact hL
    . exact fun z => hcl _ _ ha z.symm
  refine ⟨m, hn.sameBut hsb hne, fun h' hs' => ⟨_, H', I''.turned (t' := s''.toks) (it := C) (fun b o hb e => hs'.extBut b o hb e) hC hL (.inr hz) hcl hp, q⟩⟩
end
def blkOkC (outer : List (Str × NameKind)) (sc : Scope) : Bool :=
  sc.kind == .function && sc.names.all (fun y => (y.2 != .local || sc.names.lookup y.1 == some .local) && (y.2 != .free || outer.lookup y.1 == some .cell || outer.lookup y.1 == some .free) && sc.names.all fun z => y.1 != z.1 || y.2 == z.2)
theorem blkC_mk {X : Cx} {sc : Scope} (h : blkOkC X.env.scope.names sc = true) : BlkScC X sc := by
  unfold blkOkC at h
  rw [Bool.and_eq_true, List.all_eq_true] at h
  obtain ⟨h1, h2⟩ := h
  refine ⟨by simpa using h1, fun y hy z hz e => ?_, fun y hy z => ?_, fun y hy z => ?_⟩
  . have := h2 y hy
    simp only [Bool.and_eq_true, List.all_eq_true] at this
    have := this.2 z hz
    rw [e] at this
    simpa using this
  . have := h2 y hy
    simp only [Bool.and_eq_true] at this
    have := this.1.1
    rw [z] at this
    simpa using this
  . have := h2 y hy
    simp only [Bool.and_eq_true] at this
    have := this.1.2
    rw [z] at this
    have t : (X.env.scope.names.lookup y.1 == some .cell || X.env.scope.names.lookup y.1 == some .free) = true := by simpa using this
    rw [Bool.or_eq_true] at t
    rcases t with t | t
    . exact .inl (by show X.env.scope.names.lookup y.1 = some .cell; simpa using t)
    . exact .inr (by show X.env.scope.names.lookup y.1 = some .free; simpa using t)
end L2
namespace L2
open PySem PySem.Spec PyProof.Rows GW GB
def KeysT (ps : List (Int × Int)) (kvs : List (List Key × V)) : Prop := kvs.map (·.1) = ps.map keyP
theorem KeysT.no {ps : List (Int × Int)} {kvs : List (List Key × V)} (h : KeysT ps kvs) {g : Int × Int} (hg : g ∉ ps) : valV kvs (keyP g) = none := by
  unfold valV
  rw [Option.map_eq_none_iff, List.find?_eq_none]
  intro kv hkv
  simp only [decide_eq_true_eq]
  intro z
  have : keyP g ∈ ps.map keyP := by rw [<- h, <- z]; exact List.mem_map.mpr ⟨kv, hkv, rfl⟩
  obtain ⟨q, hq, e⟩ := List.mem_map.mp this
  exact hg (keyP_inj e ▸ hq)
theorem KeysT.yes {ps : List (Int × Int)} {kvs : List (List Key × V)} (h : KeysT ps kvs) {g : Int × Int} (hg : g ∈ ps) : (valV kvs (keyP g)).isSome = true := by
  rw [<- valV_any]
  have : keyP g ∈ kvs.map (·.1) := by rw [h]; exact List.mem_map.mpr ⟨g, hg, rfl⟩
  obtain ⟨kv, hkv, e⟩ := List.mem_map.mp this
  exact List.any_eq_true.mpr ⟨kv, hkv, decide_eq_true e⟩
theorem KeysT.put {ps : List (Int × Int)} {kvs : List (List Key × V)} (h : KeysT ps kvs) {g : Int × Int} (hg : g ∉ ps) (v : V) : KeysT (ps ++ [g]) (putK kvs (keyP g) v) := by
  rw [putK_new _ (h.no hg)]
  unfold KeysT
  rw [List.map_append, List.map_append, h]; rfl
theorem KeysT.len {ps : List (Int × Int)} {kvs : List (List Key × V)} (h : KeysT ps kvs) : kvs.length = ps.length := by
  have := congrArg List.length h
  simpa using this
end L2
namespace GB
open GW
end GB
set_option Elab.async false
set_option linter.all false
set_option maxRecDepth 100000
set_option maxHeartbeats 4000000
namespace L2
open PySem PySem.Spec PyProof.Rows GW
def WordsT (K : PySem.W.Frag) (H : Hp) (xs : List V) (ws : List (List Int)) : Prop := xs.length = ws.length /\ ∀ (i : Nat) (w : List Int), ws[i]? = some w -> ∃ t, xs[i]? = some (.ref t) /\ H t = some (.tup (w.map V.int))
theorem WordsT.nil {K : PySem.W.Frag} {H : Hp} : WordsT K H [] [] := ⟨rfl, fun i w h => by simp at h⟩
theorem WordsT.mono {K : PySem.W.Frag} {H H' : Hp} {xs : List V} {ws : List (List Int)} (h : WordsT K H xs ws) (k : TK H H') : WordsT K H' xs ws := by
  refine ⟨h.1, fun i w hw => ?_⟩
  obtain ⟨t, a, b⟩ := h.2 i w hw
  exact ⟨t, a, k _ _ b⟩
theorem WordsT.snoc {K : PySem.W.Frag} {H : Hp} {xs : List V} {ws : List (List Int)} (h : WordsT K H xs ws) {t : Addr} {w : List Int} (ht : H t = some (.tup (w.map V.int))) : WordsT K H (xs ++ [.ref t]) (ws ++ [w]) := by
  refine ⟨by rw [List.length_append, List.length_append, h.1]; rfl, fun i v hi => ?_⟩
  by_cases hil : i < ws.length
  . rw [List.getElem?_append_left hil] at hi
    rw [List.getElem?_append_left (by rw [h.1]; exact hil)]
    exact h.2 i v hi
  . have := (List.getElem?_eq_some_iff.mp hi).1
    rw [List.length_append, List.length_singleton] at this
    have ei : i = ws.length := by omega
    subst ei
    rw [List.getElem?_append_right (Nat.le_refl _), Nat.sub_self] at hi
    simp at hi
    subst hi
    refine ⟨t, ?_, ht⟩
    rw [List.getElem?_append_right (by rw [h.1]; exact Nat.le_refl _), h.1, Nat.sub_self]; rfl
theorem WordsT.at {K : PySem.W.Frag} {H : Hp} {xs : List V} {ws : List (List Int)} (h : WordsT K H xs ws) {i : Nat} {x : V} (hx : xs[i]? = some x) : ∃ t w, ws[i]? = some w /\ x = .ref t /\ H t = some (.tup (w.map V.int)) := by
  have hi : i < ws.length := by rw [<- h.1]; exact (List.getElem?_eq_some_iff.mp hx).1
  obtain ⟨t, a, b⟩ := h.2 i ws[i] (by simp [hi])
  rw [hx] at a
  exact ⟨t, ws[i], by simp [hi], Option.some.inj a, b⟩
theorem rCatT2.ofS {K : PySem.W.Frag} {H : Hp} {Q : VK} {a b : Addr} {xs ys : List V} (ha : H a = some (.tup xs)) (hb : H b = some (.tup ys)) (hz : xs.length + ys.length <= sizeLine) (h : ∀ p H', Same H H' -> H' p = some (.tup (xs ++ ys)) -> Q (.ref p) H') : rCatT2 K (.ref a) (.ref b) H Q := by
  refine ⟨a, b, xs, ys, rfl, rfl, SqT.of ha, SqT.of hb, hz, fun e => ?_, fun _ e => ?_, fun _ _ p hp => h p _ (Same.new hp) upd_same⟩
  . subst e; exact h b H (Same.refl _) (by simpa using hb)
  . subst e; exact h a H (Same.refl _) (by simpa using ha)
end L2
namespace L2
open PySem PySem.Spec PyProof.Rows GW
end L2
namespace GW
def ins (s : List (List Int)) (w : List Int) : List (List Int) := if w ∈ s then s else s ++ [w]
end GW
namespace L2
open PySem PySem.Spec PyProof.Rows GW
def wkey (w : List Int) : List Key := w.map Sum.inl
theorem wkey_kV (w : List Int) : (wkey w).map kV = w.map V.int := by unfold wkey; rw [List.map_map]; rfl
theorem wkey_inj {v w : List Int} (h : wkey v = wkey w) : v = w := (List.map_inj_right (fun x y z => Sum.inl.inj z)).mp h
end L2
set_option Elab.async false
set_option linter.all false
set_option maxRecDepth 100000
set_option maxHeartbeats 4000000
namespace L2
open PySem PySem.Spec PyProof.Rows
section
variable {M : Model} {A : Around} {E : Value -> Shared -> Prop} {s : Shared}
end
section
variable {X : Cx} {N : List Str} {sc : Scope} {C : Addr} {s₀ : Shared} {H₀ : Hp} {ex : List Addr} {xe : Value -> Shared -> Prop} {pins : List (Addr × Obj)} {σ : St} {H : Hp} {s : Shared}
end
section
variable {X : Cx} {tg iter elt : Expr} {ifs : List Expr} {sc : Scope} {pos : Pos} {wi : TI} {cp : Caps} {g : TG} {tc : TT} {te : TE}
end
end L2
set_option Elab.async false
set_option linter.all false
set_option maxRecDepth 100000
set_option maxHeartbeats 4000000
namespace PySem.W
open PySem PySem.Calls PyProof.Rows PyProof.V PySem.Spec
section
variable {prog : Program} {w : World} {A : Around} {E : Value -> Shared -> Prop} {s : Shared}
end
section
variable {prog : Program} {w : World} {A : Around} {E : Value -> Shared -> Prop} {s : Shared} {r d : Addr} {es : Array DictEntry} {ep : Nat} {od : Obj}
end
end PySem.W
set_option Elab.async false
set_option linter.all false
set_option maxRecDepth 100000
set_option maxHeartbeats 4000000
namespace L2
open PySem PySem.Spec PyProof.Rows
theorem lay_tups {P : Program} {w : World} {fs : List Addr} {H0 : Hp} {h0 h' : Heap} : ∀ (as : List (Addr × List V)), (as.map (·.1)).Nodup ->
    (∀ p ∈ as, h0.objs.size <= p.1 /\ p.2.length <= sizeLine /\ ∃ its : List Value, Vals p.2 its /\ IsTup h' p.1 its.toArray) -> ∀ H, Un fs [] H0 H h0 h' -> HOk P w H h' -> (∀ p ∈ as, H p.1 = none) ->
    ∃ H2, Un fs [] H0 H2 h0 h' /\ HOk P w H2 h' /\ Same H H2 /\ (∀ p ∈ as, H2 p.1 = some (.tup p.2)) /\ ∀ b, b ∉ as.map (·.1) -> H2 b = H b
  | [], _, _, H, u, k, _ => ⟨H, u, k, Same.refl _, (fun p hp => by simp at hp), fun b _ => rfl⟩
  | p :: r, nd, hp, H, u, k, hn => by
    rw [List.map_cons, List.nodup_cons] at nd
    obtain ⟨h1, h2, its, h3, h4⟩ := hp p List.mem_cons_self
    have hnp := hn p List.mem_cons_self
    have k2 : HOk P w (upd H p.1 (.tup p.2)) h' := k.track hnp ⟨h2, its, h3, h4⟩
    obtain ⟨H2, e1, e2, e3, e4, e5⟩ := lay_tups r nd.2 (fun q hq => hp q (List.mem_cons_of_mem _ hq)) (upd H p.1 (.tup p.2)) (u.track h1 hnp) k2 (fun q hq => by
      have hne : q.1 ≠ p.1 := fun z => nd.1 (by rw [<- z]; exact List.mem_map_of_mem hq)
      rw [upd_ne hne]
      exact hn q (List.mem_cons_of_mem _ hq))
    refine ⟨H2, e1, e2, (Same.new hnp).trans e3, fun q hq => ?_, fun b hb => ?_⟩
    . rcases List.mem_cons.mp hq with rfl | hq
      . exact e3 _ _ upd_same
      . exact e4 q hq
    . rw [List.map_cons, List.mem_cons, not_or] at hb
      rw [e5 b hb.2, upd_ne hb.1]
theorem Vals.two' {x y : V} {u v : Value} (h1 : RelV x u) (h2 : RelV y v) : Vals [x, y] [u, v] := .cons h1 (.cons h2 .nil)
theorem valsR : ∀ as : List Addr, Vals (as.map V.ref) (as.map Value.ref)
  | [] => .nil
  | _ :: r => .cons rfl (valsR r)
end L2
set_option Elab.async false
set_option linter.all false
set_option maxRecDepth 100000
set_option maxHeartbeats 4000000
namespace L2
open PySem PySem.Spec PyProof.Rows
section
variable {K : PySem.W.Frag} {ta tv td ty tx : TE} {t : TA} {f m : Str} {σ : St} {H : Hp} {Q : VK} {D : Ends} {C : Addr} {sp : Sp} {dvs : List V} {E : XK}
end
def ents (es : List (List Int × Int)) : List (List Key × V) := es.map fun e => (wkey e.1, V.int e.2)
end L2
set_option Elab.async false
set_option linter.all false
set_option maxRecDepth 100000
set_option maxHeartbeats 4000000
namespace L2
open PySem PySem.Spec PyProof.Rows
end L2
set_option Elab.async false
set_option linter.all false
set_option maxRecDepth 100000
set_option maxHeartbeats 4000000
namespace L2
open PySem PySem.W PySem.Spec PySem.Calls PyProof.Rows
end L2
set_option linter.all false
namespace PrimeO
def NoDiv (p : Nat) : Prop := ∀ d, 2 <= d -> d < p -> p % d ≠ 0
def Pr (p : Int) : Prop := 2 <= p /\ p < 1000000000000000000 /\ NoDiv p.toNat
end PrimeO
set_option Elab.async false
set_option linter.all false
set_option maxRecDepth 100000
set_option maxHeartbeats 4000000
namespace L2
open PySem PySem.Spec PyProof.Rows
section
variable {X : Cx} {CX CX' : CXT} {k k' : Nat} {f f' : Addr} {fd fd' : FuncData} {ps ps' : List Str} {sp sp' : Sp} {dvs dvs' : List V} {ds ds' : List Value} {x : Str} {p pos : Pos} {e : Expr} {es : List Expr} {t : TA}
end
end L2
set_option Elab.async false
set_option linter.all false
set_option maxRecDepth 100000
set_option maxHeartbeats 4000000
namespace PySem
open Sem (wp)
open PySem.F
def SqAny (t : Bool) (h : Heap) (l : Addr) (xs : Array Value) : Prop := match t with | false => h.IsList l xs | true => h.IsTuple l xs
def ItAny (t : Bool) (h : Heap) (i l : Addr) (k : Nat) : Prop := match t with | false => h.IsListIter i l k | true => h.IsTupleIter i l k
theorem SqAny.extBut {t : Bool} {h h' : Heap} {a b items} (x : SqAny t h a items) (hs : Heap.ExtBut b h h') (hab : a ≠ b) : SqAny t h' a items := by
  cases t
  . exact Heap.IsList.extBut x hs hab
  . exact Heap.IsTuple.extBut x hs hab
theorem SqAny.push {t : Bool} {h : Heap} {a items} (x : SqAny t h a items) (o : Obj) : SqAny t (h.push o) a items := by
  cases t
  . exact Heap.IsList.push x o
  . exact Heap.IsTuple.push x o
theorem SqAny.lt {t : Bool} {h : Heap} {a items} (x : SqAny t h a items) : a < h.objs.size := by
  cases t
  . obtain ⟨_, e, _⟩ := x; exact Heap.lt_size e
  . obtain ⟨_, e, _⟩ := x; exact Heap.lt_size e
theorem ItAny.extBut {t : Bool} {h h' : Heap} {a b l i} (x : ItAny t h a l i) (hs : Heap.ExtBut b h h') (hab : a ≠ b) : ItAny t h' a l i := by
  cases t
  . exact Heap.IsListIter.extBut x hs hab
  . exact Heap.IsTupleIter.extBut x hs hab
theorem ItAny.at {t : Bool} {h h' : Heap} {a l i} (x : ItAny t h a l i) (e : ∀ o, h.get? a = some o -> h'.get? a = some o) : ItAny t h' a l i := by
  cases t
  . exact Heap.IsListIter.at x e
  . exact Heap.IsTupleIter.at x e
theorem ItAny.ob {t : Bool} {h : Heap} {a l i} (x : ItAny t h a l i) : ∃ o, h.get? a = some o /\ o.data = .fields #[.ref l, .int i 0] := by
  cases t
  . obtain ⟨o, e, _, d⟩ := x; exact ⟨o, e, d⟩
  . obtain ⟨o, e, _, d⟩ := x; exact ⟨o, e, d⟩
theorem ItAny.lt {t : Bool} {h : Heap} {a l i} (x : ItAny t h a l i) : a < h.objs.size := by
  obtain ⟨_, e, _⟩ := x.ob; exact Heap.lt_size e
section
variable {prog : Program} {w : World} {A : Around} {E : Value -> Shared -> Prop} {s : Shared}
theorem nextAny {t : Bool} {it l : Addr} {i : Nat} {items : Array Value} {Q : Value -> Shared -> Prop} (hit : ItAny t s.heap it l i) (hl : SqAny t s.heap l items)
    (hQ : ∀ x h', items[i]? = some x -> ItAny t h' it l (i + 1) -> Heap.SameBut it s.heap h' -> Q x { s with heap := h' })
    (hE : items[i]? = none -> A.handled = none /\ ∀ h' e, Heap.ExtBut it s.heap h' -> (∃ o, h'.get? e = some o /\ o.cls = .type "StopIteration") -> E (.ref e) { s with heap := h' }) : wpAny (model prog w) A (Builtin.SmallTypes.nextOf (.ref it)) Q E s := by
  cases t
  . cases hx : items[i]? with
    | some x => exact wpAny_nextOf_list_item hit hl hx fun h' => hQ x h' hx
    | none => exact wpAny_nextOf_list_end (hE hx).1 hit hl hx (hE hx).2
  . exact nextOf_tup hit hl hQ hE
def itCls (t : Bool) : Value := match t with | false => .type "list_iterator" | true => .type "tuple_iterator"
theorem ItAny.mk {t : Bool} {h : Heap} {a l : Addr} (g : h.get? a = some { cls := itCls t, data := .fields #[.ref l, .int 0 0] }) : ItAny t h a l 0 := by
  cases t
  . exact ⟨_, g, rfl, rfl⟩
  . exact ⟨_, g, rfl, rfl⟩
theorem wpAny_pyIter_any {t : Bool} {l : Addr} {items} {Q : Value -> Shared -> Prop} (hl : SqAny t s.heap l items)
    (hQ : Q (.ref s.heap.objs.size) { s with heap := s.heap.push { cls := itCls t, data := .fields #[.ref l, .int 0 0] } }) : wpAny (model prog w) A (pyIter (.ref l)) Q E s := by
  cases t
  . exact wpAny_pyIter_list hl hQ
  . exact wpAny_pyIter_tuple hl hQ
end
section
variable {prog : Program} {w : World} {A : Around} {E : Value -> Shared -> Prop} {s : Shared}
theorem pyIterA {t : Bool} {l : Addr} {items} {Q : Value -> Shared -> Prop} (hl : SqAny t s.heap l items) (h : ∀ h', s.heap.push { cls := itCls t, data := .fields #[.ref l, .int 0 0] } = h' -> Q (.ref s.heap.objs.size) { s with heap := h' }) : wpAny (model prog w) A (pyIter (.ref l)) Q E s := wpAny_pyIter_any hl (h _ rfl)
theorem zipN {t1 t2 : Bool} {z TI TO i1 i2 l1 l2 : Addr} {k1 k2 : Nat} {xs ys : Array Value} {a b : Value} {Q : Option Value -> Shared -> Prop} (D : ZipApart z TI TO i1 i2 l1 l2) (hz : IsZip s.heap z TI TO .none) (hTI : IsPair s.heap TI (.ref i1) (.ref i2)) (hTO : IsPair s.heap TO a b)
    (h1 : ItAny t1 s.heap i1 l1 k1) (h2 : ItAny t2 s.heap i2 l2 k2) (hl1 : SqAny t1 s.heap l1 xs) (hl2 : SqAny t2 s.heap l2 ys)
    (hQ : ∀ x y h', xs[k1]? = some x -> ys[k2]? = some y -> IsZip h' z TI TO (rawInt s.heap.objs.size) -> IsPair h' TO x y -> ItAny t1 h' i1 l1 (k1 + 1) -> ItAny t2 h' i2 l2 (k2 + 1) -> IsPair h' s.heap.objs.size x y -> h'.objs.size = s.heap.objs.size + 1 -> (∀ c o, c ≠ z -> c ≠ TO -> c ≠ i1 -> c ≠ i2 -> s.heap.get? c = some o -> h'.get? c = some o) -> Q (some (.ref s.heap.objs.size)) { s with heap := h' })
    (hN : xs[k1]? = none \/ ys[k2]? = none -> A.handled = none /\ ∀ h', (∀ c o, c ≠ z -> c ≠ TO -> c ≠ i1 -> c ≠ i2 -> s.heap.get? c = some o -> h'.get? c = some o) -> Q none { s with heap := h' }) : wpAny (model prog w) A (pyNext (.ref z)) Q E s := by
  have hT : s.TypeIs (.ref z) "zip" := ⟨_, hz, rfl⟩
  have e1 := F.slot_zip_next
  unfold pyNext
  refine wpAny_bind (wpAny_attempt (wpAny_callSpecial?_slot hT e1 (wpAny_call_entry e1 hT F.entry_zip_next ?_ (F.args_zip_next_1 _))))
  wp_walk using wpAny_setField_rec hz
  . exact Nat.lt_of_sub_eq_succ rfl
  intro u0 g0 k0
  replace g0 : IsZip u0 z TI TO .ellipsis := g0
  have m1 : ItAny t1 u0 i1 l1 k1 := h1.extBut k0.extBut D.i1z
  have m2 : SqAny t1 u0 l1 xs := hl1.extBut k0.extBut D.l1z
  simp only [List.zipIdx_cons, List.zipIdx_nil, List.forIn_cons, List.forIn_nil]
  have stop : ∀ h' (e : Addr), (∀ c o, c ≠ z -> c ≠ TO -> c ≠ i1 -> c ≠ i2 -> s.heap.get? c = some o -> h'.get? c = some o) -> IsZip h' z TI TO .ellipsis -> (∃ o, h'.get? e = some o /\ o.cls = .type "StopIteration") -> xs[k1]? = none \/ ys[k2]? = none ->
      wpAny (model prog w) A.in1 (setField (.ref z) 0 .none) (fun _ s'' => wpAny (model prog w) A (do if <- isInstance (.ref e) (.type "StopIteration") then pure none else throw (.ref e)) Q E s'') (fun e s' => wpAny (model prog w) A (do if <- isInstance e (.type "StopIteration") then pure none else throw e) Q E s') { s with heap := h' } := fun h' e kk hz' he hx => by
    obtain ⟨o, e2, e3⟩ := he
    have n : e ≠ z := fun x => by subst x; rw [hz'] at e2; cases e2; simp at e3
    refine wpAny_setField_rec hz' (Nat.lt_of_sub_eq_succ rfl) fun h2 _ k2 => wpAny_bind (wpAny_isInstance (T := "StopIteration") (b := true) ⟨o, k2.extBut e o n e2, e3⟩ isSubtype_stop (wpAny_pure ((hN hx).2 h2 fun c o n1 n2 n3 n4 q => k2.extBut c o n1 (kk c o n1 n2 n3 n4 q))))
  wp_walk using wpAny_onRaise, nextAny (A := A.in1) (s := { s with heap := u0 }) m1 m2
  . intro x u1 hx m3 k3
    have y0 : IsPair u1 TO a b := k3.extBut TO _ D.TOi1 (k0.extBut TO _ D.TOz hTO)
    wp_walk using wpAny_updateSeq_pair y0
    intro u2 y2 k4
    replace y2 : IsPair u2 TO x b := y2
    have kk : ∀ c o, c ≠ z -> c ≠ TO -> c ≠ i1 -> s.heap.get? c = some o -> u2.get? c = some o := fun c o n1 n2 n3 q => k4.extBut c o n2 (k3.extBut c o n3 (k0.extBut c o n1 q))
    have g2 : IsZip u2 z TI TO .ellipsis := k4.extBut _ _ D.TOz.symm (k3.extBut _ _ D.i1z.symm g0)
    have m4 : ItAny t2 u2 i2 l2 k2 := h2.at fun o q => kk _ o D.i2z D.TOi2.symm D.i12.symm q
    have m5 : SqAny t2 u2 l2 ys := ((hl2.extBut k0.extBut D.l2z).extBut k3.extBut D.l2i1).extBut k4.extBut D.l2TO
    wp_walk using wpAny_onRaise, nextAny (A := A.in1) (s := { s with heap := u2 }) m4 m5
    . intro y u3 hy m6 k5
      have y3 : IsPair u3 TO x b := k5.extBut TO _ D.TOi2 y2
      wp_walk using wpAny_updateSeq_pair y3
      intro u4 y4 k6
      replace y4 : IsPair u4 TO x y := y4
      have g4 : IsZip u4 z TI TO .ellipsis := k6.extBut _ _ D.TOz.symm (k5.extBut _ _ D.i2z.symm g2)
      have zz : u4.objs.size = s.heap.objs.size := k6.1.trans (k5.1.trans (k4.1.trans (k3.1.trans k0.1)))
      wp_walk using newT
      . exact (show 2 <= sizeLine from by decide)
      intro u5 q5
      have kp : ∀ c o, u4.get? c = some o -> u5.get? c = some o := fun c o q => by rw [<- q5]; exact Heap.get?_push_of_some _ q
      have g5 := kp z _ g4
      have y5 : IsPair u5 u4.objs.size x y := by rw [<- q5]; exact Heap.get?_push_size _ rfl
      have z5 : u5.objs.size = u4.objs.size + 1 := by rw [<- q5]; exact Heap.size_push ..
      wp_walk using wpAny_setField_rec g5
      . exact Nat.lt_of_sub_eq_succ rfl
      intro u6 g6 k7
      replace g6 : IsZip u6 z TI TO (rawInt u4.objs.size) := g6
      wp_walk using wpAny_setField_rec g6
      . exact Nat.lt_of_sub_eq_succ rfl
      intro u7 g7 k8
      replace g7 : IsZip u7 z TI TO (rawInt u4.objs.size) := g7
      refine wpAny_pure ⟨_, rfl, wpAny_pure ?_⟩
      show Q (some (Value.ref u4.objs.size)) _
      have up : ∀ c o, c ≠ z -> u4.get? c = some o -> u7.get? c = some o := fun c o n q => k8.extBut c o n (k7.extBut c o n (kp c o q))
      have nz : u4.objs.size ≠ z := Nat.ne_of_gt (Heap.lt_size g4)
      have y7 := k8.extBut _ _ nz (k7.extBut _ _ nz y5)
      rw [zz] at g7 y7 z5 ⊢
      exact hQ x y u7 hx hy g7 (up _ _ D.TOz y4) ((m3.at fun o q => k6.extBut _ o D.TOi1.symm (k5.extBut _ o D.i12 (k4.extBut _ o D.TOi1.symm q))).at fun o q => up _ o D.i1z q) ((m6.at fun o q => k6.extBut _ o D.TOi2.symm q).at fun o q => up _ o D.i2z q) y7 ((k8.1.trans k7.1).trans z5)
        fun c o n1 n2 n3 n4 q => up c o n1 (k6.extBut c o n2 (k5.extBut c o n4 (kk c o n1 n2 n3 q)))
    . refine fun hy => ⟨(hN (.inr hy)).1, fun u3 e k5 he => ?_⟩
      exact stop u3 e (fun c o n1 n2 n3 n4 q => k5 c o n4 (kk c o n1 n2 n3 q)) (k5 z _ D.i2z.symm g2) he (.inr hy)
  . refine fun hx => ⟨(hN (.inl hx)).1, fun u1 e k3 he => ?_⟩
    exact stop u1 e (fun c o n1 n2 n3 n4 q => k3 c o n3 (k0.extBut c o n1 q)) (k3 z _ D.i1z.symm g0) he (.inl hx)
theorem call_zip_2G {t1 t2 : Bool} {l1 l2 : Addr} {xs ys : Array Value} {Q : Value -> Shared -> Prop} (hl1 : SqAny t1 s.heap l1 xs) (hl2 : SqAny t2 s.heap l2 ys)
    (h : ∀ h', IsZip h' (s.heap.objs.size + 4) (s.heap.objs.size + 2) (s.heap.objs.size + 3) .none -> IsPair h' (s.heap.objs.size + 2) (.ref s.heap.objs.size) (.ref (s.heap.objs.size + 1)) -> IsPair h' (s.heap.objs.size + 3) .none .none -> ItAny t1 h' s.heap.objs.size l1 0 -> ItAny t2 h' (s.heap.objs.size + 1) l2 0 -> h'.objs.size = s.heap.objs.size + 5 -> (∀ c o, s.heap.get? c = some o -> h'.get? c = some o) -> Q (.ref (s.heap.objs.size + 4)) { s with heap := h' }) :
    wpAny (model prog w) A (call (.type "zip") [.ref l1, .ref l2]) Q E s := by
  have M : Meets (Builtin.«zip.__new__» ⟨[.type "zip", .ref l1, .ref l2], []⟩) fun _ R t => t = s /\ ∀ h', IsZip h' (s.heap.objs.size + 4) (s.heap.objs.size + 2) (s.heap.objs.size + 3) .none -> IsPair h' (s.heap.objs.size + 2) (.ref s.heap.objs.size) (.ref (s.heap.objs.size + 1)) -> IsPair h' (s.heap.objs.size + 3) .none .none -> ItAny t1 h' s.heap.objs.size l1 0 -> ItAny t2 h' (s.heap.objs.size + 1) l2 0 -> h'.objs.size = s.heap.objs.size + 5 -> (∀ c o, s.heap.get? c = some o -> h'.get? c = some o) -> R (.ok (.ret (.ref (s.heap.objs.size + 4)))) { s with heap := h' } := .of_wp fun prog w A R t ⟨e, q⟩ => by
    subst e
    obtain ⟨hp, g, d, tk, os⟩ := t
    have hsub := sub_zip
    wp_walk using pyIterA hl1
    intro u1 q1
    obtain ⟨a1, b1, c1⟩ := psh q1 rfl
    have hl2' : SqAny t2 u1 l2 ys := by rw [<- q1]; exact SqAny.push hl2 _
    wp_walk using pyIterA (s := ⟨u1, g, d, tk, os⟩) hl2'
    intro u2 q2
    obtain ⟨a2, b2, c2⟩ := psh q2 rfl
    wp_walk using newT
    . exact (show 2 <= sizeLine from by decide)
    intro u3 q3
    obtain ⟨a3, b3, c3⟩ := psh q3 rfl
    wp_walk using newT
    . exact (show 2 <= sizeLine from by decide)
    intro u4 q4
    obtain ⟨a4, b4, c4⟩ := psh q4 rfl
    wp_walk
    refine ⟨_, rfl, ?_⟩
    have Z1 : u1.objs.size = hp.objs.size + 1 := c1
    have Z2 : u2.objs.size = hp.objs.size + 2 := (show u2.objs.size = u1.objs.size + 1 from c2).trans (by rw [Z1])
    have Z3 : u3.objs.size = hp.objs.size + 3 := (show u3.objs.size = u2.objs.size + 1 from c3).trans (by rw [Z2])
    have Z4 : u4.objs.size = hp.objs.size + 4 := (show u4.objs.size = u3.objs.size + 1 from c4).trans (by rw [Z3])
    obtain ⟨a5, b5, c5⟩ := psh (rfl : u4.push { cls := .type "zip", data := .fields #[.none, .bool false, .bool false, .ref u2.objs.size, .ref u3.objs.size] } = _) rfl
    replace b1 : u1.get? hp.objs.size = _ := b1
    replace b2 : u2.get? u1.objs.size = _ := b2
    replace b3 : IsPair u3 u2.objs.size (.ref hp.objs.size) (.ref u1.objs.size) := b3
    replace b4 : IsPair u4 u3.objs.size .none .none := b4
    show R (.ok (.ret (.ref u4.objs.size))) ⟨u4.push { cls := .type "zip", data := .fields #[.none, .bool false, .bool false, .ref u2.objs.size, .ref u3.objs.size] }, g, d, tk, os⟩
    rw [Z1, Z2] at b3
    rw [Z1] at b2
    rw [Z3] at b4
    rw [Z2, Z3, Z4] at b5
    rw [Z2, Z3] at a5 c5 ⊢
    rw [Z4] at c5 ⊢
    exact q _ b5 (a5 _ _ (a4 _ _ b3)) (a5 _ _ b4) (ItAny.mk (a5 _ _ (a4 _ _ (a3 _ _ (a2 _ _ b1))))) (ItAny.mk (a5 _ _ (a4 _ _ (a3 _ _ b2)))) c5 fun c o x => a5 _ _ (a4 _ _ (a3 _ _ (a2 _ _ (a1 _ _ x))))
  exact callType_new F.called_zip (by decide) (F.typeCall_zip_2 _ _) (F.newCall_zip_2 _ _) (fun obj => F.args_object_init_3 obj _ _) F.entry_zip_new M ⟨rfl, fun h' a b c d e f g => ⟨⟨_, a, rfl⟩, h h' a b c d e f g⟩⟩
end
end PySem
set_option Elab.async false
set_option linter.all false
set_option maxRecDepth 100000
set_option maxHeartbeats 4000000
namespace PySem
section
variable {prog : Program} {w : World} {A : Around} {E : Value -> Shared -> Prop} {s : Shared}
abbrev zpO (T TI TO : Addr) (f : Bool) : Obj := { cls := .type "zip", dict := none, data := .fields #[rawInt T, .bool f, .bool false, .ref TI, .ref TO], slots := #[] }
theorem zipH {t1 t2 : Bool} {z TI TO T i1 i2 l1 l2 : Addr} {k1 k2 : Nat} {f : Bool} {oT : Obj} {xs ys : Array Value} {Q : Option Value -> Shared -> Prop} (D : ZipApart z TI TO i1 i2 l1 l2) (hz : s.heap.get? z = some (zpO T TI TO f)) (hTo : s.heap.get? T = some oT) (hTI : IsPair s.heap TI (.ref i1) (.ref i2))
    (h1 : ItAny t1 s.heap i1 l1 k1) (h2 : ItAny t2 s.heap i2 l2 k2) (hl1 : SqAny t1 s.heap l1 xs) (hl2 : SqAny t2 s.heap l2 ys)
    (hQ : ∀ x y h', xs[k1]? = some x -> ys[k2]? = some y -> h'.get? z = some (zpO T TI TO true) -> ItAny t1 h' i1 l1 (k1 + 1) -> ItAny t2 h' i2 l2 (k2 + 1) -> IsPair h' s.heap.objs.size x y -> h'.objs.size = s.heap.objs.size + 1 -> (∀ c o, c ≠ z -> c ≠ i1 -> c ≠ i2 -> s.heap.get? c = some o -> h'.get? c = some o) -> Q (some (.ref s.heap.objs.size)) { s with heap := h' })
    (hN : xs[k1]? = none \/ ys[k2]? = none -> A.handled = none /\ ∀ h', (∀ c o, c ≠ z -> c ≠ i1 -> c ≠ i2 -> s.heap.get? c = some o -> h'.get? c = some o) -> Q none { s with heap := h' }) : wpAny (model prog w) A (pyNext (.ref z)) Q E s := by
  have hT : s.TypeIs (.ref z) "zip" := ⟨_, hz, rfl⟩
  have e1 := F.slot_zip_next
  have e : ((T : Int)).toNat = T := Int.toNat_natCast T
  have lz := Heap.lt_size hz
  unfold pyNext
  refine wpAny_bind (wpAny_attempt (wpAny_callSpecial?_slot hT e1 (wpAny_call_entry e1 hT F.entry_zip_next ?_ (F.args_zip_next_1 _))))
  wp_walk
  simp only [<- Array.forIn_toList, List.forIn_cons, List.forIn_nil]
  refine PySem.W.kdx_alive (a := (T : Int).toNat) (by rw [e]; exact hTo) ?_
  have stop : ∀ h' (e : Addr), (∀ c o, c ≠ z -> c ≠ i1 -> c ≠ i2 -> s.heap.get? c = some o -> h'.get? c = some o) -> (∃ o, h'.get? e = some o /\ o.cls = .type "StopIteration") -> xs[k1]? = none \/ ys[k2]? = none ->
      wpAny (model prog w) A (do if <- isInstance (.ref e) (.type "StopIteration") then pure none else throw (.ref e)) Q E { s with heap := h' } := fun h' e kk ⟨o, e2, e3⟩ hx => wpAny_bind (wpAny_isInstance (T := "StopIteration") (b := true) ⟨o, e2, e3⟩ isSubtype_stop (wpAny_pure ((hN hx).2 h' kk)))
  cases f
  . wp_walk using wpAny_setField_rec hz
    . exact Nat.lt_of_sub_eq_succ rfl
    intro u0 g0 k0
    have m1 := h1.extBut k0.extBut D.i1z
    have m2 := hl1.extBut k0.extBut D.l1z
    wp_walk using nextAny (A := A.in1) (s := { s with heap := u0 }) m1 m2
    . intro x u1 hx m3 k3
      have m4 := (h2.extBut k0.extBut D.i2z).extBut k3.extBut D.i12.symm
      have m5 := (hl2.extBut k0.extBut D.l2z).extBut k3.extBut D.l2i1
      wp_walk using nextAny (A := A.in1) (s := { s with heap := u1 }) m4 m5
      . intro y u2 hy m6 k4
        wp_walk using newT
        . exact (show 2 <= sizeLine from by decide)
        intro u3 q3
        obtain ⟨a3, b3, c3⟩ := psh q3 rfl
        wp_walk
        have zz : u2.objs.size = s.heap.objs.size := k4.1.trans (k3.1.trans k0.1)
        have b4 : IsPair u3 u2.objs.size x y := b3
        have c4 : u3.objs.size = u2.objs.size + 1 := c3
        have kk : ∀ c o, c ≠ z -> c ≠ i1 -> c ≠ i2 -> s.heap.get? c = some o -> u3.get? c = some o := fun c o n1 n2 n3 q => a3 _ _ (k4.extBut c o n3 (k3.extBut c o n2 (k0.extBut c o n1 q)))
        have g3 := a3 _ _ (k4.extBut z _ D.i2z.symm (k3.extBut z _ D.i1z.symm g0))
        refine ⟨_, rfl, wpAny_pure ?_⟩
        show Q (some (Value.ref u2.objs.size)) _
        rw [zz] at b4 c4 ⊢
        exact hQ x y u3 hx hy g3 ((m3.extBut k4.extBut D.i12).at fun o q => a3 _ _ q) (m6.at fun o q => a3 _ _ q) b4 c4 kk
      . exact fun hy => ⟨(hN (.inr hy)).1, fun u2 e k4 he => stop u2 e (fun c o n1 n2 n3 q => k4 c o n3 (k3.extBut c o n2 (k0.extBut c o n1 q))) he (.inr hy)⟩
    . exact fun hx => ⟨(hN (.inl hx)).1, fun u1 e k3 he => stop u1 e (fun c o n1 n2 n3 q => k3 c o n2 (k0.extBut c o n1 q)) he (.inl hx)⟩
  . have k0 := Heap.SameBut.refl z s.heap
    have m1 := h1.extBut k0.extBut D.i1z
    have m2 := hl1.extBut k0.extBut D.l1z
    wp_walk using nextAny (A := A.in1) (s := { s with heap := s.heap }) m1 m2
    . intro x u1 hx m3 k3
      have m4 := (h2.extBut k0.extBut D.i2z).extBut k3.extBut D.i12.symm
      have m5 := (hl2.extBut k0.extBut D.l2z).extBut k3.extBut D.l2i1
      wp_walk using nextAny (A := A.in1) (s := { s with heap := u1 }) m4 m5
      . intro y u2 hy m6 k4
        wp_walk using newT
        . exact (show 2 <= sizeLine from by decide)
        intro u3 q3
        obtain ⟨a3, b3, c3⟩ := psh q3 rfl
        wp_walk
        have zz : u2.objs.size = s.heap.objs.size := k4.1.trans (k3.1.trans k0.1)
        have b4 : IsPair u3 u2.objs.size x y := b3
        have c4 : u3.objs.size = u2.objs.size + 1 := c3
        have kk : ∀ c o, c ≠ z -> c ≠ i1 -> c ≠ i2 -> s.heap.get? c = some o -> u3.get? c = some o := fun c o n1 n2 n3 q => a3 _ _ (k4.extBut c o n3 (k3.extBut c o n2 (k0.extBut c o n1 q)))
        have g3 := a3 _ _ (k4.extBut z _ D.i2z.symm (k3.extBut z _ D.i1z.symm hz))
        refine ⟨_, rfl, wpAny_pure ?_⟩
        show Q (some (Value.ref u2.objs.size)) _
        rw [zz] at b4 c4 ⊢
        exact hQ x y u3 hx hy g3 ((m3.extBut k4.extBut D.i12).at fun o q => a3 _ _ q) (m6.at fun o q => a3 _ _ q) b4 c4 kk
      . exact fun hy => ⟨(hN (.inr hy)).1, fun u2 e k4 he => stop u2 e (fun c o n1 n2 n3 q => k4 c o n3 (k3.extBut c o n2 (k0.extBut c o n1 q))) he (.inr hy)⟩
    . exact fun hx => ⟨(hN (.inl hx)).1, fun u1 e k3 he => stop u1 e (fun c o n1 n2 n3 q => k3 c o n2 (k0.extBut c o n1 q)) he (.inl hx)⟩
end
def ZTp (xs ys : Array Value) (lo : Addr) (h : Heap) (as : List Addr) : Prop := as.Pairwise (· < ·) /\ ∀ (j : Nat) a, as[j]? = some a -> lo < a /\ ∃ x y, xs[j]? = some x /\ ys[j]? = some y /\ IsPair h a x y
theorem ZTp.keep {xs ys : Array Value} {lo : Addr} {h h' : Heap} {as : List Addr} (g : ZTp xs ys lo h as) (k : ∀ b o, lo < b -> h.get? b = some o -> h'.get? b = some o) : ZTp xs ys lo h' as := ⟨g.1, fun j a q => let ⟨l, x, y, e1, e2, e3⟩ := g.2 j a q; ⟨l, x, y, e1, e2, k a _ l e3⟩⟩
theorem ZTp.snoc {xs ys : Array Value} {lo b : Addr} {h : Heap} {as : List Addr} {x y : Value} (g : ZTp xs ys lo h as) (hl : lo < b) (hb : ∀ a o, h.get? a = some o -> a ∈ as -> a < b) (e1 : xs[as.length]? = some x) (e2 : ys[as.length]? = some y) (ht : IsPair h b x y) : ZTp xs ys lo h (as ++ [b]) := by
  refine ⟨List.pairwise_append.mpr ⟨g.1, List.pairwise_singleton _ _, fun a ha c hc => ?_⟩, fun j a q => ?_⟩
  . obtain ⟨j, hj⟩ := List.mem_iff_getElem?.mp ha
    obtain ⟨_, _, _, _, _, e⟩ := g.2 j a hj
    rw [List.mem_singleton.mp hc]
    exact hb a _ e ha
  . rcases Nat.lt_or_ge j as.length with l | l
    . rw [List.getElem?_append_left l] at q
      exact g.2 j a q
    . have := (List.getElem?_eq_some_iff.mp q).1
      obtain rfl : j = as.length := by simp at this; omega
      rw [List.getElem?_append_right l, Nat.sub_self] at q
      obtain rfl : b = a := by simpa using q
      exact ⟨hl, x, y, e1, e2, ht⟩
section
variable {prog : Program} {w : World} {s : Shared}
theorem zip_no_len : typeLookup (.type "zip") "__len__" = pure none := by rw [typeLookup_type, builtinLookup_eq_fast]; kernel_rfl
theorem zip_no_hint : typeLookup (.type "zip") "__length_hint__" = pure none := by rw [typeLookup_type, builtinLookup_eq_fast]; kernel_rfl
theorem zip_gat {t1 t2 : Bool} {z TI TO i1 i2 l1 l2 : Addr} {xs ys : Array Value} {a b : Value} (D : ZipApart z TI TO i1 i2 l1 l2) (hn : xs.size <= sizeLine) (hxy : xs.size = ys.size) (hz : IsZip s.heap z TI TO .none) (hTI : IsPair s.heap TI (.ref i1) (.ref i2)) (hTO : IsPair s.heap TO a b) (h1 : ItAny t1 s.heap i1 l1 0) (h2 : ItAny t2 s.heap i2 l2 0) (hl1 : SqAny t1 s.heap l1 xs) (hl2 : SqAny t2 s.heap l2 ys) :
    Gat prog w s z z "zip" xs.size (fun b => b = z \/ b = TO \/ b = i1 \/ b = i2) (fun i acc h => ∃ as, acc = as.map Value.ref /\ as.length = i /\ ZTp xs ys s.heap.objs.size h as /\ (IsPair h TI (.ref i1) (.ref i2) /\ ItAny t1 h i1 l1 i /\ ItAny t2 h i2 l2 i /\ SqAny t1 h l1 xs /\ SqAny t2 h l2 ys) /\ ((IsZip h z TI TO .none /\ ∃ a b, IsPair h TO a b) \/ ∃ T f oT, h.get? z = some (zpO T TI TO f) /\ h.get? T = some oT /\ s.heap.objs.size < T)) (fun acc h => ∃ as, acc = as.map Value.ref /\ as.length = xs.size /\ ZTp xs ys s.heap.objs.size h as) := by
  have lz := Heap.lt_size hz
  have lI := Heap.lt_size hTI
  have lO := Heap.lt_size hTO
  have a1 := h1.lt
  have a2 := h2.lt
  have b1 := hl1.lt
  have b2 := hl2.lt
  have sq : ∀ {t : Bool} {h h' : Heap} {l : Addr} {v : Array Value}, SqAny t h l v -> (∀ o, h.get? l = some o -> h'.get? l = some o) -> SqAny t h' l v := fun {t} {h h' l v} x k => by
    cases t
    . obtain ⟨o, e, r⟩ := x; exact ⟨o, k o e, r⟩
    . obtain ⟨o, e, r⟩ := x; exact ⟨o, k o e, r⟩
  refine ⟨⟨_, hz, rfl⟩, by decide, by decide, hn, fun A t Q E k q => ?_, fun A u Q E k zz q => ?_, fun A i acc t Q E hh j hl hi lt q1 q2 => ?_, fun i acc h h' j k => ?_, ?_⟩
  . have hT : t.TypeIs (.ref z) "zip" := ⟨_, k _ _ hz, rfl⟩
    unfold Builtin.List.listLengthHint
    wp_walk using wpAny_specialOf hT zip_no_len, wpAny_specialOf hT zip_no_hint
    exact q _ t.toks
  . exact wpAny_pyIter_zip (k _ _ hz) (q u ⟨[], rfl, rfl, ⟨.nil, fun j a e => by simp at e⟩, ⟨k _ _ hTI, h1.at fun o e => k _ o e, h2.at fun o e => k _ o e, sq hl1 fun o e => k _ o e, sq hl2 fun o e => k _ o e⟩, .inl ⟨k _ _ hz, _, _, k _ _ hTO⟩⟩ fun b o e => e)
  . obtain ⟨as, rfl, e2, e3, ⟨e4, e5, e6, e7, e8⟩, e9⟩ := j
    have old : ∀ {b : Addr}, s.heap.objs.size < b -> ¬ (b = z \/ b = TO \/ b = i1 \/ b = i2) := fun {b} l x => by
      rcases x with rfl | rfl | rfl | rfl
      . exact absurd lz (Nat.not_lt.mpr (Nat.le_of_lt l))
      . exact absurd lO (Nat.not_lt.mpr (Nat.le_of_lt l))
      . exact absurd a1 (Nat.not_lt.mpr (Nat.le_of_lt l))
      . exact absurd a2 (Nat.not_lt.mpr (Nat.le_of_lt l))
    have fin : ∀ h', (xs[i]? = none \/ ys[i]? = none) -> KP (fun b => b = z \/ b = TO \/ b = i1 \/ b = i2) t.heap h' -> Q none { t with heap := h' } := fun h' e k => by
      have : i = xs.size := by rcases e with e | e <;> rw [Array.getElem?_eq_none_iff] at e <;> omega
      exact q2 h' t.toks this ⟨as, rfl, by omega, e3.keep fun b o l q => k b o (old l) q⟩ k
    have one : ∀ x y h', xs[i]? = some x -> ys[i]? = some y -> ItAny t1 h' i1 l1 (i + 1) -> ItAny t2 h' i2 l2 (i + 1) -> IsPair h' t.heap.objs.size x y -> KP (fun b => b = z \/ b = TO \/ b = i1 \/ b = i2) t.heap h' -> (∃ T f oT, h'.get? z = some (zpO T TI TO f) /\ h'.get? T = some oT /\ s.heap.objs.size < T) -> Q (some (.ref t.heap.objs.size)) { t with heap := h' } := fun x y h' ex ey i1' i2' hp k st => by
      refine q1 _ h' t.toks (Array.getElem?_eq_some_iff.mp ex).1 ⟨as ++ [t.heap.objs.size], by simp, by simp [e2], (e3.keep fun b o l q => k b o (old l) q).snoc lt (fun a o _ m => ?_) (by rw [e2]; exact ex) (by rw [e2]; exact ey) hp, ⟨k _ _ (fun x => ?_) e4, i1', i2', sq e7 fun o q => k _ o (fun x => ?_) q, sq e8 fun o q => k _ o (fun x => ?_) q⟩, .inr st⟩ k
      . obtain ⟨j, hj⟩ := List.mem_iff_getElem?.mp m
        obtain ⟨_, _, _, _, _, e⟩ := e3.2 j a hj
        exact Heap.lt_size e
      . rcases x with x | x | x | x
        . exact D.TIz x
        . exact D.TITO x
        . exact D.TIi1 x
        . exact D.TIi2 x
      . rcases x with x | x | x | x
        . exact D.l1z x
        . exact D.l1TO x
        . exact D.l1i1 x
        . exact D.l1i2 x
      . rcases x with x | x | x | x
        . exact D.l2z x
        . exact D.l2TO x
        . exact D.l2i1 x
        . exact D.l2i2 x
    rcases e9 with ⟨c1, c, d, c2⟩ | ⟨T, f, oT, c1, c2, c3⟩
    . refine zipN D c1 e4 c2 e5 e6 e7 e8 (fun x y h' ex ey g1 g2 g3 g4 g5 gs gk => one x y h' ex ey g3 g4 g5 (fun b o n q => gk b o (fun z => n (.inl z)) (fun z => n (.inr (.inl z))) (fun z => n (.inr (.inr (.inl z)))) (fun z => n (.inr (.inr (.inr z)))) q) ⟨_, false, _, g1, g5, lt⟩) fun e => ⟨hh, fun h' gk => fin h' e fun b o n q => gk b o (fun z => n (.inl z)) (fun z => n (.inr (.inl z))) (fun z => n (.inr (.inr (.inl z)))) (fun z => n (.inr (.inr (.inr z)))) q⟩
    . refine zipH D c1 c2 e4 e5 e6 e7 e8 (fun x y h' ex ey g1 g3 g4 g5 gs gk => one x y h' ex ey g3 g4 g5 (fun b o n q => gk b o (fun z => n (.inl z)) (fun z => n (.inr (.inr (.inl z)))) (fun z => n (.inr (.inr (.inr z)))) q) ⟨T, true, oT, g1, gk T oT (fun z => old c3 (.inl z)) (fun z => old c3 (.inr (.inr (.inl z)))) (fun z => old c3 (.inr (.inr (.inr z)))) c2, c3⟩) fun e => ⟨hh, fun h' gk => fin h' e fun b o n q => gk b o (fun z => n (.inl z)) (fun z => n (.inr (.inr (.inl z)))) (fun z => n (.inr (.inr (.inr z)))) q⟩
  . obtain ⟨as, r1, r2, r3, ⟨r4, r5, r6, r7, r8⟩, r9⟩ := j
    refine ⟨as, r1, r2, r3.keep fun b o l q => k b o (Nat.ne_of_gt l) q, ⟨k _ _ (Nat.ne_of_lt lI) r4, r5.at fun o q => k _ o (Nat.ne_of_lt a1) q, r6.at fun o q => k _ o (Nat.ne_of_lt a2) q, sq r7 fun o q => k _ o (Nat.ne_of_lt b1) q, sq r8 fun o q => k _ o (Nat.ne_of_lt b2) q⟩, ?_⟩
    rcases r9 with ⟨c1, c, d, c2⟩ | ⟨T, f, oT, c1, c2, c3⟩
    . exact .inl ⟨k _ _ (Nat.ne_of_lt lz) c1, c, d, k _ _ (Nat.ne_of_lt lO) c2⟩
    . exact .inr ⟨T, f, oT, k _ _ (Nat.ne_of_lt lz) c1, k _ _ (Nat.ne_of_gt c3) c2, c3⟩
  . rintro (x | x | x | x)
    . exact absurd x (Nat.ne_of_gt lz)
    . exact absurd x (Nat.ne_of_gt lO)
    . exact absurd x (Nat.ne_of_gt a1)
    . exact absurd x (Nat.ne_of_gt a2)
end
end PySem
set_option Elab.async false
set_option linter.all false
set_option maxRecDepth 100000
set_option maxHeartbeats 4000000
namespace L2
open PySem PySem.Spec PyProof.Rows GW
end L2
set_option linter.all false
namespace Nest
def sl (row : List Int) (b i : Nat) : List Int := (row.take i).drop b
def outF (p e : Int) (s : List Int × Int) (x : Int) : List Int × Int := if x = e then (s.1, s.2 - 1) else (if s.2 = 0 then s.1 ++ [x] else s.1, if p <= x then s.2 + 1 else s.2)
def outS (p e : Int) (l : List Int) : List Int × Int := l.foldl (outF p e) ([], 0)
def outW (p e : Int) (l : List Int) : List Int := (outS p e l).1
def wd (p e : Int) (row : List Int) (i a : Nat) : List Int := outW p e (sl row (a + 1) i)
end Nest
set_option Elab.async false
set_option linter.all false
set_option maxRecDepth 100000
set_option maxHeartbeats 4000000
namespace L2
open PySem PySem.Spec PyProof.Rows GW
end L2
namespace HT
open PySem PySem.Spec PyProof.Rows L2
section
variable {prog : Program} {w : World} {A : Around} {E : Value -> Shared -> Prop} {s : Shared}
end
end HT
namespace L2
open PySem PySem.Spec PyProof.Rows GW
end L2
namespace Nest
end Nest
set_option linter.all false
namespace Nest
end Nest
namespace L2
open PySem PySem.Spec PyProof.Rows
end L2
set_option Elab.async false
set_option linter.all false
set_option maxRecDepth 100000
set_option maxHeartbeats 4000000
namespace L2
open PySem PySem.W PySem.Spec PySem.Calls PyProof.Rows
theorem meets_lenH {prog : Program} {w : World} {κ : Type} [DecidableEq κ] (knd : HeapKind prog w κ) {d : Addr} (hd : (d == sysModules) = false) :
    MeetsIn prog w (Builtin.«dict.__len__» ⟨[.ref d], []⟩) (fun _ R s => ∃ xs, s.heap.DictOfH knd d xs /\ R (.ok (.ret (.int (xs.length : Nat) s.toks))) { s with toks := s.toks + 1 }) :=
  .of_wp fun A R s ⟨xs, ⟨o, es, ep, ho, _, hdat, he, _⟩, h⟩ => by
    show wpAny _ _ (dictSize d >>= _) _ _ s
    unfold dictSize
    refine wpAny_bind (wpAny_bind (wpAny_dictEntries ho hdat (wpAny_pure ?_)))
    refine wpAny_bind (wpAny_pendingCount_other hd (wpAny_ret_mkInt ?_))
    rw [Nat.add_zero, size_of_entries he]
    exact h
theorem len_dT {prog : Program} {w : World} {κ : Type} [DecidableEq κ] {knd : HeapKind prog w κ} {A : Around} {E : Value -> Shared -> Prop} {s : Shared} {d : Addr} {xs : List (κ × Addr × Value)} {Q : Value -> Shared -> Prop} (hd : (d == sysModules) = false) (hm : s.heap.DictOfH knd d xs) (hfit : (xs.length : Int) < 2 ^ 63)
    (h : Q (.int xs.length (s.toks + 1)) { s with toks := s.toks + 1 + 1 }) : wpAny (model prog w) A (call (.builtin "len") [.ref d]) Q E s := by
  refine Calls.call_function_entry kind_len plain_len entry_len (args_len1 _) ?_
  unfold Builtin.«len»
  refine wpAny_bind (m := oneArg "len" _) (wpAny_pure (wpAny_bind (m := callSpecial? (.ref d) (Str.ofString "__len__")) (wpAny_callSpecial?_slot (name := Str.ofString "__len__") hm.typeIs F.slot_dict_len (call_meetsIn F.slot_dict_len hm.typeIs F.entry_dict_len (F.args_dict_len_1 _) (meets_lenH knd hd) ⟨xs, hm, ?_⟩))))
  show wpAny _ _ _ _ _ { s with toks := s.toks + 1 }
  refine wpAny_bind (wpAny_holding (wpAny_pure (wpAny_bind (wpAny_letGo ?_))))
  show wpAny _ _ (if ((xs.length : Nat) : Int) < 0 then _ else _) _ _ _
  rw [if_neg (by omega)]
  show wpAny _ _ (if ((xs.length : Nat) : Int) >= 2 ^ 63 then _ else _) _ _ _
  rw [if_neg (by omega)]
  exact wpAny_bind (wpAny_mkInt (wpAny_pure ⟨_, rfl, h⟩))
theorem call_len_dictT {X : Cx} : CallR X (.builtin "len") (fun xs H Q => ∃ p kvs, xs = [.ref p] /\ H p = some (.dT kvs) /\ Q (.int kvs.length) H) := by
  intro pins s σ H xs us Q I r h
  obtain ⟨p, kvs, rfl, e, q⟩ := h
  obtain ⟨u, rfl, rx⟩ := vals1 r
  cases rx
  obtain ⟨z, hd, xs, rel, dd⟩ := dt_of I.hok e
  have hn := line63
  have hlen : kvs.length = xs.length := rel.length
  exact len_dT hd dd (by omega) ⟨.int kvs.length, H, I.tok _, ⟨_, by rw [hlen]⟩, q⟩
end L2
set_option Elab.async false
set_option linter.all false
set_option maxRecDepth 100000
set_option maxHeartbeats 1000000
namespace L2
open PySem PySem.Spec PyProof.Rows
section
variable {K : PySem.W.Frag} {x : V} {xs : List V} {lo hi : Option Int} {H : Hp} {Q : VK}
end
end L2
set_option Elab.async false
set_option linter.all false
set_option maxRecDepth 100000
set_option maxHeartbeats 4000000
namespace L2
open PySem PySem.W PySem.Spec PySem.Calls PyProof.Rows
theorem list_zip {X : Cx} {pins : List (Addr × Obj)} {σ : St} {H : Hp} {s : Shared} {t1 t2 : Bool} {a b : Addr} {xs ys : List V} {us vs : List Value} {Q : VK} (I : Inv X pins σ H s) (hc : X.calm = true) (rv : Vals xs us) (rw2 : Vals ys vs) (pl : SqAny t1 s.heap a us.toArray) (pl2 : SqAny t2 s.heap b vs.toArray) (hlen : xs.length = ys.length) (hz : xs.length <= sizeLine)
    (q : ∀ l rs H', Same H H' -> H' l = none -> rs.length = xs.length -> (∀ (i : Nat) (x y : V), xs[i]? = some x -> ys[i]? = some y -> ∃ t, rs[i]? = some (V.ref t) /\ H' t = some (.tup [x, y])) -> Q (.ref l) (upd H' l (.lst rs))) :
    wpAny (model X.prog X.w) X.A (call (.type "zip") [.ref a, .ref b]) (fun v s2 => wpAny (model X.prog X.w) X.A (call (.type "list") [v]) (EP X pins σ Q) X.xe s2) X.xe s := by
  have l1 := rv.length
  have l2 := rw2.length
  refine call_zip_2G pl pl2 fun h1 z1 z2 z3 z4 z5 z6 z7 => ?_
  have sq : ∀ {t : Bool} {l : Addr} {v : Array Value}, SqAny t s.heap l v -> SqAny t h1 l v := fun {t} {l v} x => by
    cases t
    . obtain ⟨o, e, r⟩ := x; exact ⟨o, z7 _ o e, r⟩
    . obtain ⟨o, e, r⟩ := x; exact ⟨o, z7 _ o e, r⟩
  have G : Gat X.prog X.w { s with heap := h1 } (s.heap.objs.size + 4) _ "zip" us.toArray.size _ _ _ := zip_gat (s := { s with heap := h1 }) (zipApart_new pl.lt pl2.lt) (by rw [List.size_toArray, <- l1]; exact hz) (by simp; omega) z1 z2 z3 z4 z5 (sq pl) (sq pl2)
  refine G.list (I.ok.hd hc) fun h' tk acc c ⟨as, f1, f2, f3⟩ _ hS k4 => ?_
  have hle : s.heap.objs.size <= h1.objs.size := by omega
  have hk : ∀ b o, s.heap.get? b = some o -> h'.get? b = some o := fun b o e => by
    have := Heap.lt_size e
    refine k4 b o (fun x => ?_) (z7 b o e)
    rcases x with x | x | x | x
    . exact absurd x (Nat.ne_of_lt (Nat.lt_of_lt_of_le this (Nat.le_add_right _ 4)))
    . exact absurd x (Nat.ne_of_lt (Nat.lt_of_lt_of_le this (Nat.le_add_right _ 3)))
    . exact absurd x (Nat.ne_of_lt this)
    . exact absurd x (Nat.ne_of_lt (Nat.lt_of_lt_of_le this (Nat.le_add_right _ 1)))
  have hal : as.length = xs.length := by simp at f2; omega
  let cs : List (List V) := (xs.zip ys).map fun p => [p.1, p.2]
  have hcl : cs.length = xs.length := by simp [cs, hlen]
  have hci : ∀ (i : Nat) (x y : V), xs[i]? = some x -> ys[i]? = some y -> cs[i]? = some [x, y] := fun i x y h1 h2 => by
    simp only [cs]
    rw [List.getElem?_map, show (xs.zip ys)[i]? = some (x, y) from List.getElem?_zip_eq_some.mpr ⟨h1, h2⟩]; rfl
  have hzz : (as.zip cs).map (·.1) = as := List.map_fst_zip (by rw [hal, hcl]; exact Nat.le_refl _)
  have hmem : ∀ p ∈ as.zip cs, ∃ (i : Nat) (x y : V), as[i]? = some p.1 /\ xs[i]? = some x /\ ys[i]? = some y /\ p.2 = [x, y] := fun p hp => by
    obtain ⟨i, hi⟩ := List.mem_iff_getElem?.mp hp
    obtain ⟨e1, e2⟩ := List.getElem?_zip_eq_some.mp hi
    have l : i < xs.length := by rw [<- hal]; exact (List.getElem?_eq_some_iff.mp e1).1
    have ex : xs[i]? = some xs[i] := by simp
    have ey : ys[i]? = some (ys[i]'(by omega)) := by simp
    rw [hci i _ _ ex ey] at e2
    exact ⟨i, _, _, e1, ex, ey, (Option.some.inj e2).symm⟩
  have ab : ∀ x ∈ as, h1.objs.size < x := fun x hx => by
    obtain ⟨j, hj⟩ := List.mem_iff_getElem?.mp hx
    exact (f3.2 j x hj).1
  have fr : ∀ p ∈ as.zip cs, h1.objs.size < p.1 := fun p hp => by
    obtain ⟨i, _, _, e, _⟩ := hmem p hp
    exact ab _ (List.mem_of_getElem? e)
  obtain ⟨H2, e1, e2, e3, e4, e5⟩ := lay_tups (as.zip cs) (by rw [hzz]; exact f3.1.imp fun a => Nat.ne_of_lt a) (fun p hp => by
    obtain ⟨i, x, y, g1, g2, g3, g4⟩ := hmem p hp
    obtain ⟨u, hu, ru⟩ := rv.get g2
    obtain ⟨v, hv, rv'⟩ := rw2.get g3
    obtain ⟨_, x', y', b1, b2, b3⟩ := f3.2 i p.1 g1
    obtain rfl : u = x' := by simpa [hu] using b1
    obtain rfl : v = y' := by simpa [hv] using b2
    refine ⟨Nat.le_of_lt (Nat.lt_of_le_of_lt hle (fr p hp)), by rw [g4]; have := line1000; simp; omega, [u, v], ?_, ⟨_, b3, rfl, 0, rfl⟩⟩
    rw [g4]
    exact Vals.two' ru rv') H (Un.kept hk) (I.hok.kept hk) (fun p hp => I.hok.fresh (Nat.le_of_lt (Nat.lt_of_le_of_lt hle (fr p hp))))
  have hD : H2 h1.objs.size = none := by
    rw [e5 _ (by rw [hzz]; exact fun z => absurd (ab _ z) (Nat.lt_irrefl _))]
    exact I.hok.fresh hle
  have new : ObjOk X.prog X.w (upd H2 h1.objs.size (.lst (as.map V.ref))) h' h1.objs.size (.lst (as.map V.ref)) := ⟨by rw [List.length_map, hal]; exact hz, as.map Value.ref, c, valsR as, by rw [<- f1]; exact hS⟩
  refine ⟨.ref h1.objs.size, _, I.un (t' := tk) (e1.track hle hD) (e2.track hD new), rfl, q _ _ H2 e3 hD (by rw [List.length_map, hal]) fun i x y hx hy => ?_⟩
  have hi : i < as.length := by rw [hal]; exact (List.getElem?_eq_some_iff.mp hx).1
  have hai : as[i]? = some as[i] := by simp [hi]
  exact ⟨as[i], by rw [List.getElem?_map, hai]; rfl, e4 (as[i], [x, y]) (List.mem_iff_getElem?.mpr ⟨i, List.getElem?_zip_eq_some.mpr ⟨hai, hci i x y hx hy⟩⟩)⟩
end L2
namespace L2
open PySem PySem.W PySem.Spec PySem.Calls PyProof.Rows
def tListZip (K : PySem.W.Frag) (ta : TA) : TE := fun σ H Q => ta σ H fun vs H1 => ∃ a b xs ys, vs = [.ref a, .ref b] /\ SqL K H1 a xs /\ SqL K H1 b ys /\ xs.length = ys.length /\ ∀ l rs H', Same H1 H' -> H' l = none -> rs.length = xs.length ->
  (∀ (i : Nat) (x y : V), xs[i]? = some x -> ys[i]? = some y -> ∃ t, rs[i]? = some (V.ref t) /\ H' t = some (.tup [x, y])) -> Q (.ref l) (upd H' l (.lst rs))
theorem r_listZip {K : PySem.W.Frag} {ta : TA} {σ : St} {H : Hp} {Q : VK} : tListZip K ta σ H Q = ta σ H fun vs H1 => ∃ a b xs ys, vs = [.ref a, .ref b] /\ SqL K H1 a xs /\ SqL K H1 b ys /\ xs.length = ys.length /\ ∀ l rs H', Same H1 H' -> H' l = none -> rs.length = xs.length ->
  (∀ (i : Nat) (x y : V), xs[i]? = some x -> ys[i]? = some y -> ∃ t, rs[i]? = some (V.ref t) /\ H' t = some (.tup [x, y])) -> Q (.ref l) (upd H' l (.lst rs)) := rfl
theorem pe_listZip {X : Cx} {e f : Expr} {ta : TA} {p p2 pos pos2 : Pos} (hc : X.calm = true) (hg : Gl X "list") (hm : X.mg "list" = none) (hg2 : Gl X "zip") (hm2 : X.mg "zip" = none) (ha : PA X [e, f] ta)
    (hs1 : starEach [.Call (.Name "zip" p2) [e, f] [] pos2] X.env = [(false, eval (.Call (.Name "zip" p2) [e, f] [] pos2) X.env)] := by rfl) (hs : starEach [e, f] X.env = [(false, eval e X.env), (false, eval f X.env)] := by rfl) (hs2 : starEach [f] X.env = [(false, eval f X.env)] := by rfl) :
    PE X (.Call (.Name "list" p) [.Call (.Name "zip" p2) [e, f] [] pos2] [] pos) (tListZip X.K ta) := by
  intro pins s σ H Q I h
  refine wpAny_Call_Name_kw (ld_blt I hg hm boot_list ?_)
  refine PyProof.Rows.callWith_type1 ?_ hs1 rfl
  rw [hs1]
  refine Calls.spliced_cons ?_
  refine Call_ (ld_blt I hg2 hm2 boot_zip (PyProof.Rows.callWith_type1 (thn (ha pos2 pins s σ H _ I h) fun us s1 ⟨vs, H1, I1, r1, q1⟩ => ?_) (by rw [hs, hs2]) (by rw [hs2]; rfl)))
  obtain ⟨a, b, xs, ys, ev, hq, hq2, hlen, q⟩ := q1
  subst ev
  cases r1 with
  | cons r rr => cases rr with
    | cons r' rr =>
      cases rr
      cases r
      cases r'
      obtain ⟨its, rv, pl, hzl⟩ := I1.list hq
      obtain ⟨its2, rv2, pl2, _⟩ := I1.list hq2
      exact wpAny_mono (list_zip (t1 := false) (t2 := false) I1 hc rv rv2 pl.isList pl2.isList hlen hzl q) (fun v s2 h => Calls.spliced_nil h) fun _ _ e => e
theorem call_maxL {X : Cx} (hc : X.calm = true) : CallR X (.builtin "max") (fun xs H Q => ∃ (p : Addr) (ns : List Int) (m : Int), xs = [.ref p] /\ SqL X.K H p (ns.map V.int) /\ m ∈ ns /\ (∀ x ∈ ns, x <= m) /\ Q (.int m) H) := by
  intro pins s σ H xs us Q I r h
  obtain ⟨p, ns, m, rfl, hq, hm, hmax, q⟩ := h
  obtain ⟨u, rfl, rx⟩ := vals1 r
  cases rx
  obtain ⟨its, r', pl, _⟩ := I.list hq
  have hi : IntsAre its ns := by simpa using intsAre_of r'
  obtain ⟨zs, e⟩ := hi.allInts.items
  have hns : ns = zs.toList.map (·.1) := by rw [<- hi.numsOf, <- nums_intItems, <- e]
  have hne : 0 < ns.length := List.length_pos_of_mem hm
  have hsz : 0 < zs.size := by rw [hns, List.length_map, Array.length_toList] at hne; exact hne
  have hl := pl.isList
  rw [e] at hl
  refine max_intList (I.ok.hd hc) hl hsz fun v h' tk hv hk => ?_
  obtain ⟨t, rfl⟩ := intItems_at hv
  obtain ⟨h1, h2⟩ := argBest_gt (numAt zs) (zs.size - 1)
  have g1 : numAt zs (argBest (fun i j => decide (numAt zs i > numAt zs j)) (zs.size - 1)) ∈ ns := by
    rw [hns, numAt_eq]; exact getD_mem (by rw [List.length_map, Array.length_toList]; omega)
  have g2 : m <= numAt zs (argBest (fun i j => decide (numAt zs i > numAt zs j)) (zs.size - 1)) := by
    rw [hns] at hm
    obtain ⟨j, hj, rfl⟩ := mem_getD hm
    rw [List.length_map, Array.length_toList] at hj
    rw [<- numAt_eq]; exact h2 j (by omega)
  have g3 := hmax _ g1
  have g4 : numAt zs (argBest (fun i j => decide (numAt zs i > numAt zs j)) (zs.size - 1)) = m := by omega
  exact ⟨.int m, H, I.kept hk, ⟨t, by rw [g4]⟩, q⟩
theorem call_lenB {X : Cx} : CallR X (.builtin "len") (fun xs H Q => (∃ a kvs, xs = [V.ref a] /\ H a = some (.dK kvs) /\ Q (.int kvs.length) H) \/ ∃ p kvs, xs = [.ref p] /\ H p = some (.dT kvs) /\ Q (.int kvs.length) H) :=
  CallR.or (by
    intro pins s σ H xs us Q I r h
    obtain ⟨a, kvs, rfl, ha, q⟩ := h
    obtain ⟨u, rfl, ru⟩ := vals1 r
    cases ru
    exact d_len I (.inl ha) fun t s' I' => ⟨.int kvs.length, H, I', ⟨t, rfl⟩, q⟩) call_len_dictT
def rIxB (K : PySem.W.Frag) : R2 := fun x y H Q => rIxL K x y H Q \/ rIxT K x y H Q
theorem ix_seqK {X : Cx} {K : PySem.W.Frag} (h : X.K = K) : IxR X (rIxB K) := IxR.or (ix_listK h) (ix_tupK h)
theorem r_ixB {K : PySem.W.Frag} {x y : V} {H : Hp} {Q : VK} : rIxB K x y H Q = ((∃ p xs i v, x = .ref p /\ y = .int i /\ SqL K H p xs /\ atI xs i = some v /\ Q v H) \/ ∃ p xs i v, x = .ref p /\ y = .int i /\ SqT K H p xs /\ atI xs i = some v /\ Q v H) := rfl
def tDNewB : TE := fun σ H Q => tDNewK σ H Q \/ tDNewT σ H Q
theorem r_dnewB {σ : St} {H : Hp} {Q : VK} : tDNewB σ H Q = ((∀ p, H p = none -> Q (.ref p) (upd H p (.dK []))) \/ ∀ p, H p = none -> Q (.ref p) (upd H p (.dT []))) := rfl
theorem pe_dnewB {X : Cx} {pos : Pos} : PE X (.Dict [] [] pos) tDNewB := fun pins s σ H Q I h => h.elim (fun h => pe_dnewK pins s σ H Q I h) (fun h => pe_dnewT pins s σ H Q I h)
end L2
namespace L2
open PySem
section
variable {prog : Program} {w : World} {κ : Type} [DecidableEq κ] {knd : HeapKind prog w κ} {A : Around} {E : Value -> Shared -> Prop} {s : Shared}
end
end L2
namespace L2
open PySem PySem.W PySem.Spec PySem.Calls PyProof.Rows
end L2
set_option Elab.async false
set_option linter.all false
set_option maxRecDepth 100000
namespace L2
section
variable {α : Type} [DecidableEq α]
def ins1 (acc : List α) (x : α) : List α := if x ∈ acc then acc else acc ++ [x]
def firstsA (acc row : List α) : List α := row.foldl ins1 acc
def firsts (row : List α) : List α := firstsA [] row
theorem mem_ins1 {acc : List α} {x y : α} : y ∈ ins1 acc x ↔ y ∈ acc \/ y = x := by
  unfold ins1
  split
  . rename_i h
    constructor
    . exact .inl
    . rintro (h' | rfl)
      . exact h'
      . exact h
  . simp
theorem mem_firstsA : ∀ {row acc : List α} {y : α}, y ∈ firstsA acc row ↔ y ∈ acc \/ y ∈ row
  | [], acc, y => by simp [firstsA]
  | x :: row, acc, y => by
    show y ∈ firstsA (ins1 acc x) row ↔ _
    rw [mem_firstsA, mem_ins1, List.mem_cons, or_assoc]
theorem mem_firsts {row : List α} {y : α} : y ∈ firsts row ↔ y ∈ row := by
  unfold firsts
  rw [mem_firstsA]; simp
theorem nodup_ins1 {acc : List α} {x : α} (h : acc.Nodup) : (ins1 acc x).Nodup := by
  unfold ins1
  split
  . exact h
  . rename_i hx
    exact List.nodup_append.mpr ⟨h, by simp, fun a ha b hb z => by simp at hb; subst z hb; exact hx ha⟩
theorem nodup_firstsA : ∀ {row acc : List α}, acc.Nodup -> (firstsA acc row).Nodup
  | [], acc, h => h
  | x :: row, acc, h => nodup_firstsA (row := row) (nodup_ins1 h)
theorem nodup_firsts (row : List α) : (firsts row).Nodup := nodup_firstsA List.nodup_nil
theorem firsts_snoc (row : List α) (x : α) : firsts (row ++ [x]) = ins1 (firsts row) x := by
  unfold firsts firstsA
  rw [List.foldl_append]; rfl
theorem idx_inj {l : List α} {x y : α} (hx : x ∈ l) (hy : y ∈ l) (h : l.idxOf x = l.idxOf y) : x = y := by
  have h1 := List.idxOf_lt_length_of_mem hx
  have h2 := List.idxOf_lt_length_of_mem hy
  have e1 : l[l.idxOf x] = x := List.getElem_idxOf h1
  have e2 : l[l.idxOf y] = y := List.getElem_idxOf h2
  rw [<- e1, <- e2]
  congr 1
def num (row : List α) : List Int := row.map fun x => ((firsts row).idxOf x : Int)
theorem num_length (row : List α) : (num row).length = row.length := by unfold num; rw [List.length_map]
theorem firstsA_map {β : Type} [DecidableEq β] (f : α -> β) : ∀ (row acc : List α), (∀ x y, x ∈ acc \/ x ∈ row -> y ∈ acc \/ y ∈ row -> f x = f y -> x = y) -> firstsA (acc.map f) (row.map f) = (firstsA acc row).map f
  | [], acc, _ => rfl
  | x :: row, acc, h => by
    show firstsA (ins1 (acc.map f) (f x)) (row.map f) = (firstsA (ins1 acc x) row).map f
    have e : ins1 (acc.map f) (f x) = (ins1 acc x).map f := by
      unfold ins1
      by_cases hx : x ∈ acc
      . rw [if_pos hx, if_pos (List.mem_map_of_mem hx)]
      . rw [if_neg hx, if_neg, List.map_append]; rfl
        intro z
        obtain ⟨y, hy, e⟩ := List.mem_map.mp z
        have := h y x (.inl hy) (.inr (List.mem_cons_self ..)) e
        subst this
        exact hx hy
    rw [e]
    refine firstsA_map f row _ fun a b ha hb => h a b ?_ ?_
    . rcases ha with ha | ha
      . rcases mem_ins1.mp ha with ha | rfl
        . exact .inl ha
        . exact .inr (List.mem_cons_self ..)
      . exact .inr (List.mem_cons_of_mem _ ha)
    . rcases hb with hb | hb
      . rcases mem_ins1.mp hb with hb | rfl
        . exact .inl hb
        . exact .inr (List.mem_cons_self ..)
      . exact .inr (List.mem_cons_of_mem _ hb)
def ncl (row : List α) : Nat := (firsts row).length
theorem ncl_num (row : List α) : ncl (num row) = ncl row := by
  unfold ncl num firsts
  have := firstsA_map (fun x => ((firsts row).idxOf x : Int)) row [] (fun x y hx hy e => by
    simp at hx hy
    exact idx_inj (mem_firsts.mpr hx) (mem_firsts.mpr hy) (by omega))
  unfold firsts at this
  simp only [List.map_nil] at this
  rw [this, List.length_map]
theorem num_at {row : List α} {i : Nat} {x : α} (h : row[i]? = some x) : (num row)[i]? = some ((firsts row).idxOf x : Int) := by
  unfold num
  rw [List.getElem?_map, h]; rfl
theorem num_iff {row : List α} {i j : Nat} {x y : α} (hx : row[i]? = some x) (hy : row[j]? = some y) : (num row)[i]? = (num row)[j]? ↔ x = y := by
  rw [num_at hx, num_at hy]
  constructor
  . intro h
    have := Option.some.inj h
    exact idx_inj (mem_firsts.mpr (List.mem_of_getElem? hx)) (mem_firsts.mpr (List.mem_of_getElem? hy)) (by omega)
  . rintro rfl; rfl
theorem num_lt {row : List α} {n : Int} (h : n ∈ num row) : 0 <= n /\ n < ncl row := by
  unfold num at h
  obtain ⟨x, hx, rfl⟩ := List.mem_map.mp h
  have := List.idxOf_lt_length_of_mem (mem_firsts.mpr hx)
  exact ⟨by omega, by unfold ncl; omega⟩
theorem num_top {row : List α} (h : row ≠ []) : ((ncl row : Int) - 1) ∈ num row := by
  have hne : firsts row ≠ [] := fun z => by
    cases row with
    | nil => exact h rfl
    | cons x row =>
      have : x ∈ firsts (x :: row) := mem_firsts.mpr (List.mem_cons_self ..)
      rw [z] at this; cases this
  have hpos : 0 < (firsts row).length := List.length_pos_iff.mpr hne
  have hlt : (firsts row).length - 1 < (firsts row).length := by omega
  refine List.mem_map.mpr ⟨(firsts row)[(firsts row).length - 1], mem_firsts.mp (List.getElem_mem hlt), ?_⟩
  have e := (nodup_firsts row).idxOf_getElem _ hlt
  rw [e]
  unfold ncl
  omega
theorem ncl_pos {row : List α} (h : row ≠ []) : 1 <= ncl row := by
  have h1 := num_top h
  have := num_lt h1
  omega
theorem ncl_le (row : List α) : ncl row <= row.length := by
  unfold ncl
  have : ∀ (row acc : List α), (firstsA acc row).length <= acc.length + row.length := fun row => by
    induction row with
    | nil => intro acc; exact Nat.le_refl _
    | cons x row ih =>
      intro acc
      have := ih (ins1 acc x)
      have h2 : (ins1 acc x).length <= acc.length + 1 := by unfold ins1; split <;> simp
      show (firstsA (ins1 acc x) row).length <= _
      rw [List.length_cons]; omega
  have := this row []
  simpa [firsts] using this
end
theorem nod_sub' {α : Type} [DecidableEq α] : ∀ {l m : List α}, l.Nodup -> (∀ x ∈ l, x ∈ m) -> l.length <= m.length
  | [], m, _, _ => Nat.zero_le _
  | x :: l, m, hn, h => by
    have hx := h x (List.mem_cons_self ..)
    have h1 := List.nodup_cons.mp hn
    have := nod_sub' (m := m.erase x) h1.2 fun y hy => by
      have hne : y ≠ x := fun z => h1.1 (z ▸ hy)
      exact (List.mem_erase_of_ne hne).mpr (h y (List.mem_cons_of_mem _ hy))
    rw [List.length_erase_of_mem hx] at this
    have hp : 0 < m.length := List.length_pos_of_mem hx
    rw [List.length_cons]; omega
theorem inj_of_len {α β : Type} [DecidableEq α] [DecidableEq β] (f : α -> β) {l : List α} {m : List β} (hl : l.Nodup) (hm : m.Nodup) (hs : ∀ y ∈ m, ∃ x ∈ l, f x = y) (hlen : l.length <= m.length) {x y : α} (hx : x ∈ l) (hy : y ∈ l) (e : f x = f y) : x = y := by
  refine Decidable.byContradiction fun hne => ?_
  have hsub : ∀ z ∈ m, z ∈ (l.erase y).map f := fun z hz => by
    obtain ⟨u, hu, rfl⟩ := hs z hz
    by_cases huy : u = y
    . subst huy
      exact List.mem_map.mpr ⟨x, (List.mem_erase_of_ne hne).mpr hx, e⟩
    . exact List.mem_map.mpr ⟨u, (List.mem_erase_of_ne huy).mpr hu, rfl⟩
  have := nod_sub' hm hsub
  rw [List.length_map, List.length_erase_of_mem hy] at this
  have hp : 0 < l.length := List.length_pos_of_mem hy
  omega
theorem finer_same {α β : Type} [DecidableEq α] [DecidableEq β] {row : List (α × β)} (h : ncl row <= ncl (row.map (·.1))) {x y : α × β} (hx : x ∈ row) (hy : y ∈ row) (e : x.1 = y.1) : x.2 = y.2 := by
  have h' : (firsts row).length <= (firsts (row.map fun p : α × β => p.1)).length := h
  have := inj_of_len (fun p : α × β => p.1) (nodup_firsts row) (nodup_firsts (row.map fun p : α × β => p.1)) (fun z hz => by
    obtain ⟨p, hp, rfl⟩ := List.mem_map.mp (mem_firsts.mp hz)
    exact ⟨p, mem_firsts.mpr hp, rfl⟩) h' (mem_firsts.mpr hx) (mem_firsts.mpr hy) e
  rw [this]
theorem ncl_inj {α β : Type} [DecidableEq α] [DecidableEq β] {row : List (α × β)} (h : ∀ x ∈ row, ∀ y ∈ row, x.1 = y.1 -> x = y) : ncl (row.map (·.1)) = ncl row := by
  unfold ncl firsts
  have := firstsA_map (fun p : α × β => p.1) row [] (fun x y hx hy e => by
    simp at hx hy
    exact h x hx y hy e)
  simp only [List.map_nil] at this
  rw [this, List.length_map]
structure WC (L : Int) (n : Nat) (b : List Int -> Nat -> Int) (words : List (List Int)) (c : List Int) : Prop where
  w0 : words[0]? = some []
  ok : ∀ w ∈ words, ∀ x ∈ w, 0 <= x /\ x < L
  tl : ∀ (k : Nat) (w : List Int), words[k]? = some w -> 0 < k -> w.tail ∈ words.take k
  nd : words.Nodup
  len : c.length = n
  rng : ∀ v ∈ c, 0 <= v /\ v < ncl c
  top : ((ncl c : Int) - 1) ∈ c
  iff : ∀ r s, r < n -> s < n -> (c[r]? = c[s]? ↔ ∀ w ∈ words, b w r = b w s)
  le : words.length <= ncl c
def rowB (n : Nat) (b : List Int -> Nat -> Int) (w : List Int) : List Int := (List.range n).map (b w)
theorem rowB_at {n : Nat} {b : List Int -> Nat -> Int} {w : List Int} {r : Nat} (hr : r < n) : (rowB n b w)[r]? = some (b w r) := by
  unfold rowB
  rw [List.getElem?_map, List.getElem?_range hr]; rfl
theorem zip_fst {c m : List Int} (h : c.length = m.length) : (c.zip m).map (·.1) = c := by
  rw [List.map_fst_zip (by omega)]
theorem zip_at {c m : List Int} {r : Nat} {u v : Int} (hu : c[r]? = some u) (hv : m[r]? = some v) : (c.zip m)[r]? = some (u, v) := by
  rw [List.getElem?_zip_eq_some]; exact ⟨hu, hv⟩
section
variable {L : Int} {n : Nat} {b : List Int -> Nat -> Int} {words : List (List Int)} {c : List Int} {w : List Int} {x : Int}
theorem WC.start (hn : 1 <= n) : WC L n b [[]] (num (rowB n b [])) := by
  have hne : rowB n b [] ≠ [] := fun z => by
    have := congrArg List.length z
    unfold rowB at this
    simp at this; omega
  refine ⟨rfl, (fun w hw x hx => by simp at hw; subst hw; cases hx), fun k w hk h0 => ?_, by simp, by rw [num_length]; unfold rowB; simp, fun v hv => ?_, ?_, fun r s hr hs => ?_, ?_⟩
  . cases k with
    | zero => omega
    | succ k => simp at hk
  . rw [ncl_num]; exact num_lt hv
  . rw [ncl_num]; exact num_top hne
  . rw [num_iff (rowB_at hr) (rowB_at hs)]
    simp
  . rw [ncl_num]
    exact ncl_pos hne
theorem WC.at (h : WC L n b words c) {r : Nat} (hr : r < n) : ∃ u, c[r]? = some u := ⟨c[r]'(by rw [h.len]; exact hr), by simp [h.len, hr]⟩
theorem rowB_len : (rowB n b w).length = n := by unfold rowB; simp
theorem WC.zlen (h : WC L n b words c) : c.length = (rowB n b w).length := by rw [h.len, rowB_len]
theorem WC.same (h : WC L n b words c) (hle : ncl (c.zip (rowB n b w)) <= ncl c) {r s : Nat} (hr : r < n) (hs : s < n) (e : c[r]? = c[s]?) : b w r = b w s := by
  obtain ⟨u, hu⟩ := h.at hr
  obtain ⟨v, hv⟩ := h.at hs
  have huv : u = v := by rw [hu, hv] at e; exact Option.some.inj e
  have h1 := List.mem_of_getElem? (zip_at hu (rowB_at (b := b) (w := w) hr))
  have h2 := List.mem_of_getElem? (zip_at hv (rowB_at (b := b) (w := w) hs))
  exact finer_same (by rw [zip_fst (h.zlen)]; exact hle) h1 h2 huv
theorem zip_mem {c m : List Int} {p : Int × Int} (hp : p ∈ c.zip m) : ∃ r : Nat, c[r]? = some p.1 /\ m[r]? = some p.2 := by
  obtain ⟨r, hr⟩ := List.mem_iff_getElem?.mp hp
  have := List.getElem?_zip_eq_some.mp (show (c.zip m)[r]? = some (p.1, p.2) from hr)
  exact ⟨r, this.1, this.2⟩
theorem WC.told (h : WC L n b words c) (hs : ∀ r s, r < n -> s < n -> c[r]? = c[s]? -> b w r = b w s) : ncl (c.zip (rowB n b w)) <= ncl c := by
  have e := ncl_inj (row := c.zip (rowB n b w)) fun p hp q hq e => by
    obtain ⟨r, p1, p2⟩ := zip_mem hp
    obtain ⟨s, q1, q2⟩ := zip_mem hq
    have hr : r < n := by rw [<- h.len]; exact (List.getElem?_eq_some_iff.mp p1).1
    have hs' : s < n := by rw [<- h.len]; exact (List.getElem?_eq_some_iff.mp q1).1
    have := hs r s hr hs' (by rw [p1, q1, e])
    rw [rowB_at hr] at p2
    rw [rowB_at hs'] at q2
    have e2 : p.2 = q.2 := by rw [<- Option.some.inj p2, <- Option.some.inj q2, this]
    exact Prod.ext e e2
  rw [<- e, zip_fst h.zlen]
  exact Nat.le_refl _
theorem WC.more (h : WC L n b words c) (hn : 1 <= n) (hw : w ∈ words) (hx : 0 <= x /\ x < L) (hgt : ncl c < ncl (c.zip (rowB n b (x :: w)))) : WC L n b (words ++ [x :: w]) (num (c.zip (rowB n b (x :: w)))) := by
  have hnew : x :: w ∉ words := fun hm => by
    have := h.told (w := x :: w) fun r s hr hs e => ((h.iff r s hr hs).mp e) _ hm
    omega
  have hzl : (c.zip (rowB n b (x :: w))).length = n := by rw [List.length_zip, h.len, rowB_len]; omega
  have hne : c.zip (rowB n b (x :: w)) ≠ [] := fun z => by rw [z] at hzl; simp at hzl; omega
  have hpos : 0 < words.length := by
    have := (List.getElem?_eq_some_iff.mp h.w0).1
    exact this
  refine ⟨by rw [List.getElem?_append_left hpos]; exact h.w0, fun v hv y hy => ?_, fun k v hk h0 => ?_, ?_, by rw [num_length, hzl], fun v hv => ?_, ?_, fun r s hr hs => ?_, ?_⟩
  . rcases List.mem_append.mp hv with hv | hv
    . exact h.ok v hv y hy
    . rw [List.mem_singleton.mp hv] at hy
      rcases List.mem_cons.mp hy with rfl | hy
      . exact hx
      . exact h.ok w hw y hy
  . by_cases hkl : k < words.length
    . rw [List.getElem?_append_left hkl] at hk
      rw [List.take_append_of_le_length (by omega)]
      exact h.tl k v hk h0
    . have := (List.getElem?_eq_some_iff.mp hk).1
      rw [List.length_append, List.length_singleton] at this
      have e : k = words.length := by omega
      subst e
      rw [List.getElem?_append_right (Nat.le_refl _), Nat.sub_self] at hk
      simp at hk
      subst hk
      rw [List.take_left']
      . exact hw
      . rfl
  . exact List.nodup_append.mpr ⟨h.nd, by simp, fun a ha y hy z => by simp at hy; subst z hy; exact hnew ha⟩
  . rw [ncl_num]; exact num_lt hv
  . rw [ncl_num]; exact num_top hne
  . obtain ⟨u, hu⟩ := h.at hr
    obtain ⟨v, hv⟩ := h.at hs
    rw [num_iff (zip_at hu (rowB_at hr)) (zip_at hv (rowB_at hs))]
    constructor
    . intro e y hy
      rcases List.mem_append.mp hy with hy | hy
      . exact ((h.iff r s hr hs).mp (by rw [hu, hv, (Prod.mk.inj e).1])) y hy
      . rw [List.mem_singleton.mp hy]; exact (Prod.mk.inj e).2
    . intro e
      have e1 := (h.iff r s hr hs).mpr fun y hy => e y (List.mem_append_left _ hy)
      rw [hu, hv] at e1
      have e2 := e (x :: w) (List.mem_append_right _ (List.mem_singleton.mpr rfl))
      rw [Option.some.inj e1, e2]
  . rw [List.length_append, List.length_singleton, ncl_num]
    have := h.le
    omega
def Told (n : Nat) (b : List Int -> Nat -> Int) (c : List Int) (w : List Int) : Prop := ∀ r s, r < n -> s < n -> c[r]? = c[s]? -> b w r = b w s
theorem WC.finer (h : WC L n b words c) (hz : c.length = n) {u : List Int} (ht : Told n b c u) : Told n b (num (c.zip (rowB n b w))) u := fun r s hr hs e => by
  obtain ⟨p, hp⟩ := h.at hr
  obtain ⟨q, hq⟩ := h.at hs
  have := (num_iff (zip_at hp (rowB_at (b := b) (w := w) hr)) (zip_at hq (rowB_at (b := b) (w := w) hs))).mp e
  exact ht r s hr hs (by rw [hp, hq, (Prod.mk.inj this).1])
theorem WC.mine (h : WC L n b words c) (hw : w ∈ words) : Told n b c w := fun r s hr hs e => ((h.iff r s hr hs).mp e) w hw
end
theorem idx_map {α β : Type} [DecidableEq α] [DecidableEq β] (f : α -> β) : ∀ (l : List α) (x : α), (∀ y ∈ l, f y = f x -> y = x) -> (l.map f).idxOf (f x) = l.idxOf x
  | [], x, _ => rfl
  | a :: l, x, h => by
    rw [List.map_cons, List.idxOf_cons, List.idxOf_cons, idx_map f l x fun y hy => h y (List.mem_cons_of_mem _ hy)]
    by_cases e : a = x
    . subst e; simp
    . have : ¬ f a = f x := fun z => e (h a (List.mem_cons_self ..) z)
      rw [show (a == x) = false by simpa using e, show (f a == f x) = false by simpa using this]
theorem num_map {α β : Type} [DecidableEq α] [DecidableEq β] (f : α -> β) {row : List α} (h : ∀ x ∈ row, ∀ y ∈ row, f x = f y -> x = y) : num (row.map f) = num row := by
  have e : firsts (row.map f) = (firsts row).map f := by
    unfold firsts
    have := firstsA_map f row [] (fun x y hx hy e => h x (hx.resolve_left (by simp)) y (hy.resolve_left (by simp)) e)
    simpa using this
  unfold num
  rw [List.map_map, e]
  refine List.map_congr_left fun x hx => ?_
  show (((firsts row).map f).idxOf (f x) : Int) = _
  rw [idx_map f _ _ fun y hy e => h y (mem_firsts.mp hy) x hx e]
theorem idx_snoc {α : Type} [DecidableEq α] {l : List α} {x y : α} (hy : y ∈ l) : (l ++ [x]).idxOf y = l.idxOf y := by
  rw [List.idxOf_append, if_pos hy]
theorem idx_new {α : Type} [DecidableEq α] {l : List α} {x : α} (hx : x ∉ l) : (l ++ [x]).idxOf x = l.length := by
  rw [List.idxOf_append, if_neg hx]; simp
abbrev StC := List (List Int) × List Int
def stepC (n : Nat) (b : List Int -> Nat -> Int) (w : List Int) (st : StC) (x : Nat) : StC := if ncl st.2 < ncl (st.2.zip (rowB n b ((x : Int) :: w))) then (st.1 ++ [(x : Int) :: w], num (st.2.zip (rowB n b ((x : Int) :: w)))) else st
def innerC (n : Nat) (b : List Int -> Nat -> Int) (w : List Int) (L : Nat) (st : StC) : StC := (List.range L).foldl (stepC n b w) st
def outerC (n : Nat) (b : List Int -> Nat -> Int) (L : Nat) : Nat -> Nat -> StC -> StC
  | 0, _, st => st
  | f + 1, k, st => if k < st.1.length then outerC n b L f (k + 1) (innerC n b (st.1.getD k []) L st) else st
section
variable {n L : Nat} {b : List Int -> Nat -> Int} {w : List Int} {st : StC}
theorem innerC_succ {i : Nat} : innerC n b w (i + 1) st = stepC n b w (innerC n b w i st) i := by
  unfold innerC
  rw [List.range_succ, List.foldl_append]; rfl
theorem outerC_end {f k : Nat} (h : st.1.length <= k) : outerC n b L f k st = st := by
  cases f with
  | zero => rfl
  | succ f => unfold outerC; rw [if_neg (by omega)]
theorem outerC_go {f k : Nat} {v : List Int} (h : st.1[k]? = some v) : outerC n b L (f + 1) k st = outerC n b L f (k + 1) (innerC n b v L st) := by
  have hk := (List.getElem?_eq_some_iff.mp h).1
  rw [outerC, if_pos hk, List.getD_eq_getElem?_getD, h]; rfl
structure WS (n L : Nat) (b : List Int -> Nat -> Int) (k i : Nat) (st : StC) : Prop where
  wc : WC L n b st.1 st.2
  told : ∀ (j : Nat) (v : List Int), st.1[j]? = some v -> ∀ x : Nat, x < L -> (j < k \/ (j = k /\ x < i)) -> Told n b st.2 ((x : Int) :: v)
theorem WS.start (hn : 1 <= n) : WS n L b 0 0 ([[]], num (rowB n b [])) := ⟨WC.start hn, fun j v hj x hx h => by omega⟩
theorem WS.next {k : Nat} (h : WS n L b k L st) : WS n L b (k + 1) 0 st := ⟨h.wc, fun j v hj x hx hh => h.told j v hj x hx (by omega)⟩
theorem WS.step {k i : Nat} (hn : 1 <= n) (hw : st.1[k]? = some w) (hi : i < L) (h : WS n L b k i st) : WS n L b k (i + 1) (stepC n b w st i) /\ (stepC n b w st i).1[k]? = some w := by
  have hm := List.mem_of_getElem? hw
  unfold stepC
  by_cases hc : ncl st.2 < ncl (st.2.zip (rowB n b ((i : Int) :: w)))
  . rw [if_pos hc]
    have hW := h.wc.more hn hm (show 0 <= (i : Int) /\ (i : Int) < L by omega) hc
    have hk := (List.getElem?_eq_some_iff.mp hw).1
    refine ⟨⟨hW, fun j v hj x hx hh => ?_⟩, by rw [List.getElem?_append_left hk]; exact hw⟩
    by_cases e : j = k /\ x = i
    . obtain ⟨rfl, rfl⟩ := e
      rw [List.getElem?_append_left hk, hw] at hj
      cases hj
      exact hW.mine (List.mem_append_right _ (List.mem_singleton.mpr rfl))
    . have hjl : j < st.1.length := by omega
      rw [List.getElem?_append_left hjl] at hj
      exact h.wc.finer h.wc.len (h.told j v hj x hx (by omega))
  . rw [if_neg hc]
    refine ⟨⟨h.wc, fun j v hj x hx hh => ?_⟩, hw⟩
    by_cases e : j = k /\ x = i
    . obtain ⟨rfl, rfl⟩ := e
      rw [hw] at hj
      cases hj
      exact fun r s hr hs er => h.wc.same (by omega) hr hs er
    . exact h.told j v hj x hx (by omega)
theorem WS.few {k i : Nat} (h : WS n L b k i st) : st.1.length <= n := by
  have h1 := h.wc.le
  have h2 := ncl_le st.2
  rw [h.wc.len] at h2
  omega
def wcOf (n L : Nat) (b : List Int -> Nat -> Int) : StC := outerC n b L 41 0 ([[]], num (rowB n b []))
structure Fin17 (n L : Nat) (b : List Int -> Nat -> Int) (st : StC) : Prop where
  wc : WC L n b st.1 st.2
  told : ∀ v ∈ st.1, ∀ x : Nat, x < L -> Told n b st.2 ((x : Int) :: v)
theorem WS.fin {k : Nat} (h : WS n L b k 0 st) (hk : st.1.length <= k) : Fin17 n L b st := ⟨h.wc, fun v hv x hx => by
  obtain ⟨j, hj⟩ := List.mem_iff_getElem?.mp hv
  have := (List.getElem?_eq_some_iff.mp hj).1
  exact h.told j v hj x hx (by omega)⟩
end
end L2
set_option Elab.async false
set_option linter.all false
set_option maxRecDepth 100000
set_option maxHeartbeats 4000000
namespace L2
open PySem PySem.W PySem.Spec PySem.Calls PyProof.Rows
theorem d_setdefK {X : Cx} {pins : List (Addr × Obj)} {σ : St} {H : Hp} {s : Shared} {a : Addr} {kvs : List (Key × V)} {k : Key} {v : V} {u r : Value} {A : Around} {E : Value -> Shared -> Prop} {Q : Value -> Shared -> Prop} (I : Inv X pins σ H s) (e : H a = some (.dK kvs)) (l : kvs.length < sizeLine) (ry : RelV (kV k) u) (rv : RelV v r)
    (h0 : ∀ x, valV kvs k = some x -> ∀ w' s', Inv X pins σ H s' -> RelV x w' -> Q w' s') (h1 : valV kvs k = none -> ∀ s', Inv X pins σ (upd H a (.dK (putK kvs k v))) s' -> Q r s') :
    wpAny (model X.prog X.w) A (call (.builtin "dict.setdefault") [.ref a, u, r]) Q E s := by
  obtain ⟨z, hd, vs, rel, dd⟩ := dk_of I.hok e
  have hz : vs.length <= sizeLine := by rw [<- rel.length]; exact z
  refine call_meetsIn PySem.F.slot_dict_setdefault dd.typeIs PySem.F.entry_dict_setdefault (PySem.F.args_dict_setdefault_3 _ _ _) (kt_meets_setdefault (mixKind X.prog X.w) a (kV_is ry) hd r) ⟨vs, dd, hz, fun x hx => ?_, fun hn h' dd' hs => ?_⟩
  . have rk := rel.val k
    rw [hx] at rk
    cases q : valV kvs k with
    | none => rw [q] at rk; exact (rk : False).elim
    | some y => rw [q] at rk; exact h0 y q _ _ (I.tok _) rk
  . have rk := rel.val k
    rw [hn] at rk
    cases q : valV kvs k with
    | some y => rw [q] at rk; exact (rk : False).elim
    | none =>
      refine h1 q _ ?_
      have hl : (putK kvs k v).length <= sizeLine := by have := length_putK kvs k v; omega
      have he : ∃ q, h'.get? a = some q := let ⟨q, _, _, hq, _⟩ := dd'; ⟨q, hq⟩
      exact d_write I (by rw [e]; exact True.intro) hs he (dk_new hl hd (rel.put k rv) dd')
def tSetdefK (td ty tx : TE) : TE := fun σ H Q => td σ H fun x H1 => ∃ a, x = .ref a /\ IsD H1 a /\ ty σ H1 fun y H2 => tx σ H2 fun z H3 => ∃ n kvs, y = .int n /\ H3 a = some (.dK kvs) /\ kvs.length < sizeLine /\ (∀ v, valV kvs (Sum.inl n) = some v -> Q v H3) /\ (valV kvs (Sum.inl n) = none -> Q z (upd H3 a (.dK (putK kvs (Sum.inl n) z))))
theorem r_setdefK {td ty tx : TE} {σ : St} {H : Hp} {Q : VK} : tSetdefK td ty tx σ H Q = td σ H fun x H1 => ∃ a, x = .ref a /\ IsD H1 a /\ ty σ H1 fun y H2 => tx σ H2 fun z H3 => ∃ n kvs, y = .int n /\ H3 a = some (.dK kvs) /\ kvs.length < sizeLine /\ (∀ v, valV kvs (Sum.inl n) = some v -> Q v H3) /\ (valV kvs (Sum.inl n) = none -> Q z (upd H3 a (.dK (putK kvs (Sum.inl n) z)))) := rfl
theorem pe_setdefK {X : Cx} {o e f : Expr} {apos cpos : Pos} {td ty tx : TE} (ho : PE X o td) (he : PE X e ty) (hf : PE X f tx) (m : M2 X o "setdefault" apos e f cpos) : PE X (.Call (.Attribute o "setdefault" apos) [e, f] [] cpos) (tSetdefK td ty tx) := by
  intro pins s σ H Q I h
  refine wpAny_Call_method m.base m.few m.line PySem.F.plainAttrs_dict PySem.F.slot_dict_setdefault PySem.F.type_dict_setdefault (thn (ho pins s σ H _ I h) fun u s1 ⟨x, H1, I1, rx, a, ex, d, q1⟩ => ?_)
  subst ex
  obtain rfl : u = Value.ref a := rx
  obtain ⟨t1, t2, _⟩ := isD_at I1 d
  refine ⟨t1, t2, ?_⟩
  rw [m.trees]
  refine Calls.callWith_builtin rfl (Calls.evalArgs_plain (Calls.spliced_cons (thn (he pins s1 σ H1 _ I1 q1) fun iv s2 ⟨y, H2, I2, ry, q2⟩ =>
    Calls.spliced_cons (thn (hf pins s2 σ H2 _ I2 q2) fun fv s3 ⟨z, H3, I3, rz, n, kvs, ey, ea, l, q3, q4⟩ => Calls.spliced_nil ?_))))
  subst ey
  exact d_setdefK (k := Sum.inl n) I3 ea l ry rz (fun v hv w' s4 I4 rw' => ⟨v, H3, I4, rw', q3 v hv⟩) fun hn s4 I4 => ⟨z, _, I4, rz, q4 hn⟩
end L2
set_option Elab.async false
set_option linter.all false
set_option maxRecDepth 100000
namespace L2
open GW GB
theorem bfs_row {L : Int} (hL : 0 < L) {n i : Nat} {ways : List (List Int)} {r : Int} {w : List Int} : ∀ (rest : List Int) (x : Nat) (ents : List (Int × List Int)), ((x + rest.length : Nat) : Int) = L -> (∀ (k : Nat) (g : Int), rest[k]? = some g -> g = stepW ways r ((x + k : Nat) : Int) /\ 0 <= g /\ g < (n : Int)) -> Bfs L n ways ents i (place L w * L + x + 1) -> Seen L ways ents r w x -> ents[i]? = some (r, w) ->
    Bfs L n ways (addRow w ents x rest) i (place L w * L + L + 1) /\ Seen L ways (addRow w ents x rest) r w L.toNat /\ (addRow w ents x rest)[i]? = some (r, w)
  | [], x, ents, hx, hg, bf, se, he => by
    rw [addRow_nil]
    have e : (x : Int) = L := by simpa using hx
    rw [e] at bf
    exact ⟨bf, by rw [show L.toNat = x by omega]; exact se, he⟩
  | g :: rest, x, ents, hx, hg, bf, se, he => by
    rw [addRow_cons]
    obtain ⟨g1, g2⟩ := hg 0 g rfl
    have hxl : (x : Int) < L := by rw [List.length_cons] at hx; omega
    obtain ⟨bf', se'⟩ := bf.letter hL se (List.mem_of_getElem? he) hxl g1 g2
    refine bfs_row hL rest (x + 1) _ (by rw [<- hx, List.length_cons]; congr 1; omega) (fun k g' hk => ?_) bf' se' (letter_keep he)
    have := hg (k + 1) g' (by simpa using hk)
    rwa [show x + (k + 1) = x + 1 + k by omega] at this
theorem bfs_all {L : Int} {marks : List Int} {ways : List (List Int)} (wf : Wf L marks ways) : ∀ (f : Nat) (ents : List (Int × List Int)) (i : Nat) (top : Int), Bfs L marks.length ways ents i top -> (∀ e, ents[i]? = some e -> top <= place L e.2 * L + 1) -> marks.length < i + f -> ∃ top', Bfs L marks.length ways (bfs ways f ents i) (bfs ways f ents i).length top'
  | 0, ents, i, top, bf, ht, hf => absurd bf.il (by have := bf.len; omega)
  | f + 1, ents, i, top, bf, ht, hf => by
    have hL : 0 < L := by have := wf.l1; omega
    cases he : ents[i]? with
    | none =>
      rw [bfs_stop he]
      have : i = ents.length := by have := bf.il; have := List.getElem?_eq_none_iff.mp he; omega
      exact ⟨top, this ▸ bf⟩
    | some e =>
      obtain ⟨r, w⟩ := e
      rw [bfs_step he]
      have hr := bf.rng _ (List.mem_of_getElem? he)
      obtain ⟨row, h1, h2, h3⟩ := wf.row hr.1 hr.2
      have hgd : ways.getD r.toNat [] = row := by rw [List.getD_eq_getElem?_getD, h1]; rfl
      obtain ⟨a, b, c⟩ := bfs_row (w := w) (r := r) hL row 0 ents (by simpa using h3) (fun k g hk => ⟨by rw [Nat.zero_add]; exact (stepW_of h1 (by rw [Int.toNat_natCast]; exact hk)).symm, (wf.rows row h2).2 g (List.mem_of_getElem? hk)⟩) (bf.up (by have h9 : top <= place L w * L + 1 := ht _ he; push_cast; omega)) (fun y h0 h1 => absurd h1 (by push_cast; omega)) he
      obtain ⟨bf', ht'⟩ := Bfs.next hL (m := L.toNat) (by rw [show ((L.toNat : Nat) : Int) = L by omega]; exact a) (by omega) b c
      show ∃ top', Bfs L marks.length ways (bfs ways f (addRow w ents 0 (ways.getD r.toNat [])) (i + 1)) _ top'
      rw [hgd]
      exact bfs_all wf f _ (i + 1) _ bf' ht' (by omega)
theorem Bfs.mk {L : Int} {marks : List Int} {ways : List (List Int)} (wf : Wf L marks ways) : ∃ top, Bfs L marks.length ways (wordsIn ways) (wordsIn ways).length top := by
  unfold wordsIn
  refine bfs_all wf _ _ 0 1 (Bfs.start L wf.n1 ways) (fun e he => ?_) (by rw [wf.len]; omega)
  simp at he; subst he; simp [place, placeR]
theorem innerC_ws {n L : Nat} {b : List Int -> Nat -> Int} {st : StC} {k : Nat} {w : List Int} (hn : 1 <= n) (hw : st.1[k]? = some w) (h : WS n L b k 0 st) : ∀ i, i <= L -> WS n L b k i (innerC n b w i st) /\ (innerC n b w i st).1[k]? = some w
  | 0, _ => ⟨h, hw⟩
  | i + 1, hi => by
    obtain ⟨a, c⟩ := innerC_ws hn hw h i (by omega)
    rw [innerC_succ]
    exact a.step hn c (by omega)
theorem outerC_fin {n L : Nat} {b : List Int -> Nat -> Int} (hn : 1 <= n) (hn40 : n <= 40) : ∀ (f k : Nat) (st : StC), k + f = 41 -> WS n L b k 0 st -> Fin17 n L b (outerC n b L f k st)
  | 0, k, st, hk, h => h.fin (by have := h.few; omega)
  | f + 1, k, st, hk, h => by
    cases hw : st.1[k]? with
    | none =>
      have := List.getElem?_eq_none_iff.mp hw
      rw [outerC_end this]
      exact h.fin this
    | some w =>
      rw [outerC_go hw]
      exact outerC_fin hn hn40 f (k + 1) _ (by omega) (innerC_ws hn hw h L (Nat.le_refl _)).1.next
theorem Fin17.mk' {n L : Nat} {b : List Int -> Nat -> Int} (hn : 1 <= n) (hn40 : n <= 40) : Fin17 n L b (wcOf n L b) := outerC_fin hn hn40 41 0 _ rfl (WS.start hn)
def bW (marks : List Int) (ways : List (List Int)) (w : List Int) (r : Nat) : Int := marks.getD (walkR ways (r : Int) w).toNat 0
theorem bW_nil {marks : List Int} {ways : List (List Int)} : rowB marks.length (bW marks ways) [] = marks := by
  refine List.ext_getElem? fun i => ?_
  by_cases hi : i < marks.length
  . rw [rowB_at hi]
    unfold bW
    show some (marks.getD ((i : Int)).toNat 0) = _
    rw [Int.toNat_natCast, List.getD_eq_getElem?_getD, List.getElem?_eq_getElem hi]; rfl
  . rw [List.getElem?_eq_none (by rw [rowB_len]; omega), List.getElem?_eq_none (by omega)]
theorem bW_cons {marks : List Int} {ways : List (List Int)} (w : List Int) (x : Int) (r : Nat) (h : 0 <= stepW ways (r : Int) x) : bW marks ways (x :: w) r = bW marks ways w (stepW ways (r : Int) x).toNat := by
  unfold bW
  rw [walkR_cons, Int.toNat_of_nonneg h]
def cf (c : List Int) (r : Int) : Int := c.getD r.toNat 0
def hm (c R : List Int) (r : Int) : Int := (((firsts (R.map (cf c))).idxOf (cf c r) : Nat) : Int)
def frstep (c acc : List Int) (r : Int) : List Int := if cf c r ∈ acc.map (cf c) then acc else acc ++ [r]
def FR (c R : List Int) : List Int := R.foldl (frstep c) []
theorem frstep_map (c acc : List Int) (r : Int) : (frstep c acc r).map (cf c) = ins1 (acc.map (cf c)) (cf c r) := by
  unfold frstep ins1
  split
  . rfl
  . rw [List.map_append]; rfl
theorem FR_mapA (c : List Int) : ∀ (R acc : List Int), (R.foldl (frstep c) acc).map (cf c) = firstsA (acc.map (cf c)) (R.map (cf c))
  | [], acc => rfl
  | r :: R, acc => by
    rw [List.foldl_cons, FR_mapA c R, frstep_map]; rfl
theorem FR_map (c R : List Int) : (FR c R).map (cf c) = firsts (R.map (cf c)) := FR_mapA c R []
theorem FR_take {c R : List Int} {i : Nat} {r : Int} (h : R[i]? = some r) : FR c (R.take (i + 1)) = frstep c (FR c (R.take i)) r := by
  unfold FR
  rw [List.take_add_one, h, Option.toList_some, List.foldl_append]; rfl
theorem FR_memA (c : List Int) : ∀ (R acc : List Int) (r : Int), r ∈ R.foldl (frstep c) acc -> r ∈ acc \/ r ∈ R
  | [], acc, r, h => .inl h
  | q :: R, acc, r, h => by
    rcases FR_memA c R _ r h with h | h
    . unfold frstep at h
      split at h
      . exact .inl h
      . rcases List.mem_append.mp h with h | h
        . exact .inl h
        . exact .inr (by rw [List.mem_singleton.mp h]; exact List.mem_cons_self ..)
    . exact .inr (List.mem_cons_of_mem _ h)
theorem FR_mem {c R : List Int} {r : Int} (h : r ∈ FR c R) : r ∈ R := (FR_memA c R [] r h).resolve_left (by simp)
theorem FR_len (c R : List Int) : (FR c R).length <= R.length := by
  have h := congrArg List.length (FR_map c R)
  have h2 := ncl_le (R.map (cf c))
  unfold ncl at h2
  rw [List.length_map] at h h2
  omega
def mkR (marks : List Int) (r : Int) : Int := marks.getD r.toNat 0
def hrow (c R : List Int) (ways : List (List Int)) (r : Int) : List Int := (ways.getD r.toNat []).map (hm c R)
theorem hm_F {c R : List Int} {j : Nat} {r : Int} (h : (FR c R)[j]? = some r) : hm c R r = j := by
  have h1 : (firsts (R.map (cf c)))[j]? = some (cf c r) := by rw [<- FR_map, List.getElem?_map, h]; rfl
  unfold hm
  obtain ⟨hj, e⟩ := List.getElem?_eq_some_iff.mp h1
  rw [<- e, (nodup_firsts _).idxOf_getElem _ hj]
theorem F_hm {c R : List Int} {r : Int} (h : r ∈ R) : ∃ (j : Nat) (q : Int), j < (FR c R).length /\ hm c R r = j /\ (FR c R)[j]? = some q /\ cf c q = cf c r := by
  have hm' : cf c r ∈ firsts (R.map (cf c)) := mem_firsts.mpr (List.mem_map_of_mem h)
  have hi := List.idxOf_lt_length_of_mem hm'
  have hl : (FR c R).length = (firsts (R.map (cf c))).length := by rw [<- FR_map, List.length_map]
  refine ⟨(firsts (R.map (cf c))).idxOf (cf c r), (FR c R)[(firsts (R.map (cf c))).idxOf (cf c r)]'(by omega), by omega, rfl, by simp [hl, hi], ?_⟩
  have e : ((FR c R).map (cf c))[(firsts (R.map (cf c))).idxOf (cf c r)]? = some (cf c r) := by rw [FR_map, List.getElem?_eq_getElem hi, List.getElem_idxOf]
  rw [List.getElem?_map, List.getElem?_eq_getElem (by omega)] at e
  exact Option.some.inj e
theorem hm_congr {c R : List Int} {r s : Int} (h : cf c r = cf c s) : hm c R r = hm c R s := by unfold hm; rw [h]
section
variable {L : Nat} {marks : List Int} {ways : List (List Int)}
theorem cf_at {c : List Int} {n : Nat} (hc : c.length = n) {r : Int} (h0 : 0 <= r) (h1 : r < (n : Int)) : c[r.toNat]? = some (cf c r) := by
  unfold cf
  rw [List.getD_eq_getElem?_getD]
  simp [show r.toNat < c.length by omega]
theorem Wf.stp (wf : Wf L marks ways) {r x : Int} (h0 : 0 <= r) (h1 : r < marks.length) (x0 : 0 <= x) (x1 : x < L) : 0 <= stepW ways r x /\ stepW ways r x < marks.length := by
  obtain ⟨_, g, _, _, e, a, b⟩ := wf.step h0 h1 x0 x1
  rw [e]; exact ⟨a, b⟩
theorem cls_same (wf : Wf L marks ways) {st : StC} (fin : Fin17 marks.length L (bW marks ways) st) {r s : Int} (r0 : 0 <= r) (r1 : r < marks.length) (s0 : 0 <= s) (s1 : s < marks.length) (e : cf st.2 r = cf st.2 s) :
    mkR marks r = mkR marks s /\ ∀ x : Nat, x < L -> cf st.2 (stepW ways r x) = cf st.2 (stepW ways s x) := by
  have ec : st.2[r.toNat]? = st.2[s.toNat]? := by rw [cf_at fin.wc.len r0 r1, cf_at fin.wc.len s0 s1, e]
  have hr : r.toNat < marks.length := by omega
  have hs : s.toNat < marks.length := by omega
  have all := (fin.wc.iff _ _ hr hs).mp ec
  have eR : ((r.toNat : Nat) : Int) = r := by omega
  have eS : ((s.toNat : Nat) : Int) = s := by omega
  refine ⟨?_, fun x hx => ?_⟩
  . have := all [] (List.mem_of_getElem? fin.wc.w0)
    unfold bW at this
    rw [eR, eS] at this
    exact this
  . obtain ⟨a0, a1⟩ := Wf.stp wf r0 r1 (show (0 : Int) <= x by omega) (by omega)
    obtain ⟨b0, b1⟩ := Wf.stp wf s0 s1 (show (0 : Int) <= x by omega) (by omega)
    have := (fin.wc.iff (stepW ways r x).toNat (stepW ways s x).toNat (by omega) (by omega)).mpr fun w hw => by
      have := fin.told w hw x hx r.toNat s.toNat hr hs ec
      rw [bW_cons _ _ _ (by rw [eR]; exact a0), bW_cons _ _ _ (by rw [eS]; exact b0), eR, eS] at this
      exact this
    rw [cf_at fin.wc.len a0 a1, cf_at fin.wc.len b0 b1] at this
    exact Option.some.inj this
end
def cOf (L : Nat) (marks : List Int) (ways : List (List Int)) : List Int := (wcOf marks.length L (bW marks ways)).2
def rOf (ways : List (List Int)) : List Int := (wordsIn ways).map (·.1)
def sF (L : Nat) (marks : List Int) (ways : List (List Int)) : List Int := FR (cOf L marks ways) (rOf ways)
def sM (L : Nat) (marks : List Int) (ways : List (List Int)) : List Int := (sF L marks ways).map (mkR marks)
def sW (L : Nat) (marks : List Int) (ways : List (List Int)) : List (List Int) := (sF L marks ways).map (hrow (cOf L marks ways) (rOf ways) ways)
def hO (L : Nat) (marks : List Int) (ways : List (List Int)) (r : Int) : Int := hm (cOf L marks ways) (rOf ways) r
section
variable {L : Nat} {marks : List Int} {ways : List (List Int)}
theorem finO (wf : Wf L marks ways) : Fin17 marks.length L (bW marks ways) (wcOf marks.length L (bW marks ways)) := Fin17.mk' wf.n1 wf.n40
theorem rO_rng (wf : Wf L marks ways) {r : Int} (h : r ∈ rOf ways) : 0 <= r /\ r < marks.length := by
  obtain ⟨top, bf⟩ := Bfs.mk wf
  obtain ⟨e, he, rfl⟩ := List.mem_map.mp h
  exact bf.rng e he
theorem rO_step (wf : Wf L marks ways) {r x : Int} (h : r ∈ rOf ways) (x0 : 0 <= x) (x1 : x < L) : stepW ways r x ∈ rOf ways := by
  obtain ⟨top, bf⟩ := Bfs.mk wf
  obtain ⟨e, he, rfl⟩ := List.mem_map.mp h
  obtain ⟨j, hj⟩ := List.mem_iff_getElem?.mp he
  obtain ⟨e', h1, h2, _⟩ := bf.don j (List.getElem?_eq_some_iff.mp hj).1 e hj x x0 x1
  rw [<- h2]
  exact List.mem_map_of_mem h1
theorem rO_zero (wf : Wf L marks ways) : (rOf ways)[0]? = some 0 := by
  obtain ⟨top, bf⟩ := Bfs.mk wf
  unfold rOf
  rw [List.getElem?_map, bf.hd]; rfl
theorem rO_len (wf : Wf L marks ways) : (rOf ways).length <= marks.length := by
  obtain ⟨top, bf⟩ := Bfs.mk wf
  unfold rOf
  rw [List.length_map]; exact bf.len
theorem rO_walk (wf : Wf L marks ways) : ∀ (w : List Int) {r : Int}, r ∈ rOf ways -> isW L w = true -> walkR ways r w ∈ rOf ways
  | [], r, h, _ => h
  | x :: w, r, h, hw => by
    obtain ⟨hx, hw⟩ := isW_cons.mp hw
    rw [walkR_cons]
    exact rO_walk wf w (rO_step wf h hx.1 hx.2) hw
theorem sF_rng (wf : Wf L marks ways) {j : Nat} {r : Int} (h : (sF L marks ways)[j]? = some r) : r ∈ rOf ways /\ 0 <= r /\ r < marks.length /\ hO L marks ways r = j := by
  have h1 := FR_mem (List.mem_of_getElem? h)
  have := rO_rng wf h1
  exact ⟨h1, this.1, this.2, hm_F h⟩
theorem sF_len (wf : Wf L marks ways) : (sF L marks ways).length <= marks.length := Nat.le_trans (FR_len _ _) (rO_len wf)
theorem hO_at (wf : Wf L marks ways) {r : Int} (h : r ∈ rOf ways) : ∃ (j : Nat) (q : Int), j < (sF L marks ways).length /\ hO L marks ways r = j /\ (sF L marks ways)[j]? = some q /\ cf (cOf L marks ways) q = cf (cOf L marks ways) r := F_hm h
theorem hO_rng (wf : Wf L marks ways) {r : Int} (h : r ∈ rOf ways) : 0 <= hO L marks ways r /\ hO L marks ways r < (sF L marks ways).length := by
  obtain ⟨j, q, h1, h2, _⟩ := hO_at wf h
  omega
theorem rO_mem0 (wf : Wf L marks ways) : (0 : Int) ∈ rOf ways := List.mem_of_getElem? (rO_zero wf)
theorem sF_zero (wf : Wf L marks ways) : (sF L marks ways)[0]? = some 0 := by
  have h := rO_zero wf
  unfold sF
  cases hR : rOf ways with
  | nil => rw [hR] at h; cases h
  | cons a R =>
    rw [hR] at h
    cases h
    unfold FR
    rw [List.foldl_cons]
    have e : frstep (cOf L marks ways) [] 0 = [0] := by unfold frstep; simp
    rw [e]
    have : ∀ (R acc : List Int), acc[0]? = some 0 -> (R.foldl (frstep (cOf L marks ways)) acc)[0]? = some 0 := fun R => by
      induction R with
      | nil => intro acc h; exact h
      | cons r R ih =>
        intro acc h
        refine ih _ ?_
        unfold frstep
        split
        . exact h
        . rw [List.getElem?_append_left (List.getElem?_eq_some_iff.mp h).1]; exact h
    exact this R [0] rfl
theorem hO_zero (wf : Wf L marks ways) : hO L marks ways 0 = 0 := by
  have := (sF_rng wf (sF_zero wf)).2.2.2
  simpa using this
theorem sM_at {j : Nat} {r : Int} (h : (sF L marks ways)[j]? = some r) : (sM L marks ways)[j]? = some (mkR marks r) := by
  unfold sM; rw [List.getElem?_map, h]; rfl
theorem sW_at {j : Nat} {r : Int} (h : (sF L marks ways)[j]? = some r) : (sW L marks ways)[j]? = some (hrow (cOf L marks ways) (rOf ways) ways r) := by
  unfold sW; rw [List.getElem?_map, h]; rfl
theorem sM_len : (sM L marks ways).length = (sF L marks ways).length := by unfold sM; rw [List.length_map]
theorem sW_len : (sW L marks ways).length = (sF L marks ways).length := by unfold sW; rw [List.length_map]
theorem mkR_at {ms : List Int} {r : Int} {m : Int} (h : ms[r.toNat]? = some m) : mkR ms r = m := by unfold mkR; rw [List.getD_eq_getElem?_getD, h]; rfl
theorem at_mkR {ms : List Int} {r : Int} (h : r.toNat < ms.length) : ms[r.toNat]? = some (mkR ms r) := by unfold mkR; rw [List.getD_eq_getElem?_getD]; simp [h]
theorem hO_mark (wf : Wf L marks ways) {r : Int} (h : r ∈ rOf ways) : mkR (sM L marks ways) (hO L marks ways r) = mkR marks r := by
  obtain ⟨j, q, h1, h2, h3, h4⟩ := hO_at wf h
  have hq := sF_rng wf h3
  have hr := rO_rng wf h
  rw [h2]
  rw [mkR_at (show (sM L marks ways)[((j : Nat) : Int).toNat]? = some (mkR marks q) by rw [Int.toNat_natCast]; exact sM_at h3)]
  exact (cls_same wf (finO wf) hq.2.1 hq.2.2.1 hr.1 hr.2 h4).1
theorem hO_row (wf : Wf L marks ways) {r : Int} (h : r ∈ rOf ways) : (sW L marks ways)[(hO L marks ways r).toNat]? = some ((ways.getD r.toNat []).map (hO L marks ways)) := by
  obtain ⟨j, q, h1, h2, h3, h4⟩ := hO_at wf h
  have hq := sF_rng wf h3
  have hr := rO_rng wf h
  rw [h2, Int.toNat_natCast, sW_at h3]
  congr 1
  unfold hrow
  obtain ⟨row, a1, a2, a3⟩ := wf.row hq.2.1 hq.2.2.1
  obtain ⟨row', b1, b2, b3⟩ := wf.row hr.1 hr.2
  have e1 : ways.getD q.toNat [] = row := by rw [List.getD_eq_getElem?_getD, a1]; rfl
  have e2 : ways.getD r.toNat [] = row' := by rw [List.getD_eq_getElem?_getD, b1]; rfl
  rw [e1, e2]
  refine List.ext_getElem? fun x => ?_
  by_cases hx : x < L
  . have hxr : x < row.length := by omega
    have hxr' : x < row'.length := by omega
    rw [List.getElem?_map, List.getElem?_map, List.getElem?_eq_getElem hxr, List.getElem?_eq_getElem hxr']
    show some (hm _ _ row[x]) = some (hm _ _ row'[x])
    have c1 : stepW ways q (x : Nat) = row[x] := stepW_of a1 (by rw [Int.toNat_natCast]; simp [hxr])
    have c2 : stepW ways r (x : Nat) = row'[x] := stepW_of b1 (by rw [Int.toNat_natCast]; simp [hxr'])
    have := (cls_same wf (finO wf) hq.2.1 hq.2.2.1 hr.1 hr.2 h4).2 x hx
    rw [c1, c2] at this
    exact congrArg some (hm_congr this)
  . rw [List.getElem?_eq_none (by rw [List.length_map]; omega), List.getElem?_eq_none (by rw [List.length_map]; omega)]
theorem hO_step (wf : Wf L marks ways) {r x : Int} (h : r ∈ rOf ways) (x0 : 0 <= x) (x1 : x < L) : stepW (sW L marks ways) (hO L marks ways r) x = hO L marks ways (stepW ways r x) := by
  have hr := rO_rng wf h
  obtain ⟨row, b1, b2, b3⟩ := wf.row hr.1 hr.2
  have e2 : ways.getD r.toNat [] = row := by rw [List.getD_eq_getElem?_getD, b1]; rfl
  have h1 := hO_row wf h
  rw [e2] at h1
  have hxr : x.toNat < row.length := by omega
  rw [stepW_of b1 (show row[x.toNat]? = some row[x.toNat] by simp [hxr])]
  exact stepW_of h1 (by rw [List.getElem?_map, List.getElem?_eq_getElem hxr]; rfl)
theorem hO_walk (wf : Wf L marks ways) : ∀ (w : List Int) {r : Int}, r ∈ rOf ways -> isW L w = true -> walkR (sW L marks ways) (hO L marks ways r) w = hO L marks ways (walkR ways r w)
  | [], r, h, _ => rfl
  | x :: w, r, h, hw => by
    obtain ⟨hx, hw⟩ := isW_cons.mp hw
    rw [walkR_cons, walkR_cons, hO_step wf h hx.1 hx.2]
    exact hO_walk wf w (rO_step wf h hx.1 hx.2) hw
theorem sWf (wf : Wf L marks ways) : Wf L (sM L marks ways) (sW L marks ways) := by
  have hz := sF_zero wf
  refine ⟨wf.l1, wf.l6, ?_, ?_, by rw [sM_len, sW_len], fun row hrow' => ?_, fun m hmm => ?_⟩
  . rw [sM_len]; have := (List.getElem?_eq_some_iff.mp hz).1; omega
  . rw [sM_len]; have := sF_len wf; have := wf.n40; omega
  . obtain ⟨j, hj⟩ := List.mem_iff_getElem?.mp hrow'
    have hjl := (List.getElem?_eq_some_iff.mp hj).1
    rw [sW_len] at hjl
    have hq := sF_rng wf (show (sF L marks ways)[j]? = some (sF L marks ways)[j] by simp [hjl])
    rw [sW_at (show (sF L marks ways)[j]? = some (sF L marks ways)[j] by simp [hjl])] at hj
    have hj := Option.some.inj hj
    obtain ⟨row', b1, b2, b3⟩ := wf.row hq.2.1 hq.2.2.1
    have e2 : ways.getD ((sF L marks ways)[j]).toNat [] = row' := by rw [List.getD_eq_getElem?_getD, b1]; rfl
    unfold hrow at hj
    rw [e2] at hj
    subst hj
    refine ⟨by rw [List.length_map]; exact b3, fun x hx => ?_⟩
    obtain ⟨g, hg, rfl⟩ := List.mem_map.mp hx
    rw [sM_len]
    refine hO_rng wf ?_
    obtain ⟨y, hy⟩ := List.mem_iff_getElem?.mp hg
    have hyl := (List.getElem?_eq_some_iff.mp hy).1
    have := rO_step wf hq.1 (x := (y : Nat)) (by omega) (by omega)
    rwa [stepW_of b1 (by rw [Int.toNat_natCast]; exact hy)] at this
  . unfold sM at hmm
    obtain ⟨r, hr, rfl⟩ := List.mem_map.mp hmm
    have := rO_rng wf (FR_mem hr)
    refine wf.mks _ (List.mem_of_getElem? (at_mkR (ms := marks) (r := r) (by omega)))
def wi (ways : List (List Int)) (r : Int) : List Int := (((wordsIn ways).find? fun e => decide (e.1 = r)).map (·.2)).getD []
theorem s_ans (wf : Wf L marks ways) {v : List Int} (hv : isW L v = true) : mkR (sM L marks ways) (walkW (sW L marks ways) v) = mkR marks (walkW ways v) := by
  have h := hO_walk wf v (rO_mem0 wf) hv
  rw [hO_zero wf, walkR_zero, walkR_zero] at h
  rw [h, hO_mark wf]
  have := rO_walk wf v (rO_mem0 wf) hv
  rwa [walkR_zero] at this
end
section
variable {L : Nat} {m1 m2 : List Int} {w1 w2 : List (List Int)}
end
end L2
set_option Elab.async false
set_option linter.all false
set_option maxRecDepth 100000
set_option maxHeartbeats 4000000
namespace L2
open PySem PySem.Spec PyProof.Rows GW GB
end L2
set_option Elab.async false
set_option linter.all false
set_option maxRecDepth 100000
set_option maxHeartbeats 4000000
namespace Mine
open PySem L2 GW GB
local macro_rules | `(tactic| walk_at "rd") => `(tactic| try simp only [↓r_seq, ↓r_next, ↓r_asg, ↓r_gname, ↓r_var, ↓r_c, ↓r_op, ↓r_I, ↓r_I0, ↓r_call, ↓r_cons, ↓r_nil, ↓r_ret, ↓r_drop, ↓r_if, ↓r_B, ↓r_test, ↓r_and, ↓r_or, ↓r_not, ↓r_andV, ↓r_CB, ↓r_lst, ↓r_tup, ↓r_ixL, ↓r_ixT, ↓r_BM, ↓r_append, ↓r_gsub, ↓r_setL, ↓r_Eq, ↓r_Ne, ↓r_iList, ↓r_iTup, ↓r_iRng1, ↓r_aug, ↓r_ip, ↓r_true, ↓r_comp, ↓r_for, ↓r_cat, ↓r_rep, ↓r_raise, ↓r_callE, ↓r_try, ↓r_unnx, ↓r_unrt, ↓r_iEnumT, ↓r_disp1, ↓r_listRng, ↓r_gTup, ↓r_gCons, ↓r_gNil, ↓r_dget, ↓r_dnotin, ↓r_dput, ↓r_disp, ↓r_pairs0, ↓r_pairs1, ↓r_iSeq, ↓r_listZip, ↓r_dnewB, r_ixB, ↓r_setdefK, ↓r_tupRev, ↓r_iDictT, ↓r_dispT1, ↓r_dnewK, ↓r_dnewT, r_cxK, L2.start, List.map_cons, List.map_nil, List.length_cons, List.length_nil, List.cons_append, List.nil_append, List.append_nil, List.replicate, List.getElem?_cons_zero, List.getElem?_cons_succ, List.set_cons_zero, List.set_cons_succ, Option.some.injEq, V.int.injEq, V.str.injEq, V.ref.injEq, V.bl.injEq, List.cons.injEq, and_true, true_and, and_assoc, exists_and_left, exists_eq_left', exists_eq_left, exists_eq_right, exists_eq, if_true, if_false, Bool.false_eq_true, decide_eq_true_eq, scal, Nat.reduceAdd, Nat.reduceSub, reduceCtorEq, Bool.not_true, Bool.not_false])
def top (i : Nat) : Stmt := PySem.Challenge.pw_guessroom_k21_alike.main.body.getD i (.Pass ⟨0, 0, 0, 0⟩)
abbrev s_words_in : Stmt := top 1
theorem sc_words_in : FnScope ["house", "words", "rooms", "walked", "room", "letter", "goal"] ["house"] (defScope s_words_in) := ⟨rfl, rfl, rfl, by decide +kernel, rfl, by decide +kernel, by decide +kernel⟩
abbrev s_reached : Stmt := top 2
theorem sc_reached : FnScope ["house"] ["house"] (defScope s_reached) := ⟨rfl, rfl, rfl, by decide +kernel, rfl, by decide +kernel, by decide +kernel⟩
abbrev s_check_as_many_letters : Stmt := top 7
theorem sc_check_as_many_letters : FnScope ["house", "other"] ["house", "other"] (defScope s_check_as_many_letters) := ⟨rfl, rfl, rfl, by decide +kernel, rfl, by decide +kernel, by decide +kernel⟩
abbrev s_steps_from : Stmt := top 8
theorem sc_steps_from : FnScope ["house", "other", "start", "steps", "found", "walked", "pair", "letter", "goal"] ["house", "other", "start"] (defScope s_steps_from) := ⟨rfl, rfl, rfl, by decide +kernel, rfl, by decide +kernel, by decide +kernel⟩
abbrev s_word_to : Stmt := top 9
theorem sc_word_to : FnScope ["steps", "pair", "backwards", "step"] ["steps", "pair"] (defScope s_word_to) := ⟨rfl, rfl, rfl, by decide +kernel, rfl, by decide +kernel, by decide +kernel⟩
abbrev s_least_word_apart : Stmt := top 10
theorem sc_least_word_apart : FnScope ["house", "other", "start", "steps", "pair"] ["house", "other", "start"] (defScope s_least_word_apart) := ⟨rfl, rfl, rfl, by decide +kernel, rfl, by decide +kernel, by decide +kernel⟩
abbrev s_difference : Stmt := top 11
theorem sc_difference : FnScope ["house", "other"] ["house", "other"] (defScope s_difference) := ⟨rfl, rfl, rfl, by decide +kernel, rfl, by decide +kernel, by decide +kernel⟩
abbrev s_numbered : Stmt := top 12
theorem sc_numbered : FnScope ["row", "numbers", "thing"] ["row"] (defScope s_numbered) := ⟨rfl, rfl, rfl, by decide +kernel, rfl, by decide +kernel, by decide +kernel⟩
abbrev s_words_and_classes : Stmt := top 13
theorem sc_words_and_classes : FnScope ["house", "words", "marks_behind", "classes", "walked", "letter", "marks", "finer"] ["house"] (defScope s_words_and_classes) := ⟨rfl, rfl, rfl, by decide +kernel, rfl, by decide +kernel, by decide +kernel⟩
abbrev s_classes_of : Stmt := top 14
theorem sc_classes_of : FnScope ["house"] ["house"] (defScope s_classes_of) := ⟨rfl, rfl, rfl, by decide +kernel, rfl, by decide +kernel, by decide +kernel⟩
abbrev s_homes : Stmt := top 16
theorem sc_homes : FnScope ["house", "classes", "numbers", "told", "room"] ["house"] (defScope s_homes) := ⟨rfl, rfl, rfl, by decide +kernel, rfl, by decide +kernel, by decide +kernel⟩
abbrev s_least : Stmt := top 17
theorem sc_least : FnScope ["house", "home_of", "marks", "ways", "room"] ["house"] (defScope s_least) := ⟨rfl, rfl, rfl, by decide +kernel, rfl, by decide +kernel, by decide +kernel⟩
abbrev s_alike : Stmt := top 18
theorem sc_alike : FnScope ["house", "other"] ["house", "other"] (defScope s_alike) := ⟨rfl, rfl, rfl, by decide +kernel, rfl, by decide +kernel, by decide +kernel⟩
abbrev s__law_cell_at : Stmt := top 20
theorem sc__law_cell_at : FnScope ["script", "k"] ["script", "k"] (defScope s__law_cell_at) := ⟨rfl, rfl, rfl, by decide +kernel, rfl, by decide +kernel, by decide +kernel⟩
abbrev s__law_mixed : Stmt := top 21
theorem sc__law_mixed : FnScope ["number", "k", "many", "turn"] ["number", "k", "many"] (defScope s__law_mixed) := ⟨rfl, rfl, rfl, by decide +kernel, rfl, by decide +kernel, by decide +kernel⟩
abbrev s__law_marks_by : Stmt := top 22
theorem sc__law_marks_by : FnScope ["number", "rooms", "way", "top", "marks", "room", "mark"] ["number", "rooms"] (defScope s__law_marks_by) := ⟨rfl, rfl, rfl, by decide +kernel, rfl, by decide +kernel, by decide +kernel⟩
abbrev s__law_ways_by : Stmt := top 23
theorem sc__law_ways_by : FnScope ["script", "letters", "rooms", "shape", "ways", "room", "row", "letter", "k", "goal"] ["script", "letters", "rooms"] (defScope s__law_ways_by) := ⟨rfl, rfl, rfl, by decide +kernel, rfl, by decide +kernel, by decide +kernel⟩
abbrev s__law_blown : Stmt := top 24
theorem sc__law_blown : FnScope ["house", "number", "rooms", "small", "fold", "ways", "room", "row", "letter", "goal", "twins"] ["house", "number", "rooms"] (defScope s__law_blown) := ⟨rfl, rfl, rfl, by decide +kernel, rfl, by decide +kernel, by decide +kernel⟩
abbrev s__law_house_by : Stmt := top 25
theorem sc__law_house_by : FnScope ["script", "letters", "rooms", "marks", "house", "number"] ["script"] (defScope s__law_house_by) := ⟨rfl, rfl, rfl, by decide +kernel, rfl, by decide +kernel, by decide +kernel⟩
abbrev s__law_spoiled : Stmt := top 26
theorem sc__law_spoiled : FnScope ["house", "number", "marks", "ways", "room", "letter", "same"] ["house", "number"] (defScope s__law_spoiled) := ⟨rfl, rfl, rfl, by decide +kernel, rfl, by decide +kernel, by decide +kernel⟩
abbrev s__law_turned_by : Stmt := top 27
theorem sc__law_turned_by : FnScope ["house", "number", "rooms", "order", "marks", "ways", "room"] ["house", "number"] (defScope s__law_turned_by) := ⟨rfl, rfl, rfl, by decide +kernel, rfl, by decide +kernel, by decide +kernel⟩
abbrev s__law_other_by : Stmt := top 28
theorem sc__law_other_by : FnScope ["house", "script", "number", "way", "rooms", "marks", "ways", "other"] ["house", "script"] (defScope s__law_other_by) := ⟨rfl, rfl, rfl, by decide +kernel, rfl, by decide +kernel, by decide +kernel⟩
abbrev s__law_pairs_of : Stmt := top 29
theorem sc__law_pairs_of : FnScope ["house", "other", "known", "row", "at", "here", "letter", "goal"] ["house", "other"] (defScope s__law_pairs_of) := ⟨rfl, rfl, rfl, by decide +kernel, rfl, by decide +kernel, by decide +kernel⟩
abbrev s__law_foreign : Stmt := top 30
theorem sc__law_foreign : FnScope ["house", "letters"] ["house"] (defScope s__law_foreign) := ⟨rfl, rfl, rfl, by decide +kernel, rfl, by decide +kernel, by decide +kernel⟩
abbrev s__law_refused : Stmt := top 31
theorem sc__law_refused : FnScope ["house", "other", "told_kind", "e"] ["house", "other"] (defScope s__law_refused) := ⟨rfl, rfl, rfl, by decide +kernel, rfl, by decide +kernel, by decide +kernel⟩
abbrev s__law_tells : Stmt := top 32
theorem sc__law_tells : FnScope ["house", "other", "due", "found"] ["house", "other", "due"] (defScope s__law_tells) := ⟨rfl, rfl, rfl, by decide +kernel, rfl, by decide +kernel, by decide +kernel⟩
abbrev s_law : Stmt := top 33
theorem sc_law : FnScope ["script", "house", "other", "due", "pair", "foreign"] ["script"] (defScope s_law) := ⟨rfl, rfl, rfl, by decide +kernel, rfl, by decide +kernel, by decide +kernel⟩
def c_numbered_0 : Caps := [("thing", none), ("numbers", some 1)]
theorem nd_c_numbered_0 : (Caps.names c_numbered_0).Nodup := by decide +kernel
def c_words_and_classes_0 : Caps := [("goals", none), ("marks_behind", some 2), ("walked", some 4), ("letter", some 5)]
theorem nd_c_words_and_classes_0 : (Caps.names c_words_and_classes_0).Nodup := by decide +kernel
def c_least_0 : Caps := [("goal", none), ("home_of", some 1)]
theorem nd_c_least_0 : (Caps.names c_least_0).Nodup := by decide +kernel
def c__law_blown_0 : Caps := [("twin", none), ("goal", some 9), ("fold", some 4)]
theorem nd_c__law_blown_0 : (Caps.names c__law_blown_0).Nodup := by decide +kernel
def c__law_blown_1 : Caps := [("room", none), ("house", some 0)]
theorem nd_c__law_blown_1 : (Caps.names c__law_blown_1).Nodup := by decide +kernel
def c__law_spoiled_0 : Caps := [("row", none)]
theorem nd_c__law_spoiled_0 : (Caps.names c__law_spoiled_0).Nodup := by decide +kernel
def c__law_spoiled_1 : Caps := [("goal", none), ("marks", some 2), ("letter", some 5), ("ways", some 3), ("room", some 4)]
theorem nd_c__law_spoiled_1 : (Caps.names c__law_spoiled_1).Nodup := by decide +kernel
def c__law_spoiled_2 : Caps := [("row", none)]
theorem nd_c__law_spoiled_2 : (Caps.names c__law_spoiled_2).Nodup := by decide +kernel
def c__law_turned_by_0 : Caps := [("room", none), ("number", some 1), ("rooms", some 2)]
theorem nd_c__law_turned_by_0 : (Caps.names c__law_turned_by_0).Nodup := by decide +kernel
def c__law_turned_by_1 : Caps := [("goal", none), ("order", some 3)]
theorem nd_c__law_turned_by_1 : (Caps.names c__law_turned_by_1).Nodup := by decide +kernel
def c__law_other_by_0 : Caps := [("room", none), ("house", some 0), ("number", some 2)]
theorem nd_c__law_other_by_0 : (Caps.names c__law_other_by_0).Nodup := by decide +kernel
def c__law_other_by_1 : Caps := [("room", none), ("rooms", some 4), ("number", some 2), ("house", some 0)]
theorem nd_c__law_other_by_1 : (Caps.names c__law_other_by_1).Nodup := by decide +kernel
def c__law_other_by_2 : Caps := [("k", none), ("rooms", some 1), ("number", some 2), ("room", some 0)]
theorem nd_c__law_other_by_2 : (Caps.names c__law_other_by_2).Nodup := by decide +kernel
def c__law_other_by_3 : Caps := [("row", none)]
theorem nd_c__law_other_by_3 : (Caps.names c__law_other_by_3).Nodup := by decide +kernel
structure Txt (mg : Str -> Option Value) : Prop where
  ValueError : mg "ValueError" = none
  bool : mg "bool" = none
  enumerate : mg "enumerate" = none
  isinstance : mg "isinstance" = none
  len : mg "len" = none
  list : mg "list" = none
  max : mg "max" = none
  min : mg "min" = none
  range : mg "range" = none
  reversed : mg "reversed" = none
  tuple : mg "tuple" = none
  zip : mg "zip" = none
structure Exs (K : PySem.W.Frag) (mg : Str -> Option Value) (C_AskError C_BadHouse : Addr) : Prop where
  m_AskError : mg "AskError" = some (.ref C_AskError)
  m_BadHouse : mg "BadHouse" = some (.ref C_BadHouse)
  x_BadHouse : PySem.W.excIn K C_BadHouse bmV "ValueError.__new__" = true
  c_BadHouse : ExcCls K C_BadHouse
  e_BadHouse : PySem.W.exmOne K (.ref C_BadHouse) (.ref C_AskError) = some true
  v_BadHouse : PySem.W.kitOne K (.ref C_BadHouse) (.type "ValueError") = some true
  k_BadHouse_AskError : PySem.W.kitOne K (.ref C_BadHouse) (.ref C_AskError) = some true
  k_BadHouse_BadHouse : PySem.W.kitOne K (.ref C_BadHouse) (.ref C_BadHouse) = some true
section
variable {P : Program} {w : World} {K : PySem.W.Frag} {mg : Str -> Option Value} {base : Heap}
variable {C_AskError C_BadHouse : Addr}
def sp_wordsin (K : PySem.W.Frag) : Sp := fun vs H Q _ => ∃ (h : Addr) (L : Int) (marks : List Int) (ways : List (List Int)), vs = [.ref h] /\ House K H h L marks ways /\ Wf L marks ways /\ ∀ d top H', Same H H' -> H d = none -> Ents K H' d (wordsIn ways) -> Bfs L marks.length ways (wordsIn ways) (wordsIn ways).length top -> Q (.ref d) H'
theorem ok_words_in {f : Addr} {fd : FuncData} (F : Fun K "words_in" "words_in" s_words_in f fd) (T : Txt mg)
    (Z : Exs K mg C_AskError C_BadHouse)
    : FnOk P w K mg base CX0 1 f fd ["house"] (sp_wordsin K) := by
  refine F.ok sc_words_in (fun vs H Q E h => ?_) (fun cdv A outer s H vs Q E hr h => ?_)
  . obtain ⟨h, L, marks, ways, rfl, _⟩ := h; rfl
  . obtain ⟨h, L, marks, ways, rfl, hh, wf, k⟩ := h
    have hl := line1000
    have hL1 := wf.l1
    have hn1 := wf.n1
    have hn40 := wf.n40
    refine ⟨_, (@pss_cons _ _ _ _ _ (@ps_setD _ 1 _ _ _ _ _ _ _ _ sc_words_in.nd rfl (Or.inl rfl) pe_int (pe_tup pa_nil) rfl (Or.inl rfl))
      (pss_cons (ps_set (i := 2) sc_words_in.nd rfl (Or.inl rfl) (pe_lst (pa_cons pe_int pa_nil)))
      (pss_cons (ps_set (i := 3) sc_words_in.nd rfl (Or.inl rfl) pe_int)
      (pss_cons (ps_while PassesOwn.never (pt_cmpR op_lt (pv 3) (pe_callB call_len_seq (by rfl) T.len PySem.boot_len (pa_cons (pv 2) pa_nil)) (nomark _))
      (pss_cons (ps_set (i := 4) sc_words_in.nd rfl (Or.inl rfl) (pe_ix ix_list (pv 2) (pv 3) (fun _ _ => rfl)))
      (pss_cons (ps_for PassesOwn.never rfl (pi_enumT rfl T.enumerate (pe_ix ix_tup (pe_ix ix_tup (pv 0) pe_int (fun _ _ => rfl)) (pv 4) (fun _ _ => rfl))) (pg_tup rfl (pgs_cons (pg_name (i := 5) sc_words_in.nd rfl (Or.inl rfl)) (pgs_cons (pg_name (i := 6) sc_words_in.nd rfl (Or.inl rfl)) pgs_nil)))
      (pss_one (ps_if (pt_cmp (pc_dnotin (hu_of hr) (pv 6) (pv 1)))
      (pss_cons (ps_dput (hu_of hr) (pv 1) (pv 6) (pe_op op_catT2 (pe_dget (hu_of hr) (pv 1) (pv 4) (fun _ _ => rfl)) (pe_tup (pa_cons (pv 5) pa_nil))) rfl)
      (pss_one (ps_expr (pe_bm PySem.F.plainAttrs_list PySem.F.slot_list_append PySem.F.type_list_append mt_append (pv 2) (pa_cons (pv 6) pa_nil)))))
      pss_nil)))
      (pss_one (ps_aug (i := 3) sc_words_in.nd rfl (Or.inl rfl) pe_int ip_add)))))
      (pss_one (ps_ret (pv 1))))))), ?_⟩
    walk_at "rd"
    intro p hp
    refine ⟨by omega, fun p1 hp1 => ⟨Same.new hp1 _ _ upd_same, [(Sum.inl 0, V.ref p1)], rfl, by simp, by omega, fun p2 hp2 => ?_⟩⟩
    have hm1 : mergeK [] [((Sum.inl 0 : Key), V.ref p1)] = [((Sum.inl 0 : Key), V.ref p1)] := rfl
    rw [hm1] at hp2 ⊢
    have hne1 : p1 ≠ p := (none_of_upd hp1).2
    have hne2 : p2 ≠ p := (none_of_upd hp2).2
    have s0 : Same H (upd (upd (upd (upd H p (.dK [])) p1 (.tup [])) p (.dK [(Sum.inl 0, V.ref p1)])) p2 (.lst [V.int 0])) := (((Same.new hp).newT hp1).over hp).newT hp2
    have en0 : Ents K (upd (upd (upd (upd H p (.dK [])) p1 (.tup [])) p (.dK [(Sum.inl 0, V.ref p1)])) p2 (.lst [V.int 0])) p [(0, [])] := by
      refine ⟨[(Sum.inl 0, V.ref p1)], Same.new hp2 _ _ upd_same, rfl, fun i e he => ?_⟩
      cases i with
      | zero =>
        simp at he
        subst he
        refine ⟨p1, rfl, SqT.of ?_⟩
        refine Same.new hp2 _ _ ?_
        rw [upd_ne hne1]; exact upd_same
      | succ i => simp at he
    have hr0 : upd (upd (upd (upd H p (.dK [])) p1 (.tup [])) p (.dK [(Sum.inl 0, V.ref p1)])) p2 (.lst [V.int 0]) p2 = some (.lst ((([(0, [])] : List (Int × List Int)).map (·.1)).map V.int)) := upd_same
    have hp2n : H p2 = none := by
      have h1 := (none_of_upd hp2).1
      have h2 := (none_of_upd h1).1
      exact (none_of_upd h2).1
    generalize upd (upd (upd (upd H p (.dK [])) p1 (.tup [])) p (.dK [(Sum.inl 0, V.ref p1)])) p2 (.lst [V.int 0]) = H0 at s0 en0 hr0 ⊢
    clear hp1 hp2 hm1
    obtain ⟨Pv, hPv⟩ : ∃ Pv : Nat -> St -> Hp -> Prop, ∀ m σ2 H2, Pv m σ2 H2 ↔ (∃ (ents : List (Int × List Int)) (i : Nat) (top : Int) (o4 o5 o6 : Option V), m = marks.length + 1 - i /\ Same H H2 /\ Ents K H2 p ents /\ H2 p2 = some (.lst ((ents.map (·.1)).map V.int)) /\ Bfs L marks.length ways ents i top /\ (∀ e, ents[i]? = some e -> top <= place L e.2 * L + 1) /\ bfs ways (marks.length + 1 - i) ents i = wordsIn ways /\ σ2 = [some (.ref h), some (.ref p), some (.ref p2), some (.int i), o4, o5, o6]) := ⟨_, fun _ _ _ => Iff.rfl⟩
    refine whileW Pv ⟨_, (hPv _ _ _).mpr ⟨[(0, [])], 0, 1, none, none, none, rfl, s0, en0, hr0, Bfs.start L hn1 ways, fun e he => ?_, by unfold wordsIn; rw [wf.len]; rfl, rfl⟩⟩ ?_
    . simp at he; subst he; simp [place, placeR]
    intro m σ2 H2 hpv
    obtain ⟨ents, i, top, o4, o5, o6, rfl, s2, en2, hr2, bf, htop, hbfs, rfl⟩ := (hPv _ _ _).mp hpv
    have hbl := bf.len
    walk_at "rd"
    refine ⟨_, .inl (SqL.of hr2), ?_⟩
    rw [List.length_map, List.length_map]
    refine ite2 (fun hlt => ?_) (fun hge => ?_)
    . have hi : i < ents.length := by omega
      obtain ⟨e, he⟩ : ∃ e, ents[i]? = some e := ⟨ents[i], by simp [hi]⟩
      obtain ⟨r, w⟩ := e
      have hmem := List.mem_of_getElem? he
      have hr' := bf.rng _ hmem
      have htop' : top <= place L w * L + 1 := htop _ he
      obtain ⟨row, hrow, hrm, hrl⟩ := wf.row hr'.1 hr'.2
      have hgd : ways.getD r.toNat [] = row := by rw [List.getD_eq_getElem?_getD, hrow]; rfl
      obtain ⟨mm, wv, q1, q2, q3⟩ := id hh
      obtain ⟨xs, t, z1, z2, z3⟩ := q3.atZ hr'.1 hrow
      refine ⟨Pv (marks.length + 1 - (i + 1)), fun σ' H' h => ⟨_, by omega, h⟩, ?_⟩
      refine ⟨_, SqL.of hr2, _, atI_int (v := r) (by omega) (by rw [Int.toNat_natCast, List.getElem?_map, he]; rfl), ?_⟩
      walk_at "rd"
      refine ⟨_, s2.seqT q1, _, rfl, ?_⟩
      walk_at "rd"
      refine ⟨_, s2.seqT z1, _, z2, ?_⟩
      walk_at "rd"
      refine ⟨_, s2.seqT z3, ?_⟩
      obtain ⟨Pn, hPn⟩ : ∃ Pn : Nat -> St -> Hp -> Prop, ∀ x σ3 H3, Pn x σ3 H3 ↔ (∃ (ents' : List (Int × List Int)) (o5 o6 : Option V), Same H H3 /\ Ents K H3 p ents' /\ H3 p2 = some (.lst ((ents'.map (·.1)).map V.int)) /\ Bfs L marks.length ways ents' i (place L w * L + (x : Int) + 1) /\ Seen L ways ents' r w x /\ ents'[i]? = some (r, w) /\ addRow w ents' x (row.drop x) = addRow w ents 0 row /\ σ3 = [some (.ref h), some (.ref p), some (.ref p2), some (.int i), some (.int r), o5, o6]) := ⟨_, fun _ _ _ => Iff.rfl⟩
      refine forN Pn ((hPn _ _ _).mpr ⟨ents, o5, o6, s2, en2, hr2, bf.up (by push_cast; omega), (fun y h0 h1 => absurd h1 (by push_cast; omega)), he, rfl, rfl⟩) (fun x σ3 H3 _ h3 => ?_) (fun x v σ3 H3 t' hx h3 ht' => ?_) (fun σ3 H3 h3 => ?_)
      . obtain ⟨ents', _, _, s3, _⟩ := (hPn _ _ _).mp h3
        exact s3.seqT z3
      . obtain ⟨ents', o5, o6, s3, en3, hr3, bf3, se3, he3, had, rfl⟩ := (hPn _ _ _).mp h3
        obtain ⟨g, hg, rfl⟩ := get_mapI hx
        have hxl := (List.getElem?_eq_some_iff.mp hg).1
        have hgin := (wf.rows row hrm).2 g (List.mem_of_getElem? hg)
        have hgs : g = stepW ways r (x : Int) := (stepW_of hrow (by rw [Int.toNat_natCast]; exact hg)).symm
        have hmem3 := List.mem_of_getElem? he3
        have hdrop : row.drop x = g :: row.drop (x + 1) := by
          rw [List.drop_eq_getElem_cons hxl]
          congr 1
          exact (List.getElem?_eq_some_iff.mp hg).2
        obtain ⟨bf4, se4⟩ := bf3.letter (by omega) se3 hmem3 (by omega) hgs hgin
        have he4 := letter_keep (g := g) (v := w ++ [(x : Int)]) he3
        rw [hdrop, addRow_cons] at had
        have sT := s3.newT ht' (o := .tup [V.int x, V.int g])
        have enT := en3.mono (Same.new ht' (o := .tup [V.int x, V.int g]))
        have hrT := Same.new ht' (o := .tup [V.int x, V.int g]) _ _ hr3
        walk_at "rd"
        refine ⟨_, SqT.of upd_same, rfl, ?_⟩
        walk_at "rd"
        generalize upd H3 t' (.tup [V.int x, V.int g]) = HT' at sT enT hrT ⊢
        by_cases hm : g ∈ ents'.map (·.1)
        . rw [if_pos hm] at bf4 se4 he4 had
          obtain ⟨e', he', e1⟩ := List.mem_map.mp hm
          obtain ⟨g', w'⟩ := e'
          have e1 : g' = g := e1
          subst e1
          obtain ⟨tt, dg, _⟩ := enT.yes bf3.nod he'
          refine ⟨_, dg, ?_⟩
          rw [if_neg (by simp)]
          exact (hPn _ _ _).mpr ⟨ents', _, _, sT, enT, hrT, bf4, se4, he4, had, rfl⟩
        . rw [if_neg hm] at bf4 se4 he4 had
          refine ⟨_, enT.no hm, ?_⟩
          rw [if_pos (by simp)]
          obtain ⟨tw, dw, hw'⟩ := enT.yes bf3.nod hmem3
          refine ⟨_, dw, by omega, fun q5 hq5 => ?_⟩
          have hwl : w.length <= 100 := by
            have h1 : w.length <= i := bf3.sh i _ he3
            omega
          refine rCatT2.of ((Same.new hq5).seqT hw') (SqT.of upd_same) (by simp; omega) fun q6 H6 s6 hq6 => ?_
          have sU := (sT.newT hq5).trans s6
          have enU := (enT.mono (Same.new hq5)).mono s6
          have hrU := s6 _ _ (Same.new hq5 _ _ hrT)
          have hq6' : SqT K H6 q6 ((w ++ [(x : Int)]).map V.int) := by simpa using hq6
          obtain ⟨H7, dp, ⟨kvs, kvs', hd, rfl⟩, enV⟩ := enU.put hm (by have := bf3.len; omega) hq6'
          walk_at "rd"
          refine ⟨_, dp, ?_⟩
          have hrV : upd H6 p (.dK kvs') p2 = some (.lst ((ents'.map (·.1)).map V.int)) := by rw [upd_ne hne2]; exact hrU
          refine ⟨.inl ⟨rfl, _, SqL.of hrV⟩, _, hrV, by have := bf3.len; simp; omega, (hPn _ _ _).mpr ⟨ents' ++ [(g, w ++ [(x : Int)])], _, _, (sU.over hp).over hp2n, enV.off hrV, by rw [upd_same]; simp, bf4, se4, he4, had, rfl⟩⟩
      . obtain ⟨ents', o5, o6, s3, en3, hr3, bf3, se3, he3, had, rfl⟩ := (hPn _ _ _).mp h3
        rw [List.length_map] at bf3 se3 had
        rw [List.drop_length, addRow_nil] at had
        walk_at "rd"
        obtain ⟨bf4, htop4⟩ := bf3.next (by omega) hrl se3 he3
        refine (hPv _ _ _).mpr ⟨ents', i + 1, _, _, _, _, rfl, s3, en3, hr3, bf4, htop4, ?_, by push_cast; rfl⟩
        rw [show marks.length + 1 - i = (marks.length + 1 - (i + 1)) + 1 by omega, bfs_step he] at hbfs
        rw [had, <- hgd]
        exact hbfs
    . have hi : i = ents.length := by have := bf.il; omega
      subst hi
      rw [bfs_stop (by simp)] at hbfs
      rw [<- hbfs] at k
      exact k p top H2 s2 hp en2 bf
structure RF (L n : Nat) (ways : List (List Int)) (R : List Int) : Prop where
  hd : R[0]? = some 0
  nod : R.Nodup
  rng : ∀ r ∈ R, 0 <= r /\ r < (n : Int)
  len : R.length <= n
  cls : ∀ r ∈ R, ∀ x : Nat, x < L -> stepW ways r (x : Int) ∈ R
theorem RF.of {L n : Nat} {ways : List (List Int)} {top : Int} (bf : Bfs L n ways (wordsIn ways) (wordsIn ways).length top) : RF L n ways ((wordsIn ways).map (·.1)) := by
  refine ⟨by rw [List.getElem?_map, bf.hd]; rfl, bf.nod, fun r hr => ?_, by rw [List.length_map]; exact bf.len, fun r hr x hx => ?_⟩
  . obtain ⟨e, he, rfl⟩ := List.mem_map.mp hr
    exact bf.rng e he
  . obtain ⟨e, he, rfl⟩ := List.mem_map.mp hr
    obtain ⟨j, hj⟩ := List.mem_iff_getElem?.mp he
    obtain ⟨e', h1, h2, _⟩ := bf.don j (List.getElem?_eq_some_iff.mp hj).1 e hj (x : Int) (by omega) (by omega)
    rw [<- h2]
    exact List.mem_map_of_mem h1
def sp_reach18 (K : PySem.W.Frag) : Sp := fun vs H Q _ => ∃ (h : Addr) (L : Nat) (marks : List Int) (ways : List (List Int)), vs = [.ref h] /\ House K H h L marks ways /\ Wf L marks ways /\ ∀ p H', Same H H' -> H p = none -> H' p = some (.lst (((wordsIn ways).map (·.1)).map V.int)) -> RF L marks.length ways ((wordsIn ways).map (·.1)) -> Q (.ref p) H'
theorem ok_reached {f : Addr} {fd : FuncData} (F : Fun K "reached" "reached" s_reached f fd) (T : Txt mg)
    (Z : Exs K mg C_AskError C_BadHouse)
    {f_words_in : Addr} {fd_words_in : FuncData} (g_words_in : FnOk P w K mg base CX0 1 f_words_in fd_words_in ["house"] (sp_wordsin K)) (F_words_in : Fun K "words_in" "words_in" s_words_in f_words_in fd_words_in) (b_words_in : Binds K fd_words_in ["house"] []) (m_words_in : mg "words_in" = some (.ref f_words_in))
    : FnOk P w K mg base CX0 2 f fd ["house"] (sp_reach18 K) := by
  refine F.ok sc_reached (fun vs H Q E h => ?_) (fun cdv A outer s H vs Q E hr h => ?_)
  . obtain ⟨h, L, marks, ways, rfl, _⟩ := h; rfl
  . obtain ⟨h, L, marks, ways, rfl, hh, wf, k⟩ := h
    refine ⟨_, (pss_one (ps_ret (pe_callTy (call_list_dict rfl) rfl T.list PyProof.Rows.boot_list (pa_cons (pe_call g_words_in (hr.mono (by decide)) rfl m_words_in F_words_in.kp b_words_in .nil pass0 (pa_cons (pv 0) pa_nil)) pa_nil)))), ?_⟩
    walk_at "rd"
    refine ⟨h, L, marks, ways, rfl, hh, wf, fun d top H1 s1 hd en bf => ?_⟩
    obtain ⟨kvs, h1, h2, h3⟩ := en
    refine ⟨d, rfl, kvs, h1, fun l hl => k l _ (s1.newT hl) (s1.free hl) ?_ (RF.of bf)⟩
    rw [upd_same]
    congr 2
    refine List.ext_getElem? fun i => ?_
    rw [List.getElem?_map, List.getElem?_map, List.getElem?_map]
    cases he : (wordsIn ways)[i]? with
    | none =>
      have : kvs[i]? = none := by rw [List.getElem?_eq_none_iff] at he ⊢; omega
      rw [this]; rfl
    | some e =>
      obtain ⟨t, a, _⟩ := h3 i e he
      rw [a]; rfl
def numD {α κ : Type} [DecidableEq α] (k : α -> κ) (ks : List α) : List (κ × V) := ks.map fun x => (k x, V.int ((ks.idxOf x : Nat) : Int))
theorem numD_len {α κ : Type} [DecidableEq α] {k : α -> κ} {ks : List α} : (numD k ks).length = ks.length := by unfold numD; rw [List.length_map]
theorem numD_some {α κ : Type} [DecidableEq α] [DecidableEq κ] {k : α -> κ} (hk : ∀ x y, k x = k y -> x = y) {ks : List α} (nd : ks.Nodup) {x : α} (hx : x ∈ ks) : valV (numD k ks) (k x) = some (V.int ((ks.idxOf x : Nat) : Int)) := by
  have hi := List.idxOf_lt_length_of_mem hx
  refine valV_at (i := ks.idxOf x) ?_ ?_
  . unfold numD
    rw [List.map_map]
    exact List.Pairwise.map _ (fun a b hab z => hab (hk a b z)) nd
  . unfold numD
    rw [List.getElem?_map, List.getElem?_eq_getElem hi, List.getElem_idxOf]; rfl
theorem numD_none {α κ : Type} [DecidableEq α] [DecidableEq κ] {k : α -> κ} (hk : ∀ x y, k x = k y -> x = y) {ks : List α} {x : α} (hx : x ∉ ks) : valV (numD k ks) (k x) = none := by
  have h1 := valV_any (k x) (numD k ks)
  have h2 : ((numD k ks).any fun kv => decide (kv.1 = k x)) = false := by
    rw [List.any_eq_false]
    intro p hp
    unfold numD at hp
    obtain ⟨y, hy, rfl⟩ := List.mem_map.mp hp
    simp only [decide_eq_true_eq]
    intro z
    exact hx (hk _ _ z ▸ hy)
  rw [h2] at h1
  cases q : valV (numD k ks) (k x) with
  | none => rfl
  | some v => rw [q] at h1; cases h1
theorem numD_put {α κ : Type} [DecidableEq α] [DecidableEq κ] {k : α -> κ} (hk : ∀ x y, k x = k y -> x = y) {ks : List α} {x : α} (hx : x ∉ ks) : putK (numD k ks) (k x) (V.int ((ks.length : Nat) : Int)) = numD k (ks ++ [x]) := by
  rw [putK_new _ (numD_none hk hx)]
  unfold numD
  rw [List.map_append, List.map_singleton, idx_new hx]
  congr 1
  exact List.map_congr_left fun y hy => by rw [idx_snoc hy]
theorem take_firsts {α : Type} [DecidableEq α] {row : List α} {i : Nat} {x : α} (h : row[i]? = some x) : firsts (row.take (i + 1)) = ins1 (firsts (row.take i)) x := by
  rw [List.take_add_one, h]; exact firsts_snoc _ _
theorem ncl_take {α : Type} [DecidableEq α] (row : List α) (i : Nat) : (firsts (row.take i)).length <= row.length := by
  have h1 := ncl_le (row.take i)
  unfold ncl at h1
  rw [List.length_take] at h1
  omega
def sp_num (K : PySem.W.Frag) : Sp := fun vs H Q _ => ∃ (a : Addr), vs = [.ref a] /\ ((∃ ns : List Int, SqT K H a (ns.map V.int) /\ ns.length <= 100 /\ ∀ l H', Same H H' -> H l = none -> H' l = some (.lst ((num ns).map V.int)) -> Q (.ref l) H') \/ (∃ (xs : List V) (ws : List (List Int)), SqL K H a xs /\ WordsT K H xs ws /\ ws.length <= 100 /\ ∀ l H', Same H H' -> H l = none -> H' l = some (.lst ((num ws).map V.int)) -> Q (.ref l) H'))
theorem ok_numbered {f : Addr} {fd : FuncData} (F : Fun K "numbered" "numbered" s_numbered f fd) (T : Txt mg)
    (Z : Exs K mg C_AskError C_BadHouse)
    : FnOk P w K mg base CX0 1 f fd ["row"] (sp_num K) := by
  refine F.ok sc_numbered (fun vs H Q E h => ?_) (fun cdv A outer s H vs Q E hr h => ?_)
  . obtain ⟨a, rfl, _⟩ := h; rfl
  . obtain ⟨a, rfl, hab⟩ := h
    have hl := line1000
    refine ⟨_, (pss_cons (ps_set (i := 1) sc_numbered.nd rfl (Or.inr rfl) pe_dnewB)
      (pss_cons (ps_for PassesOwn.never rfl (pi_seq (pv 0)) (pg_name (i := 2) sc_numbered.nd rfl (Or.inl rfl))
      (pss_one (ps_if (pt_cmp (pc_dnotin (hu_of hr) (pv 2) (pv 1)))
      (pss_one (ps_dput (hu_of hr) (pv 1) (pv 2) (pe_callB call_lenB (by rfl) T.len PySem.boot_len (pa_cons (pv 1) pa_nil)) rfl))
      pss_nil)))
      (pss_one (ps_ret (pe_comp rfl (blk_mk rfl) (cp := c_numbered_0) ⟨⟨rfl, rfl⟩, True.intro⟩ (pi_seq (pv 0)) (fun _ _ _ _ => (pg_name (i := 0) nd_c_numbered_0 rfl (Or.inl rfl))) (fun _ _ _ _ => pf_nil) (fun _ _ _ _ => (pe_dget (hu_of hr) (pv 1) (pv 0) (fun _ _ => rfl)))))))), ?_⟩
    rcases hab with ⟨ns, ha, hz, k⟩ | ⟨xs, ws, ha, hW, hz, k⟩
    . walk_at "rd"
      refine .inl fun d hd => ?_
      have sd := Same.new hd (o := .dK [])
      have hki : ∀ x y : Int, (Sum.inl x : Key) = Sum.inl y -> x = y := fun x y z => Sum.inl.inj z
      obtain ⟨Pv, hPv⟩ : ∃ Pv : Nat -> St -> Hp -> Prop, ∀ i σ' H', Pv i σ' H' ↔ (∃ o : Option V, Same H H' /\ H' d = some (.dK (numD (fun x : Int => (Sum.inl x : Key)) (firsts (ns.take i)))) /\ σ' = [some (.ref a), some (.ref d), o]) := ⟨_, fun _ _ _ => Iff.rfl⟩
      refine .inr ⟨⟨_, sd.seqT ha⟩, forT (xs := ns.map V.int) Pv ((hPv _ _ _).mpr ⟨none, sd, upd_same, rfl⟩) (fun i σ' H' _ h' => by obtain ⟨_, s', _⟩ := (hPv _ _ _).mp h'; exact s'.seqT ha) (fun i x σ' H' hx h' => ?_) (fun σ' H' h' => ?_)⟩
      . obtain ⟨o, s', hd', rfl⟩ := (hPv _ _ _).mp h'
        obtain ⟨n, hn, rfl⟩ := get_mapI hx
        have hfl := ncl_take ns i
        have nd := nodup_firsts (ns.take i)
        have et := take_firsts hn
        walk_at "rd"
        refine ⟨_, DGet.k (k := Sum.inl n) hd', ?_⟩
        by_cases hm : n ∈ firsts (ns.take i)
        . rw [numD_some hki nd hm]
          simp only [Option.isSome_some, Bool.not_true, Bool.false_eq_true, if_false]
          exact (hPv _ _ _).mpr ⟨_, s', by rw [et, ins1, if_pos hm]; exact hd', rfl⟩
        . rw [numD_none hki hm]
          simp only [Option.isSome_none, Bool.not_false, if_true]
          have hput := numD_put (k := fun x : Int => (Sum.inl x : Key)) hki hm
          refine .inl ⟨_, hd', _, DPut.k (k := Sum.inl n) hd' (by rw [numD_len]; omega), (hPv _ _ _).mpr ⟨_, s'.over hd, ?_, rfl⟩⟩
          rw [upd_same, et, ins1, if_neg hm, numD_len]
          exact congrArg (fun z => some (HO.dK z)) hput
      . obtain ⟨o, s', hd', rfl⟩ := (hPv _ _ _).mp h'
        rw [List.length_map, List.take_length] at hd'
        walk_at "rd"
        obtain ⟨f, hf⟩ : ∃ f : V -> V, ∀ n : Int, f (V.int n) = .int (((firsts ns).idxOf n : Nat) : Int) := ⟨fun x => match x with | .int n => .int (((firsts ns).idxOf n : Nat) : Int) | _ => .non, fun _ => rfl⟩
        refine .inr ⟨⟨_, s'.seqT ha⟩, compMapT (σ' := [some (.ref d)]) f rfl (s'.seqT ha) (by rw [List.length_map]; omega) (fun x hx R hR => ?_) (fun D hD => ?_)⟩
        . obtain ⟨n, hn, rfl⟩ := mem_mapI hx
          rw [hf] at hR
          have e := numD_some (k := fun x : Int => (Sum.inl x : Key)) hki (nodup_firsts ns) (mem_firsts.mpr hn)
          have hg := DGet.k (k := Sum.inl n) hd'
          rw [e] at hg
          walk_at "rd"
          exact ⟨_, hg, hR⟩
        . have em : (ns.map V.int).map f = (num ns).map V.int := by
            unfold num
            rw [List.map_map, List.map_map]
            exact List.map_congr_left fun n _ => hf n
          exact k D _ (s'.newT hD) (s'.none hD) (by rw [upd_same, em])
    . walk_at "rd"
      refine .inr fun d hd => ?_
      have sd := Same.new hd (o := .dT [])
      obtain ⟨Pv, hPv⟩ : ∃ Pv : Nat -> St -> Hp -> Prop, ∀ i σ' H', Pv i σ' H' ↔ (∃ o : Option V, Same H H' /\ H' d = some (.dT (numD wkey (firsts (ws.take i)))) /\ σ' = [some (.ref a), some (.ref d), o]) := ⟨_, fun _ _ _ => Iff.rfl⟩
      refine .inl ⟨⟨_, sd.seq ha⟩, forL (xs := xs) Pv ((hPv _ _ _).mpr ⟨none, sd, upd_same, rfl⟩) (fun i σ' H' _ h' => by obtain ⟨_, s', _⟩ := (hPv _ _ _).mp h'; exact s'.seq ha) (fun i x σ' H' hx h' => ?_) (fun σ' H' h' => ?_)⟩
      . obtain ⟨o, s', hd', rfl⟩ := (hPv _ _ _).mp h'
        obtain ⟨t, v, hvi, rfl, ht⟩ := hW.at hx
        have hfl := ncl_take ws i
        have nd := nodup_firsts (ws.take i)
        have et := take_firsts hvi
        have ht' : H' t = some (.tup ((wkey v).map kV)) := by rw [wkey_kV]; exact s' _ _ ht
        walk_at "rd"
        refine ⟨_, DGet.t hd' ht', ?_⟩
        by_cases hm : v ∈ firsts (ws.take i)
        . rw [numD_some (fun x y z => wkey_inj z) nd hm]
          simp only [Option.isSome_some, Bool.not_true, Bool.false_eq_true, if_false]
          exact (hPv _ _ _).mpr ⟨_, s', by rw [et, ins1, if_pos hm]; exact hd', rfl⟩
        . rw [numD_none (fun x y z => wkey_inj z) hm]
          simp only [Option.isSome_none, Bool.not_false, if_true]
          refine .inr ⟨_, hd', _, DPut.t (k := wkey v) hd' ht' (by rw [numD_len]; omega), (hPv _ _ _).mpr ⟨_, s'.over hd, ?_, rfl⟩⟩
          rw [upd_same, et, ins1, if_neg hm, numD_len, numD_put (fun x y z => wkey_inj z) hm]
      . obtain ⟨o, s', hd', rfl⟩ := (hPv _ _ _).mp h'
        rw [hW.1, List.take_length] at hd'
        walk_at "rd"
        refine .inl ⟨⟨_, s'.seq ha⟩, compL (xs := xs) (fun i zs σ2 H2 => H2 = H' /\ zs = ((num ws).take i).map V.int /\ ∃ o, σ2 = [o, some (.ref d)]) ⟨rfl, rfl, none, rfl⟩ (by rw [hW.1]; omega) (fun i zs σ2 H2 hi h2 => ⟨by rw [h2.1]; exact s'.seq ha, by rw [h2.2.1, List.length_map, List.length_take]; omega⟩) (fun i x zs σ2 H2 hx h2 => ?_) (fun zs σ2 H2 h2 D hD => ?_)⟩
        . obtain ⟨rfl, rfl, o2, rfl⟩ := h2
          obtain ⟨t, v, hvi, rfl, ht⟩ := hW.at hx
          have ht' : H2 t = some (.tup ((wkey v).map kV)) := by rw [wkey_kV]; exact s' _ _ ht
          have e := numD_some (fun x y z => wkey_inj z) (nodup_firsts ws) (mem_firsts.mpr (List.mem_of_getElem? hvi))
          have hg := DGet.t hd' ht'
          rw [e] at hg
          walk_at "rd"
          refine ⟨_, hg, ?_⟩
          first
            | (refine ⟨rfl, ?_, _, rfl⟩; rw [List.take_add_one, num_at hvi, List.map_append]; rfl)
            | (refine ⟨?_, _, rfl⟩; rw [List.take_add_one, num_at hvi, List.map_append]; rfl)
        . obtain ⟨rfl, rfl, o2, rfl⟩ := h2
          rw [hW.1, List.take_of_length_le (by rw [num_length]; exact Nat.le_refl _)]
          exact k D _ (s'.newT hD) (s'.none hD) upd_same
def BehL (H : Hp) (mm pw pb : Addr) (marks : List Int) (n : Nat) (b : List Int -> Nat -> Int) (bs : List V) (words : List (List Int)) : Prop := bs.length = words.length /\ ∀ (i : Nat) (w : List Int), words[i]? = some w -> ∃ t, bs[i]? = some (.ref t) /\ ((H t = some (.lst ((rowB n b w).map V.int)) /\ t ≠ pw /\ t ≠ pb) \/ (t = mm /\ rowB n b w = marks))
theorem BehL.keep {H H' : Hp} {mm pw pb : Addr} {marks : List Int} {n : Nat} {b : List Int -> Nat -> Int} {bs : List V} {words : List (List Int)} (h : BehL H mm pw pb marks n b bs words) (s : ∀ t o, t ≠ pw -> t ≠ pb -> H t = some o -> H' t = some o) : BehL H' mm pw pb marks n b bs words := ⟨h.1, fun i w hi => by
  obtain ⟨t, e1, e2⟩ := h.2 i w hi
  exact ⟨t, e1, e2.imp (fun e => ⟨s _ _ e.2.1 e.2.2 e.1, e.2⟩) id⟩⟩
theorem BehL.snoc {H : Hp} {mm pw pb : Addr} {marks : List Int} {n : Nat} {b : List Int -> Nat -> Int} {bs : List V} {words : List (List Int)} {t : Addr} {w : List Int} (h : BehL H mm pw pb marks n b bs words) (ht : H t = some (.lst ((rowB n b w).map V.int))) (h1 : t ≠ pw) (h2 : t ≠ pb) : BehL H mm pw pb marks n b (bs ++ [.ref t]) (words ++ [w]) := by
  refine ⟨by simp [h.1], fun i r hi => ?_⟩
  by_cases hl : i < words.length
  . rw [List.getElem?_append_left hl] at hi
    rw [List.getElem?_append_left (by rw [h.1]; exact hl)]
    exact h.2 i r hi
  . have := (List.getElem?_eq_some_iff.mp hi).1
    rw [List.length_append, List.length_singleton] at this
    have e : i = words.length := by omega
    subst e
    rw [List.getElem?_append_right (Nat.le_refl _), Nat.sub_self] at hi
    simp at hi
    subst hi
    exact ⟨t, by rw [<- h.1]; simp, .inl ⟨ht, h1, h2⟩⟩
theorem WC.short {L : Int} {n : Nat} {b : List Int -> Nat -> Int} {words : List (List Int)} {c : List Int} (h : WC L n b words c) : ∀ (k : Nat) (w : List Int), words[k]? = some w -> w.length <= k := by
  intro k
  induction k using Nat.strongRecOn with
  | _ k ih =>
    intro w hw
    cases k with
    | zero =>
      rw [h.w0] at hw
      cases hw
      exact Nat.zero_le _
    | succ k =>
      obtain ⟨j, hj⟩ := List.mem_iff_getElem?.mp (h.tl (k + 1) w hw (Nat.succ_pos _))
      rw [List.getElem?_take] at hj
      split at hj
      . rename_i hlt
        have := ih j hlt _ hj
        rw [List.length_tail] at this
        omega
      . cases hj
def zipW (c m : List Int) : List (List Int) := (c.zip m).map fun p => [p.1, p.2]
theorem zipW_num (c m : List Int) : num (zipW c m) = num (c.zip m) := num_map _ fun p _ q _ e => by
  have h1 := List.cons.inj e
  exact Prod.ext h1.1 (List.cons.inj h1.2).1
def sp_wc (K : PySem.W.Frag) : Sp := fun vs H Q _ => ∃ (h : Addr) (L : Nat) (marks : List Int) (ways : List (List Int)), vs = [.ref h] /\ House K H h L marks ways /\ Wf L marks ways /\ ∀ t pw pc xs H', Same H H' -> H' t = some (.tup [.ref pw, .ref pc]) -> H pw = none -> H' pw = some (.lst xs) -> WordsT K H' xs (wcOf marks.length L (bW marks ways)).1 -> H' pc = some (.lst ((wcOf marks.length L (bW marks ways)).2.map V.int)) -> Fin17 marks.length L (bW marks ways) (wcOf marks.length L (bW marks ways)) -> Q (.ref t) H'
theorem ok_words_and_classes {f : Addr} {fd : FuncData} (F : Fun K "words_and_classes" "words_and_classes" s_words_and_classes f fd) (T : Txt mg)
    (Z : Exs K mg C_AskError C_BadHouse)
    {f_numbered : Addr} {fd_numbered : FuncData} (g_numbered : FnOk P w K mg base CX0 1 f_numbered fd_numbered ["row"] (sp_num K)) (F_numbered : Fun K "numbered" "numbered" s_numbered f_numbered fd_numbered) (b_numbered : Binds K fd_numbered ["row"] []) (m_numbered : mg "numbered" = some (.ref f_numbered))
    : FnOk P w K mg base CX0 2 f fd ["house"] (sp_wc K) := by
  refine F.ok sc_words_and_classes (fun vs H Q E h => ?_) (fun cdv A outer s H vs Q E hr h => ?_)
  . obtain ⟨h, L, marks, ways, rfl, _⟩ := h; rfl
  . obtain ⟨h, L, marks, ways, rfl, hh, wf, k⟩ := h
    have hl := line1000
    have hL1 := wf.l1
    have hL6 := wf.l6
    have hn1 := wf.n1
    have hn40 := wf.n40
    refine ⟨_, (pss_cons (ps_set (i := 1) sc_words_and_classes.nd rfl (Or.inl rfl) (pe_lst (pa_cons (pe_tup pa_nil) pa_nil)))
      (pss_cons (ps_set (i := 2) sc_words_and_classes.nd rfl (Or.inr rfl) (pe_lst (pa_cons (pe_ix ix_tup (pv 0) pe_int (fun _ _ => rfl)) pa_nil)))
      (pss_cons (ps_set (i := 3) sc_words_and_classes.nd rfl (Or.inl rfl) (pe_call g_numbered (hr.mono (by decide)) rfl m_numbered F_numbered.kp b_numbered .nil pass0 (pa_cons (pe_ix ix_tup (pv 0) pe_int (fun _ _ => rfl)) pa_nil)))
      (pss_cons (ps_set (i := 4) sc_words_and_classes.nd rfl (Or.inr rfl) pe_int)
      (pss_cons (ps_while PassesOwn.never (pt_cmpR op_lt (pv 4) (pe_callB call_len_seq (by rfl) T.len PySem.boot_len (pa_cons (pv 1) pa_nil)) (nomark _))
      (pss_cons (ps_for PassesOwn.never rfl (pi_range1 rfl T.range (pa_cons (pe_ix ix_tup (pv 0) pe_int (fun _ _ => rfl)) pa_nil)) (pg_name (i := 5) sc_words_and_classes.nd rfl (Or.inr rfl))
      (pss_cons (ps_setC (i := 6) sc_words_and_classes.nd rfl rfl rfl (blk_mk rfl) (cp := c_words_and_classes_0) ⟨⟨rfl, rfl⟩, ⟨⟨rfl, rfl⟩, ⟨⟨rfl, rfl⟩, True.intro⟩⟩⟩ (pi_tup (pe_ix ix_tup (pv 0) pe_int (fun _ _ => rfl))) (fun _ _ _ _ => (pg_name (i := 0) nd_c_words_and_classes_0 rfl (Or.inl rfl))) (fun _ _ _ _ => pf_nil) (fun _ _ _ _ => (pe_ix (ix_seqK (K := K) rfl) (pe_ix (ix_listK (K := K) rfl) (pv 1) (pv 2) (fun _ _ => rfl)) (pe_ix (ix_tupK (K := K) rfl) (pv 0) (pv 3) (fun _ _ => rfl)) (fun _ _ => rfl))))
      (pss_cons (ps_set (i := 7) sc_words_and_classes.nd rfl (Or.inl rfl) (pe_call g_numbered (hr.mono (by decide)) rfl m_numbered F_numbered.kp b_numbered .nil pass0 (pa_cons (pe_listZip rfl rfl T.list rfl T.zip (pa_cons (pv 3) (pa_cons (pv 6) pa_nil))) pa_nil)))
      (pss_one (ps_if (pt_cmpR op_gt (pe_callB (call_maxL rfl) rfl T.max PyProof.Rows.boot_max (pa_cons (pv 7) pa_nil)) (pe_callB (call_maxL rfl) rfl T.max PyProof.Rows.boot_max (pa_cons (pv 3) pa_nil)) (nomark _))
      (pss_cons (ps_expr (pe_bm PySem.F.plainAttrs_list PySem.F.slot_list_append PySem.F.type_list_append mt_append (pv 1) (pa_cons (pe_op op_catT2 (pe_tup (pa_cons (pv 5) pa_nil)) (pe_ix ix_list (pv 1) (pv 4) (fun _ _ => rfl))) pa_nil)))
      (pss_cons (ps_expr (pe_bm PySem.F.plainAttrs_list PySem.F.slot_list_append PySem.F.type_list_append mt_append (pv 2) (pa_cons (pv 6) pa_nil)))
      (pss_one (ps_set (i := 3) sc_words_and_classes.nd rfl (Or.inl rfl) (pv 7)))))
      pss_nil)))))
      (pss_one (ps_aug (i := 4) sc_words_and_classes.nd rfl (Or.inr rfl) pe_int ip_add))))
      (pss_one (ps_ret (pe_tup (pa_cons (pv 1) (pa_cons (pv 3) pa_nil)))))))))), ?_⟩
    obtain ⟨mm, wv, q1, q2, ts, q3, q4, q5⟩ := id hh
    walk_at "rd"
    refine ⟨Nat.zero_le _, fun t0 ht0 => ⟨by omega, fun pw hpw => ?_⟩⟩
    have s1 := (Same.new ht0 (o := .tup [])).newT hpw (o := .lst [V.ref t0])
    have hpwH : H pw = none := (Same.new ht0 (o := .tup [])).none hpw
    have hw1 : upd (upd H t0 (.tup [])) pw (.lst [V.ref t0]) pw = some (.lst [V.ref t0]) := upd_same
    have hW1 : WordsT K (upd (upd H t0 (.tup [])) pw (.lst [V.ref t0])) [V.ref t0] [[]] := ⟨rfl, fun i w hi => by
      match i, hi with
      | 0, hi => cases hi; exact ⟨t0, rfl, Same.new hpw _ _ upd_same⟩⟩
    generalize upd (upd H t0 (.tup [])) pw (.lst [V.ref t0]) = H1 at s1 hw1 hW1 ⊢
    refine ⟨_, s1.seqT q1, _, rfl, by omega, fun pb hpb => ?_⟩
    have hpbH : H pb = none := s1.none hpb
    have hpbw : pb ≠ pw := fun z => by rw [z, hw1] at hpb; cases hpb
    have s2 := s1.newT hpb (o := .lst [V.ref mm])
    have hb2 : upd H1 pb (.lst [V.ref mm]) pb = some (.lst [V.ref mm]) := upd_same
    have hw2 := Same.new hpb (o := .lst [V.ref mm]) _ _ hw1
    have hW2 := hW1.mono (TK.new hpb (o := .lst [V.ref mm]))
    generalize upd H1 pb (.lst [V.ref mm]) = H2 at s2 hb2 hw2 hW2 ⊢
    refine ⟨_, s2.seqT q1, _, rfl, mm, rfl, .inl ⟨marks, s2.seqT q2, by omega, fun pc H3 s3 hpcN hpc3 => ?_⟩⟩
    have s03 := s2.trans s3
    obtain ⟨Pv, hPv⟩ : ∃ Pv : Nat -> St -> Hp -> Prop, ∀ m σ' H', Pv m σ' H' ↔ (∃ (st : StC) (k : Nat) (xs bs : List V) (pc : Addr) (o5 o6 o7 : Option V), m = 41 - k /\ Same H H' /\ H' pw = some (.lst xs) /\ WordsT K H' xs st.1 /\ H' pb = some (.lst bs) /\ BehL H' mm pw pb marks marks.length (bW marks ways) bs st.1 /\ H' pc = some (.lst (st.2.map V.int)) /\ pc ≠ pw /\ pc ≠ pb /\ WS marks.length L (bW marks ways) k 0 st /\ outerC marks.length (bW marks ways) L (41 - k) k st = wcOf marks.length L (bW marks ways) /\ σ' = [some (.ref h), some (.ref pw), some (.ref pb), some (.ref pc), some (.int k), o5, o6, o7]) := ⟨_, fun _ _ _ => Iff.rfl⟩
    have hpcw : pc ≠ pw := fun z => by rw [z, hw2] at hpcN; cases hpcN
    have hpcb : pc ≠ pb := fun z => by rw [z, hb2] at hpcN; cases hpcN
    refine whileW Pv ⟨_, (hPv _ _ _).mpr ⟨([[]], num (rowB marks.length (bW marks ways) [])), 0, [V.ref t0], [V.ref mm], pc, none, none, none, rfl, s03, s3 _ _ hw2, hW2.mono (TK.of s3), s3 _ _ hb2, ⟨rfl, fun i w hi => ?_⟩, by rw [bW_nil]; exact hpc3, hpcw, hpcb, WS.start hn1, rfl, rfl⟩⟩ ?_
    . match i, hi with
      | 0, hi => cases hi; exact ⟨mm, rfl, .inr ⟨rfl, bW_nil⟩⟩
    intro m σ4 H4 h4
    obtain ⟨st, k0, xs, bs, pc4, o5, o6, o7, rfl, s4, hw4, hW4, hb4, hB4, hc4, hcw4, hcb4, ws4, ho4, rfl⟩ := (hPv _ _ _).mp h4
    have hfew := ws4.few
    walk_at "rd"
    refine ⟨_, .inl (SqL.of hw4), ?_⟩
    rw [hW4.1]
    refine ite2 (fun hlt => ?_) (fun hge => ?_)
    . have hk : k0 < st.1.length := by omega
      obtain ⟨w, hwk⟩ : ∃ w, st.1[k0]? = some w := ⟨st.1[k0], by simp [hk]⟩
      refine ⟨Pv (41 - (k0 + 1)), fun σ' H' h => ⟨_, by omega, h⟩, ?_⟩
      walk_at "rd"
      refine ⟨_, s4.seqT q1, _, rfl, L, rfl, by omega, by omega, ?_⟩
      rw [Int.toNat_natCast]
      obtain ⟨Pz, hPz⟩ : ∃ Pv : Nat -> St -> Hp -> Prop, ∀ i σ' H', Pv i σ' H' ↔ (∃ (st' : StC) (xs bs : List V) (pc : Addr) (o5 o6 o7 : Option V), st' = innerC marks.length (bW marks ways) w i st /\ Same H H' /\ H' pw = some (.lst xs) /\ WordsT K H' xs st'.1 /\ H' pb = some (.lst bs) /\ BehL H' mm pw pb marks marks.length (bW marks ways) bs st'.1 /\ H' pc = some (.lst (st'.2.map V.int)) /\ pc ≠ pw /\ pc ≠ pb /\ WS marks.length L (bW marks ways) k0 i st' /\ st'.1[k0]? = some w /\ σ' = [some (.ref h), some (.ref pw), some (.ref pb), some (.ref pc), some (.int k0), o5, o6, o7]) := ⟨_, fun _ _ _ => Iff.rfl⟩
      refine forR Pz ((hPz _ _ _).mpr ⟨st, xs, bs, pc4, o5, o6, o7, rfl, s4, hw4, hW4, hb4, hB4, hc4, hcw4, hcb4, ws4, hwk, rfl⟩) (fun i σ5 H5 hi h5 => ?_) (fun σ5 H5 h5 => ?_)
      . obtain ⟨st5, xs5, bs5, pc5, p5, p6, p7, hst5, s5, hw5, hW5, hb5, hB5, hc5, hcw5, hcb5, ws5, hwk5, rfl⟩ := (hPz _ _ _).mp h5
        rw [Int.zero_add]
        have hfew5 := ws5.few
        have hisw := ws5.wc.ok w (List.mem_of_getElem? hwk5)
        obtain ⟨tb, htb, htbv⟩ := hB5.2 k0 w hwk5
        walk_at "rd"
        refine ⟨_, s5.seqT q1, _, rfl, wv, rfl, ⟨_, s5.seqT q3⟩, compT (xs := ts.map V.ref) (fun j zs σ' H' => H' = H5 /\ zs = ((rowB marks.length (bW marks ways) ((i : Int) :: w)).take j).map V.int /\ ∃ o, σ' = [o, some (.ref pb), some (.int k0), some (.int i)]) ⟨rfl, rfl, none, rfl⟩ (by rw [List.length_map, q4, wf.len]; omega) (fun j zs σ' H' hj h' => ⟨by rw [h'.1]; exact s5.seqT q3, by rw [h'.2.1, List.length_map, List.length_take]; omega⟩) (fun j x zs σ' H' hx h' => ?_) (fun zs σ' H' h' D hD => ?_)⟩
        . obtain ⟨rfl, rfl, o, rfl⟩ := h'
          rw [List.getElem?_map] at hx
          cases htj : ts[j]? with
          | none => rw [htj] at hx; cases hx
          | some tj =>
            rw [htj] at hx
            cases hx
            have hj : j < marks.length := by rw [<- wf.len, <- q4]; exact (List.getElem?_eq_some_iff.mp htj).1
            obtain ⟨row, g, r1, r2, r3, r4, r5⟩ := wf.step (show (0 : Int) <= (j : Nat) by omega) (by omega) (show (0 : Int) <= (i : Nat) by omega) (by omega)
            rw [Int.toNat_natCast] at r1 r2
            have hrow := q5 j tj row htj r1
            have hval : (rowB marks.length (bW marks ways) w)[g.toNat]? = some (bW marks ways ((i : Int) :: w) j) := by
              rw [rowB_at (by omega), bW_cons w (i : Int) j (by rw [r3]; exact r4), r3]
            have hrj : (rowB marks.length (bW marks ways) ((i : Int) :: w))[j]? = some (bW marks ways ((i : Int) :: w) j) := rowB_at hj
            walk_at "rd"
            refine ⟨_, SqL.of hb5, _, atI_nat htb, _, s5.seqT hrow, _, atI_int (by omega) (by rw [Int.toNat_natCast]; exact r2), ?_⟩
            have hfin : ((rowB marks.length (bW marks ways) ((i : Int) :: w)).take j).map V.int ++ [V.int (bW marks ways ((i : Int) :: w) j)] = ((rowB marks.length (bW marks ways) ((i : Int) :: w)).take (j + 1)).map V.int := by rw [List.take_add_one, hrj, List.map_append]; rfl
            rcases htbv with ⟨hl1, _, _⟩ | ⟨htm, hmk⟩
            . exact .inl ⟨tb, rfl, _, g, rfl, SqL.of hl1, _, atI_int r4 hval, hfin, _, rfl⟩
            . exact .inr ⟨tb, rfl, _, g, rfl, by rw [htm]; exact s5.seqT q2, _, atI_int r4 (by have hv := hval; rw [hmk] at hv; exact hv), hfin, _, rfl⟩
        . obtain ⟨rfl, rfl, o, rfl⟩ := h'
          rw [List.length_map, q4, wf.len, List.take_of_length_le (by rw [rowB_len]; exact Nat.le_refl _)]
          have hne : st5.2.zip (rowB marks.length (bW marks ways) ((i : Int) :: w)) ≠ [] := fun z => by
            have := congrArg List.length z
            rw [List.length_zip, ws5.wc.len, rowB_len, Nat.min_self, List.length_nil] at this
            omega
          have hzl : (zipW st5.2 (rowB marks.length (bW marks ways) ((i : Int) :: w))).length = marks.length := by
            unfold zipW
            rw [List.length_map, List.length_zip, ws5.wc.len, rowB_len]; omega
          refine ⟨D, rfl, _, SqL.of (Same.new hD _ _ hc5), _, SqL.of upd_same, by rw [List.length_map, List.length_map, ws5.wc.len, rowB_len], fun l rs H6 s6 hl6 hrl hrs => ⟨l, rfl, .inr ⟨rs, zipW st5.2 (rowB marks.length (bW marks ways) ((i : Int) :: w)), SqL.of upd_same, ⟨?_, fun j v hj => ?_⟩, by omega, fun pf H7 s7 hpfN hpf => ?_⟩⟩⟩
          . rw [hrl, hzl, List.length_map, ws5.wc.len]
          . unfold zipW at hj
            rw [List.getElem?_map] at hj
            cases hq : (st5.2.zip (rowB marks.length (bW marks ways) ((i : Int) :: w)))[j]? with
            | none => rw [hq] at hj; cases hj
            | some p =>
              rw [hq] at hj
              cases hj
              obtain ⟨u1, u2⟩ := List.getElem?_zip_eq_some.mp (show (st5.2.zip (rowB marks.length (bW marks ways) ((i : Int) :: w)))[j]? = some (p.1, p.2) from hq)
              obtain ⟨t, t1, t2⟩ := hrs j (V.int p.1) (V.int p.2) (by rw [List.getElem?_map, u1]; rfl) (by rw [List.getElem?_map, u2]; rfl)
              exact ⟨t, t1, Same.new hl6 _ _ t2⟩
          have sD : Same H' (upd H' D (.lst ((rowB marks.length (bW marks ways) ((i : Int) :: w)).map V.int))) := Same.new hD
          have hDD : upd H' D (.lst ((rowB marks.length (bW marks ways) ((i : Int) :: w)).map V.int)) D = some (.lst ((rowB marks.length (bW marks ways) ((i : Int) :: w)).map V.int)) := upd_same
          have s67 := (Same.new hl6 (o := .lst rs)).trans s7
          have s57 := sD.trans (s6.trans s67)
          have hD7 := (s6.trans s67) _ _ hDD
          have hw7 := s57 _ _ hw5
          have hb7 := s57 _ _ hb5
          have hc7 := s57 _ _ hc5
          have hDw : D ≠ pw := fun z => by rw [z, hw5] at hD; cases hD
          have hDb : D ≠ pb := fun z => by rw [z, hb5] at hD; cases hD
          have hpfH : H' pf = none := sD.none (s6.none ((Same.new hl6 (o := .lst rs)).none hpfN))
          have hpfw : pf ≠ pw := fun z => by rw [z, hw5] at hpfH; cases hpfH
          have hpfb : pf ≠ pb := fun z => by rw [z, hb5] at hpfH; cases hpfH
          have hstep := ws5.step hn1 hwk5 hi
          have hsucc : innerC marks.length (bW marks ways) w (i + 1) st = stepC marks.length (bW marks ways) w st5 i := by rw [innerC_succ, <- hst5]
          rw [zipW_num] at hpf
          refine ⟨pf, rfl, _, SqL.of hpf, (ncl (st5.2.zip (rowB marks.length (bW marks ways) ((i : Int) :: w))) : Int) - 1, num_top hne, (fun x hx => by have := num_lt hx; omega), _, SqL.of hc7, (ncl st5.2 : Int) - 1, ws5.wc.top, (fun x hx => by have := ws5.wc.rng x hx; omega), ?_⟩
          refine ite2 (fun hgt => ?_) (fun hle => ?_)
          . have hgt' : ncl st5.2 < ncl (st5.2.zip (rowB marks.length (bW marks ways) ((i : Int) :: w))) := by omega
            have est : stepC marks.length (bW marks ways) w st5 i = (st5.1 ++ [(i : Int) :: w], num (st5.2.zip (rowB marks.length (bW marks ways) ((i : Int) :: w)))) := by unfold stepC; rw [if_pos hgt']
            obtain ⟨tw, htw1, htw2⟩ := hW5.2 k0 w hwk5
            have hwlen := WC.short ws5.wc k0 w hwk5
            refine ⟨.inl ⟨rfl, _, SqL.of hw7⟩, by omega, fun p1 hp1 => ⟨_, SqL.of (Same.new hp1 _ _ hw7), _, atI_nat htw1, rCatT2.ofS upd_same (Same.new hp1 _ _ (s57 _ _ htw2)) (by simp; omega) fun q H8 s8 hq => ?_⟩⟩
            have s78 := (Same.new hp1 (o := .tup [V.int i])).trans s8
            have hw8 := s78 _ _ hw7
            have hb8 := s78 _ _ hb7
            have hxl := hW5.1
            have hbl := hB5.1
            refine ⟨_, hw8, by omega, ?_⟩
            have hb9 : upd H8 pw (.lst (xs5 ++ [V.ref q])) pb = some (.lst bs5) := by rw [upd_ne hpbw]; exact hb8
            have s58 := s57.trans s78
            rw [est] at hstep hsucc
            refine ⟨.inl ⟨rfl, _, SqL.of hb9⟩, _, hb9, by omega, (hPz _ _ _).mpr ⟨_, xs5 ++ [V.ref q], bs5 ++ [V.ref D], pf, _, _, _, hsucc.symm, ((s5.trans s58).over hpwH).over hpbH, by rw [upd_ne (Ne.symm hpbw), upd_same], (((hW5.mono (TK.of s58)).snoc (w := (i : Int) :: w) hq).mono (TK.lst hw8)).mono (TK.lst hb9), upd_same, ?_, by rw [upd_ne hpfb, upd_ne hpfw]; exact s78 _ _ hpf, hpfw, hpfb, hstep.1, hstep.2, rfl⟩⟩
            exact BehL.snoc (hB5.keep (fun t o t1 t2 e => by rw [upd_ne t2, upd_ne t1]; exact s58 _ _ e)) (by rw [upd_ne hDb, upd_ne hDw]; exact s78 _ _ hD7) hDw hDb
          . have hle' : ¬ ncl st5.2 < ncl (st5.2.zip (rowB marks.length (bW marks ways) ((i : Int) :: w))) := by omega
            have est : stepC marks.length (bW marks ways) w st5 i = st5 := by unfold stepC; rw [if_neg hle']
            rw [est] at hstep hsucc
            exact (hPz _ _ _).mpr ⟨st5, xs5, bs5, pc5, _, _, _, hsucc.symm, s5.trans s57, hw7, hW5.mono (TK.of s57), hb7, hB5.keep (fun t o _ _ e => s57 _ _ e), hc7, hcw5, hcb5, hstep.1, hstep.2, rfl⟩
      . obtain ⟨st5, xs5, bs5, pc5, p5, p6, p7, hst5, s5, hw5, hW5, hb5, hB5, hc5, hcw5, hcb5, ws5, hwk5, rfl⟩ := (hPz _ _ _).mp h5
        walk_at "rd"
        have e41 : 41 - k0 = (41 - (k0 + 1)) + 1 := by omega
        refine (hPv _ _ _).mpr ⟨st5, k0 + 1, xs5, bs5, pc5, _, _, _, rfl, s5, hw5, hW5, hb5, hB5, hc5, hcw5, hcb5, ws5.next, ?_, rfl⟩
        rw [hst5, <- ho4, e41, outerC_go hwk]
    . have e : st = wcOf marks.length L (bW marks ways) := by rw [<- ho4, outerC_end (by omega)]
      have hfin := ws4.fin (by omega)
      rw [e] at hW4 hc4 hfin
      exact ⟨by omega, fun p hp => k p pw pc4 xs _ (s4.newT hp) upd_same hpwH (Same.new hp _ _ hw4) (hW4.mono (TK.new hp)) (Same.new hp _ _ hc4) hfin⟩
def sp_cls (K : PySem.W.Frag) : Sp := fun vs H Q _ => ∃ (h : Addr) (L : Nat) (marks : List Int) (ways : List (List Int)), vs = [.ref h] /\ House K H h L marks ways /\ Wf L marks ways /\ ∀ pc H', Same H H' -> H' pc = some (.lst ((wcOf marks.length L (bW marks ways)).2.map V.int)) -> Fin17 marks.length L (bW marks ways) (wcOf marks.length L (bW marks ways)) -> Q (.ref pc) H'
theorem ok_classes_of {f : Addr} {fd : FuncData} (F : Fun K "classes_of" "classes_of" s_classes_of f fd) (T : Txt mg)
    (Z : Exs K mg C_AskError C_BadHouse)
    {f_words_and_classes : Addr} {fd_words_and_classes : FuncData} (g_words_and_classes : FnOk P w K mg base CX0 2 f_words_and_classes fd_words_and_classes ["house"] (sp_wc K)) (F_words_and_classes : Fun K "words_and_classes" "words_and_classes" s_words_and_classes f_words_and_classes fd_words_and_classes) (b_words_and_classes : Binds K fd_words_and_classes ["house"] []) (m_words_and_classes : mg "words_and_classes" = some (.ref f_words_and_classes))
    : FnOk P w K mg base CX0 3 f fd ["house"] (sp_cls K) := by
  refine F.ok sc_classes_of (fun vs H Q E h => ?_) (fun cdv A outer s H vs Q E hr h => ?_)
  . obtain ⟨h, L, marks, ways, rfl, _⟩ := h; rfl
  . obtain ⟨h, L, marks, ways, rfl, hh, wf, k⟩ := h
    refine ⟨_, (pss_one (ps_ret (pe_ix ix_tup (pe_call g_words_and_classes (hr.mono (by decide)) rfl m_words_and_classes F_words_and_classes.kp b_words_and_classes .nil pass0 (pa_cons (pv 0) pa_nil)) pe_int (fun _ _ => rfl)))), ?_⟩
    walk_at "rd"
    exact ⟨h, L, marks, ways, rfl, hh, wf, fun t pw pc xs H' s' ht hpwN hpw hW hpc hfin => ⟨t, rfl, _, SqT.of ht, _, rfl, k pc H' s' hpc hfin⟩⟩
theorem firstsA_pre {α : Type} [DecidableEq α] : ∀ (row acc : List α), ∃ t, firstsA acc row = acc ++ t
  | [], acc => ⟨[], by simp [firstsA]⟩
  | x :: row, acc => by
    obtain ⟨t, ht⟩ := firstsA_pre row (ins1 acc x)
    show ∃ t, firstsA (ins1 acc x) row = acc ++ t
    rw [ht]
    unfold ins1
    split
    . exact ⟨t, rfl⟩
    . exact ⟨x :: t, by simp⟩
theorem firsts_app {α : Type} [DecidableEq α] (a b : List α) : ∃ t, firsts (a ++ b) = firsts a ++ t := by
  unfold firsts firstsA
  rw [List.foldl_append]
  exact firstsA_pre b _
theorem idx_pre {α : Type} [DecidableEq α] {row : List α} {i : Nat} {x : α} (h : x ∈ firsts (row.take i)) : (firsts row).idxOf x = (firsts (row.take i)).idxOf x := by
  obtain ⟨t, ht⟩ := firsts_app (row.take i) (row.drop i)
  rw [List.take_append_drop] at ht
  rw [ht, List.idxOf_append, if_pos h]
def homeL (c R : List Int) (n i : Nat) : List V := (List.range n).map fun r : Nat => if (r : Int) ∈ R.take i then V.int (hm c R r) else V.non
theorem homeL_len {c R : List Int} {n i : Nat} : (homeL c R n i).length = n := by unfold homeL; simp
theorem homeL_set {c R : List Int} {n i : Nat} {r : Int} (hr : R[i]? = some r) (h0 : 0 <= r) (h1 : r < (n : Int)) : (homeL c R n i).set r.toNat (V.int (hm c R r)) = homeL c R n (i + 1) := by
  have et : R.take (i + 1) = R.take i ++ [r] := by rw [List.take_add_one, hr]; rfl
  refine List.ext_getElem? fun j => ?_
  by_cases hj : j < n
  . have e2 : (homeL c R n (i + 1))[j]? = some (if (j : Int) ∈ R.take (i + 1) then V.int (hm c R j) else V.non) := by
      unfold homeL
      rw [List.getElem?_map, List.getElem?_range hj]; rfl
    have e1 : (homeL c R n i)[j]? = some (if (j : Int) ∈ R.take i then V.int (hm c R j) else V.non) := by
      unfold homeL
      rw [List.getElem?_map, List.getElem?_range hj]; rfl
    rw [e2]
    by_cases e : r.toNat = j
    . have hrj : r = (j : Int) := by omega
      rw [<- e, List.getElem?_set_self (by rw [homeL_len]; omega), e, <- hrj, if_pos (by rw [et]; simp)]
    . rw [List.getElem?_set_ne e, e1]
      have hne : ¬ (j : Int) = r := fun z => e (by omega)
      by_cases hm' : (j : Int) ∈ R.take i
      . rw [if_pos hm', if_pos (by rw [et]; exact List.mem_append_left _ hm')]
      . rw [if_neg hm', if_neg (by rw [et]; intro z; rcases List.mem_append.mp z with z | z; exact hm' z; exact hne (List.mem_singleton.mp z))]
  . rw [List.getElem?_eq_none (by rw [List.length_set, homeL_len]; omega), List.getElem?_eq_none (by rw [homeL_len]; omega)]
def sp_homes (K : PySem.W.Frag) : Sp := fun vs H Q _ => ∃ (h : Addr) (L : Nat) (marks : List Int) (ways : List (List Int)), vs = [.ref h] /\ House K H h L marks ways /\ Wf L marks ways /\ ∀ p H', Same H H' -> H p = none -> H' p = some (.lst (homeL (wcOf marks.length L (bW marks ways)).2 ((wordsIn ways).map (·.1)) marks.length ((wordsIn ways).map (·.1)).length)) -> Fin17 marks.length L (bW marks ways) (wcOf marks.length L (bW marks ways)) -> RF L marks.length ways ((wordsIn ways).map (·.1)) -> Q (.ref p) H'
theorem ok_homes {f : Addr} {fd : FuncData} (F : Fun K "homes" "homes" s_homes f fd) (T : Txt mg)
    (Z : Exs K mg C_AskError C_BadHouse)
    {f_reached : Addr} {fd_reached : FuncData} (g_reached : FnOk P w K mg base CX0 2 f_reached fd_reached ["house"] (sp_reach18 K)) (F_reached : Fun K "reached" "reached" s_reached f_reached fd_reached) (b_reached : Binds K fd_reached ["house"] []) (m_reached : mg "reached" = some (.ref f_reached))
    {f_classes_of : Addr} {fd_classes_of : FuncData} (g_classes_of : FnOk P w K mg base CX0 3 f_classes_of fd_classes_of ["house"] (sp_cls K)) (F_classes_of : Fun K "classes_of" "classes_of" s_classes_of f_classes_of fd_classes_of) (b_classes_of : Binds K fd_classes_of ["house"] []) (m_classes_of : mg "classes_of" = some (.ref f_classes_of))
    : FnOk P w K mg base CX0 4 f fd ["house"] (sp_homes K) := by
  refine F.ok sc_homes (fun vs H Q E h => ?_) (fun cdv A outer s H vs Q E hr h => ?_)
  . obtain ⟨h, L, marks, ways, rfl, _⟩ := h; rfl
  . obtain ⟨h, L, marks, ways, rfl, hh, wf, k⟩ := h
    have hl := line1000
    have hn40 := wf.n40
    obtain ⟨mm, wv, q1, q2, q3⟩ := id hh
    refine ⟨_, (pss_cons (ps_set (i := 1) sc_homes.nd rfl (Or.inl rfl) (pe_call g_classes_of (hr.mono (by decide)) rfl m_classes_of F_classes_of.kp b_classes_of .nil pass0 (pa_cons (pv 0) pa_nil)))
      (pss_cons (ps_set (i := 2) sc_homes.nd rfl (Or.inl rfl) pe_dnewK)
      (pss_cons (ps_set (i := 3) sc_homes.nd rfl (Or.inl rfl) (pe_op op_rep (pe_lst (pa_cons pe_non pa_nil)) (pe_callB call_len_seq (by rfl) T.len PySem.boot_len (pa_cons (pe_ix ix_tup (pv 0) pe_int (fun _ _ => rfl)) pa_nil))))
      (pss_cons (ps_for PassesOwn.never rfl (pi_list (pe_call g_reached (hr.mono (by decide)) rfl m_reached F_reached.kp b_reached .nil pass0 (pa_cons (pv 0) pa_nil))) (pg_name (i := 4) sc_homes.nd rfl (Or.inl rfl))
      (pss_one (ps_asg (pe_setdefK (pv 2) (pe_ix ix_list (pv 1) (pv 4) (fun _ _ => rfl)) (pe_callB call_lenB (by rfl) T.len PySem.boot_len (pa_cons (pv 2) pa_nil)) ⟨by rfl, by rfl, by rfl, by rfl⟩) (pg_sub (pv 3) (pv 4) set_list))))
      (pss_one (ps_ret (pv 3))))))), ?_⟩
    walk_at "rd"
    refine ⟨h, L, marks, ways, rfl, hh, wf, fun pc H1 s1 hpc hfin => ?_⟩
    intro pd hpd
    have sd := s1.newT hpd (o := .dK [])
    refine ⟨by omega, fun p1 hp1 => ⟨_, (sd.newT hp1).seqT q1, _, rfl, mm, rfl, _, .inr ((sd.newT hp1).seqT q2), _, upd_same, by omega, by rw [List.length_map]; omega, by rw [List.length_map, List.length_singleton, Int.toNat_natCast]; omega, fun pt hpt => ?_⟩⟩
    rw [List.length_map, Int.toNat_natCast]
    have sT := (sd.newT hp1 (o := .lst [V.non])).newT hpt (o := .lst (List.replicate marks.length [V.non]).flatten)
    have hptN : H pt = none := (sd.newT hp1 (o := .lst [V.non])).none hpt
    have hpdN : H pd = none := s1.none hpd
    have hpdT : upd (upd (upd H1 pd (.dK [])) p1 (.lst [V.non])) pt (.lst (List.replicate marks.length [V.non]).flatten) pd = some (.dK []) := (Same.new hpt) _ _ ((Same.new hp1) _ _ upd_same)
    have hptT : upd (upd (upd H1 pd (.dK [])) p1 (.lst [V.non])) pt (.lst (List.replicate marks.length [V.non]).flatten) pt = some (.lst (List.replicate marks.length [V.non]).flatten) := upd_same
    have hpcT : upd (upd (upd H1 pd (.dK [])) p1 (.lst [V.non])) pt (.lst (List.replicate marks.length [V.non]).flatten) pc = some (.lst ((wcOf marks.length L (bW marks ways)).2.map V.int)) := (Same.new hpt) _ _ ((Same.new hp1) _ _ ((Same.new hpd) _ _ hpc))
    generalize upd (upd (upd H1 pd (.dK [])) p1 (.lst [V.non])) pt (.lst (List.replicate marks.length [V.non]).flatten) = HT at sT hpdT hptT hpcT ⊢
    clear sd hp1 hpt hpd s1 hpc
    refine ⟨h, L, marks, ways, rfl, hh.mono sT, wf, fun pR H2 s2 hpRN hpR rf => ⟨pR, rfl, ⟨_, SqL.of hpR⟩, ?_⟩⟩
    generalize hR : (wordsIn ways).map (·.1) = R at hpR rf k
    generalize hst : wcOf marks.length L (bW marks ways) = st at hpcT hfin k
    have s02 := sT.trans s2
    have hpd2 := s2 _ _ hpdT
    have hpt2 := s2 _ _ hptT
    have hpc2 := s2 _ _ hpcT
    have hdt : pd ≠ pt := fun z => by rw [z, hpt2] at hpd2; cases hpd2
    have hRt : pR ≠ pt := fun z => by rw [z, hptT] at hpRN; cases hpRN
    have hRd : pR ≠ pd := fun z => by rw [z, hpdT] at hpRN; cases hpRN
    have hcd : pc ≠ pd := fun z => by rw [z, hpd2] at hpc2; cases hpc2
    have hct : pc ≠ pt := fun z => by
      rw [z, hpt2] at hpc2
      have hcl := hfin.wc.len
      have e := Option.some.inj hpc2
      injection e with e
      have hn1 := wf.n1
      have e0 := congrArg (fun l : List V => l[0]?) e
      obtain ⟨n, hn⟩ : ∃ n, marks.length = n + 1 := ⟨marks.length - 1, by omega⟩
      cases hc : st.2 with
      | nil => rw [hc] at hcl; simp at hcl; omega
      | cons a r => rw [hc, hn] at e0; simp [List.replicate_succ] at e0
    have hki : ∀ x y : Int, (Sum.inl x : Key) = Sum.inl y -> x = y := fun x y z => Sum.inl.inj z
    obtain ⟨Pv, hPv⟩ : ∃ Pv : Nat -> St -> Hp -> Prop, ∀ i σ' H', Pv i σ' H' ↔ (∃ o : Option V, Same H H' /\ H' pR = some (.lst (R.map V.int)) /\ H' pc = some (.lst (st.2.map V.int)) /\ H' pd = some (.dK (numD (fun x : Int => (Sum.inl x : Key)) (firsts ((R.map (cf st.2)).take i)))) /\ H' pt = some (.lst (homeL st.2 R marks.length i)) /\ σ' = [some (.ref h), some (.ref pc), some (.ref pd), some (.ref pt), o]) := ⟨_, fun _ _ _ => Iff.rfl⟩
    refine forL (xs := R.map V.int) Pv ((hPv _ _ _).mpr ⟨none, s02, hpR, hpc2, hpd2, ?_, rfl⟩) (fun i σ' H' _ h' => by obtain ⟨_, _, h2, _⟩ := (hPv _ _ _).mp h'; exact SqL.of h2) (fun i x σ' H' hx h' => ?_) (fun σ' H' h' => ?_)
    . rw [hpt2]
      congr 2
      unfold homeL
      refine List.ext_getElem? fun j => ?_
      by_cases hj : j < marks.length
      . rw [List.getElem?_map, List.getElem?_range hj]; simp [hj]
      . rw [List.getElem?_eq_none (by simp; omega), List.getElem?_eq_none (by simp; omega)]
    . obtain ⟨o, s', hpR', hpc', hpd', hpt', rfl⟩ := (hPv _ _ _).mp h'
      obtain ⟨r, hr, rfl⟩ := get_mapI hx
      have hrm := List.mem_of_getElem? hr
      have hrr := rf.rng r hrm
      have hcr : (R.map (cf st.2))[i]? = some (cf st.2 r) := by rw [List.getElem?_map, hr]; rfl
      have hcl := hfin.wc.len
      have hfl := ncl_take (R.map (cf st.2)) i
      rw [List.length_map] at hfl
      have hRl := rf.len
      have nd := nodup_firsts ((R.map (cf st.2)).take i)
      have et := take_firsts hcr
      have hcat : (st.2)[r.toNat]? = some (cf st.2 r) := by unfold cf; rw [List.getD_eq_getElem?_getD]; simp [show r.toNat < st.2.length by omega]
      walk_at "rd"
      have hix : ixN (homeL st.2 R marks.length i).length r = some r.toNat := by rw [homeL_len]; exact ixN_of hrr.1 (by omega)
      have hset := homeL_set (c := st.2) (n := marks.length) hr hrr.1 hrr.2
      refine ⟨.inl ⟨_, .inl hpd'⟩, _, SqL.of hpc', _, atI_int hrr.1 hcat, .inl ⟨_, hpd', _, rfl, _, hpd', by rw [numD_len]; omega, fun v hv => ?_, fun hn => ?_⟩⟩
      . by_cases hm' : cf st.2 r ∈ firsts ((R.map (cf st.2)).take i)
        . have e := numD_some (k := fun x : Int => (Sum.inl x : Key)) hki nd hm'
          have e2 := hv.symm.trans e
          cases e2
          have eh : hm st.2 R r = (((firsts ((R.map (cf st.2)).take i)).idxOf (cf st.2 r) : Nat) : Int) := by unfold hm; rw [idx_pre hm']
          refine ⟨_, hpt', _, hix, (hPv _ _ _).mpr ⟨_, s'.over hptN, by rw [upd_ne hRt]; exact hpR', by rw [upd_ne hct]; exact hpc', by rw [upd_ne hdt, et, ins1, if_pos hm']; exact hpd', by rw [upd_same, <- hset, eh], rfl⟩⟩
        . have e := numD_none (k := fun x : Int => (Sum.inl x : Key)) hki hm'
          have e2 := hv.symm.trans e
          cases e2
      . have hm' : cf st.2 r ∉ firsts ((R.map (cf st.2)).take i) := fun z => by
          have e := numD_some (k := fun x : Int => (Sum.inl x : Key)) hki nd z
          have e2 := hn.symm.trans e
          cases e2
        have hput := numD_put (k := fun x : Int => (Sum.inl x : Key)) hki hm'
        have eh : hm st.2 R r = ((numD (fun x : Int => (Sum.inl x : Key)) (firsts ((R.map (cf st.2)).take i))).length : Int) := by
          unfold hm
          rw [numD_len, idx_pre (i := i + 1) (by rw [et, ins1, if_neg hm']; simp), et, ins1, if_neg hm', idx_new hm']
        have hpt2' : upd H' pd (.dK (putK (numD (fun x : Int => (Sum.inl x : Key)) (firsts ((R.map (cf st.2)).take i))) (Sum.inl (cf st.2 r)) (V.int ((numD (fun x : Int => (Sum.inl x : Key)) (firsts ((R.map (cf st.2)).take i))).length : Int)))) pt = some (.lst (homeL st.2 R marks.length i)) := by rw [upd_ne (Ne.symm hdt)]; exact hpt'
        refine ⟨_, hpt2', _, hix, (hPv _ _ _).mpr ⟨_, (s'.over hpdN).over hptN, by rw [upd_ne hRt, upd_ne hRd]; exact hpR', by rw [upd_ne hct, upd_ne hcd]; exact hpc', ?_, by rw [upd_same, <- hset, eh], rfl⟩⟩
        rw [upd_ne hdt, upd_same, et, ins1, if_neg hm', numD_len]
        exact congrArg (fun z => some (HO.dK z)) hput
    . obtain ⟨o, s', hpR', hpc', hpd', hpt', rfl⟩ := (hPv _ _ _).mp h'
      rw [List.length_map] at hpt'
      walk_at "rd"
      exact k pt _ s' hptN hpt' hfin rf
theorem hm_new {c R : List Int} {i : Nat} {r : Int} (h : R[i]? = some r) : (hm c R r = ((FR c (R.take i)).length : Int)) ↔ cf c r ∉ (FR c (R.take i)).map (cf c) := by
  have hcr : (R.map (cf c))[i]? = some (cf c r) := by rw [List.getElem?_map, h]; rfl
  have hlen : (FR c (R.take i)).length = (firsts ((R.map (cf c)).take i)).length := by
    have := congrArg List.length (FR_map c (R.take i))
    rw [List.length_map, List.map_take] at this
    exact this
  rw [FR_map, List.map_take, hlen]
  have et := take_firsts hcr
  unfold hm
  constructor
  . intro e hm'
    rw [idx_pre hm'] at e
    have := List.idxOf_lt_length_of_mem hm'
    omega
  . intro hm'
    rw [idx_pre (i := i + 1) (by rw [et, ins1, if_neg hm']; simp), et, ins1, if_neg hm', idx_new hm']
theorem homeL_at {c R : List Int} {n : Nat} {r : Int} (hr : r ∈ R) (h0 : 0 <= r) (h1 : r < (n : Int)) : (homeL c R n R.length)[r.toNat]? = some (V.int (hm c R r)) := by
  unfold homeL
  rw [List.getElem?_map, List.getElem?_range (by omega), List.take_length]
  have e : ((r.toNat : Nat) : Int) = r := by omega
  show some (if ((r.toNat : Nat) : Int) ∈ R then V.int (hm c R ((r.toNat : Nat) : Int)) else V.non) = _
  rw [e, if_pos hr]
theorem WordsT.toRows {K : PySem.W.Frag} {H : Hp} {w : Addr} {zs : List V} {ws : List (List Int)} (h : WordsT K H zs ws) (hw : SqT K H w zs) : Rows K H w ws := by
  refine ⟨zs.map (fun v => match v with | .ref t => t | _ => 0), ?_, by rw [List.length_map]; exact h.1, fun i t r hi hr => ?_⟩
  . have e : (zs.map (fun v => match v with | .ref t => t | _ => 0)).map V.ref = zs := by
      rw [List.map_map]
      refine List.ext_getElem? fun i => ?_
      rw [List.getElem?_map]
      by_cases hi : i < ws.length
      . obtain ⟨t, a, _⟩ := h.2 i ws[i] (by simp [hi])
        rw [a]; rfl
      . rw [List.getElem?_eq_none (by rw [h.1]; omega)]; rfl
    rw [e]; exact hw
  . obtain ⟨t', a, b⟩ := h.2 i r hr
    rw [List.getElem?_map, a] at hi
    cases hi
    exact SqT.of b
def sp_least (K : PySem.W.Frag) : Sp := fun vs H Q _ => ∃ (h : Addr) (L : Nat) (marks : List Int) (ways : List (List Int)), vs = [.ref h] /\ House K H h L marks ways /\ Wf L marks ways /\ ∀ t H', Same H H' -> House K H' t L (sM L marks ways) (sW L marks ways) -> Q (.ref t) H'
theorem ok_least {f : Addr} {fd : FuncData} (F : Fun K "least" "least" s_least f fd) (T : Txt mg)
    (Z : Exs K mg C_AskError C_BadHouse)
    {f_reached : Addr} {fd_reached : FuncData} (g_reached : FnOk P w K mg base CX0 2 f_reached fd_reached ["house"] (sp_reach18 K)) (F_reached : Fun K "reached" "reached" s_reached f_reached fd_reached) (b_reached : Binds K fd_reached ["house"] []) (m_reached : mg "reached" = some (.ref f_reached))
    {f_homes : Addr} {fd_homes : FuncData} (g_homes : FnOk P w K mg base CX0 4 f_homes fd_homes ["house"] (sp_homes K)) (F_homes : Fun K "homes" "homes" s_homes f_homes fd_homes) (b_homes : Binds K fd_homes ["house"] []) (m_homes : mg "homes" = some (.ref f_homes))
    : FnOk P w K mg base CX0 5 f fd ["house"] (sp_least K) := by
  refine F.ok sc_least (fun vs H Q E h => ?_) (fun cdv A outer s H vs Q E hr h => ?_)
  . obtain ⟨h, L, marks, ways, rfl, _⟩ := h; rfl
  . obtain ⟨h, L, marks, ways, rfl, hh, wf, k⟩ := h
    have hl := line1000
    have hn40 := wf.n40
    have hL6 := wf.l6
    obtain ⟨mm, wv, q1, q2, q3⟩ := id hh
    refine ⟨_, (pss_cons (ps_set (i := 1) sc_least.nd rfl (Or.inr rfl) (pe_call g_homes (hr.mono (by decide)) rfl m_homes F_homes.kp b_homes .nil pass0 (pa_cons (pv 0) pa_nil)))
      (pss_cons (ps_set (i := 2) sc_least.nd rfl (Or.inl rfl) (pe_lst pa_nil))
      (pss_cons (ps_set (i := 3) sc_least.nd rfl (Or.inl rfl) (pe_lst pa_nil))
      (pss_cons (ps_for PassesOwn.never rfl (pi_list (pe_call g_reached (hr.mono (by decide)) rfl m_reached F_reached.kp b_reached .nil pass0 (pa_cons (pv 0) pa_nil))) (pg_name (i := 4) sc_least.nd rfl (Or.inl rfl))
      (pss_one (ps_if (pt_cmpR op_eq (pe_ix ix_list (pv 1) (pv 4) (fun _ _ => rfl)) (pe_callB call_len_seq (by rfl) T.len PySem.boot_len (pa_cons (pv 2) pa_nil)) (nomark _))
      (pss_cons (ps_expr (pe_bm PySem.F.plainAttrs_list PySem.F.slot_list_append PySem.F.type_list_append mt_append (pv 2) (pa_cons (pe_ix ix_tup (pe_ix ix_tup (pv 0) pe_int (fun _ _ => rfl)) (pv 4) (fun _ _ => rfl)) pa_nil)))
      (pss_one (ps_expr (pe_bm PySem.F.plainAttrs_list PySem.F.slot_list_append PySem.F.type_list_append mt_append (pv 3) (pa_cons (pe_callTy call_tuple_of rfl T.tuple PyProof.Rows.boot_tuple (pa_cons (pe_comp rfl (blk_mk rfl) (cp := c_least_0) ⟨⟨rfl, rfl⟩, True.intro⟩ (pi_tup (pe_ix ix_tup (pe_ix ix_tup (pv 0) pe_int (fun _ _ => rfl)) (pv 4) (fun _ _ => rfl))) (fun _ _ _ _ => (pg_name (i := 0) nd_c_least_0 rfl (Or.inl rfl))) (fun _ _ _ _ => pf_nil) (fun _ _ _ _ => (pe_ix (ix_listK (K := K) rfl) (pv 1) (pv 0) (fun _ _ => rfl)))) pa_nil)) pa_nil)))))
      pss_nil)))
      (pss_one (ps_ret (pe_tup (pa_cons (pe_ix ix_tup (pv 0) pe_int (fun _ _ => rfl)) (pa_cons (pe_callTy call_tuple_of rfl T.tuple PyProof.Rows.boot_tuple (pa_cons (pv 2) pa_nil)) (pa_cons (pe_callTy call_tuple_of rfl T.tuple PyProof.Rows.boot_tuple (pa_cons (pv 3) pa_nil)) pa_nil)))))))))), ?_⟩
    walk_at "rd"
    refine ⟨h, L, marks, ways, rfl, hh, wf, fun ph H1 s1 hphN hph hfin rf => ?_⟩
    generalize hR : (wordsIn ways).map (·.1) = R at hph rf
    generalize hst : wcOf marks.length L (bW marks ways) = st at hph hfin
    refine ⟨Nat.zero_le _, fun pm hpm => ⟨Nat.zero_le _, fun pv hpv => ?_⟩⟩
    have hpmN : H pm = none := s1.none hpm
    have s2 := (s1.newT hpm (o := .lst [])).newT hpv (o := .lst [])
    have hpvN : H pv = none := (s1.newT hpm (o := .lst [])).none hpv
    have hpm2 : upd (upd H1 pm (.lst [])) pv (.lst []) pm = some (.lst []) := (Same.new hpv) _ _ upd_same
    have hpv2 : upd (upd H1 pm (.lst [])) pv (.lst []) pv = some (.lst []) := upd_same
    have hph2 : upd (upd H1 pm (.lst [])) pv (.lst []) ph = some (.lst (homeL st.2 R marks.length R.length)) := (Same.new hpv) _ _ ((Same.new hpm) _ _ hph)
    have hphm : ph ≠ pm := fun z => by rw [z, hpm] at hph; cases hph
    have hmv : pm ≠ pv := fun z => by rw [<- z, upd_same] at hpv; cases hpv
    have hphv : ph ≠ pv := fun z => by rw [<- z, (Same.new hpm) _ _ hph] at hpv; cases hpv
    generalize upd (upd H1 pm (.lst [])) pv (.lst []) = H2 at s2 hpm2 hpv2 hph2 ⊢
    refine ⟨h, L, marks, ways, rfl, hh.mono s2, wf, fun pR H3 s3 hpRN hpR rf2 => ?_⟩
    rw [hR] at hpR
    have s03 := s2.trans s3
    have hRm : pR ≠ pm := fun z => by rw [z, hpm2] at hpRN; cases hpRN
    have hRv : pR ≠ pv := fun z => by rw [z, hpv2] at hpRN; cases hpRN
    have hpm3 := s3 _ _ hpm2
    have hpv3 := s3 _ _ hpv2
    have hph3 := s3 _ _ hph2
    refine ⟨pR, rfl, ⟨_, SqL.of hpR⟩, ?_⟩
    obtain ⟨Pv, hPv⟩ : ∃ Pv : Nat -> St -> Hp -> Prop, ∀ i σ' H', Pv i σ' H' ↔ (∃ (zs : List V) (o : Option V), Same H H' /\ H' pR = some (.lst (R.map V.int)) /\ H' ph = some (.lst (homeL st.2 R marks.length R.length)) /\ H' pm = some (.lst (((FR st.2 (R.take i)).map (mkR marks)).map V.int)) /\ H' pv = some (.lst zs) /\ WordsT K H' zs ((FR st.2 (R.take i)).map (hrow st.2 R ways)) /\ σ' = [some (.ref h), some (.ref ph), some (.ref pm), some (.ref pv), o]) := ⟨_, fun _ _ _ => Iff.rfl⟩
    refine forL (xs := R.map V.int) Pv ((hPv _ _ _).mpr ⟨[], none, s03, hpR, hph3, hpm3, hpv3, WordsT.nil, rfl⟩) (fun i σ' H' _ h' => by obtain ⟨_, _, _, h2, _⟩ := (hPv _ _ _).mp h'; exact SqL.of h2) (fun i x σ' H' hx h' => ?_) (fun σ' H' h' => ?_)
    . obtain ⟨zs, o, s', hpR', hph', hpm', hpv', hZ', rfl⟩ := (hPv _ _ _).mp h'
      obtain ⟨r, hr, rfl⟩ := get_mapI hx
      have hrm := List.mem_of_getElem? hr
      have hrr := rf.rng r hrm
      have hfl := FR_len st.2 (R.take i)
      have hRl := rf.len
      rw [List.length_take] at hfl
      have hat := homeL_at (c := st.2) (n := marks.length) hrm hrr.1 hrr.2
      have hnew := hm_new (c := st.2) hr
      have eFR := FR_take (c := st.2) hr
      obtain ⟨row, hrow1, hrow2, hrow3⟩ := wf.row hrr.1 hrr.2
      have hrows := wf.rows row hrow2
      have hcls : ∀ g ∈ row, g ∈ R := fun g hg => by
        obtain ⟨x, hx⟩ := List.mem_iff_getElem?.mp hg
        have hxl := (List.getElem?_eq_some_iff.mp hx).1
        have := rf.cls r hrm x (by omega)
        rwa [stepW_of hrow1 (by rw [Int.toNat_natCast]; exact hx)] at this
      have hmk : marks[r.toNat]? = some (mkR marks r) := by unfold mkR; rw [List.getD_eq_getElem?_getD]; simp [show r.toNat < marks.length by omega]
      have hhr : hrow st.2 R ways r = row.map (hm st.2 R) := by unfold hrow; rw [List.getD_eq_getElem?_getD, hrow1]; rfl
      obtain ⟨xs1, t1, z1, z2, z3⟩ := q3.atZ hrr.1 hrow1
      walk_at "rd"
      refine ⟨_, SqL.of hph', _, atI_of hrr.1 hat, _, .inl (SqL.of hpm'), ?_⟩
      rw [List.length_map, List.length_map]
      refine ⟨rfl, ite2 (fun he => ?_) (fun he => ?_)⟩
      . have hnot := hnew.mp (V.int.inj he)
        have eFR' : FR st.2 (R.take (i + 1)) = FR st.2 (R.take i) ++ [r] := by rw [eFR, frstep, if_neg hnot]
        refine ⟨.inl ⟨rfl, _, SqL.of hpm'⟩, _, s'.seqT q1, _, rfl, mm, rfl, _, s'.seqT q2, _, atI_int hrr.1 hmk, _, hpm', by rw [List.length_map, List.length_map]; omega, ?_⟩
        have sM := s'.over hpmN (o := .lst (((FR st.2 (R.take i)).map (mkR marks)).map V.int ++ [V.int (mkR marks r)]))
        have hpvM : upd H' pm (.lst (((FR st.2 (R.take i)).map (mkR marks)).map V.int ++ [V.int (mkR marks r)])) pv = some (.lst zs) := by rw [upd_ne (Ne.symm hmv)]; exact hpv'
        have hphM : upd H' pm (.lst (((FR st.2 (R.take i)).map (mkR marks)).map V.int ++ [V.int (mkR marks r)])) ph = some (.lst (homeL st.2 R marks.length R.length)) := by rw [upd_ne hphm]; exact hph'
        have hpRM : upd H' pm (.lst (((FR st.2 (R.take i)).map (mkR marks)).map V.int ++ [V.int (mkR marks r)])) pR = some (.lst (R.map V.int)) := by rw [upd_ne hRm]; exact hpR'
        have hpmM : upd H' pm (.lst (((FR st.2 (R.take i)).map (mkR marks)).map V.int ++ [V.int (mkR marks r)])) pm = some (.lst (((FR st.2 (R.take i)).map (mkR marks)).map V.int ++ [V.int (mkR marks r)])) := upd_same
        have hZM := hZ'.mono (TK.lst hpm' (o := .lst (((FR st.2 (R.take i)).map (mkR marks)).map V.int ++ [V.int (mkR marks r)])))
        generalize upd H' pm (.lst (((FR st.2 (R.take i)).map (mkR marks)).map V.int ++ [V.int (mkR marks r)])) = HM at sM hpvM hphM hpRM hpmM hZM ⊢
        obtain ⟨f, hf⟩ : ∃ f : V -> V, ∀ n : Int, f (V.int n) = .int (hm st.2 R n) := ⟨fun x => match x with | .int n => .int (hm st.2 R n) | _ => .non, fun _ => rfl⟩
        refine ⟨.inl ⟨rfl, _, SqL.of hpvM⟩, _, sM.seqT q1, _, rfl, wv, rfl, _, sM.seqT z1, _, z2, t1, rfl, ⟨_, sM.seqT z3⟩, compMapT (σ' := [some (.ref ph)]) f rfl (sM.seqT z3) (by rw [List.length_map]; omega) (fun x hx R' hR' => ?_) (fun D hD => ?_)⟩
        . obtain ⟨g, hg, rfl⟩ := mem_mapI hx
          rw [hf] at hR'
          have hgb := hrows.2 g hg
          walk_at "rd"
          exact ⟨_, SqL.of hphM, _, atI_of hgb.1 (homeL_at (hcls g hg) hgb.1 hgb.2), hR'⟩
        . have em : (row.map V.int).map f = (hrow st.2 R ways r).map V.int := by
            rw [hhr, List.map_map, List.map_map]
            exact List.map_congr_left fun n _ => hf n
          rw [em]
          refine ⟨D, rfl, _, .inl ⟨SqL.of upd_same, fun tl htl => ?_⟩⟩
          have sX := (Same.new hD (o := .lst ((hrow st.2 R ways r).map V.int))).newT htl (o := .tup ((hrow st.2 R ways r).map V.int))
          have hpvX := sX _ _ hpvM
          have hzl : zs.length <= 1000 := by rw [hZ'.1, List.length_map]; omega
          refine ⟨_, hpvX, by omega, (hPv _ _ _).mpr ⟨zs ++ [V.ref tl], _, (sM.trans sX).over hpvN, by rw [upd_ne hRv]; exact sX _ _ hpRM, by rw [upd_ne hphv]; exact sX _ _ hphM, ?_, upd_same, ?_, rfl⟩⟩
          . rw [upd_ne hmv, sX _ _ hpmM, eFR', List.map_append, List.map_append]; rfl
          . rw [eFR', List.map_append]
            exact ((hZM.mono (TK.of sX)).snoc (w := hrow st.2 R ways r) upd_same).mono (TK.lst hpvX)
      . have hin : cf st.2 r ∈ (FR st.2 (R.take i)).map (cf st.2) := Decidable.byContradiction fun z => he (by rw [hnew.mpr z])
        have eFR' : FR st.2 (R.take (i + 1)) = FR st.2 (R.take i) := by rw [eFR, frstep, if_pos hin]
        exact (hPv _ _ _).mpr ⟨zs, _, s', hpR', hph', by rw [eFR']; exact hpm', hpv', by rw [eFR']; exact hZ', rfl⟩
    . obtain ⟨zs, o, s', hpR', hph', hpm', hpv', hZ', rfl⟩ := (hPv _ _ _).mp h'
      rw [List.length_map, List.take_length] at hpm' hZ'
      walk_at "rd"
      refine ⟨_, s'.seqT q1, _, rfl, _, .inl ⟨SqL.of hpm', fun tm htm => ⟨_, .inl ⟨SqL.of ((Same.new htm) _ _ hpv'), fun tw htw => ⟨by omega, fun t ht => ?_⟩⟩⟩⟩⟩
      have sE := ((Same.new htm (o := .tup (((FR st.2 R).map (mkR marks)).map V.int))).newT htw (o := .tup zs)).newT ht (o := .tup [V.int L, V.ref tm, V.ref tw])
      subst hR hst
      exact k t _ (s'.trans sE) ⟨tm, tw, SqT.of upd_same, SqT.of ((Same.new ht) _ _ ((Same.new htw) _ _ upd_same)), WordsT.toRows (hZ'.mono (TK.of sE)) (SqT.of ((Same.new ht) _ _ upd_same))⟩
def pairEnts (w1 w2 : List (List Int)) (L : Int) (n m : Nat) (a b : Int) : List ((Int × Int) × List Int) := bfsF (stepP w1 w2) L.toNat (n * m + 1) [((a, b), [])] 0
def sp_steps (K : PySem.W.Frag) : Sp := fun vs H Q _ => ∃ (h h2 st : Addr) (L : Int) (marks marks2 : List Int) (ways ways2 : List (List Int)) (a b : Int), vs = [.ref h, .ref h2, .ref st] /\ House K H h L marks ways /\ Wf L marks ways /\ House K H h2 L marks2 ways2 /\ Wf L marks2 ways2 /\ H st = some (.tup [.int a, .int b]) /\ okP marks.length marks2.length (a, b) /\
  ∀ d top kvs H', Same H H' -> H d = none -> H' d = some (.dT kvs) -> StepsT H' (pairEnts ways ways2 L marks.length marks2.length a b) kvs -> B L (stepP ways ways2) (a, b) (okP marks.length marks2.length) (pairEnts ways ways2 L marks.length marks2.length a b) (pairEnts ways ways2 L marks.length marks2.length a b).length top -> Q (.ref d) H'
theorem ok_steps_from {f : Addr} {fd : FuncData} (F : Fun K "steps_from" "steps_from" s_steps_from f fd) (T : Txt mg)
    (Z : Exs K mg C_AskError C_BadHouse)
    : FnOk P w K mg base CX0 1 f fd ["house", "other", "start"] (sp_steps K) := by
  refine F.ok sc_steps_from (fun vs H Q E h => ?_) (fun cdv A outer s H vs Q E hr h => ?_)
  . obtain ⟨h, h2, st, L, marks, marks2, ways, ways2, a, b, rfl, _⟩ := h; rfl
  . obtain ⟨h, h2, st, L, marks, marks2, ways, ways2, a, b, rfl, hh, wf, hh2, wf2, hst, hok, k⟩ := h
    have hl := line1000
    have hL1 := wf.l1
    have hL6 := wf.l6
    have hn40 := wf.n40
    have hm40 := wf2.n40
    refine ⟨_, (@pss_cons _ _ _ _ _ (@ps_setDT _ 3 _ _ _ _ _ _ _ _ (hu_of hr) sc_steps_from.nd rfl (Or.inl rfl) (pv 2) pe_non rfl (Or.inl rfl))
      (pss_cons (ps_set (i := 4) sc_steps_from.nd rfl (Or.inl rfl) (pe_lst (pa_cons (pv 2) pa_nil)))
      (pss_cons (ps_set (i := 5) sc_steps_from.nd rfl (Or.inl rfl) pe_int)
      (pss_cons (ps_while PassesOwn.never (pt_cmpR op_lt (pv 5) (pe_callB call_len_seq (by rfl) T.len PySem.boot_len (pa_cons (pv 4) pa_nil)) (nomark _))
      (pss_cons (ps_set (i := 6) sc_steps_from.nd rfl (Or.inl rfl) (pe_ix ix_list (pv 4) (pv 5) (fun _ _ => rfl)))
      (pss_cons (ps_for PassesOwn.never rfl (pi_range1 rfl T.range (pa_cons (pe_ix ix_tup (pv 0) pe_int (fun _ _ => rfl)) pa_nil)) (pg_name (i := 7) sc_steps_from.nd rfl (Or.inl rfl))
      (pss_cons (ps_set (i := 8) sc_steps_from.nd rfl (Or.inl rfl) (pe_tup (pa_cons (pe_ix ix_tup (pe_ix ix_tup (pe_ix ix_tup (pv 0) pe_int (fun _ _ => rfl)) (pe_ix ix_tup (pv 6) pe_int (fun _ _ => rfl)) (fun _ _ => rfl)) (pv 7) (fun _ _ => rfl)) (pa_cons (pe_ix ix_tup (pe_ix ix_tup (pe_ix ix_tup (pv 1) pe_int (fun _ _ => rfl)) (pe_ix ix_tup (pv 6) pe_int (fun _ _ => rfl)) (fun _ _ => rfl)) (pv 7) (fun _ _ => rfl)) pa_nil))))
      (pss_one (ps_if (pt_cmp (pc_dnotin (hu_of hr) (pv 8) (pv 3)))
      (pss_cons (ps_dput (hu_of hr) (pv 3) (pv 8) (pe_tup (pa_cons (pv 6) (pa_cons (pv 7) pa_nil))) rfl)
      (pss_one (ps_expr (pe_bm PySem.F.plainAttrs_list PySem.F.slot_list_append PySem.F.type_list_append mt_append (pv 4) (pa_cons (pv 8) pa_nil)))))
      pss_nil))))
      (pss_one (ps_aug (i := 5) sc_steps_from.nd rfl (Or.inl rfl) pe_int ip_add)))))
      (pss_one (ps_ret (pv 3))))))), ?_⟩
    walk_at "rd"
    intro p hp
    have hpst : st ≠ p := fun z => by rw [z, hp] at hst; cases hst
    refine ⟨upd_same, keyP (a, b), (Same.new hp) _ _ hst, by omega, fun p2 hp2 => ?_⟩
    have hne2 : p2 ≠ p := (none_of_upd hp2).2
    have hp2n : H p2 = none := (none_of_upd (none_of_upd hp2).1).1
    have s0 : Same H (upd (upd (upd H p (.dT [])) p (.dT [(keyP (a, b), V.non)])) p2 (.lst [V.ref st])) := ((Same.new hp).over hp).newT hp2
    have en0 : upd (upd (upd H p (.dT [])) p (.dT [(keyP (a, b), V.non)])) p2 (.lst [V.ref st]) p = some (.dT [(keyP (a, b), V.non)]) := Same.new hp2 _ _ upd_same
    have hr0 : upd (upd (upd H p (.dT [])) p (.dT [(keyP (a, b), V.non)])) p2 (.lst [V.ref st]) p2 = some (.lst [V.ref st]) := upd_same
    have st0 : StepsT (upd (upd (upd H p (.dT [])) p (.dT [(keyP (a, b), V.non)])) p2 (.lst [V.ref st])) [((a, b), [])] [(keyP (a, b), V.non)] := ⟨rfl, fun i e he => by
      cases i with
      | zero => simp at he; subst he; exact ⟨_, rfl, .inl ⟨rfl, rfl⟩⟩
      | succ i => simp at he⟩
    have fo0 : FoundT (upd (upd (upd H p (.dT [])) p (.dT [(keyP (a, b), V.non)])) p2 (.lst [V.ref st])) (([((a, b), [])] : List ((Int × Int) × List Int)).map (·.1)) [V.ref st] := ⟨rfl, fun i q hq => by
      cases i with
      | zero => simp at hq; subst hq; exact ⟨st, rfl, s0 _ _ hst⟩
      | succ i => simp at hq⟩
    generalize upd (upd (upd H p (.dT [])) p (.dT [(keyP (a, b), V.non)])) p2 (.lst [V.ref st]) = H0 at s0 en0 hr0 st0 fo0 ⊢
    clear hp2
    obtain ⟨Pv, hPv⟩ : ∃ Pv : Nat -> St -> Hp -> Prop, ∀ m σ2 H2, Pv m σ2 H2 ↔ (∃ (ents : List ((Int × Int) × List Int)) (kvs : List (List Key × V)) (rs : List V) (i : Nat) (top : Int) (o6 o7 o8 : Option V), m = marks.length * marks2.length + 1 - i /\ Same H H2 /\ H2 p = some (.dT kvs) /\ H2 p2 = some (.lst rs) /\ StepsT H2 ents kvs /\ FoundT H2 (ents.map (·.1)) rs /\ B L (stepP ways ways2) (a, b) (okP marks.length marks2.length) ents i top /\ (∀ e, ents[i]? = some e -> top <= place L e.2 * L + 1) /\ bfsF (stepP ways ways2) L.toNat (marks.length * marks2.length + 1 - i) ents i = pairEnts ways ways2 L marks.length marks2.length a b /\ σ2 = [some (.ref h), some (.ref h2), some (.ref st), some (.ref p), some (.ref p2), some (.int i), o6, o7, o8]) := ⟨_, fun _ _ _ => Iff.rfl⟩
    refine whileW Pv ⟨_, (hPv _ _ _).mpr ⟨_, _, _, 0, 1, none, none, none, rfl, s0, en0, hr0, st0, fo0, B.start L _ hok, fun e he => ?_, rfl, rfl⟩⟩ ?_
    . simp at he; subst he; simp [place, placeR]
    intro m σ2 H2 hpv
    obtain ⟨ents, kvs, rs, i, top, o6, o7, o8, rfl, s2, en2, hr2, st2, fo2, bf, htop, hbfs, rfl⟩ := (hPv _ _ _).mp hpv
    have hbl := bf.lenP
    have hnm : marks.length * marks2.length <= 1600 := Nat.mul_le_mul hn40 hm40
    walk_at "rd"
    refine ⟨_, .inl (SqL.of hr2), ?_⟩
    have hrl : rs.length = ents.length := by rw [fo2.1, List.length_map]
    rw [hrl]
    refine ite2 (fun hlt => ?_) (fun hge => ?_)
    . have hi : i < ents.length := by omega
      obtain ⟨e, he⟩ : ∃ e, ents[i]? = some e := ⟨ents[i], by simp [hi]⟩
      obtain ⟨⟨ra, rb⟩, w⟩ := e
      have hmem := List.mem_of_getElem? he
      have hr' : okP marks.length marks2.length (ra, rb) := bf.rng _ hmem
      obtain ⟨⟨ra0, ra1⟩, rb0, rb1⟩ := id hr'
      have htop' : top <= place L w * L + 1 := htop _ he
      obtain ⟨row, hrow, hrm, hrowl⟩ := wf.row ra0 ra1
      obtain ⟨row2, hrow2, hrm2, hrowl2⟩ := wf2.row rb0 rb1
      obtain ⟨mm, wv, q1, q2, q3⟩ := id hh
      obtain ⟨mm', wv', q1', q2', q3'⟩ := id hh2
      obtain ⟨xs, t, z1, z2, z3⟩ := q3.atZ ra0 hrow
      obtain ⟨xs', t', z1', z2', z3'⟩ := q3'.atZ rb0 hrow2
      obtain ⟨bp, hbp1, hbp2⟩ := fo2.2 i (ra, rb) (by rw [List.getElem?_map, he]; rfl)
      refine ⟨Pv (marks.length * marks2.length + 1 - (i + 1)), fun σ' H' h => ⟨_, by omega, h⟩, ?_⟩
      refine ⟨_, SqL.of hr2, _, atI_of (v := V.ref bp) (by omega) (by rw [Int.toNat_natCast]; exact hbp1), ?_⟩
      walk_at "rd"
      refine ⟨_, s2.seqT q1, _, rfl, ?_⟩
      walk_at "rd"
      refine ⟨by omega, by omega, ?_⟩
      obtain ⟨Pn, hPn⟩ : ∃ Pn : Nat -> St -> Hp -> Prop, ∀ x σ3 H3, Pn x σ3 H3 ↔ (∃ (ents' : List ((Int × Int) × List Int)) (kvs' : List (List Key × V)) (rs' : List V) (o7 o8 : Option V), Same H H3 /\ H3 p = some (.dT kvs') /\ H3 p2 = some (.lst rs') /\ StepsT H3 ents' kvs' /\ FoundT H3 (ents'.map (·.1)) rs' /\ H3 bp = some (.tup [.int ra, .int rb]) /\ B L (stepP ways ways2) (a, b) (okP marks.length marks2.length) ents' i (place L w * L + (x : Int) + 1) /\ SeenF L (stepP ways ways2) ents' (ra, rb) w x /\ ents'[i]? = some ((ra, rb), w) /\ addF (stepP ways ways2) (ra, rb) w (L.toNat - x) x ents' = addF (stepP ways ways2) (ra, rb) w L.toNat 0 ents /\ σ3 = [some (.ref h), some (.ref h2), some (.ref st), some (.ref p), some (.ref p2), some (.int i), some (.ref bp), o7, o8]) := ⟨_, fun _ _ _ => Iff.rfl⟩
      refine forR Pn ((hPn _ _ _).mpr ⟨ents, kvs, rs, o7, o8, s2, en2, hr2, st2, fo2, hbp2, bf.up (by push_cast; omega), (fun y h0 h1 => absurd h1 (by push_cast; omega)), he, rfl, rfl⟩) (fun x σ3 H3 hx h3 => ?_) (fun σ3 H3 h3 => ?_)
      . obtain ⟨ents', kvs', rs', o7, o8, s3, en3, hr3, st3, fo3, hb3, bf3, se3, he3, had, rfl⟩ := (hPn _ _ _).mp h3
        have ex : (0 : Int) + (x : Nat) = (x : Int) := by omega
        rw [ex]
        have hxL : (x : Int) < L := by omega
        obtain ⟨rw1, g1, c1, c2, c3, c4, c5⟩ := wf.step ra0 ra1 (show (0 : Int) <= (x : Int) by omega) hxL
        obtain ⟨rw2, g2, d1, d2, d3, d4, d5⟩ := wf2.step rb0 rb1 (show (0 : Int) <= (x : Int) by omega) hxL
        rw [hrow] at c1; cases c1
        rw [hrow2] at d1; cases d1
        have hgo : stepP ways ways2 (ra, rb) (x : Int) = (g1, g2) := by show (stepW ways ra x, stepW ways2 rb x) = _; rw [c3, d3]
        have hmem3 := List.mem_of_getElem? he3
        obtain ⟨bf4, se4⟩ := bf3.letter se3 hmem3 hxL (by rw [hgo]; exact ⟨⟨c4, c5⟩, d4, d5⟩)
        have he4 := put_keep (step := stepP ways ways2) (r := (ra, rb)) (w := w) (x := x) he3
        rw [show L.toNat - x = (L.toNat - (x + 1)) + 1 by omega, addF_succ] at had
        walk_at "rd"
        refine ⟨_, s3.seqT q1, _, rfl, ?_⟩
        walk_at "rd"
        refine ⟨_, SqT.of hb3, _, rfl, ?_⟩
        walk_at "rd"
        refine ⟨_, s3.seqT z1, _, z2, ?_⟩
        walk_at "rd"
        refine ⟨_, s3.seqT z3, _, atI_int (by omega) c2, _, s3.seqT q1', _, rfl, _, SqT.of hb3, _, rfl, _, rfl, _, _, rfl, s3.seqT z1', _, z2', _, rfl, _, s3.seqT z3', _, atI_int (by omega) d2, by omega, fun p3 hp3 => ?_⟩
        have sT := s3.newT hp3 (o := .tup [V.int g1, V.int g2])
        have kT : TK H3 (upd H3 p3 (.tup [V.int g1, V.int g2])) := TK.new hp3
        have enT := Same.new hp3 (o := .tup [V.int g1, V.int g2]) _ _ en3
        have hrT := Same.new hp3 (o := .tup [V.int g1, V.int g2]) _ _ hr3
        have hbT := Same.new hp3 (o := .tup [V.int g1, V.int g2]) _ _ hb3
        have stT := st3.mono kT
        have foT := fo3.mono kT
        have hp3T : upd H3 p3 (.tup [V.int g1, V.int g2]) p3 = some (.tup ((keyP (g1, g2)).map kV)) := upd_same
        generalize upd H3 p3 (.tup [V.int g1, V.int g2]) = HT' at sT kT enT hrT hbT stT foT hp3T ⊢
        refine ⟨_, DGet.t enT hp3T, ?_⟩
        by_cases hm : (g1, g2) ∈ ents'.map (·.1)
        . have hput : put (stepP ways ways2) (ra, rb) w ents' x = ents' := by unfold put; rw [hgo, if_pos hm]
          rw [hput] at bf4 se4 he4 had
          obtain ⟨e', he', e1⟩ := List.mem_map.mp hm
          obtain ⟨v, hv, _⟩ := stT.yes bf3.nod he'
          rw [e1] at hv
          rw [hv, if_neg (by simp)]
          exact (hPn _ _ _).mpr ⟨ents', kvs', rs', _, _, sT, enT, hrT, stT, foT, hbT, bf4, se4, he4, had, rfl⟩
        . have hput : put (stepP ways ways2) (ra, rb) w ents' x = ents' ++ [((g1, g2), w ++ [(x : Int)])] := by unfold put; rw [hgo, if_neg hm]
          rw [hput] at bf4 se4 he4 had
          rw [stT.no hm, if_pos (by simp)]
          refine ⟨by omega, fun p4 hp4 => ?_⟩
          have sU := sT.newT hp4 (o := .tup [V.ref bp, V.int x])
          have kU : TK HT' (upd HT' p4 (.tup [V.ref bp, V.int x])) := TK.new hp4
          have enU := Same.new hp4 (o := .tup [V.ref bp, V.int x]) _ _ enT
          have hrU := Same.new hp4 (o := .tup [V.ref bp, V.int x]) _ _ hrT
          have hbU := kU _ _ hbT
          have hp3U := kU _ _ hp3T
          have hp4U : upd HT' p4 (.tup [V.ref bp, V.int x]) p4 = some (.tup [V.ref bp, V.int x]) := upd_same
          have stU := (stT.mono kU).put hm hp4U (e' := ((ra, rb), w)) hbU hmem3
          have foU := foT.mono kU
          generalize upd HT' p4 (.tup [V.ref bp, V.int x]) = HU at sU kU enU hrU hbU hp3U hp4U stU foU ⊢
          have hlen3 := bf3.lenP
          walk_at "rd"
          refine ⟨_, DPut.t (k := keyP (g1, g2)) enU hp3U (by rw [st3.1]; omega), ?_⟩
          have kV' : TK HU (upd HU p (.dT (putK kvs' (keyP (g1, g2)) (V.ref p4)))) := TK.dT enU
          have hrV : upd HU p (.dT (putK kvs' (keyP (g1, g2)) (V.ref p4))) p2 = some (.lst rs') := by rw [upd_ne hne2]; exact hrU
          refine ⟨.inl ⟨rfl, _, SqL.of hrV⟩, _, hrV, by rw [fo3.1, List.length_map]; omega, (hPn _ _ _).mpr ⟨_, _, _, _, _, (sU.over hp).over hp2n, ?_, upd_same, (stU.mono kV').mono (TK.lst hrV), ?_, TK.lst hrV _ _ (kV' _ _ hbU), bf4, se4, he4, had, rfl⟩⟩
          . rw [upd_ne (Ne.symm hne2)]; exact upd_same
          . have := ((foU.mono kV').mono (TK.lst (o := .lst (rs' ++ [V.ref p3])) hrV)).snoc (p := (g1, g2)) (b := p3) (TK.lst hrV _ _ (kV' _ _ hp3U))
            simpa using this
      . obtain ⟨ents', kvs', rs', o7, o8, s3, en3, hr3, st3, fo3, hb3, bf3, se3, he3, had, rfl⟩ := (hPn _ _ _).mp h3
        rw [Nat.sub_self, addF_zero] at had
        walk_at "rd"
        obtain ⟨bf4, htop4⟩ := bf3.next (by omega) (by omega) se3 he3
        refine (hPv _ _ _).mpr ⟨ents', kvs', rs', i + 1, _, _, _, _, rfl, s3, en3, hr3, st3, fo3, bf4, htop4, ?_, by push_cast; rfl⟩
        rw [show marks.length * marks2.length + 1 - i = (marks.length * marks2.length + 1 - (i + 1)) + 1 by omega, bfsF_step he] at hbfs
        rw [had]
        exact hbfs
    . have hi : i = ents.length := by have := bf.il; omega
      subst hi
      rw [bfsF_stop (by simp)] at hbfs
      rw [<- hbfs] at k
      exact k p top kvs H2 s2 hp en2 st2 bf
def sp_wordto (K : PySem.W.Frag) : Sp := fun vs H Q _ => ∃ (d b : Addr) (ents : List ((Int × Int) × List Int)) (kvs : List (List Key × V)) (e : (Int × Int) × List Int), vs = [.ref d, .ref b] /\ Rd H d (.dT kvs) /\ StepsT H ents kvs /\ (ents.map (·.1)).Nodup /\ e ∈ ents /\ H b = some (.tup [.int e.1.1, .int e.1.2]) /\ e.2.length <= 2000 /\ ∀ t H', Same H H' -> H' t = some (.tup (e.2.map V.int)) -> Q (.ref t) H'
theorem ok_word_to {f : Addr} {fd : FuncData} (F : Fun K "word_to" "word_to" s_word_to f fd) (T : Txt mg)
    (Z : Exs K mg C_AskError C_BadHouse)
    : FnOk P w K mg base CX0 1 f fd ["steps", "pair"] (sp_wordto K) := by
  refine F.ok sc_word_to (fun vs H Q E h => ?_) (fun cdv A outer s H vs Q E hr h => ?_)
  . obtain ⟨d, b, ents, kvs, e, rfl, _⟩ := h; rfl
  . obtain ⟨d, b, ents, kvs, e, rfl, hd, hst, nod, he, hb, hlen, k⟩ := h
    have hl := line1000
    refine ⟨_, (pss_cons (ps_set (i := 2) sc_word_to.nd rfl (Or.inl rfl) (pe_lst pa_nil))
      (pss_cons (ps_set (i := 3) sc_word_to.nd rfl (Or.inl rfl) (pe_dget (hu_of hr) (pv 0) (pv 1) (fun _ _ => rfl)))
      (pss_cons (ps_while PassesOwn.never (pt_cmpR op_notN (pv 3) pe_non (nomark _))
      (pss_cons (ps_expr (pe_bm PySem.F.plainAttrs_list PySem.F.slot_list_append PySem.F.type_list_append mt_append (pv 2) (pa_cons (pe_ix ix_tup (pv 3) pe_int (fun _ _ => rfl)) pa_nil)))
      (pss_one (ps_set (i := 3) sc_word_to.nd rfl (Or.inl rfl) (pe_dget (hu_of hr) (pv 0) (pe_ix ix_tup (pv 3) pe_int (fun _ _ => rfl)) (fun _ _ => rfl))))))
      (pss_one (ps_ret (pe_tupleRev rfl rfl T.tuple rfl T.reversed (pv 2))))))), ?_⟩
    walk_at "rd"
    have rdm : ∀ {H2 : Hp}, Same H H2 -> Rd H2 d (.dT kvs) := fun {H2} s => by
      rcases hd with hd | ⟨o, hd⟩
      . exact .inl (s _ _ hd)
      . exact .inr ⟨o, s _ _ hd⟩
    have get : ∀ {H2 : Hp} {e' : (Int × Int) × List Int} {b' : Addr} {v : V}, Same H H2 -> H2 b' = some (.tup [.int e'.1.1, .int e'.1.2]) -> valV kvs (keyP e'.1) = some v -> DGet H2 d (.ref b') (some v) := fun {H2 e' b' v} s hb hv => .inr ⟨kvs, keyP e'.1, b', rdm s, rfl, hb, hv.symm⟩
    refine ⟨by omega, fun p hp => ?_⟩
    obtain ⟨v0, hv0, hi0⟩ := hst.yes nod he
    refine ⟨v0, get (Same.new hp) (Same.new hp _ _ hb) hv0, ?_⟩
    obtain ⟨Pv, hPv⟩ : ∃ Pv : Nat -> St -> Hp -> Prop, ∀ m σ2 H2, Pv m σ2 H2 ↔ (∃ (ec : (Int × Int) × List Int) (suf : List Int) (v : V), m = ec.2.length /\ ec ∈ ents /\ e.2 = ec.2 ++ suf /\ valV kvs (keyP ec.1) = some v /\ Same H H2 /\ H2 p = some (.lst (suf.reverse.map V.int)) /\ σ2 = [some (.ref d), some (.ref b), some (.ref p), some v]) := ⟨_, fun _ _ _ => Iff.rfl⟩
    refine whileW Pv ⟨_, (hPv _ _ _).mpr ⟨e, [], v0, rfl, he, by simp, hv0, Same.new hp, by rw [upd_same]; rfl, rfl⟩⟩ ?_
    intro m σ2 H2 hpv
    obtain ⟨ec, suf, v, rfl, hec, hsuf, hv, s2, hp2, rfl⟩ := (hPv _ _ _).mp hpv
    obtain ⟨v', hv', hi⟩ := hst.yes nod hec
    rw [hv] at hv'
    cases hv'
    rcases hi with ⟨rfl, hnil⟩ | ⟨t, q, x, e', rfl, ht, hq, he', hsn⟩
    . walk_at "rd"
      refine ⟨_, SqL.of hp2, fun r hr => ?_⟩
      rw [<- List.map_reverse, List.reverse_reverse]
      rw [hnil, List.nil_append] at hsuf
      exact k r _ (s2.newT hr) (by rw [upd_same, hsuf])
    . obtain ⟨v2, hv2, _⟩ := hst.yes nod he'
      have hlsuf : suf.length <= 2000 := by rw [hsuf, List.length_append] at hlen; omega
      walk_at "rd"
      refine ⟨Pv e'.2.length, fun σ' H' h => ⟨_, by rw [hsn, List.length_append, List.length_singleton]; omega, h⟩, ?_⟩
      have s3 : Same H (upd H2 p (.lst (suf.reverse.map V.int ++ [V.int x]))) := s2.over hp
      refine ⟨.inl ⟨rfl, _, SqL.of hp2⟩, _, SqT.of (s2 _ _ ht), _, rfl, _, hp2, by simp; omega, _, SqT.of (s3 _ _ ht), _, rfl, v2, get s3 (s3 _ _ hq) hv2, (hPv _ _ _).mpr ⟨e', x :: suf, v2, rfl, he', by rw [hsuf, hsn]; simp, hv2, s3, by rw [upd_same]; simp, rfl⟩⟩
def tells (w1 w2 : List (List Int)) (m1 m2 : List Int) (a b : Int) (ws : List Int) : Prop := mkW m1 (walkR w1 a ws) ≠ mkW m2 (walkR w2 b ws)
def sp_lwa (K : PySem.W.Frag) : Sp := fun vs H Q _ => ∃ (h h2 st : Addr) (L : Int) (marks marks2 : List Int) (ways ways2 : List (List Int)) (a b : Int), vs = [.ref h, .ref h2, .ref st] /\ House K H h L marks ways /\ Wf L marks ways /\ House K H h2 L marks2 ways2 /\ Wf L marks2 ways2 /\ H st = some (.tup [.int a, .int b]) /\ okP marks.length marks2.length (a, b) /\
  (∀ H', Same H H' -> (∀ ws, isW L ws = true -> ¬ tells ways ways2 marks marks2 a b ws) -> Q .non H') /\
  ∀ t w H', Same H H' -> H' t = some (.tup (w.map V.int)) -> isW L w = true -> w.length <= 2000 -> tells ways ways2 marks marks2 a b w -> (∀ ws, isW L ws = true -> tells ways ways2 marks marks2 a b ws -> place L w <= place L ws) -> Q (.ref t) H'
theorem ok_least_word_apart {f : Addr} {fd : FuncData} (F : Fun K "least_word_apart" "least_word_apart" s_least_word_apart f fd) (T : Txt mg)
    (Z : Exs K mg C_AskError C_BadHouse)
    {f_steps_from : Addr} {fd_steps_from : FuncData} (g_steps_from : FnOk P w K mg base CX0 1 f_steps_from fd_steps_from ["house", "other", "start"] (sp_steps K)) (F_steps_from : Fun K "steps_from" "steps_from" s_steps_from f_steps_from fd_steps_from) (b_steps_from : Binds K fd_steps_from ["house", "other", "start"] []) (m_steps_from : mg "steps_from" = some (.ref f_steps_from))
    {f_word_to : Addr} {fd_word_to : FuncData} (g_word_to : FnOk P w K mg base CX0 1 f_word_to fd_word_to ["steps", "pair"] (sp_wordto K)) (F_word_to : Fun K "word_to" "word_to" s_word_to f_word_to fd_word_to) (b_word_to : Binds K fd_word_to ["steps", "pair"] []) (m_word_to : mg "word_to" = some (.ref f_word_to))
    : FnOk P w K mg base CX0 2 f fd ["house", "other", "start"] (sp_lwa K) := by
  refine F.ok sc_least_word_apart (fun vs H Q E h => ?_) (fun cdv A outer s H vs Q E hr h => ?_)
  . obtain ⟨h, h2, st, L, marks, marks2, ways, ways2, a, b, rfl, _⟩ := h; rfl
  . obtain ⟨h, h2, st, L, marks, marks2, ways, ways2, a, b, rfl, hh, wf, hh2, wf2, hst, hok, kN, kS⟩ := h
    have hl := line1000
    have hn40 := wf.n40
    have hm40 := wf2.n40
    refine ⟨_, (pss_cons (ps_set (i := 3) sc_least_word_apart.nd rfl (Or.inl rfl) (pe_call g_steps_from (hr.mono (by decide)) rfl m_steps_from F_steps_from.kp b_steps_from .nil pass0 (pa_cons (pv 0) (pa_cons (pv 1) (pa_cons (pv 2) pa_nil)))))
      (pss_cons (ps_for PassesOwn.never rfl (pi_dictT (pv 3)) (pg_name (i := 4) sc_least_word_apart.nd rfl (Or.inl rfl))
      (pss_one (ps_if (pt_cmpR op_ne (pe_ix ix_tup (pe_ix ix_tup (pv 0) pe_int (fun _ _ => rfl)) (pe_ix ix_tup (pv 4) pe_int (fun _ _ => rfl)) (fun _ _ => rfl)) (pe_ix ix_tup (pe_ix ix_tup (pv 1) pe_int (fun _ _ => rfl)) (pe_ix ix_tup (pv 4) pe_int (fun _ _ => rfl)) (fun _ _ => rfl)) (nomark _))
      (pss_one (ps_ret (pe_call g_word_to (hr.mono (by decide)) rfl m_word_to F_word_to.kp b_word_to .nil pass0 (pa_cons (pv 3) (pa_cons (pv 4) pa_nil)))))
      pss_nil)))
      (pss_one (ps_ret pe_non)))), ?_⟩
    walk_at "rd"
    refine ⟨h, h2, st, L, marks, marks2, ways, ways2, a, b, rfl, hh, wf, hh2, wf2, hst, hok, fun d top kvs H1 s1 hdn hd stp bf => ?_⟩
    generalize pairEnts ways ways2 L marks.length marks2.length a b = ents at stp bf
    walk_at "rd"
    refine ⟨kvs, hd, fun o => ?_⟩
    have sF : Same H (upd H1 d (.frz o (.dT kvs))) := s1.over hdn
    have stF := stp.mono (TK.dT (o := .frz o (.dT kvs)) hd)
    have dF : upd H1 d (.frz o (.dT kvs)) d = some (.frz o (.dT kvs)) := upd_same
    generalize upd H1 d (.frz o (.dT kvs)) = HF at sF stF dF ⊢
    have hmk : ∀ e ∈ ents, walkR ways a e.2 = e.1.1 /\ walkR ways2 b e.2 = e.1.2 := fun e he => by
      have := (bf.wd e he).2
      rw [walkP] at this
      exact ⟨congrArg Prod.fst this, congrArg Prod.snd this⟩
    refine forD (fun i σ2 H2 => H2 = HF /\ (∀ j, j < i -> ∀ e, ents[j]? = some e -> mkW marks e.1.1 = mkW marks2 e.1.2) /\ ∃ o4, σ2 = [some (.ref h), some (.ref h2), some (.ref st), some (.ref d), o4]) ⟨rfl, fun j hj => absurd hj (Nat.not_lt_zero _), none, rfl⟩ (fun i σ2 H2 _ h => by rw [h.1]; exact dF) (fun i kk v bp σ2 H2 hkv h hbp => ?_) (fun σ2 H2 h => ?_)
    . obtain ⟨rfl, hsame, o4, rfl⟩ := h
      have hi : i < ents.length := by rw [<- stF.1]; exact (List.getElem?_eq_some_iff.mp hkv).1
      have hei : ents[i]? = some ents[i] := by simp [hi]
      have hem := List.mem_of_getElem? hei
      obtain ⟨v', hv', _⟩ := stF.2 i _ hei
      rw [hkv] at hv'
      cases hv'
      have hbp' : H2 bp = some (.tup [.int ents[i].1.1, .int ents[i].1.2]) := hbp
      obtain ⟨⟨a0, a1⟩, b0, b1⟩ := bf.rng _ hem
      obtain ⟨mm, wv, q1, q2, q3⟩ := hh.mono sF
      obtain ⟨mm', wv', q1', q2', q3'⟩ := hh2.mono sF
      walk_at "rd"
      refine ⟨_, q1, _, rfl, ?_⟩
      walk_at "rd"
      refine ⟨_, SqT.of hbp', _, rfl, ?_⟩
      walk_at "rd"
      refine ⟨_, q2, _, mkW_at a0 a1, _, q1', _, rfl, ?_⟩
      walk_at "rd"
      refine ⟨_, SqT.of hbp', _, rfl, _, _, rfl, q2', _, mkW_at b0 b1, rfl, ?_⟩
      by_cases hne : mkW marks ents[i].1.1 = mkW marks2 ents[i].1.2
      . rw [if_neg (by rw [decide_eq_true (congrArg V.int hne)]; decide)]
        refine ⟨fun j hj e he => ?_, _, rfl⟩
        by_cases hji : j < i
        . exact hsame j hji e he
        . have : j = i := by omega
          subst this
          rw [hei] at he
          cases he
          exact hne
      . rw [if_pos (by rw [decide_eq_false (fun z => hne (V.int.inj z))]; decide)]
        have hbl := bf.lenP
        have hnm : marks.length * marks2.length <= 1600 := Nat.mul_le_mul hn40 hm40
        have hsh := bf.sh i _ hei
        refine ⟨d, bp, ents, kvs, ents[i], rfl, .inr ⟨o, dF⟩, stF, bf.nod, hem, hbp', by omega, fun t H3 s3 ht => ?_⟩
        refine kS t _ H3 (sF.trans s3) ht (bf.wd _ hem).1 (by omega) ?_ fun ws hw htl => ?_
        . show mkW marks (walkR ways a ents[i].2) ≠ mkW marks2 (walkR ways2 b ents[i].2)
          rw [(hmk _ hem).1, (hmk _ hem).2]
          exact hne
        . obtain ⟨w', hm, hple⟩ := bf.leastW hw
          obtain ⟨j, hj, ej⟩ := List.getElem_of_mem hm
          have hej : ents[j]? = some (walkF (stepP ways ways2) (a, b) ws, w') := by rw [List.getElem?_eq_getElem hj, ej]
          have hij : i <= j := Nat.le_of_not_lt fun hlt => by
            have := hsame j hlt _ hej
            rw [walkP] at this
            exact htl this
          by_cases he : i = j
          . subst he
            rw [hei] at hej
            have := congrArg Prod.snd (Option.some.inj hej)
            rw [this]; exact hple
          . have := bf.inc i j _ _ (by omega) hei hej
            exact Int.le_trans (Int.le_of_lt this) hple
    . obtain ⟨rfl, hsame, o4, rfl⟩ := h
      walk_at "rd"
      refine kN _ sF fun ws hw ht => ?_
      obtain ⟨w', hm, _⟩ := bf.leastW hw
      obtain ⟨j, hj, ej⟩ := List.getElem_of_mem hm
      have := hsame j (by rw [stF.1]; exact hj) _ (by rw [List.getElem?_eq_getElem hj, ej])
      rw [walkP] at this
      exact ht this
def sp_chk (K : PySem.W.Frag) (BH : Addr) : Sp := fun vs H Q E => ∃ (h h2 : Addr) (L L2 : Int) (marks marks2 : List Int) (ways ways2 : List (List Int)), vs = [.ref h, .ref h2] /\ House K H h L marks ways /\ House K H h2 L2 marks2 ways2 /\ (L = L2 -> Q .non H) /\ (L ≠ L2 -> E (.ref BH) none H)
theorem ok_check_as_many_letters {f : Addr} {fd : FuncData} (F : Fun K "check_as_many_letters" "check_as_many_letters" s_check_as_many_letters f fd) (T : Txt mg)
    (Z : Exs K mg C_AskError C_BadHouse)
    : FnOk P w K mg base (CXe P w) 1 f fd ["house", "other"] (sp_chk K C_BadHouse) := by
  refine F.okE sc_check_as_many_letters (fun vs H Q E h => ?_) (fun cdv A outer s H vs Q E hr h => ?_)
  . obtain ⟨h, h2, L, L2, marks, marks2, ways, ways2, rfl, _⟩ := h; rfl
  . obtain ⟨h, h2, L, L2, marks, marks2, ways, ways2, rfl, hh, hh2, k, kE⟩ := h
    have hl := line1000
    refine ⟨_, (pss_one (ps_if (pt_cmpR op_ne (pe_ix ix_tup (pv 0) pe_int (fun _ _ => rfl)) (pe_ix ix_tup (pv 1) pe_int (fun _ _ => rfl)) (nomark _))
      (pss_one (ps_raise Z.m_BadHouse Z.x_BadHouse rfl rfl (pa_cons pe_str pa_nil)))
      pss_nil)), ?_⟩
    walk_at "rd"
    obtain ⟨m, wv, q1, q2, q3⟩ := hh
    obtain ⟨m', wv', q1', q2', q3'⟩ := hh2
    refine ⟨_, q1, _, rfl, ?_⟩
    walk_at "rd"
    refine ⟨_, q1', _, rfl, rfl, ?_⟩
    by_cases e : L = L2
    . rw [if_neg (by rw [decide_eq_true (congrArg V.int e)]; decide)]
      exact k e
    . rw [if_pos (by rw [decide_eq_false (fun z => e (V.int.inj z))]; decide)]
      exact ⟨by omega, kE e⟩
def sp_diff (K : PySem.W.Frag) (BH : Addr) : Sp := fun vs H Q E => ∃ (h h2 : Addr) (L M : Int) (marks marks2 : List Int) (ways ways2 : List (List Int)), vs = [.ref h, .ref h2] /\ House K H h L marks ways /\ Wf L marks ways /\ House K H h2 M marks2 ways2 /\ Wf M marks2 ways2 /\
  (L = M -> (∀ H', Same H H' -> (∀ ws, isW L ws = true -> ¬ tells ways ways2 marks marks2 0 0 ws) -> Q .non H') /\
    ∀ t w H', Same H H' -> H' t = some (.tup (w.map V.int)) -> isW L w = true -> w.length <= 2000 -> tells ways ways2 marks marks2 0 0 w -> (∀ ws, isW L ws = true -> tells ways ways2 marks marks2 0 0 ws -> place L w <= place L ws) -> Q (.ref t) H') /\ (L ≠ M -> ∀ H', Same H H' -> E (.ref BH) none H')
theorem ok_difference {f : Addr} {fd : FuncData} (F : Fun K "difference" "difference" s_difference f fd) (T : Txt mg)
    (Z : Exs K mg C_AskError C_BadHouse)
    {f_check_as_many_letters : Addr} {fd_check_as_many_letters : FuncData} (g_check_as_many_letters : FnOk P w K mg base (CXe P w) 1 f_check_as_many_letters fd_check_as_many_letters ["house", "other"] (sp_chk K C_BadHouse)) (F_check_as_many_letters : Fun K "check_as_many_letters" "check_as_many_letters" s_check_as_many_letters f_check_as_many_letters fd_check_as_many_letters) (b_check_as_many_letters : Binds K fd_check_as_many_letters ["house", "other"] []) (m_check_as_many_letters : mg "check_as_many_letters" = some (.ref f_check_as_many_letters))
    {f_least_word_apart : Addr} {fd_least_word_apart : FuncData} (g_least_word_apart : FnOk P w K mg base CX0 2 f_least_word_apart fd_least_word_apart ["house", "other", "start"] (sp_lwa K)) (F_least_word_apart : Fun K "least_word_apart" "least_word_apart" s_least_word_apart f_least_word_apart fd_least_word_apart) (b_least_word_apart : Binds K fd_least_word_apart ["house", "other", "start"] []) (m_least_word_apart : mg "least_word_apart" = some (.ref f_least_word_apart))
    : FnOk P w K mg base (CXe P w) 3 f fd ["house", "other"] (sp_diff K C_BadHouse) := by
  refine F.okE sc_difference (fun vs H Q E h => ?_) (fun cdv A outer s H vs Q E hr h => ?_)
  . obtain ⟨h, h2, L, M, marks, marks2, ways, ways2, rfl, _⟩ := h; rfl
  . obtain ⟨h, h2, L, M, marks, marks2, ways, ways2, rfl, hh, wf, hh2, wf2, k, kE⟩ := h
    have hl := line1000
    have hn1 := wf.n1
    have hm1 := wf2.n1
    refine ⟨_, (pss_cons (ps_expr (pe_call g_check_as_many_letters (hr.mono (by decide)) rfl m_check_as_many_letters F_check_as_many_letters.kp b_check_as_many_letters .nil (passE fun _ _ _ h => h) (pa_cons (pv 0) (pa_cons (pv 1) pa_nil))))
      (PSs.nox (pss_one (ps_ret (pe_call g_least_word_apart (hr.mono (by decide)) rfl m_least_word_apart F_least_word_apart.kp b_least_word_apart .nil pass0 (pa_cons (pv 0) (pa_cons (pv 1) (pa_cons (pe_tup (pa_cons pe_int (pa_cons pe_int pa_nil))) pa_nil)))))))), ?_⟩
    walk_at "rd"
    refine ⟨h, h2, L, M, marks, marks2, ways, ways2, rfl, hh, hh2, fun e => ?_, fun e => kE e H (Same.refl _)⟩
    subst e
    obtain ⟨kN, kS⟩ := k rfl
    walk_at "rd"
    refine ⟨by omega, fun p hp => ?_⟩
    have sp := Same.new (o := .tup [V.int 0, V.int 0]) hp
    exact ⟨h, h2, p, L, marks, marks2, ways, ways2, 0, 0, rfl, hh.mono sp, wf, hh2.mono sp, wf2, upd_same, ⟨⟨by omega, by show (0 : Int) < _; omega⟩, by omega, by show (0 : Int) < _; omega⟩, fun H' s h => kN H' (sp.trans s) h, fun t w H' s => kS t w H' (sp.trans s)⟩
def sp_alike (K : PySem.W.Frag) (BH : Addr) : Sp := fun vs H Q E => ∃ (h h2 : Addr) (L M : Int) (marks marks2 : List Int) (ways ways2 : List (List Int)), vs = [.ref h, .ref h2] /\ House K H h L marks ways /\ Wf L marks ways /\ House K H h2 M marks2 ways2 /\ Wf M marks2 ways2 /\
  (L = M -> ∀ H' (b : Bool), Same H H' -> (b = true ↔ ∀ v, isW L v = true -> mkR marks (walkW ways v) = mkR marks2 (walkW ways2 v)) -> Q (.bl b) H') /\ (L ≠ M -> ∀ H', Same H H' -> E (.ref BH) none H')
theorem ok_alike {f : Addr} {fd : FuncData} (F : Fun K "alike" "alike" s_alike f fd) (T : Txt mg)
    (Z : Exs K mg C_AskError C_BadHouse)
    {f_difference : Addr} {fd_difference : FuncData} (g_difference : FnOk P w K mg base (CXe P w) 3 f_difference fd_difference ["house", "other"] (sp_diff K C_BadHouse)) (F_difference : Fun K "difference" "difference" s_difference f_difference fd_difference) (b_difference : Binds K fd_difference ["house", "other"] []) (m_difference : mg "difference" = some (.ref f_difference))
    : FnOk P w K mg base (CXe P w) 4 f fd ["house", "other"] (sp_alike K C_BadHouse) := by
  refine F.okE sc_alike (fun vs H Q E h => ?_) (fun cdv A outer s H vs Q E hr h => ?_)
  . obtain ⟨h, h2, L, M, marks, marks2, ways, ways2, rfl, _⟩ := h; rfl
  . obtain ⟨h, h2, L, M, marks, marks2, ways, ways2, rfl, hh, wf, hh2, wf2, k, kE⟩ := h
    refine ⟨_, (pss_one (ps_ret (pe_cmpR op_isN (pe_call g_difference (hr.mono (by decide)) rfl m_difference F_difference.kp b_difference .nil (passE fun _ _ _ h => h) (pa_cons (pv 0) (pa_cons (pv 1) pa_nil))) pe_non (nomark _)))), ?_⟩
    walk_at "rd"
    refine ⟨h, h2, L, M, marks, marks2, ways, ways2, rfl, hh, wf, hh2, wf2, fun e => ⟨fun H' s' hno => ?_, fun t v H' s' ht hw hwl htl hmin => ?_⟩, fun e H' s' => kE e H' s'⟩
    . refine k e H' _ s' ⟨fun _ v hv => ?_, fun _ => by decide⟩
      exact Classical.byContradiction fun z => hno v hv z
    . refine k e H' _ s' ⟨fun z => by simp at z, fun z => absurd (z v hw) htl⟩
def cell (ns : List Int) (k : Nat) : Int := ns.getD k 0
def sp_cell (K : PySem.W.Frag) : Sp := fun vs H Q _ => ∃ (a : Addr) (ns : List Int) (k : Nat), vs = [.ref a, .int k] /\ SqL K H a (ns.map V.int) /\ Q (.int (cell ns k)) H
theorem ok__law_cell_at {f : Addr} {fd : FuncData} (F : Fun K "_law_cell_at" "_law_cell_at" s__law_cell_at f fd) (T : Txt mg)
    (Z : Exs K mg C_AskError C_BadHouse)
    : FnOk P w K mg base CX0 1 f fd ["script", "k"] (sp_cell K) := by
  refine F.ok sc__law_cell_at (fun vs H Q E h => ?_) (fun cdv A outer s H vs Q E hr h => ?_)
  . obtain ⟨a, ns, k, rfl, _⟩ := h; rfl
  . obtain ⟨a, ns, k, rfl, hs, q⟩ := h
    refine ⟨_, (pss_cons (ps_if (pt_cmpR op_lt (pv 1) (pe_callB call_len_seq (by rfl) T.len PySem.boot_len (pa_cons (pv 0) pa_nil)) (nomark _))
      (pss_one (ps_ret (pe_ix ix_list (pv 0) (pv 1) (fun _ _ => rfl))))
      pss_nil)
      (pss_one (ps_ret pe_int))), ?_⟩
    walk_at "rd"
    refine ⟨_, .inl hs, ?_⟩
    rw [List.length_map]
    refine ite2 (fun hk => ?_) (fun hk => ?_)
    . have hk' : k < ns.length := by simpa using hk
      refine ⟨_, hs, V.int (cell ns k), ?_, q⟩
      refine atI_nat ?_
      rw [List.getElem?_map]
      unfold cell
      rw [List.getD_eq_getElem?_getD]
      simp [hk']
    . have hk' : ¬ k < ns.length := by simpa using hk
      have : cell ns k = 0 := by
        unfold cell
        rw [List.getD_eq_getElem?_getD, List.getElem?_eq_none (by omega)]; rfl
      rw [<- this]
      exact q
def sp_mixed : Sp := fun vs H Q _ => ∃ num k m : Int, vs = [.int num, .int k, .int m] /\ 0 <= k /\ k <= 1000000 /\ 0 < m /\ ∀ x, 0 <= x -> x < m -> Q (.int x) H
theorem ok__law_mixed {f : Addr} {fd : FuncData} (F : Fun K "_law_mixed" "_law_mixed" s__law_mixed f fd) (T : Txt mg)
    (Z : Exs K mg C_AskError C_BadHouse)
    : FnOk P w K mg base CX0 1 f fd ["number", "k", "many"] (sp_mixed) := by
  refine F.ok sc__law_mixed (fun vs H Q E h => ?_) (fun cdv A outer s H vs Q E hr h => ?_)
  . obtain ⟨num, k, m, rfl, _⟩ := h; rfl
  . obtain ⟨num, k, m, rfl, hk0, hk1, hm, q⟩ := h
    refine ⟨_, (pss_cons (ps_set (i := 3) sc__law_mixed.nd rfl (Or.inl rfl) (pe_op op_mod (pe_op op_add (pe_op op_add (pe_op op_add (pe_op op_mod (pv 0) pe_int) (pe_op op_mul (pe_op op_mul pe_int (pv 1)) (pv 1))) (pe_op op_mul pe_int (pv 1))) pe_int) pe_int))
      (pss_cons (ps_set (i := 3) sc__law_mixed.nd rfl (Or.inl rfl) (pe_op op_mod (pe_op op_mul (pv 3) pe_int) pe_int))
      (pss_one (ps_ret (pe_op op_mod (pe_op op_mod (pe_op op_mul (pv 3) (pv 3)) pe_int) (pv 2)))))), ?_⟩
    walk_at "rd"
    refine ⟨by decide, .inl ⟨by decide, by decide⟩, .inr ⟨by omega, by omega⟩, .inl ⟨by decide, by decide⟩, by decide, .inr ⟨by decide, by decide⟩, by decide, ?_⟩
    generalize (num % 2147483647 + 69621 * k * k + 40692 * k + 1) % 2147483647 * 48271 = z
    have m0 := Int.emod_nonneg z (show (2147483647 : Int) ≠ 0 by decide)
    have m1 := Int.emod_lt_of_pos z (show (0 : Int) < 2147483647 by decide)
    exact ⟨.inl ⟨by omega, by omega⟩, by decide, hm, q _ (Int.emod_nonneg _ (by omega)) (Int.emod_lt_of_pos _ hm)⟩
def sp_marksby (K : PySem.W.Frag) : Sp := fun vs H Q _ => ∃ (num : Int) (n : Nat), vs = [.int num, .int n] /\ 1 <= n /\ n <= 40 /\ ∀ (t : Addr) (marks : List Int) (H' : Hp), Same H H' -> SqT K H' t (marks.map V.int) -> marks.length = n -> (∀ m ∈ marks, 0 <= m /\ m <= 1000000000) -> Q (.ref t) H'
theorem ok__law_marks_by {f : Addr} {fd : FuncData} (F : Fun K "_law_marks_by" "_law_marks_by" s__law_marks_by f fd) (T : Txt mg)
    (Z : Exs K mg C_AskError C_BadHouse)
    {f__law_mixed : Addr} {fd__law_mixed : FuncData} (g__law_mixed : FnOk P w K mg base CX0 1 f__law_mixed fd__law_mixed ["number", "k", "many"] (sp_mixed)) (F__law_mixed : Fun K "_law_mixed" "_law_mixed" s__law_mixed f__law_mixed fd__law_mixed) (b__law_mixed : Binds K fd__law_mixed ["number", "k", "many"] []) (m__law_mixed : mg "_law_mixed" = some (.ref f__law_mixed))
    : FnOk P w K mg base CX0 2 f fd ["number", "rooms"] (sp_marksby K) := by
  refine F.ok sc__law_marks_by (fun vs H Q E h => ?_) (fun cdv A outer s H vs Q E hr h => ?_)
  . obtain ⟨num, n, rfl, _⟩ := h; rfl
  . obtain ⟨num, n, rfl, hn1, hn40, k⟩ := h
    have hl := line1000
    refine ⟨_, (pss_cons (ps_set (i := 2) sc__law_marks_by.nd rfl (Or.inl rfl) (pe_op op_mod (pe_op op_add (pv 0) pe_int) pe_int))
      (pss_cons (ps_set (i := 3) sc__law_marks_by.nd rfl (Or.inl rfl) (pe_op op_mod (pe_op op_fdiv (pv 0) pe_int) pe_int))
      (pss_cons (ps_set (i := 4) sc__law_marks_by.nd rfl (Or.inl rfl) (pe_lst pa_nil))
      (pss_cons (ps_for PassesOwn.never rfl (pi_range1 rfl T.range (pa_cons (pv 1) pa_nil)) (pg_name (i := 5) sc__law_marks_by.nd rfl (Or.inl rfl))
      (pss_cons (ps_set (i := 6) sc__law_marks_by.nd rfl (Or.inl rfl) (pv 3))
      (pss_cut (ps_if (PW.pt (pw_and (pt_cmpR op_eq (pe_op op_mod (pv 2) pe_int) pe_int (nomark _)) (pw_and1 (pt_cmpR op_eq (pe_call g__law_mixed (hr.mono (by decide)) rfl m__law_mixed F__law_mixed.kp b__law_mixed .nil pass0 (pa_cons (pv 0) (pa_cons (pv 5) (pa_cons pe_int pa_nil)))) pe_int (nomark _)))))
      (pss_one (ps_set (i := 6) sc__law_marks_by.nd rfl (Or.inl rfl) (pe_op op_sub pe_int (pv 3))))
      pss_nil)
      (pss_cut (ps_if (pt_cmpR op_eq (pv 2) pe_int (nomark _))
      (pss_one (ps_set (i := 6) sc__law_marks_by.nd rfl (Or.inl rfl) (pe_call g__law_mixed (hr.mono (by decide)) rfl m__law_mixed F__law_mixed.kp b__law_mixed .nil pass0 (pa_cons (pv 0) (pa_cons (pv 5) (pa_cons pe_int pa_nil))))))
      pss_nil)
      (pss_cut (ps_if (PW.pt (pw_or (PW.pt (pw_and (pt_cmpR op_eq (pv 2) pe_int (nomark _)) (pw_and1 (pt_cmpR op_eq (pv 5) (pe_op op_mod (pe_op op_fdiv (pv 0) pe_int) (pv 1)) (nomark _))))) (pw_or1 (PW.pt (pw_and (pt_cmpR op_eq (pv 2) pe_int (nomark _)) (pw_and1 (pt_cmpR op_eq (pv 5) (pe_op op_sub (pv 1) pe_int) (nomark _))))))))
      (pss_one (ps_set (i := 6) sc__law_marks_by.nd rfl (Or.inl rfl) (pe_op op_mod (pe_op op_add (pv 3) pe_int) pe_int)))
      pss_nil)
      (pss_cut (ps_if (PW.pt (pw_or (pt_cmpR op_eq (pv 2) pe_int (nomark _)) (pw_or1 (pt_cmpR op_eq (pv 2) pe_int (nomark _)))))
      (pss_one (ps_set (i := 6) sc__law_marks_by.nd rfl (Or.inl rfl) (pe_call g__law_mixed (hr.mono (by decide)) rfl m__law_mixed F__law_mixed.kp b__law_mixed .nil pass0 (pa_cons (pv 0) (pa_cons (pv 5) (pa_cons pe_int pa_nil))))))
      pss_nil)
      (pss_one (ps_expr (pe_bm PySem.F.plainAttrs_list PySem.F.slot_list_append PySem.F.type_list_append mt_append (pv 4) (pa_cons (pv 6) pa_nil))))))))))
      (pss_one (ps_ret (pe_callTy call_tuple_of rfl T.tuple PyProof.Rows.boot_tuple (pa_cons (pv 4) pa_nil)))))))), ?_⟩
    walk_at "rd"
    refine ⟨by decide, ⟨by decide, by decide⟩, by decide, by omega, fun p hp => ⟨by omega, by omega, ?_⟩⟩
    rw [Int.toNat_natCast]
    have ht0 := Int.emod_nonneg (num / 8) (show (1000000001 : Int) ≠ 0 by decide)
    have ht1 := Int.emod_lt_of_pos (num / 8) (show (0 : Int) < 1000000001 by decide)
    generalize (num + 1) % 8 = way
    generalize num / 8 % 1000000001 = top at ht0 ht1 ⊢
    obtain ⟨Pv, hPv⟩ : ∃ Pv : Nat -> St -> Hp -> Prop, ∀ i σ2 H2, Pv i σ2 H2 ↔ (∃ (marks : List Int) (o1 o2 : Option V), Same H H2 /\ H2 p = some (.lst (marks.map V.int)) /\ marks.length = i /\ (∀ m ∈ marks, 0 <= m /\ m <= 1000000000) /\ σ2 = [some (.int num), some (.int n), some (.int way), some (.int top), some (.ref p), o1, o2]) := ⟨_, fun _ _ _ => Iff.rfl⟩
    refine forR Pv ((hPv _ _ _).mpr ⟨[], none, none, Same.new hp, by rw [upd_same]; rfl, rfl, (fun m hm => by cases hm), rfl⟩) (fun i σ2 H2 hi h2 => ?_) (fun σ2 H2 h2 => ?_)
    . obtain ⟨marks, o1, o2, s2, hp2, hlen, hr', rfl⟩ := (hPv _ _ _).mp h2
      generalize hroom : (0 : Int) + (i : Nat) = room
      have hroom0 : 0 <= room := by omega
      have hroom1 : room <= 40 := by omega
      obtain ⟨R, hR⟩ : ∃ R : St -> Hp -> Prop, ∀ σ3 H3, R σ3 H3 ↔ (H3 = H2 /\ ∃ mark : Int, 0 <= mark /\ mark <= 1000000000 /\ σ3 = [some (.int num), some (.int n), some (.int way), some (.int top), some (.ref p), some (.int room), some (.int mark)]) := ⟨_, fun _ _ => Iff.rfl⟩
      walk_at "rd"
      refine ⟨R, ?_, fun σ3 H3 h3 => ⟨R, ?_, fun σ4 H4 h4 => ⟨R, ?_, fun σ5 H5 h5 => ⟨R, ?_, fun σ6 H6 h6 => ?_⟩⟩⟩⟩
      . walk_at "rd"
        refine ⟨by decide, iteB ((hR _ _).mpr ⟨rfl, top, ht0, by omega, rfl⟩) (fun _ hB => ⟨num, room, 2, rfl, hroom0, by omega, by decide, fun x _ _ => ?_⟩)⟩
        walk_at "rd"
        exact ite2 (fun _ => (hR _ _).mpr ⟨rfl, _, by omega, by omega, rfl⟩) (fun _ => hB)
      . obtain ⟨rfl, mark, hm0, hm1, rfl⟩ := (hR _ _).mp h3
        walk_at "rd"
        refine ite2 (fun _ => ⟨num, room, 1000000001, rfl, hroom0, by omega, by decide, fun x hx0 hx1 => ?_⟩) (fun _ => h3)
        walk_at "rd"
        exact (hR _ _).mpr ⟨rfl, x, hx0, by omega, rfl⟩
      . obtain ⟨rfl, mark, hm0, hm1, rfl⟩ := (hR _ _).mp h4
        walk_at "rd"
        have hA : R [some (.int num), some (.int n), some (.int way), some (.int top), some (.ref p), some (.int room), some (.int ((top + 1) % 1000000001))] H4 := (hR _ _).mpr ⟨rfl, _, Int.emod_nonneg _ (by decide), by have := Int.emod_lt_of_pos (top + 1) (show (0 : Int) < 1000000001 by decide); omega, rfl⟩
        have hE : if way = 5 then (if room = (n : Int) - 1 then (0 : Int) < 1000000001 /\ R [some (.int num), some (.int n), some (.int way), some (.int top), some (.ref p), some (.int room), some (.int ((top + 1) % 1000000001))] H4 else R [some (.int num), some (.int n), some (.int way), some (.int top), some (.ref p), some (.int room), some (.int mark)] H4) else R [some (.int num), some (.int n), some (.int way), some (.int top), some (.ref p), some (.int room), some (.int mark)] H4 :=
          ite2 (fun _ => ite2 (fun _ => ⟨by decide, hA⟩) (fun _ => h4)) (fun _ => h4)
        exact ite2 (fun _ => ⟨⟨by decide, by decide⟩, by omega, ite2 (fun _ => ⟨by decide, hA⟩) (fun _ => hE)⟩) (fun _ => hE)
      . obtain ⟨rfl, mark, hm0, hm1, rfl⟩ := (hR _ _).mp h5
        walk_at "rd"
        exact ite2 (fun _ => ⟨num, room, 3, rfl, hroom0, by omega, by decide, fun x hx0 hx1 => (hR _ _).mpr ⟨rfl, x, hx0, by omega, rfl⟩⟩) (fun _ => ite2 (fun _ => ⟨num, room, 3, rfl, hroom0, by omega, by decide, fun x hx0 hx1 => (hR _ _).mpr ⟨rfl, x, hx0, by omega, rfl⟩⟩) (fun _ => h5))
      . obtain ⟨rfl, mark, hm0, hm1, rfl⟩ := (hR _ _).mp h6
        walk_at "rd"
        refine ⟨.inl ⟨rfl, _, SqL.of hp2⟩, _, hp2, by rw [List.length_map]; omega, (hPv _ _ _).mpr ⟨marks ++ [mark], _, _, s2.over hp, by rw [upd_same]; simp, by simp [hlen], fun m hm => ?_, rfl⟩⟩
        rcases List.mem_append.mp hm with hm | hm
        . exact hr' m hm
        . rw [List.mem_singleton.mp hm]; exact ⟨hm0, hm1⟩
    . obtain ⟨marks, o1, o2, s2, hp2, hlen, hr', rfl⟩ := (hPv _ _ _).mp h2
      walk_at "rd"
      refine ⟨_, .inl ⟨SqL.of hp2, fun t ht => ?_⟩⟩
      exact k t marks _ (s2.newT ht) (SqT.of upd_same) hlen hr'
def sp_waysby (K : PySem.W.Frag) : Sp := fun vs H Q _ => ∃ (a : Addr) (ns : List Int) (L : Int) (n : Nat), vs = [.ref a, .int L, .int n] /\ SqL K H a (ns.map V.int) /\ 1 <= L /\ L <= 6 /\ 1 <= n /\ n <= 40 /\ ∀ (t : Addr) (ways : List (List Int)) (H' : Hp), Same H H' -> Rows K H' t ways -> ways.length = n -> (∀ row ∈ ways, (row.length : Int) = L /\ ∀ x ∈ row, 0 <= x /\ x < (n : Int)) -> Q (.ref t) H'
theorem ok__law_ways_by {f : Addr} {fd : FuncData} (F : Fun K "_law_ways_by" "_law_ways_by" s__law_ways_by f fd) (T : Txt mg)
    (Z : Exs K mg C_AskError C_BadHouse)
    {f__law_cell_at : Addr} {fd__law_cell_at : FuncData} (g__law_cell_at : FnOk P w K mg base CX0 1 f__law_cell_at fd__law_cell_at ["script", "k"] (sp_cell K)) (F__law_cell_at : Fun K "_law_cell_at" "_law_cell_at" s__law_cell_at f__law_cell_at fd__law_cell_at) (b__law_cell_at : Binds K fd__law_cell_at ["script", "k"] []) (m__law_cell_at : mg "_law_cell_at" = some (.ref f__law_cell_at))
    {f__law_mixed : Addr} {fd__law_mixed : FuncData} (g__law_mixed : FnOk P w K mg base CX0 1 f__law_mixed fd__law_mixed ["number", "k", "many"] (sp_mixed)) (F__law_mixed : Fun K "_law_mixed" "_law_mixed" s__law_mixed f__law_mixed fd__law_mixed) (b__law_mixed : Binds K fd__law_mixed ["number", "k", "many"] []) (m__law_mixed : mg "_law_mixed" = some (.ref f__law_mixed))
    : FnOk P w K mg base CX0 2 f fd ["script", "letters", "rooms"] (sp_waysby K) := by
  refine F.ok sc__law_ways_by (fun vs H Q E h => ?_) (fun cdv A outer s H vs Q E hr h => ?_)
  . obtain ⟨a, ns, L, n, rfl, _⟩ := h; rfl
  . obtain ⟨a, ns, L, n, rfl, hs, hL1, hL6, hn1, hn40, k⟩ := h
    have hl := line1000
    refine ⟨_, (pss_cons (ps_set (i := 3) sc__law_ways_by.nd rfl (Or.inl rfl) (pe_call g__law_cell_at (hr.mono (by decide)) rfl m__law_cell_at F__law_cell_at.kp b__law_cell_at .nil pass0 (pa_cons (pv 0) (pa_cons pe_int pa_nil))))
      (pss_cons (ps_set (i := 4) sc__law_ways_by.nd rfl (Or.inl rfl) (pe_lst pa_nil))
      (pss_cons (ps_for PassesOwn.never rfl (pi_range1 rfl T.range (pa_cons (pv 2) pa_nil)) (pg_name (i := 5) sc__law_ways_by.nd rfl (Or.inl rfl))
      (pss_cons (ps_set (i := 6) sc__law_ways_by.nd rfl (Or.inl rfl) (pe_lst pa_nil))
      (pss_cons (ps_for PassesOwn.never rfl (pi_range1 rfl T.range (pa_cons (pv 1) pa_nil)) (pg_name (i := 7) sc__law_ways_by.nd rfl (Or.inl rfl))
      (pss_cons (ps_set (i := 8) sc__law_ways_by.nd rfl (Or.inl rfl) (pe_op op_add (pe_op op_add pe_int (pe_op op_mul (pv 5) (pv 1))) (pv 7)))
      (pss_cons (ps_set (i := 9) sc__law_ways_by.nd rfl (Or.inl rfl) (pe_call g__law_mixed (hr.mono (by decide)) rfl m__law_mixed F__law_mixed.kp b__law_mixed .nil pass0 (pa_cons (pv 3) (pa_cons (pv 8) (pa_cons (pv 2) pa_nil)))))
      (pss_cut (ps_if (pt_cmpR op_lt (pv 8) (pe_callB call_len_seq (by rfl) T.len PySem.boot_len (pa_cons (pv 0) pa_nil)) (nomark _))
      (pss_one (ps_set (i := 9) sc__law_ways_by.nd rfl (Or.inl rfl) (pe_op op_mod (pe_ix ix_list (pv 0) (pv 8) (fun _ _ => rfl)) (pv 2))))
      pss_nil)
      (pss_cut (ps_if (PW.pt (pw_and (pt_cmpR op_eq (pe_op op_mod (pv 3) pe_int) pe_int (nomark _)) (pw_and1 (pt_cmpR op_eq (pv 7) (pe_op op_mod (pe_op op_fdiv (pv 3) pe_int) (pv 1)) (nomark _)))))
      (pss_one (ps_set (i := 9) sc__law_ways_by.nd rfl (Or.inl rfl) (pe_op op_mod (pe_op op_add (pv 5) pe_int) (pv 2))))
      pss_nil)
      (pss_cut (ps_if (pt_cmpR op_eq (pe_op op_mod (pv 3) pe_int) pe_int (nomark _))
      (pss_one (ps_set (i := 9) sc__law_ways_by.nd rfl (Or.inl rfl) (pv 5)))
      pss_nil)
      (pss_cut (ps_if (PW.pt (pw_and (pt_cmpR op_eq (pe_op op_mod (pv 3) pe_int) pe_int (nomark _)) (pw_and1 (pt_cmpR op_eq (pv 7) (pe_op op_mod (pe_op op_fdiv (pv 3) pe_int) (pv 1)) (nomark _)))))
      (pss_one (ps_set (i := 9) sc__law_ways_by.nd rfl (Or.inl rfl) (pe_callB (call_min2 rfl) rfl T.min PyProof.Rows.boot_min (pa_cons (pe_op op_add (pv 5) pe_int) (pa_cons (pe_op op_sub (pv 2) pe_int) pa_nil)))))
      pss_nil)
      (pss_one (ps_expr (pe_bm PySem.F.plainAttrs_list PySem.F.slot_list_append PySem.F.type_list_append mt_append (pv 6) (pa_cons (pv 9) pa_nil)))))))))))
      (pss_one (ps_expr (pe_bm PySem.F.plainAttrs_list PySem.F.slot_list_append PySem.F.type_list_append mt_append (pv 4) (pa_cons (pe_callTy call_tuple_of rfl T.tuple PyProof.Rows.boot_tuple (pa_cons (pv 6) pa_nil)) pa_nil)))))))
      (pss_one (ps_ret (pe_callTy call_tuple_of rfl T.tuple PyProof.Rows.boot_tuple (pa_cons (pv 4) pa_nil))))))), ?_⟩
    walk_at "rd"
    refine ⟨a, ns, 3, rfl, hs, ?_⟩
    walk_at "rd"
    generalize cell ns 3 = shape
    refine ⟨by omega, fun pw hpw => ⟨by omega, by omega, ?_⟩⟩
    rw [Int.toNat_natCast]
    obtain ⟨Pv, hPv⟩ : ∃ Pv : Nat -> St -> Hp -> Prop, ∀ i σ2 H2, Pv i σ2 H2 ↔ (∃ (ways : List (List Int)) (o1 o2 o3 o4 o5 : Option V), Same H H2 /\ TupsL K H2 pw ways /\ ways.length = i /\ (∀ row ∈ ways, (row.length : Int) = L /\ ∀ x ∈ row, 0 <= x /\ x < (n : Int)) /\ σ2 = [some (.ref a), some (.int L), some (.int n), some (.int shape), some (.ref pw), o1, o2, o3, o4, o5]) := ⟨_, fun _ _ _ => Iff.rfl⟩
    refine forR Pv ((hPv _ _ _).mpr ⟨[], none, none, none, none, none, Same.new hpw, TupsL.nil upd_same, rfl, (fun m hm => by cases hm), rfl⟩) (fun i σ2 H2 hi h2 => ?_) (fun σ2 H2 h2 => ?_)
    . obtain ⟨ways, o1, o2, o3, o4, o5, s2, hw2, hlen, hr', rfl⟩ := (hPv _ _ _).mp h2
      generalize hroom : (0 : Int) + (i : Nat) = room
      have hroom0 : 0 <= room := by omega
      have hroom1 : room < n := by omega
      walk_at "rd"
      refine ⟨by omega, fun pr hpr => ⟨by omega, by omega, ?_⟩⟩
      have hprn : H pr = none := s2.free hpr
      have sA := s2.newT hpr (o := .lst [])
      have hwA := hw2.mono (Same.new hpr (o := .lst []))
      have hrA : upd H2 pr (.lst []) pr = some (.lst (([] : List Int).map V.int)) := upd_same
      have hne : pw ≠ pr := by
        obtain ⟨ts, e, _⟩ := hw2
        exact ne_of_none e hpr
      generalize upd H2 pr (.lst []) = HA at sA hwA hrA ⊢
      obtain ⟨Pr, hPr⟩ : ∃ Pv : Nat -> St -> Hp -> Prop, ∀ j σ3 H3, Pv j σ3 H3 ↔ (∃ (row : List Int) (o3 o4 o5 : Option V), Same H H3 /\ TupsL K H3 pw ways /\ H3 pr = some (.lst (row.map V.int)) /\ row.length = j /\ (∀ x ∈ row, 0 <= x /\ x < (n : Int)) /\ σ3 = [some (.ref a), some (.int L), some (.int n), some (.int shape), some (.ref pw), some (.int room), some (.ref pr), o3, o4, o5]) := ⟨_, fun _ _ _ => Iff.rfl⟩
      refine forR Pr ((hPr _ _ _).mpr ⟨[], o3, o4, o5, sA, hwA, hrA, rfl, (fun m hm => by cases hm), rfl⟩) (fun j σ3 H3 hj h3 => ?_) (fun σ3 H3 h3 => ?_)
      . obtain ⟨row, o3, o4, o5, s3, hw3, hr3, hrl, hrr, rfl⟩ := (hPr _ _ _).mp h3
        generalize hlet : (0 : Int) + (j : Nat) = letter
        walk_at "rd"
        have hk0 : 0 <= room * L := Int.mul_nonneg hroom0 (by omega)
        have hk1 : room * L <= 40 * 6 := Int.mul_le_mul (by omega) (by omega) (by omega) (by omega)
        refine ⟨.inl ⟨by omega, by omega⟩, ?_⟩
        generalize hkk : 6 + room * L + letter = kk
        refine ⟨shape, kk, n, rfl, by omega, by omega, by omega, fun g0 hg00 hg01 => ?_⟩
        obtain ⟨R, hR⟩ : ∃ R : St -> Hp -> Prop, ∀ σ4 H4, R σ4 H4 ↔ (H4 = H3 /\ ∃ g : Int, 0 <= g /\ g < (n : Int) /\ σ4 = [some (.ref a), some (.int L), some (.int n), some (.int shape), some (.ref pw), some (.int room), some (.ref pr), some (.int letter), some (.int kk), some (.int g)]) := ⟨_, fun _ _ => Iff.rfl⟩
        refine ⟨R, ?_, fun σ4 H4 h4 => ⟨R, ?_, fun σ5 H5 h5 => ⟨R, ?_, fun σ6 H6 h6 => ⟨R, ?_, fun σ7 H7 h7 => ?_⟩⟩⟩⟩
        . walk_at "rd"
          refine ⟨_, .inl (s3.seq hs), ?_⟩
          rw [List.length_map]
          refine ite2 (fun hlt => ?_) (fun _ => (hR _ _).mpr ⟨rfl, g0, hg00, hg01, rfl⟩)
          have hk' : kk.toNat < ns.length := by omega
          refine ⟨_, s3.seq hs, _, atI_int (by omega) (v := ns[kk.toNat]) (by simp [hk']), ?_⟩
          walk_at "rd"
          exact ⟨by omega, (hR _ _).mpr ⟨rfl, _, Int.emod_nonneg _ (by omega), Int.emod_lt_of_pos _ (by omega), rfl⟩⟩
        . obtain ⟨rfl, g, hg0, hg1, rfl⟩ := (hR _ _).mp h4
          walk_at "rd"
          exact ⟨by decide, ite2 (fun _ => ⟨⟨by decide, by decide⟩, by omega, ite2 (fun _ => ⟨by omega, (hR _ _).mpr ⟨rfl, _, Int.emod_nonneg _ (by omega), Int.emod_lt_of_pos _ (by omega), rfl⟩⟩) (fun _ => h4)⟩) (fun _ => h4)⟩
        . obtain ⟨rfl, g, hg0, hg1, rfl⟩ := (hR _ _).mp h5
          walk_at "rd"
          exact ⟨by decide, ite2 (fun _ => (hR _ _).mpr ⟨rfl, room, hroom0, hroom1, rfl⟩) (fun _ => h5)⟩
        . obtain ⟨rfl, g, hg0, hg1, rfl⟩ := (hR _ _).mp h6
          walk_at "rd"
          exact ⟨by decide, ite2 (fun _ => ⟨⟨by decide, by decide⟩, by omega, ite2 (fun _ => (hR _ _).mpr ⟨rfl, _, by split <;> omega, by split <;> omega, rfl⟩) (fun _ => h6)⟩) (fun _ => h6)⟩
        . obtain ⟨rfl, g, hg0, hg1, rfl⟩ := (hR _ _).mp h7
          walk_at "rd"
          refine ⟨.inl ⟨rfl, _, SqL.of hr3⟩, _, hr3, by rw [List.length_map]; omega, (hPr _ _ _).mpr ⟨row ++ [g], _, _, _, s3.over hprn, hw3.off hr3 hne, by rw [upd_same]; simp, by simp [hrl], fun x hx => ?_, rfl⟩⟩
          rcases List.mem_append.mp hx with hx | hx
          . exact hrr x hx
          . rw [List.mem_singleton.mp hx]; exact ⟨hg0, hg1⟩
      . obtain ⟨row, o3, o4, o5, s3, hw3, hr3, hrl, hrr, rfl⟩ := (hPr _ _ _).mp h3
        walk_at "rd"
        obtain ⟨ts, e0, _⟩ := id hw3
        refine ⟨.inl ⟨rfl, _, SqL.of e0⟩, _, .inl ⟨SqL.of hr3, fun t ht => ?_⟩⟩
        obtain ⟨xs, e1, e2, hw4⟩ := (hw3.mono (Same.new ht (o := .tup (row.map V.int)))).push (w := row) (SqT.of upd_same)
        refine ⟨xs, e1, by omega, (hPv _ _ _).mpr ⟨ways ++ [row], _, _, _, _, _, (s3.newT ht).over hpw, hw4, by simp [hlen], fun r hr => ?_, rfl⟩⟩
        rcases List.mem_append.mp hr with hr | hr
        . exact hr' r hr
        . rw [List.mem_singleton.mp hr]; exact ⟨by omega, hrr⟩
    . obtain ⟨ways, o1, o2, o3, o4, o5, s2, hw2, hlen, hr', rfl⟩ := (hPv _ _ _).mp h2
      walk_at "rd"
      obtain ⟨xs, e1, hrows⟩ := hw2.rows
      refine ⟨_, .inl ⟨SqL.of e1, fun t ht => ?_⟩⟩
      exact k t ways _ (s2.newT ht) (hrows t ht) hlen hr'
def sp_blown (K : PySem.W.Frag) : Sp := fun vs H Q _ => ∃ (h : Addr) (L : Int) (marks : List Int) (ways : List (List Int)) (num : Int) (n : Nat), vs = [.ref h, .int num, .int n] /\ House K H h L marks ways /\ Wf L marks ways /\ n <= 40 /\ ∀ h' marks' ways' H', Same H H' -> House K H' h' L marks' ways' -> Wf L marks' ways' -> Q (.ref h') H'
theorem ok__law_blown {f : Addr} {fd : FuncData} (F : Fun K "_law_blown" "_law_blown" s__law_blown f fd) (T : Txt mg)
    (Z : Exs K mg C_AskError C_BadHouse)
    {f__law_mixed : Addr} {fd__law_mixed : FuncData} (g__law_mixed : FnOk P w K mg base CX0 1 f__law_mixed fd__law_mixed ["number", "k", "many"] (sp_mixed)) (F__law_mixed : Fun K "_law_mixed" "_law_mixed" s__law_mixed f__law_mixed fd__law_mixed) (b__law_mixed : Binds K fd__law_mixed ["number", "k", "many"] []) (m__law_mixed : mg "_law_mixed" = some (.ref f__law_mixed))
    : FnOk P w K mg base CX0 2 f fd ["house", "number", "rooms"] (sp_blown K) := by
  refine F.ok sc__law_blown (fun vs H Q E h => ?_) (fun cdv A outer s H vs Q E hr h => ?_)
  . obtain ⟨h, L, marks, ways, num, n, rfl, _⟩ := h; rfl
  . obtain ⟨h, L, marks, ways, num, n, rfl, hh, wf, hn40, k⟩ := h
    have hl := line1000
    have hL1 := wf.l1
    have hL6 := wf.l6
    have hs1 := wf.n1
    have hs40 := wf.n40
    refine ⟨_, (pss_cons (ps_set (i := 3) sc__law_blown.nd rfl (Or.inl rfl) (pe_callB call_len_seq (by rfl) T.len PySem.boot_len (pa_cons (pe_ix ix_tup (pv 0) pe_int (fun _ _ => rfl)) pa_nil)))
      (pss_cons (ps_set (i := 4) sc__law_blown.nd rfl (Or.inr rfl) (pe_listRng rfl rfl T.list rfl T.range (pv 3)))
      (pss_cons (ps_while PassesOwn.never (pt_cmpR op_lt (pe_callB call_len_seq (by rfl) T.len PySem.boot_len (pa_cons (pv 4) pa_nil)) (pv 2) (nomark _))
      (pss_one (ps_expr (pe_bm PySem.F.plainAttrs_list PySem.F.slot_list_append PySem.F.type_list_append mt_append (pv 4) (pa_cons (pe_call g__law_mixed (hr.mono (by decide)) rfl m__law_mixed F__law_mixed.kp b__law_mixed .nil pass0 (pa_cons (pv 1) (pa_cons (pe_callB call_len_seq (by rfl) T.len PySem.boot_len (pa_cons (pv 4) pa_nil)) (pa_cons (pv 3) pa_nil)))) pa_nil)))))
      (pss_cons (ps_set (i := 5) sc__law_blown.nd rfl (Or.inl rfl) (pe_lst pa_nil))
      (pss_cons (ps_for PassesOwn.never rfl (pi_range1 rfl T.range (pa_cons (pe_callB call_len_seq (by rfl) T.len PySem.boot_len (pa_cons (pv 4) pa_nil)) pa_nil)) (pg_name (i := 6) sc__law_blown.nd rfl (Or.inl rfl))
      (pss_cons (ps_set (i := 7) sc__law_blown.nd rfl (Or.inl rfl) (pe_lst pa_nil))
      (pss_cons (ps_for PassesOwn.never rfl (pi_range1 rfl T.range (pa_cons (pe_ix ix_tup (pv 0) pe_int (fun _ _ => rfl)) pa_nil)) (pg_name (i := 8) sc__law_blown.nd rfl (Or.inl rfl))
      (pss_cons (ps_set (i := 9) sc__law_blown.nd rfl (Or.inr rfl) (pe_ix ix_tup (pe_ix ix_tup (pe_ix ix_tup (pv 0) pe_int (fun _ _ => rfl)) (pe_ix ix_list (pv 4) (pv 6) (fun _ _ => rfl)) (fun _ _ => rfl)) (pv 8) (fun _ _ => rfl)))
      (pss_cons (ps_setC (i := 10) sc__law_blown.nd rfl rfl rfl (blk_mk rfl) (cp := c__law_blown_0) ⟨⟨rfl, rfl⟩, ⟨⟨rfl, rfl⟩, True.intro⟩⟩ (pi_range1 rfl T.range (pa_cons (pe_callB call_len_seq (by rfl) T.len PySem.boot_len (pa_cons (pv 4) pa_nil)) pa_nil)) (fun _ _ _ _ => (pg_name (i := 0) nd_c__law_blown_0 rfl (Or.inl rfl))) (fun _ _ _ _ => (pf_one (pt_cmpR op_eq (pe_ix (ix_listK (K := K) rfl) (pv 2) (pv 0) (fun _ _ => rfl)) (pv 1) (nomark _)))) (fun _ _ _ _ => (pv 0)))
      (pss_one (ps_expr (pe_bm PySem.F.plainAttrs_list PySem.F.slot_list_append PySem.F.type_list_append mt_append (pv 7) (pa_cons (pe_ix ix_list (pv 10) (pe_call g__law_mixed (hr.mono (by decide)) rfl m__law_mixed F__law_mixed.kp b__law_mixed .nil pass0 (pa_cons (pe_op op_add (pv 1) pe_int) (pa_cons (pe_op op_add (pe_op op_mul (pv 6) (pe_ix ix_tup (pv 0) pe_int (fun _ _ => rfl))) (pv 8)) (pa_cons (pe_callB call_len_seq (by rfl) T.len PySem.boot_len (pa_cons (pv 10) pa_nil)) pa_nil)))) (fun _ _ => rfl)) pa_nil)))))))
      (pss_one (ps_expr (pe_bm PySem.F.plainAttrs_list PySem.F.slot_list_append PySem.F.type_list_append mt_append (pv 5) (pa_cons (pe_callTy call_tuple_of rfl T.tuple PyProof.Rows.boot_tuple (pa_cons (pv 7) pa_nil)) pa_nil)))))))
      (pss_one (ps_ret (pe_tup (pa_cons (pe_ix ix_tup (pv 0) pe_int (fun _ _ => rfl)) (pa_cons (pe_callTy call_tuple_of rfl T.tuple PyProof.Rows.boot_tuple (pa_cons (pe_comp rfl (blk_mk rfl) (cp := c__law_blown_1) ⟨⟨rfl, rfl⟩, True.intro⟩ (pi_list (pv 4)) (fun _ _ _ _ => (pg_name (i := 0) nd_c__law_blown_1 rfl (Or.inl rfl))) (fun _ _ _ _ => pf_nil) (fun _ _ _ _ => (pe_ix (ix_tupK (K := K) rfl) (pe_ix (ix_tupK (K := K) rfl) (pv 1) pe_int (fun _ _ => rfl)) (pv 0) (fun _ _ => rfl)))) pa_nil)) (pa_cons (pe_callTy call_tuple_of rfl T.tuple PyProof.Rows.boot_tuple (pa_cons (pv 5) pa_nil)) pa_nil))))))))))), ?_⟩
    walk_at "rd"
    obtain ⟨tm, tw, q1, q2, q3⟩ := id hh
    refine ⟨_, q1, _, rfl, ?_⟩
    walk_at "rd"
    refine ⟨_, .inr q2, ?_⟩
    rw [List.length_map]
    refine ⟨by omega, by omega, fun pf hpf => ?_⟩
    rw [Int.toNat_natCast]
    obtain ⟨Pw, hPw⟩ : ∃ Pv : Nat -> St -> Hp -> Prop, ∀ m σ2 H2, Pv m σ2 H2 ↔ (∃ fold : List Int, m = 41 - fold.length /\ Same H H2 /\ H2 pf = some (.lst (fold.map V.int)) /\ marks.length <= fold.length /\ fold.length <= 40 /\ (∀ x ∈ fold, 0 <= x /\ x < (marks.length : Int)) /\ (∀ g : Nat, g < marks.length -> fold[g]? = some (g : Int)) /\ σ2 = [some (.ref h), some (.int num), some (.int n), some (.int marks.length), some (.ref pf), none, none, none, none, none, none]) := ⟨_, fun _ _ _ => Iff.rfl⟩
    refine whileW Pw ⟨_, (hPw _ _ _).mpr ⟨ups marks.length, rfl, Same.new hpf, by rw [upd_same], by simp [ups], by simp [ups]; omega, fun x hx => ?_, fun g hg => ?_, rfl⟩⟩ ?_
    . obtain ⟨i, hi, rfl⟩ := List.mem_map.mp hx
      have := List.mem_range.mp hi
      omega
    . unfold ups
      rw [List.getElem?_map, List.getElem?_range hg]; rfl
    intro m σ2 H2 hpw
    obtain ⟨fold, rfl, s2, hf2, hfl, hf40, hfr, hfg, rfl⟩ := (hPw _ _ _).mp hpw
    walk_at "rd"
    refine ⟨_, .inl (SqL.of hf2), ?_⟩
    rw [List.length_map]
    refine ite2 (fun hlt => ?_) (fun _ => ?_)
    . refine ⟨Pw (41 - (fold.length + 1)), fun σ' H' h => ⟨_, by omega, h⟩, ?_⟩
      refine ⟨.inl ⟨rfl, _, SqL.of hf2⟩, _, .inl (SqL.of hf2), ?_⟩
      rw [List.length_map]
      refine ⟨num, _, marks.length, rfl, by omega, by omega, by omega, fun x hx0 hx1 => ?_⟩
      walk_at "rd"
      refine ⟨_, hf2, by rw [List.length_map]; omega, (hPw _ _ _).mpr ⟨fold ++ [x], by simp, s2.over hpf, by rw [upd_same]; simp, by simp; omega, by simp; omega, fun y hy => ?_, fun g hg => ?_, rfl⟩⟩
      . rcases List.mem_append.mp hy with hy | hy
        . exact hfr y hy
        . rw [List.mem_singleton.mp hy]; exact ⟨hx0, hx1⟩
      . rw [List.getElem?_append_left (by omega)]; exact hfg g hg
    . clear hpw hPw Pw
      refine ⟨by omega, fun pw hpw => ⟨_, .inl (SqL.of (Same.new hpw _ _ hf2)), ?_⟩⟩
      rw [List.length_map]
      refine ⟨by omega, by omega, ?_⟩
      rw [Int.toNat_natCast]
      have hpwn : H pw = none := s2.free hpw
      have hnefw : pf ≠ pw := ne_of_none hf2 hpw
      have sB := s2.newT hpw (o := .lst [])
      have hfB := Same.new hpw (o := .lst []) _ _ hf2
      have hwB : upd H2 pw (.lst []) pw = some (.lst []) := upd_same
      generalize upd H2 pw (.lst []) = HB at sB hfB hwB ⊢
      obtain ⟨Pv, hPv⟩ : ∃ Pv : Nat -> St -> Hp -> Prop, ∀ i σ3 H3, Pv i σ3 H3 ↔ (∃ (ws : List (List Int)) (o6 o7 o8 o9 o10 : Option V), Same H H3 /\ H3 pf = some (.lst (fold.map V.int)) /\ TupsL K H3 pw ws /\ ws.length = i /\ (∀ row ∈ ws, (row.length : Int) = L /\ ∀ x ∈ row, 0 <= x /\ x < (fold.length : Int)) /\ σ3 = [some (.ref h), some (.int num), some (.int n), some (.int marks.length), some (.ref pf), some (.ref pw), o6, o7, o8, o9, o10]) := ⟨_, fun _ _ _ => Iff.rfl⟩
      refine forR Pv ((hPv _ _ _).mpr ⟨[], none, none, none, none, none, sB, hfB, TupsL.nil hwB, rfl, (fun r hr => by cases hr), rfl⟩) (fun i σ3 H3 hi h3 => ?_) (fun σ3 H3 h3 => ?_)
      . obtain ⟨ws, o6, o7, o8, o9, o10, s3, hf3, hw3, hwl, hwr, rfl⟩ := (hPv _ _ _).mp h3
        generalize hroom : (0 : Int) + (i : Nat) = room
        have hroom0 : 0 <= room := by omega
        have hroom1 : room < fold.length := by omega
        walk_at "rd"
        refine ⟨by omega, fun pr hpr => ⟨_, (s3.newT hpr).seqT q1, _, rfl, ?_⟩⟩
        walk_at "rd"
        refine ⟨by omega, by omega, ?_⟩
        have hprn : H pr = none := s3.free hpr
        have hnew : pw ≠ pr := by
          obtain ⟨ts, e, _⟩ := id hw3
          exact ne_of_none e hpr
        have hnef : pf ≠ pr := ne_of_none hf3 hpr
        have sC := s3.newT hpr (o := .lst [])
        have hfC := Same.new hpr (o := .lst []) _ _ hf3
        have hwC := hw3.mono (Same.new hpr (o := .lst []))
        have hrC : upd H3 pr (.lst []) pr = some (.lst (([] : List Int).map V.int)) := upd_same
        generalize upd H3 pr (.lst []) = HC at sC hfC hwC hrC ⊢
        obtain ⟨Pr, hPr⟩ : ∃ Pv : Nat -> St -> Hp -> Prop, ∀ j σ4 H4, Pv j σ4 H4 ↔ (∃ (row : List Int) (o8 o9 o10 : Option V), Same H H4 /\ H4 pf = some (.lst (fold.map V.int)) /\ TupsL K H4 pw ws /\ H4 pr = some (.lst (row.map V.int)) /\ row.length = j /\ (∀ x ∈ row, 0 <= x /\ x < (fold.length : Int)) /\ σ4 = [some (.ref h), some (.int num), some (.int n), some (.int marks.length), some (.ref pf), some (.ref pw), some (.int room), some (.ref pr), o8, o9, o10]) := ⟨_, fun _ _ _ => Iff.rfl⟩
        refine forR Pr ((hPr _ _ _).mpr ⟨[], _, _, _, sC, hfC, hwC, hrC, rfl, (fun r hr => by cases hr), rfl⟩) (fun j σ4 H4 hj h4 => ?_) (fun σ4 H4 h4 => ?_)
        . obtain ⟨row, o8, o9, o10, s4, hf4, hw4, hr4, hrl, hrr, rfl⟩ := (hPr _ _ _).mp h4
          generalize hlet : (0 : Int) + (j : Nat) = letter
          obtain ⟨fr, hfr1⟩ : ∃ fr, fold[room.toNat]? = some fr := ⟨fold[room.toNat]'(by omega), by simp [show room.toNat < fold.length by omega]⟩
          have hfr2 := hfr fr (List.mem_of_getElem? hfr1)
          obtain ⟨row0, g, r1, r2, r3, r4, r5⟩ := wf.step (x := letter) hfr2.1 hfr2.2 (by omega) (by omega)
          obtain ⟨xs, t, z1, z2, z3⟩ := q3.atZ hfr2.1 r1
          walk_at "rd"
          refine ⟨_, s4.seqT q1, _, rfl, ?_⟩
          walk_at "rd"
          refine ⟨_, SqL.of hf4, _, atI_int hroom0 hfr1, ?_⟩
          walk_at "rd"
          refine ⟨_, s4.seqT z1, _, z2, ?_⟩
          walk_at "rd"
          refine ⟨_, s4.seqT z3, _, atI_int (by omega) r2, ?_⟩
          walk_at "rd"
          refine ⟨_, .inl (SqL.of hf4), ?_⟩
          rw [List.length_map]
          refine ⟨by omega, by omega, ?_⟩
          rw [Int.toNat_natCast]
          obtain ⟨Pc, hPc⟩ : ∃ Pc : Nat -> List V -> St -> Hp -> Prop, ∀ c ys σ5 H5, Pc c ys σ5 H5 ↔ (H5 = H4 /\ ∃ (twins : List Int) (o : Option V), ys = twins.map V.int /\ twins.length <= c /\ (∀ x ∈ twins, 0 <= x /\ x < (fold.length : Int)) /\ (g.toNat < c -> twins ≠ []) /\ σ5 = [o, some (.int g), some (.ref pf)]) := ⟨_, fun _ _ _ _ => Iff.rfl⟩
          refine compR Pc ((hPc _ _ _ _).mpr ⟨rfl, [], none, rfl, Nat.le_refl _, (fun x hx => by cases hx), (fun z => absurd z (Nat.not_lt_zero _)), rfl⟩) (by omega) (fun c ys σ5 H5 _ h5 => ?_) (fun c ys σ5 H5 hc h5 => ?_) (fun ys σ5 H5 h5 D hD => ?_)
          . obtain ⟨_, twins, o, rfl, hlen, _⟩ := (hPc _ _ _ _).mp h5
            rw [List.length_map]; exact hlen
          . obtain ⟨rfl, twins, o, rfl, hlen, htr, htn, rfl⟩ := (hPc _ _ _ _).mp h5
            obtain ⟨fv, hfv⟩ : ∃ fv, fold[c]? = some fv := ⟨fold[c]'hc, by simp [hc]⟩
            have ec : (0 : Int) + (c : Nat) = (c : Int) := by omega
            rw [ec]
            walk_at "rd"
            refine ⟨_, SqL.of hf4, _, atI_int (by omega) (by rw [Int.toNat_natCast]; exact hfv), ?_⟩
            walk_at "rd"
            refine ite2 (fun he => ?_) (fun hne => ?_)
            . refine (hPc _ _ _ _).mpr ⟨rfl, twins ++ [(c : Int)], _, by simp, by simp; omega, fun x hx => ?_, (fun _ z => by simp at z), rfl⟩
              rcases List.mem_append.mp hx with hx | hx
              . exact htr x hx
              . rw [List.mem_singleton.mp hx]; omega
            . refine (hPc _ _ _ _).mpr ⟨rfl, twins, _, rfl, by omega, htr, fun hlt' => ?_, rfl⟩
              by_cases hgc : g.toNat = c
              . exfalso
                have := hfg c (by omega)
                rw [hfv] at this
                have e2 := Option.some.inj this
                apply hne
                omega
              . exact htn (by omega)
          . obtain ⟨rfl, twins, o, rfl, hlen, htr, htn, rfl⟩ := (hPc _ _ _ _).mp h5
            have hne : twins ≠ [] := htn (by omega)
            have hpos : 0 < twins.length := List.length_pos_iff.mpr hne
            have sD := Same.new hD (o := .lst (twins.map V.int))
            have hmul0 : 0 <= room * L := Int.mul_nonneg hroom0 (by omega)
            have hmul1 : room * L <= 40 * 6 := Int.mul_le_mul (by omega) (by omega) (by omega) (by omega)
            refine ⟨.inl ⟨rfl, _, SqL.of (sD _ _ hr4)⟩, _, (s4.trans sD).seqT q1, _, rfl, L, rfl, .inl ⟨by omega, by omega⟩, D, rfl, _, .inl (SqL.of upd_same), ?_⟩
            rw [List.length_map]
            refine ⟨_, _, _, rfl, by omega, by omega, by omega, fun x hx0 hx1 => ?_⟩
            have hxt : x.toNat < twins.length := by omega
            refine ⟨D, rfl, _, x, rfl, SqL.of upd_same, _, atI_int hx0 (v := twins[x.toNat]) (by simp [hxt]), _, sD _ _ hr4, by rw [List.length_map]; omega, (hPr _ _ _).mpr ⟨row ++ [twins[x.toNat]], _, _, _, (s4.trans sD).over hprn, ?_, (hw4.mono sD).off (sD _ _ hr4) hnew, by rw [upd_same]; simp, by simp [hrl], fun y hy => ?_, rfl⟩⟩
            . rw [upd_ne hnef]; exact sD _ _ hf4
            . rcases List.mem_append.mp hy with hy | hy
              . exact hrr y hy
              . rw [List.mem_singleton.mp hy]; exact htr _ (List.getElem_mem hxt)
        . obtain ⟨row, o8, o9, o10, s4, hf4, hw4, hr4, hrl, hrr, rfl⟩ := (hPr _ _ _).mp h4
          walk_at "rd"
          obtain ⟨ts, e0, _⟩ := id hw4
          refine ⟨.inl ⟨rfl, _, SqL.of e0⟩, _, .inl ⟨SqL.of hr4, fun t ht => ?_⟩⟩
          obtain ⟨xs, e1, e2, hw5⟩ := (hw4.mono (Same.new ht (o := .tup (row.map V.int)))).push (w := row) (SqT.of upd_same)
          refine ⟨xs, e1, by omega, (hPv _ _ _).mpr ⟨ws ++ [row], _, _, _, _, _, (s4.newT ht).over hpwn, ?_, hw5, by simp [hwl], fun r hr => ?_, rfl⟩⟩
          . rw [upd_ne hnefw]; exact Same.new ht _ _ hf4
          . rcases List.mem_append.mp hr with hr | hr
            . exact hwr r hr
            . rw [List.mem_singleton.mp hr]; exact ⟨by omega, hrr⟩
      . obtain ⟨ws, o6, o7, o8, o9, o10, s3, hf3, hw3, hwl, hwr, rfl⟩ := (hPv _ _ _).mp h3
        walk_at "rd"
        refine ⟨_, s3.seqT q1, _, rfl, ⟨_, SqL.of hf3⟩, compMapL (σ' := [some (.ref h)]) (fun x => match x with | .int n => .int (mkW marks n) | _ => .non) rfl (SqL.of hf3) (by rw [List.length_map]; omega) (fun x hx R hR => ?_) (fun Dm hDm => ?_)⟩
        . obtain ⟨y, hy, rfl⟩ := mem_mapI hx
          have hin := hfr y hy
          walk_at "rd"
          refine ⟨_, s3.seqT q1, _, rfl, ?_⟩
          walk_at "rd"
          exact ⟨_, s3.seqT q2, _, mkW_at hin.1 hin.2, hR⟩
        have em : (fold.map V.int).map (fun x => match x with | .int n => .int (mkW marks n) | _ => .non) = (fold.map (mkW marks)).map V.int := by rw [List.map_map, List.map_map]; rfl
        rw [em]
        refine ⟨Dm, rfl, _, .inl ⟨SqL.of upd_same, fun t1 ht1 => ?_⟩⟩
        obtain ⟨xs, hx1, hrows⟩ := (hw3.mono ((Same.new hDm (o := .lst ((fold.map (mkW marks)).map V.int))).newT ht1 (o := .tup ((fold.map (mkW marks)).map V.int)))).rows
        refine ⟨xs, .inl ⟨SqL.of hx1, fun t2 ht2 => ⟨by omega, fun h9 hh9 => ?_⟩⟩⟩
        refine k h9 (fold.map (mkW marks)) ws _ ((((s3.newT hDm).newT ht1).newT ht2).newT hh9) ⟨t1, t2, SqT.of upd_same, ((Same.new ht2).newT hh9).seqT (SqT.of upd_same), (hrows t2 ht2).mono (Same.new hh9)⟩ ⟨hL1, hL6, by rw [List.length_map]; omega, by rw [List.length_map]; omega, by rw [List.length_map]; omega, fun row hr => by rw [List.length_map]; exact hwr row hr, fun m hm => ?_⟩
        obtain ⟨y, hy, rfl⟩ := List.mem_map.mp hm
        have hin := hfr y hy
        exact wf.mks _ (mkW_in hin.1 hin.2)
def sp_houseby (K : PySem.W.Frag) : Sp := fun vs H Q _ => ∃ (a : Addr) (ns : List Int), vs = [.ref a] /\ SqL K H a (ns.map V.int) /\ ∀ h L marks ways H', Same H H' -> House K H' h L marks ways -> Wf L marks ways -> Q (.ref h) H'
theorem ok__law_house_by {f : Addr} {fd : FuncData} (F : Fun K "_law_house_by" "_law_house_by" s__law_house_by f fd) (T : Txt mg)
    (Z : Exs K mg C_AskError C_BadHouse)
    {f__law_cell_at : Addr} {fd__law_cell_at : FuncData} (g__law_cell_at : FnOk P w K mg base CX0 1 f__law_cell_at fd__law_cell_at ["script", "k"] (sp_cell K)) (F__law_cell_at : Fun K "_law_cell_at" "_law_cell_at" s__law_cell_at f__law_cell_at fd__law_cell_at) (b__law_cell_at : Binds K fd__law_cell_at ["script", "k"] []) (m__law_cell_at : mg "_law_cell_at" = some (.ref f__law_cell_at))
    {f__law_marks_by : Addr} {fd__law_marks_by : FuncData} (g__law_marks_by : FnOk P w K mg base CX0 2 f__law_marks_by fd__law_marks_by ["number", "rooms"] (sp_marksby K)) (F__law_marks_by : Fun K "_law_marks_by" "_law_marks_by" s__law_marks_by f__law_marks_by fd__law_marks_by) (b__law_marks_by : Binds K fd__law_marks_by ["number", "rooms"] []) (m__law_marks_by : mg "_law_marks_by" = some (.ref f__law_marks_by))
    {f__law_ways_by : Addr} {fd__law_ways_by : FuncData} (g__law_ways_by : FnOk P w K mg base CX0 2 f__law_ways_by fd__law_ways_by ["script", "letters", "rooms"] (sp_waysby K)) (F__law_ways_by : Fun K "_law_ways_by" "_law_ways_by" s__law_ways_by f__law_ways_by fd__law_ways_by) (b__law_ways_by : Binds K fd__law_ways_by ["script", "letters", "rooms"] []) (m__law_ways_by : mg "_law_ways_by" = some (.ref f__law_ways_by))
    {f__law_blown : Addr} {fd__law_blown : FuncData} (g__law_blown : FnOk P w K mg base CX0 2 f__law_blown fd__law_blown ["house", "number", "rooms"] (sp_blown K)) (F__law_blown : Fun K "_law_blown" "_law_blown" s__law_blown f__law_blown fd__law_blown) (b__law_blown : Binds K fd__law_blown ["house", "number", "rooms"] []) (m__law_blown : mg "_law_blown" = some (.ref f__law_blown))
    : FnOk P w K mg base CX0 3 f fd ["script"] (sp_houseby K) := by
  refine F.ok sc__law_house_by (fun vs H Q E h => ?_) (fun cdv A outer s H vs Q E hr h => ?_)
  . obtain ⟨a, ns, rfl, _⟩ := h; rfl
  . obtain ⟨a, ns, rfl, hs, k⟩ := h
    have hl := line1000
    refine ⟨_, (pss_cons (ps_set (i := 1) sc__law_house_by.nd rfl (Or.inl rfl) (pe_op op_add pe_int (pe_op op_mod (pe_op op_add (pe_call g__law_cell_at (hr.mono (by decide)) rfl m__law_cell_at F__law_cell_at.kp b__law_cell_at .nil pass0 (pa_cons (pv 0) (pa_cons pe_int pa_nil))) pe_int) pe_int)))
      (pss_cons (ps_set (i := 2) sc__law_house_by.nd rfl (Or.inl rfl) (pe_op op_add pe_int (pe_op op_mod (pe_op op_add (pe_call g__law_cell_at (hr.mono (by decide)) rfl m__law_cell_at F__law_cell_at.kp b__law_cell_at .nil pass0 (pa_cons (pv 0) (pa_cons pe_int pa_nil))) pe_int) pe_int)))
      (pss_cut (ps_if (pt_cmpR op_eq (pe_op op_mod (pe_op op_fdiv (pe_call g__law_cell_at (hr.mono (by decide)) rfl m__law_cell_at F__law_cell_at.kp b__law_cell_at .nil pass0 (pa_cons (pv 0) (pa_cons pe_int pa_nil))) pe_int) pe_int) pe_int (nomark _))
      (pss_one (ps_set (i := 2) sc__law_house_by.nd rfl (Or.inl rfl) (pe_op op_add pe_int (pe_op op_mod (pe_op op_fdiv (pe_call g__law_cell_at (hr.mono (by decide)) rfl m__law_cell_at F__law_cell_at.kp b__law_cell_at .nil pass0 (pa_cons (pv 0) (pa_cons pe_int pa_nil))) pe_int) pe_int))))
      pss_nil)
      (pss_cons (ps_set (i := 3) sc__law_house_by.nd rfl (Or.inl rfl) (pe_call g__law_marks_by (hr.mono (by decide)) rfl m__law_marks_by F__law_marks_by.kp b__law_marks_by .nil pass0 (pa_cons (pe_call g__law_cell_at (hr.mono (by decide)) rfl m__law_cell_at F__law_cell_at.kp b__law_cell_at .nil pass0 (pa_cons (pv 0) (pa_cons pe_int pa_nil))) (pa_cons (pv 2) pa_nil))))
      (pss_cons (ps_set (i := 4) sc__law_house_by.nd rfl (Or.inl rfl) (pe_tup (pa_cons (pv 1) (pa_cons (pv 3) (pa_cons (pe_call g__law_ways_by (hr.mono (by decide)) rfl m__law_ways_by F__law_ways_by.kp b__law_ways_by .nil pass0 (pa_cons (pv 0) (pa_cons (pv 1) (pa_cons (pv 2) pa_nil)))) pa_nil)))))
      (pss_cons (ps_set (i := 5) sc__law_house_by.nd rfl (Or.inl rfl) (pe_call g__law_cell_at (hr.mono (by decide)) rfl m__law_cell_at F__law_cell_at.kp b__law_cell_at .nil pass0 (pa_cons (pv 0) (pa_cons pe_int pa_nil))))
      (pss_cut (ps_if (pt_cmpR op_eq (pe_op op_mod (pv 5) pe_int) pe_int (nomark _))
      (pss_one (ps_set (i := 4) sc__law_house_by.nd rfl (Or.inl rfl) (pe_call g__law_blown (hr.mono (by decide)) rfl m__law_blown F__law_blown.kp b__law_blown .nil pass0 (pa_cons (pv 4) (pa_cons (pv 5) (pa_cons (pe_callB (call_min2 rfl) rfl T.min PyProof.Rows.boot_min (pa_cons pe_int (pa_cons (pe_op op_add (pe_op op_add (pv 2) pe_int) (pe_op op_mod (pe_op op_fdiv (pv 5) pe_int) pe_int)) pa_nil))) pa_nil))))))
      pss_nil)
      (pss_one (ps_ret (pv 4)))))))))), ?_⟩
    walk_at "rd"
    refine ⟨a, ns, 0, rfl, hs, ?_⟩
    walk_at "rd"
    refine ⟨by decide, a, ns, 1, rfl, hs, ?_⟩
    walk_at "rd"
    have hL1 : 1 <= 1 + (cell ns 0 + 1) % 6 := by omega
    have hL6 : 1 + (cell ns 0 + 1) % 6 <= 6 := by omega
    generalize 1 + (cell ns 0 + 1) % 6 = L at hL1 hL6 ⊢
    obtain ⟨R, hR⟩ : ∃ R : St -> Hp -> Prop, ∀ σ' H', R σ' H' ↔ (H' = H /\ ∃ n : Nat, 1 <= n /\ n <= 40 /\ σ' = [some (.ref a), some (.int L), some (.int n), none, none, none]) := ⟨_, fun _ _ => Iff.rfl⟩
    refine ⟨by decide, R, ?_, ?_⟩
    . walk_at "rd"
      refine ⟨a, ns, 1, rfl, hs, ?_⟩
      walk_at "rd"
      refine ⟨⟨by decide, by decide⟩, by decide, ite2 (fun _ => ?_) (fun _ => ?_)⟩
      . refine ⟨a, ns, 1, rfl, hs, ?_⟩
        walk_at "rd"
        refine ⟨⟨by decide, by decide⟩, by decide, (hR _ _).mpr ⟨rfl, (1 + cell ns 1 / 28 % 40).toNat, by omega, by omega, ?_⟩⟩
        rw [show (((1 + cell ns 1 / 28 % 40).toNat : Nat) : Int) = 1 + cell ns 1 / 28 % 40 by omega]
      . refine (hR _ _).mpr ⟨rfl, (1 + (cell ns 1 + 4) % 7).toNat, by omega, by omega, ?_⟩
        rw [show (((1 + (cell ns 1 + 4) % 7).toNat : Nat) : Int) = 1 + (cell ns 1 + 4) % 7 by omega]
    . intro σ' H' h'
      obtain ⟨rfl, n, hn1, hn40, rfl⟩ := (hR _ _).mp h'
      walk_at "rd"
      refine ⟨a, ns, 2, rfl, hs, ?_⟩
      walk_at "rd"
      refine ⟨_, n, rfl, hn1, hn40, fun tm marks H1 s1 htm hml hmr => ?_⟩
      walk_at "rd"
      refine ⟨a, ns, L, n, rfl, s1.seq hs, hL1, hL6, hn1, hn40, fun tw ways H2 s2 hrows hwl hwr => ?_⟩
      walk_at "rd"
      refine ⟨by omega, fun h hh => ?_⟩
      have wf : Wf L marks ways := ⟨hL1, hL6, by omega, by omega, by omega, fun row hr => by rw [hml]; exact hwr row hr, hmr⟩
      have hs3 := (s1.trans s2).newT hh (o := .tup [V.int L, V.ref tm, V.ref tw])
      have hs2h : House K (upd H2 h (.tup [V.int L, V.ref tm, V.ref tw])) h L marks ways := ⟨tm, tw, SqT.of upd_same, (s2.newT hh).seqT htm, hrows.mono (Same.new hh)⟩
      generalize upd H2 h (.tup [V.int L, V.ref tm, V.ref tw]) = H3 at hs3 hs2h ⊢
      refine ⟨a, ns, 4, rfl, hs3.seq hs, ?_⟩
      walk_at "rd"
      obtain ⟨R2, hR2⟩ : ∃ R : St -> Hp -> Prop, ∀ σ4 H4, R σ4 H4 ↔ (∃ (h : Addr) (marks : List Int) (ways : List (List Int)) (o1 o2 o3 : Option V), Same H' H4 /\ House K H4 h L marks ways /\ Wf L marks ways /\ σ4 = [some (.ref a), some (.int L), o1, o2, some (.ref h), o3]) := ⟨_, fun _ _ => Iff.rfl⟩
      refine ⟨R2, ?_, ?_⟩
      . walk_at "rd"
        refine ⟨by decide, ite2 (fun _ => ⟨⟨by decide, by decide⟩, by decide, ?_⟩) (fun _ => (hR2 _ _).mpr ⟨h, marks, ways, _, _, _, hs3, hs2h, wf, rfl⟩)⟩
        have hx0 := Int.emod_nonneg (cell ns 4 / 3) (show (8 : Int) ≠ 0 by decide)
        obtain ⟨m, hm, hm40⟩ : ∃ m : Nat, (if (n : Int) + 1 + cell ns 4 / 3 % 8 < 40 then (n : Int) + 1 + cell ns 4 / 3 % 8 else 40) = (m : Int) /\ m <= 40 := by
          refine ⟨(if (n : Int) + 1 + cell ns 4 / 3 % 8 < 40 then (n : Int) + 1 + cell ns 4 / 3 % 8 else 40).toNat, ?_, ?_⟩ <;> split <;> omega
        rw [hm]
        refine ⟨h, L, marks, ways, _, m, rfl, hs2h, wf, hm40, fun h' marks' ways' H4 s4 hh' wf' => ?_⟩
        exact (hR2 _ _).mpr ⟨h', marks', ways', _, _, _, hs3.trans s4, hh', wf', rfl⟩
      . intro σ4 H4 h4
        obtain ⟨h, marks, ways, o1, o2, o3, s4, hh4, wf4, rfl⟩ := (hR2 _ _).mp h4
        walk_at "rd"
        exact k h L marks ways H4 s4 hh4 wf4
def sp_spoil15 (K : PySem.W.Frag) : Sp := fun vs H Q _ => ∃ (h : Addr) (L : Int) (marks : List Int) (ways : List (List Int)) (num : Int), vs = [.ref h, .int num] /\ House K H h L marks ways /\ Wf L marks ways /\ ∀ h' marks' ways' H', Same H H' -> House K H' h' L marks' ways' -> Wf L marks' ways' -> Q (.ref h') H'
theorem ok__law_spoiled {f : Addr} {fd : FuncData} (F : Fun K "_law_spoiled" "_law_spoiled" s__law_spoiled f fd) (T : Txt mg)
    (Z : Exs K mg C_AskError C_BadHouse)
    : FnOk P w K mg base CX0 1 f fd ["house", "number"] (sp_spoil15 K) := by
  refine F.ok sc__law_spoiled (fun vs H Q E h => ?_) (fun cdv A outer s H vs Q E hr h => ?_)
  . obtain ⟨h, L, marks, ways, num, rfl, _⟩ := h; rfl
  . obtain ⟨h, L, marks, ways, num, rfl, hh, wf, k⟩ := h
    have hl := line1000
    have hL1 := wf.l1
    have hL6 := wf.l6
    have hn1 := wf.n1
    have hn40 := wf.n40
    obtain ⟨tm, tw, q1, q2, q3⟩ := id hh
    refine ⟨_, (pss_cons (ps_set (i := 2) sc__law_spoiled.nd rfl (Or.inr rfl) (pe_callTy call_list_of rfl T.list PyProof.Rows.boot_list (pa_cons (pe_ix ix_tup (pv 0) pe_int (fun _ _ => rfl)) pa_nil)))
      (pss_cut (ps_set (i := 3) sc__law_spoiled.nd rfl (Or.inr rfl) (pe_comp rfl (blk_mk rfl) (cp := c__law_spoiled_0) True.intro (pi_tup (pe_ix ix_tup (pv 0) pe_int (fun _ _ => rfl))) (fun _ _ _ _ => (pg_name (i := 0) nd_c__law_spoiled_0 rfl (Or.inl rfl))) (fun _ _ _ _ => pf_nil) (fun _ _ _ _ => (pe_callTy (call_list_ofK (K := K) rfl) rfl T.list PyProof.Rows.boot_list (pa_cons (pv 0) pa_nil)))))
      (pss_cons (ps_set (i := 4) sc__law_spoiled.nd rfl (Or.inr rfl) (pe_op op_mod (pe_op op_fdiv (pv 1) pe_int) (pe_callB call_len_seq (by rfl) T.len PySem.boot_len (pa_cons (pv 2) pa_nil))))
      (pss_cut (ps_if (pt_cmpR op_eq (pe_op op_mod (pv 1) pe_int) pe_int (nomark _))
      (pss_one (ps_asg (pe_op op_mod (pe_op op_add (pe_op op_add (pe_ix ix_list (pv 2) (pv 4) (fun _ _ => rfl)) pe_int) (pe_op op_mod (pe_op op_fdiv (pv 1) pe_int) pe_int)) pe_int) (pg_sub (pv 2) (pv 4) set_list)))
      pss_nil)
      (pss_cut (ps_if (pt_cmpR op_eq (pe_op op_mod (pv 1) pe_int) pe_int (nomark _))
      (pss_cons (ps_set (i := 5) sc__law_spoiled.nd rfl (Or.inr rfl) (pe_op op_mod (pe_op op_fdiv (pv 1) pe_int) (pe_ix ix_tup (pv 0) pe_int (fun _ _ => rfl))))
      (pss_cons (ps_setC (i := 6) sc__law_spoiled.nd rfl rfl rfl (blk_mk rfl) (cp := c__law_spoiled_1) ⟨⟨rfl, rfl⟩, ⟨⟨rfl, rfl⟩, ⟨⟨rfl, rfl⟩, ⟨⟨rfl, rfl⟩, True.intro⟩⟩⟩⟩ (pi_range1 rfl T.range (pa_cons (pe_callB call_len_seq (by rfl) T.len PySem.boot_len (pa_cons (pv 2) pa_nil)) pa_nil)) (fun _ _ _ _ => (pg_name (i := 0) nd_c__law_spoiled_1 rfl (Or.inl rfl))) (fun _ _ _ _ => (pf_one (pt_cmpR op_eq (pe_ix (ix_listK (K := K) rfl) (pv 1) (pv 0) (fun _ _ => rfl)) (pe_ix (ix_listK (K := K) rfl) (pv 1) (pe_ix (ix_listK (K := K) rfl) (pe_ix (ix_listK (K := K) rfl) (pv 3) (pv 4) (fun _ _ => rfl)) (pv 2) (fun _ _ => rfl)) (fun _ _ => rfl)) (nomark _)))) (fun _ _ _ _ => (pv 0)))
      (pss_one (ps_asg (pe_ix ix_list (pv 6) (pe_op op_mod (pe_op op_fdiv (pv 1) pe_int) (pe_callB call_len_seq (by rfl) T.len PySem.boot_len (pa_cons (pv 6) pa_nil))) (fun _ _ => rfl)) (pg_sub (pe_ix ix_list (pv 3) (pv 4) (fun _ _ => rfl)) (pv 5) set_list)))))
      pss_nil)
      (pss_one (ps_ret (pe_tup (pa_cons (pe_ix ix_tup (pv 0) pe_int (fun _ _ => rfl)) (pa_cons (pe_callTy call_tuple_of rfl T.tuple PyProof.Rows.boot_tuple (pa_cons (pv 2) pa_nil)) (pa_cons (pe_callTy call_tuple_of rfl T.tuple PyProof.Rows.boot_tuple (pa_cons (pe_comp rfl (blk_mk rfl) (cp := c__law_spoiled_2) True.intro (pi_list (pv 3)) (fun _ _ _ _ => (pg_name (i := 0) nd_c__law_spoiled_2 rfl (Or.inl rfl))) (fun _ _ _ _ => pf_nil) (fun _ _ _ _ => (pe_callTy (call_tuple_ofK (K := K) rfl) rfl T.tuple PyProof.Rows.boot_tuple (pa_cons (pv 0) pa_nil)))) pa_nil)) pa_nil))))))))))), ?_⟩
    walk_at "rd"
    refine ⟨_, q1, _, rfl, ?_⟩
    walk_at "rd"
    refine ⟨_, .inr q2, fun pm hpm => ?_⟩
    have sm := Same.new (o := .lst (marks.map V.int)) hpm
    have hm0 : upd H pm (.lst (marks.map V.int)) pm = some (.lst (marks.map V.int)) := upd_same
    generalize upd H pm (.lst (marks.map V.int)) = H0 at sm hm0 ⊢
    obtain ⟨R, hR⟩ : ∃ R : St -> Hp -> Prop, ∀ σ' H', R σ' H' ↔ (∃ (pw : Addr) (xs : List V) (marks' : List Int) (ways' : List (List Int)) (room : Int) (o5 o6 : Option V), Same H H' /\ H0 pw = none /\ H' pm = some (.lst (marks'.map V.int)) /\ H' pw = some (.lst xs) /\ LLs H0 H' xs ways' /\ pw ≠ pm /\ 0 <= room /\ room < marks.length /\ marks'.length = marks.length /\ Wf L marks' ways' /\ σ' = [some (.ref h), some (.int num), some (.ref pm), some (.ref pw), some (.int room), o5, o6]) := ⟨_, fun _ _ => Iff.rfl⟩
    obtain ⟨R1, hR1⟩ : ∃ R : St -> Hp -> Prop, ∀ σ' H', R σ' H' ↔ (∃ (pw : Addr) (xs : List V), Same H0 H' /\ H0 pw = none /\ H' pw = some (.lst xs) /\ LLs H0 H' xs ways /\ σ' = [some (.ref h), some (.int num), some (.ref pm), some (.ref pw), none, none, none]) := ⟨_, fun _ _ => Iff.rfl⟩
    refine ⟨R1, ?_, fun σ1 H1 h1 => ?_⟩
    . obtain ⟨tm', tw', y1, y2, y3⟩ := hh.mono sm
      obtain ⟨ts, z1, z2, z3⟩ := id y3
      walk_at "rd"
      refine ⟨_, y1, _, rfl, ?_⟩
      walk_at "rd"
      refine ⟨⟨_, z1⟩, ?_⟩
      have hlen := wf.len
      refine compT (xs := ts.map V.ref) (fun i ys σ2 H2 => Same H0 H2 /\ LLs H0 H2 ys (ways.take i) /\ ∃ o, σ2 = [o]) ⟨Same.refl _, by rw [List.take_zero]; exact LLs.nil _ _, none, rfl⟩ (by rw [List.length_map]; omega) (fun i ys σ2 H2 _ h => ⟨h.1.seqT z1, by rw [h.2.1.len, List.length_take]; omega⟩) (fun i x ys σ2 H2 hx h => ?_) (fun ys σ2 H2 h => ?_)
      . obtain ⟨s2, hLL, o, rfl⟩ := h
        have hi : i < ts.length := by have := (List.getElem?_eq_some_iff.mp hx).1; rwa [List.length_map] at this
        have hti : ts[i]? = some ts[i] := by simp [hi]
        rw [List.getElem?_map, hti] at hx
        cases hx
        have hwi : ways[i]? = some ways[i] := by simp [show i < ways.length by omega]
        walk_at "rd"
        refine ⟨_, .inr (s2.seqT (z3 i _ _ hti hwi)), fun l hl' => ⟨s2.newT hl', ?_, _, rfl⟩⟩
        rw [List.take_add_one, hwi]
        exact hLL.snoc (Same.none s2 hl') hl'
      . obtain ⟨s2, hLL, o, rfl⟩ := h
        rw [List.length_map, z2, List.take_length] at hLL
        intro D hD
        exact (hR1 _ _).mpr ⟨D, ys, s2.newT hD, Same.none s2 hD, upd_same, hLL.mono (Same.new hD), rfl⟩
    obtain ⟨pw, xs, s1, hpw0, hpw, hLL, rfl⟩ := (hR1 _ _).mp h1
    have hpmw : pw ≠ pm := fun z => by rw [z, hm0] at hpw0; cases hpw0
    have hHpw : H pw = none := Same.none sm hpw0
    walk_at "rd"
    refine ⟨(show CDiv num 3 from ⟨by omega, by omega⟩), _, .inl (SqL.of (s1 _ _ hm0)), ?_⟩
    rw [List.length_map]
    refine ⟨by omega, ?_⟩
    have r0 := Int.emod_nonneg (num / 3) (show (marks.length : Int) ≠ 0 by omega)
    have r1 := Int.emod_lt_of_pos (num / 3) (show (0 : Int) < marks.length by omega)
    generalize num / 3 % (marks.length : Int) = room at r0 r1 ⊢
    refine ⟨R, ?_, fun σ2 H2 h2 => ?_⟩
    . walk_at "rd"
      refine ⟨by omega, ite2 (fun h3 => ?_) (fun h3 => (hR _ _).mpr ⟨pw, xs, marks, ways, room, none, none, sm.trans s1, hpw0, s1 _ _ hm0, hpw, hLL, hpmw, r0, r1, rfl, wf, rfl⟩)⟩
      have hi : room.toNat < marks.length := by omega
      have m0 := Int.emod_nonneg (marks[room.toNat] + 1 + num / 120 % 1000000000) (show (1000000001 : Int) ≠ 0 by omega)
      have m1 := Int.emod_lt_of_pos (marks[room.toNat] + 1 + num / 120 % 1000000000) (show (0 : Int) < 1000000001 by omega)
      refine ⟨_, SqL.of (s1 _ _ hm0), _, atI_int r0 (show marks[room.toNat]? = some marks[room.toNat] by simp [hi]), _, rfl, (show CDiv num 120 from ⟨by omega, by omega⟩), by omega, by omega, _, s1 _ _ hm0, room.toNat, ixN_in r0 (by rw [List.length_map]; exact r1), ?_⟩
      generalize (marks[room.toNat] + 1 + num / 120 % 1000000000) % 1000000001 = mk at m0 m1 ⊢
      refine (hR _ _).mpr ⟨pw, xs, marks.set room.toNat mk, ways, room, none, none, (sm.trans s1).over hpm, hpw0, by rw [upd_same, set_ints], by rw [upd_ne hpmw]; exact hpw, hLL.off hm0, hpmw, r0, r1, by rw [List.length_set], wf.setM _ ⟨m0, by omega⟩, rfl⟩
    clear hLL hpw s1 h1
    obtain ⟨pw, xs, marks', ways', room, o5, o6, s2, hpw0, hm2, hw2, hLL, hne, r0, r1, hml, wf', rfl⟩ := (hR _ _).mp h2
    refine ⟨R, ?_, fun σ3 H3 h3 => ?_⟩
    . walk_at "rd"
      refine ⟨by omega, ite2 (fun h3 => ?_) (fun h3 => h2)⟩
      obtain ⟨tm', tw', y1, y2, y3⟩ := hh.mono s2
      have l0 := Int.emod_nonneg (num / 120) (show L ≠ 0 by omega)
      have l1 := Int.emod_lt_of_pos (num / 120) (show (0 : Int) < L by omega)
      refine ⟨(show CDiv num 120 from ⟨by omega, by omega⟩), _, y1, _, rfl, _, rfl, by omega, _, .inl (SqL.of hm2), by omega, by rw [List.length_map]; omega, ?_⟩
      generalize num / 120 % L = letter at l0 l1 ⊢
      rw [List.length_map, Int.toNat_natCast]
      have hn' := wf'.n40
      obtain ⟨row, hrow, hrm, hrl⟩ := wf'.row r0 (by omega)
      obtain ⟨t, hxt, ht, ht0, hset⟩ := hLL.at hrow
      have hlt : letter.toNat < row.length := by omega
      have hg : row[letter.toNat]? = some row[letter.toNat] := by simp [hlt]
      have hgr := (wf'.rows row hrm).2 row[letter.toNat] (List.getElem_mem hlt)
      generalize row[letter.toNat] = g0 at hg hgr
      refine compR (fun i ys σ4 H4 => H4 = H2 /\ (∃ gs : List Int, ys = gs.map V.int /\ gs.length <= i /\ (∀ g ∈ gs, 0 <= g /\ g < marks'.length) /\ (g0 < i -> gs ≠ [])) /\ ∃ o, σ4 = [o, some (.ref pm), some (.int letter), some (.ref pw), some (.int room)]) ⟨rfl, ⟨[], rfl, by simp, by simp, fun h => absurd h (by push_cast; omega)⟩, none, rfl⟩ (by omega) (fun i ys σ4 H4 _ h => by obtain ⟨_, ⟨gs, rfl, h, _⟩, _⟩ := h; rw [List.length_map]; exact h) (fun i ys σ4 H4 hi h => ?_) (fun ys σ4 H4 h => ?_)
      . obtain ⟨rfl, ⟨gs, rfl, hgl, hgi, hgn⟩, o, rfl⟩ := h
        have ei : (0 : Int) + (i : Nat) = (i : Int) := by omega
        rw [ei]
        walk_at "rd"
        refine ⟨_, SqL.of hm2, _, mkW_at (by omega) (by omega), _, SqL.of hw2, _, atI_of r0 hxt, ?_⟩
        walk_at "rd"
        refine ⟨_, SqL.of ht, _, atI_int l0 hg, _, _, rfl, SqL.of hm2, _, mkW_at hgr.1 hgr.2, rfl, ?_⟩
        by_cases he : mkW marks' (i : Int) = mkW marks' g0
        . rw [if_pos (congrArg V.int he)]
          refine ⟨⟨gs ++ [(i : Int)], by simp, by simp; omega, fun g hg => ?_, fun _ => by simp⟩, _, rfl⟩
          rcases List.mem_append.mp hg with hg | hg
          . exact hgi g hg
          . rw [List.mem_singleton.mp hg]; omega
        . rw [if_neg (fun z => he (V.int.inj z))]
          refine ⟨⟨gs, rfl, by omega, hgi, fun h => hgn ?_⟩, _, rfl⟩
          have : g0 ≠ i := fun z => he (by rw [z])
          push_cast at h
          omega
      . obtain ⟨rfl, ⟨gs, rfl, hgl, hgi, hgn⟩, o, rfl⟩ := h
        intro D hD
        have hne' : gs ≠ [] := hgn hgr.2
        have hgp : 0 < gs.length := List.length_pos_iff.mpr hne'
        have sD := Same.new (o := .lst (gs.map V.int)) hD
        have i0 := Int.emod_nonneg (num / 720) (show (gs.length : Int) ≠ 0 by omega)
        have i1 := Int.emod_lt_of_pos (num / 720) (show (0 : Int) < gs.length by omega)
        have hix : (num / 720 % (gs.length : Int)).toNat < gs.length := by omega
        refine ⟨(show CDiv num 720 from ⟨by omega, by omega⟩), D, rfl, _, .inl (SqL.of upd_same), by rw [List.length_map]; omega, D, rfl, _, SqL.of upd_same, V.int gs[(num / 720 % (gs.length : Int)).toNat], by rw [List.length_map]; exact atI_int i0 (by simp [hix]), _, SqL.of (sD _ _ hw2), _, atI_of r0 hxt, t, rfl, _, sD _ _ ht, letter.toNat, ixN_in l0 (by rw [List.length_map]; omega), ?_⟩
        have hgx := hgi _ (List.getElem_mem hix)
        generalize gs[(num / 720 % (gs.length : Int)).toNat] = gx at hgx ⊢
        have hpt : pm ≠ t := fun z => by rw [<- z, hm0] at ht0; cases ht0
        have hwt : pw ≠ t := fun z => by
          rw [<- z, hw2] at ht
          have := congrArg (fun o => match o with | some (HO.lst l) => l[room.toNat]? | _ => none) ht
          simp only [hxt] at this
          rw [List.getElem?_map] at this
          cases e : row[room.toNat]? with
          | none => rw [e] at this; cases this
          | some v => rw [e] at this; cases this
        rw [set_ints]
        have hLs : LLs H0 (upd (upd H4 D (.lst (gs.map V.int))) t (.lst ((row.set letter.toNat gx).map V.int))) xs (ways'.set room.toNat (row.set letter.toNat gx)) := by
          obtain ⟨t', a1, _, _, a4⟩ := (hLL.mono sD).at hrow
          rw [hxt] at a1
          cases a1
          exact a4 _ _
        exact (hR _ _).mpr ⟨pw, xs, marks', _, room, _, _, (s2.newT hD).over (Same.none sm ht0), hpw0, by rw [upd_ne hpt]; exact sD _ _ hm2, by rw [upd_ne hwt]; exact sD _ _ hw2, hLs, hne, r0, r1, hml, wf'.setW hrow _ hgx, rfl⟩
    obtain ⟨pw, xs, marks', ways', room, o5, o6, s3, hpw0, hm3, hw3, hLL, hne, r0, r1, hml, wf', rfl⟩ := (hR _ _).mp h3
    obtain ⟨tm', tw', y1, y2, y3⟩ := hh.mono s3
    walk_at "rd"
    refine ⟨_, y1, _, rfl, ?_⟩
    walk_at "rd"
    refine ⟨_, .inl ⟨SqL.of hm3, fun l hl' => ⟨⟨_, SqL.of (Same.new hl' _ _ hw3)⟩, ?_⟩⟩⟩
    have sl := Same.new (o := .tup (marks'.map V.int)) hl'
    have wl := wf'.len
    have wn := wf'.n40
    refine compTups (xs := xs) (ws := ways') (σ' := []) (SqL.of (sl _ _ hw3)) hLL.len rfl (by rw [hLL.len]; omega) (fun i x w H4 s4 hx hw R hR => ?_) (fun H4 D ys s4 hD hT => ?_)
    . obtain ⟨t, a1, a2, _⟩ := hLL.at hw
      rw [hx] at a1
      cases a1
      walk_at "rd"
      refine ⟨_, .inl ⟨SqL.of (s4 _ _ (sl _ _ a2)), fun p hp => hR p _ (Same.new hp) (SqT.of upd_same)⟩⟩
    . obtain ⟨xs', hx1, hxr⟩ := hT.rows
      rw [upd_same] at hx1
      cases hx1
      refine ⟨D, rfl, _, .inl ⟨SqL.of upd_same, fun l1 hl1 => ⟨by omega, fun p5 hp5 => ?_⟩⟩⟩
      have sD := Same.new (o := .lst ys) hD
      refine k p5 marks' ways' _ (((((s3.trans sl).trans s4).newT hD).newT hl1).newT hp5) ⟨l, l1, SqT.of upd_same, ?_, (hxr l1 hl1).mono (Same.new hp5)⟩ wf'
      exact SqT.of (Same.new hp5 _ _ (Same.new hl1 _ _ (sD _ _ (s4 _ _ upd_same))))
def sp_turnedby (K : PySem.W.Frag) : Sp := fun vs H Q _ => ∃ (h : Addr) (L : Int) (marks : List Int) (ways : List (List Int)) (num : Int), vs = [.ref h, .int num] /\ House K H h L marks ways /\ Wf L marks ways /\ ∀ h' marks' ways' H', Same H H' -> House K H' h' L marks' ways' -> Wf L marks' ways' -> Q (.ref h') H'
theorem ok__law_turned_by {f : Addr} {fd : FuncData} (F : Fun K "_law_turned_by" "_law_turned_by" s__law_turned_by f fd) (T : Txt mg)
    (Z : Exs K mg C_AskError C_BadHouse)
    : FnOk P w K mg base CX0 1 f fd ["house", "number"] (sp_turnedby K) := by
  refine F.ok sc__law_turned_by (fun vs H Q E h => ?_) (fun cdv A outer s H vs Q E hr h => ?_)
  . obtain ⟨h, L, marks, ways, num, rfl, _⟩ := h; rfl
  . obtain ⟨h, L, marks, ways, num, rfl, hh, wf, k⟩ := h
    have hl := line1000
    have hn1 := wf.n1
    have hn40 := wf.n40
    obtain ⟨tm, tw, q1, q2, q3⟩ := id hh
    refine ⟨_, (pss_cons (ps_set (i := 2) sc__law_turned_by.nd rfl (Or.inr rfl) (pe_callB call_len_seq (by rfl) T.len PySem.boot_len (pa_cons (pe_ix ix_tup (pv 0) pe_int (fun _ _ => rfl)) pa_nil)))
      (pss_cons (ps_if (pt_cmpR op_eq (pv 2) pe_int (nomark _))
      (pss_one (ps_ret (pv 0)))
      pss_nil)
      (pss_cut (ps_set (i := 3) sc__law_turned_by.nd rfl (Or.inr rfl) (pe_op op_cat (pe_lst (pa_cons pe_int pa_nil)) (pe_comp rfl (blk_mk rfl) (cp := c__law_turned_by_0) ⟨⟨rfl, rfl⟩, ⟨⟨rfl, rfl⟩, True.intro⟩⟩ (pi_range1 rfl T.range (pa_cons (pe_op op_sub (pv 2) pe_int) pa_nil)) (fun _ _ _ _ => (pg_name (i := 0) nd_c__law_turned_by_0 rfl (Or.inl rfl))) (fun _ _ _ _ => pf_nil) (fun _ _ _ _ => (pe_op op_add pe_int (pe_op op_mod (pe_op op_add (pv 0) (pv 1)) (pe_op op_sub (pv 2) pe_int)))))))
      (pss_cons (ps_set (i := 4) sc__law_turned_by.nd rfl (Or.inl rfl) (pe_op op_rep (pe_lst (pa_cons pe_int pa_nil)) (pv 2)))
      (pss_cons (ps_set (i := 5) sc__law_turned_by.nd rfl (Or.inl rfl) (pe_op op_rep (pe_lst (pa_cons (pe_tup pa_nil) pa_nil)) (pv 2)))
      (pss_cons (ps_for PassesOwn.never rfl (pi_range1 rfl T.range (pa_cons (pv 2) pa_nil)) (pg_name (i := 6) sc__law_turned_by.nd rfl (Or.inl rfl))
      (pss_cons (ps_asg (pe_ix ix_tup (pe_ix ix_tup (pv 0) pe_int (fun _ _ => rfl)) (pv 6) (fun _ _ => rfl)) (pg_sub (pv 4) (pe_ix ix_list (pv 3) (pv 6) (fun _ _ => rfl)) set_list))
      (pss_one (ps_asg (pe_callTy call_tuple_of rfl T.tuple PyProof.Rows.boot_tuple (pa_cons (pe_comp rfl (blk_mk rfl) (cp := c__law_turned_by_1) ⟨⟨rfl, rfl⟩, True.intro⟩ (pi_tup (pe_ix ix_tup (pe_ix ix_tup (pv 0) pe_int (fun _ _ => rfl)) (pv 6) (fun _ _ => rfl))) (fun _ _ _ _ => (pg_name (i := 0) nd_c__law_turned_by_1 rfl (Or.inl rfl))) (fun _ _ _ _ => pf_nil) (fun _ _ _ _ => (pe_ix (ix_listK (K := K) rfl) (pv 1) (pv 0) (fun _ _ => rfl)))) pa_nil)) (pg_sub (pv 5) (pe_ix ix_list (pv 3) (pv 6) (fun _ _ => rfl)) set_list)))))
      (pss_one (ps_ret (pe_tup (pa_cons (pe_ix ix_tup (pv 0) pe_int (fun _ _ => rfl)) (pa_cons (pe_callTy call_tuple_of rfl T.tuple PyProof.Rows.boot_tuple (pa_cons (pv 4) pa_nil)) (pa_cons (pe_callTy call_tuple_of rfl T.tuple PyProof.Rows.boot_tuple (pa_cons (pv 5) pa_nil)) pa_nil)))))))))))), ?_⟩
    walk_at "rd"
    refine ⟨_, q1, _, rfl, ?_⟩
    walk_at "rd"
    refine ⟨_, .inr q2, ?_⟩
    rw [List.length_map]
    refine ite2 (fun h1 => k h marks ways H (Same.refl _) hh wf) (fun h1 => ?_)
    have h2 : 2 <= marks.length := by omega
    have ho := spinO_ord h2 num
    have hol := ho.len
    generalize hspin : spinO marks.length num = o at ho hol
    refine ⟨fun σ' H' => Same H H' /\ ∃ a, H' a = some (.lst (o.map V.int)) /\ σ' = [some (.ref h), some (.int num), some (.int marks.length), some (.ref a), none, none, none], ?_, fun σ1 H1 hR => ?_⟩
    . walk_at "rd"
      refine ⟨by omega, fun p hp => ⟨by omega, by omega, ?_⟩⟩
      refine compR (n := ((marks.length : Int) - 1).toNat) (fun i ys σ2 H2 => H2 = upd H p (.lst [V.int 0]) /\ ys = ((List.range i).map fun j : Nat => 1 + ((j : Int) + num) % ((marks.length : Int) - 1)).map V.int /\ ∃ o, σ2 = [o, some (.int num), some (.int marks.length)]) ⟨rfl, rfl, none, rfl⟩ (by omega) (fun i ys σ2 H2 _ h => by rw [h.2.1]; simp) (fun i ys σ2 H2 hi h => ?_) (fun ys σ2 H2 h => ?_)
      . obtain ⟨rfl, rfl, o, rfl⟩ := h
        walk_at "rd"
        refine ⟨by omega, ?_⟩
        rw [List.range_succ, show (0 : Int) + (i : Nat) = (i : Int) by omega]
        simp
      . obtain ⟨rfl, rfl, o, rfl⟩ := h
        intro D hD
        have n1 : p ≠ D := fun z => by rw [<- z, upd_same] at hD; cases hD
        refine ⟨D, rfl, _, by rw [upd_ne n1]; exact upd_same, _, upd_same, by simp; omega, fun q hq => ⟨((Same.new hp).newT hD).newT hq, q, ?_, rfl⟩⟩
        rw [upd_same, <- hspin, show ((marks.length : Int) - 1).toNat = marks.length - 1 by omega]
        rfl
    obtain ⟨s1, a, ha, rfl⟩ := hR
    have ha1 : SqL K H1 a (o.map V.int) := SqL.of ha
    walk_at "rd"
    rw [Int.toNat_natCast]
    refine ⟨by omega, fun p hp => ⟨_, upd_same, by omega, by omega, by simp; omega, fun p1 hp1 => ⟨by omega, fun p2 hp2 => ⟨by omega, fun p3 hp3 => ⟨_, upd_same, by omega, by omega, by simp; omega, fun p4 hp4 => ?_⟩⟩⟩⟩⟩
    rw [rep_flat] at hp2 hp3 hp4 ⊢
    rw [rep_flat]
    have sA := (((((Same.new (o := .lst [V.int 0]) hp).newT (o := .lst (List.replicate marks.length (V.int 0))) hp1).newT (o := .tup []) hp2).newT (o := .lst [V.ref p2]) hp3).newT (o := .lst (List.replicate marks.length (V.ref p2))) hp4)
    have n41 : p4 ≠ p1 := (none_of_upd (none_of_upd (none_of_upd hp4).1).1).2
    have hm0 : upd (upd (upd (upd (upd H1 p (.lst [V.int 0])) p1 (.lst (List.replicate marks.length (V.int 0)))) p2 (.tup [])) p3 (.lst [V.ref p2])) p4 (.lst (List.replicate marks.length (V.ref p2))) p1 = some (.lst ((List.replicate marks.length (0 : Int)).map V.int)) := by
      rw [List.map_replicate]
      exact Same.new hp4 _ _ (Same.new hp3 _ _ (Same.new hp2 _ _ upd_same))
    have hw0 : TupsL K (upd (upd (upd (upd (upd H1 p (.lst [V.int 0])) p1 (.lst (List.replicate marks.length (V.int 0)))) p2 (.tup [])) p3 (.lst [V.ref p2])) p4 (.lst (List.replicate marks.length (V.ref p2)))) p4 (List.replicate marks.length []) := by
      refine ⟨List.replicate marks.length p2, by rw [upd_same, List.map_replicate], by simp, fun i t w e1 e2 => ?_⟩
      have e3 : t = p2 := List.eq_of_mem_replicate (List.mem_of_getElem? e1)
      have e4 : w = [] := List.eq_of_mem_replicate (List.mem_of_getElem? e2)
      subst e3 e4
      exact SqT.of (Same.new hp4 _ _ (Same.new hp3 _ _ upd_same))
    have hp1n : H1 p1 = none := (none_of_upd hp1).1
    have hp4n : H1 p4 = none := (none_of_upd (none_of_upd (none_of_upd (none_of_upd hp4).1).1).1).1
    generalize upd (upd (upd (upd (upd H1 p (.lst [V.int 0])) p1 (.lst (List.replicate marks.length (V.int 0)))) p2 (.tup [])) p3 (.lst [V.ref p2])) p4 (.lst (List.replicate marks.length (V.ref p2))) = H2 at sA hm0 hw0 ⊢
    refine ⟨by omega, by omega, ?_⟩
    obtain ⟨Pn, hPn⟩ : ∃ Pn : Nat -> St -> Hp -> Prop, ∀ i σ3 H3, Pn i σ3 H3 ↔ (∃ (o5 : Option V), Same H1 H3 /\ H3 p1 = some (.lst ((setAll o (fun r => marks.getD r 0) i (List.replicate marks.length 0)).map V.int)) /\ TupsL K H3 p4 (setAll o (fun r => (ways.getD r []).map (ordW o)) i (List.replicate marks.length [])) /\ σ3 = [some (.ref h), some (.int num), some (.int marks.length), some (.ref a), some (.ref p1), some (.ref p4), o5]) := ⟨_, fun _ _ _ => Iff.rfl⟩
    refine forR Pn ((hPn _ _ _).mpr ⟨none, sA, hm0, hw0, rfl⟩) (fun i σ3 HT hi h3 => ?_) (fun σ3 H3 h3 => ?_)
    . obtain ⟨o5, sT, hmT, hwT, rfl⟩ := (hPn _ _ _).mp h3
      have ei : (0 : Int) + (i : Nat) = (i : Int) := by omega
      rw [ei]
      have hxa := ho.at (r := (i : Int)) (by omega) (by omega)
      rw [Int.toNat_natCast] at hxa
      obtain ⟨hxi, hx0, hx1⟩ := hxa
      obtain ⟨tm3, tw3, y1, y2, y3⟩ := hh.mono (s1.trans sT)
      have hmk : marks[i]? = some (marks.getD i 0) := by rw [List.getD_eq_getElem?_getD, List.getElem?_eq_getElem hi]; rfl
      obtain ⟨row, hrow, hrm, hrl⟩ := wf.row (r := (i : Int)) (by omega) (by omega)
      rw [Int.toNat_natCast] at hrow
      walk_at "rd"
      refine ⟨_, y1, _, rfl, _, rfl, _, y2, _, atI_nat (by rw [List.getElem?_map, hmk]; rfl), _, sT.seq ha1, _, atI_nat (by rw [List.getElem?_map, hxi]; rfl), ?_⟩
      refine ⟨_, _, rfl, hmT, (ordW o i).toNat, ixN_in hx0 (by rw [List.length_map, setAll_len, List.length_replicate]; exact hx1), ?_⟩
      have sU : Same H1 (upd HT p1 (.lst (((setAll o (fun r => marks.getD r 0) i (List.replicate marks.length 0)).map V.int).set (ordW o i).toNat (V.int (marks.getD i 0))))) := sT.over hp1n
      have hmU : upd HT p1 (.lst (((setAll o (fun r => marks.getD r 0) i (List.replicate marks.length 0)).map V.int).set (ordW o i).toNat (V.int (marks.getD i 0)))) p1 = some (.lst ((setAll o (fun r => marks.getD r 0) (i + 1) (List.replicate marks.length 0)).map V.int)) := by
        rw [upd_same, setAll, List.map_set]
      have hwU := hwT.off (ys := ((setAll o (fun r => marks.getD r 0) i (List.replicate marks.length 0)).map V.int).set (ordW o i).toNat (V.int (marks.getD i 0))) hmT n41
      generalize upd HT p1 (.lst (((setAll o (fun r => marks.getD r 0) i (List.replicate marks.length 0)).map V.int).set (ordW o i).toNat (V.int (marks.getD i 0)))) = HU at sU hmU hwU ⊢
      obtain ⟨tm4, tw4, z1, z2, z3⟩ := hh.mono (s1.trans sU)
      obtain ⟨xs4, t4, c1, c2, c3⟩ := z3.at hrow
      refine ⟨_, z1, _, rfl, _, rfl, _, c1, _, c2, _, rfl, ⟨_, c3⟩, ?_⟩
      obtain ⟨f, hf⟩ : ∃ f : V -> V, ∀ g : Int, f (V.int g) = .int (ordW o g) := ⟨fun v => match v with | .int g => .int (ordW o g) | _ => .non, fun _ => rfl⟩
      refine compMapT (xs := row.map V.int) (σ' := [some (.ref a)]) f rfl c3 (by rw [List.length_map]; have := wf.l6; omega) (fun v hv R hR => ?_) (fun D hD => ?_)
      . obtain ⟨g, hg, rfl⟩ := List.mem_map.mp hv
        rw [hf] at hR
        have hg2 := (wf.rows row hrm).2 g hg
        walk_at "rd"
        exact ⟨_, sU.seq ha1, _, atI_int hg2.1 (ho.at hg2.1 hg2.2).1, hR⟩
      . have em : (row.map V.int).map f = (row.map (ordW o)).map V.int := by
          rw [List.map_map, List.map_map]
          exact List.map_congr_left fun g _ => hf g
        rw [em]
        refine ⟨D, rfl, _, .inl ⟨SqL.of upd_same, fun l hl' => ?_⟩⟩
        have sV := (Same.new (o := .lst ((row.map (ordW o)).map V.int)) hD).newT (o := .tup ((row.map (ordW o)).map V.int)) hl'
        obtain ⟨xs8, e1, e2, hset⟩ := (hwU.mono sV).set (j := (ordW o i).toNat) (w := row.map (ordW o)) (SqT.of upd_same)
        refine ⟨_, (sU.trans sV).seq ha1, _, atI_nat (by rw [List.getElem?_map, hxi]; rfl), xs8, _, rfl, e1, (ordW o i).toNat, ixN_in hx0 (by rw [e2, setAll_len, List.length_replicate]; exact hx1), (hPn _ _ _).mpr ⟨_, (sU.trans sV).over hp4n, ?_, ?_, rfl⟩⟩
        . rw [upd_ne n41.symm]; exact sV _ _ hmU
        . rw [setAll, List.getD_eq_getElem?_getD, hrow]; exact hset
    . obtain ⟨o5, s3, hm3, hw3, rfl⟩ := (hPn _ _ _).mp h3
      walk_at "rd"
      obtain ⟨tm3, tw3, y1, y2, y3⟩ := hh.mono (s1.trans s3)
      refine ⟨_, y1, _, rfl, _, .inl ⟨SqL.of hm3, fun l hl' => ?_⟩⟩
      obtain ⟨xs, hx1, hxr⟩ := (hw3.mono (Same.new (o := .tup ((turnM marks.length o marks).map V.int)) hl')).rows
      refine ⟨_, .inl ⟨SqL.of hx1, fun l1 hl1 => ⟨by omega, fun p5 hp5 => ?_⟩⟩⟩
      exact k p5 _ _ _ (((s1.trans s3).newT hl').newT hl1 |>.newT hp5) ⟨l, l1, SqT.of upd_same, SqT.of (Same.new hp5 _ _ (Same.new hl1 _ _ upd_same)), (hxr l1 hl1).mono (Same.new hp5)⟩ (turn_wf wf ho)
def sp_otherby (K : PySem.W.Frag) : Sp := fun vs H Q _ => ∃ (h a : Addr) (L : Int) (marks : List Int) (ways : List (List Int)) (ns : List Int), vs = [.ref h, .ref a] /\ House K H h L marks ways /\ Wf L marks ways /\ SqL K H a (ns.map V.int) /\ ∀ h' marks' ways' H', Same H H' -> House K H' h' L marks' ways' -> Wf L marks' ways' -> Q (.ref h') H'
theorem ok__law_other_by {f : Addr} {fd : FuncData} (F : Fun K "_law_other_by" "_law_other_by" s__law_other_by f fd) (T : Txt mg)
    (Z : Exs K mg C_AskError C_BadHouse)
    {f__law_cell_at : Addr} {fd__law_cell_at : FuncData} (g__law_cell_at : FnOk P w K mg base CX0 1 f__law_cell_at fd__law_cell_at ["script", "k"] (sp_cell K)) (F__law_cell_at : Fun K "_law_cell_at" "_law_cell_at" s__law_cell_at f__law_cell_at fd__law_cell_at) (b__law_cell_at : Binds K fd__law_cell_at ["script", "k"] []) (m__law_cell_at : mg "_law_cell_at" = some (.ref f__law_cell_at))
    {f__law_mixed : Addr} {fd__law_mixed : FuncData} (g__law_mixed : FnOk P w K mg base CX0 1 f__law_mixed fd__law_mixed ["number", "k", "many"] (sp_mixed)) (F__law_mixed : Fun K "_law_mixed" "_law_mixed" s__law_mixed f__law_mixed fd__law_mixed) (b__law_mixed : Binds K fd__law_mixed ["number", "k", "many"] []) (m__law_mixed : mg "_law_mixed" = some (.ref f__law_mixed))
    {f__law_blown : Addr} {fd__law_blown : FuncData} (g__law_blown : FnOk P w K mg base CX0 2 f__law_blown fd__law_blown ["house", "number", "rooms"] (sp_blown K)) (F__law_blown : Fun K "_law_blown" "_law_blown" s__law_blown f__law_blown fd__law_blown) (b__law_blown : Binds K fd__law_blown ["house", "number", "rooms"] []) (m__law_blown : mg "_law_blown" = some (.ref f__law_blown))
    {f__law_spoiled : Addr} {fd__law_spoiled : FuncData} (g__law_spoiled : FnOk P w K mg base CX0 1 f__law_spoiled fd__law_spoiled ["house", "number"] (sp_spoil15 K)) (F__law_spoiled : Fun K "_law_spoiled" "_law_spoiled" s__law_spoiled f__law_spoiled fd__law_spoiled) (b__law_spoiled : Binds K fd__law_spoiled ["house", "number"] []) (m__law_spoiled : mg "_law_spoiled" = some (.ref f__law_spoiled))
    {f__law_turned_by : Addr} {fd__law_turned_by : FuncData} (g__law_turned_by : FnOk P w K mg base CX0 1 f__law_turned_by fd__law_turned_by ["house", "number"] (sp_turnedby K)) (F__law_turned_by : Fun K "_law_turned_by" "_law_turned_by" s__law_turned_by f__law_turned_by fd__law_turned_by) (b__law_turned_by : Binds K fd__law_turned_by ["house", "number"] []) (m__law_turned_by : mg "_law_turned_by" = some (.ref f__law_turned_by))
    : FnOk P w K mg base CX0 3 f fd ["house", "script"] (sp_otherby K) := by
  refine F.ok sc__law_other_by (fun vs H Q E h => ?_) (fun cdv A outer s H vs Q E hr h => ?_)
  . obtain ⟨h, a, L, marks, ways, ns, rfl, _⟩ := h; rfl
  . obtain ⟨h, a, L, marks, ways, ns, rfl, hh, wf, hs, k⟩ := h
    have hl := line1000
    have hL1 := wf.l1
    have hL6 := wf.l6
    have hn1 := wf.n1
    have hn40 := wf.n40
    obtain ⟨tm, tw, q1, q2, q3⟩ := id hh
    refine ⟨_, (pss_cons (ps_set (i := 2) sc__law_other_by.nd rfl (Or.inr rfl) (pe_call g__law_cell_at (hr.mono (by decide)) rfl m__law_cell_at F__law_cell_at.kp b__law_cell_at .nil pass0 (pa_cons (pv 1) (pa_cons pe_int pa_nil))))
      (pss_cons (ps_set (i := 3) sc__law_other_by.nd rfl (Or.inl rfl) (pe_op op_mod (pv 2) pe_int))
      (pss_cons (ps_set (i := 2) sc__law_other_by.nd rfl (Or.inr rfl) (pe_op op_fdiv (pv 2) pe_int))
      (pss_cons (ps_set (i := 4) sc__law_other_by.nd rfl (Or.inr rfl) (pe_callB (call_min2 rfl) rfl T.min PyProof.Rows.boot_min (pa_cons pe_int (pa_cons (pe_op op_add (pe_callB call_len_seq (by rfl) T.len PySem.boot_len (pa_cons (pe_ix ix_tup (pv 0) pe_int (fun _ _ => rfl)) pa_nil)) (pe_op op_mod (pv 2) pe_int)) pa_nil))))
      (pss_cons (ps_if (pt_cmpR op_eq (pv 3) pe_int (nomark _))
      (pss_cons (ps_set (i := 4) sc__law_other_by.nd rfl (Or.inr rfl) (pe_op op_add pe_int (pe_op op_mod (pv 2) pe_int)))
      (pss_cons (ps_setC (i := 5) sc__law_other_by.nd rfl rfl rfl (blk_mk rfl) (cp := c__law_other_by_0) ⟨⟨rfl, rfl⟩, ⟨⟨rfl, rfl⟩, True.intro⟩⟩ (pi_range1 rfl T.range (pa_cons (pv 4) pa_nil)) (fun _ _ _ _ => (pg_name (i := 0) nd_c__law_other_by_0 rfl (Or.inl rfl))) (fun _ _ _ _ => pf_nil) (fun _ _ _ _ => (pe_ix (ix_tupK (K := K) rfl) (pe_ix (ix_tupK (K := K) rfl) (pv 1) pe_int (fun _ _ => rfl)) (pe_call g__law_mixed (hr.mono (by decide)) rfl m__law_mixed F__law_mixed.kp b__law_mixed .nil pass0 (pa_cons (pv 2) (pa_cons (pv 0) (pa_cons (pe_callB (call_len_seqK (K := K) rfl) (by rfl) T.len PySem.boot_len (pa_cons (pe_ix (ix_tupK (K := K) rfl) (pv 1) pe_int (fun _ _ => rfl)) pa_nil)) pa_nil)))) (fun _ _ => rfl))))
      (pss_cons (ps_setCC (i := 6) sc__law_other_by.nd rfl rfl rfl (blkC_mk rfl) (cp := c__law_other_by_1) ⟨⟨rfl, rfl⟩, ⟨⟨rfl, rfl⟩, ⟨⟨rfl, rfl⟩, True.intro⟩⟩⟩ (pi_range1 rfl T.range (pa_cons (pv 4) pa_nil)) (fun _ _ _ _ => (pg_name (i := 0) nd_c__law_other_by_1 rfl (Or.inr rfl))) (fun _ _ _ _ => pf_nil) (fun _ _ _ _ => (pe_comp rfl (blk_mk rfl) (cp := c__law_other_by_2) ⟨⟨rfl, rfl⟩, ⟨⟨rfl, rfl⟩, ⟨⟨rfl, rfl⟩, True.intro⟩⟩⟩ (pi_range1 rfl T.range (pa_cons (pe_ix (ix_tupK (K := K) rfl) (pv 3) pe_int (fun _ _ => rfl)) pa_nil)) (fun _ _ _ _ => (pg_name (i := 0) nd_c__law_other_by_2 rfl (Or.inl rfl))) (fun _ _ _ _ => pf_nil) (fun _ _ _ _ => (pe_call g__law_mixed (hr.mono (by decide)) rfl m__law_mixed F__law_mixed.kp b__law_mixed .nil pass0 (pa_cons (pe_op op_add (pv 2) pe_int) (pa_cons (pe_op op_add (pe_op op_mul (pv 3) pe_int) (pv 0)) (pa_cons (pv 1) pa_nil))))))))
      (pss_one (ps_ret (pe_tup (pa_cons (pe_ix ix_tup (pv 0) pe_int (fun _ _ => rfl)) (pa_cons (pe_callTy call_tuple_of rfl T.tuple PyProof.Rows.boot_tuple (pa_cons (pv 5) pa_nil)) (pa_cons (pe_callTy call_tuple_of rfl T.tuple PyProof.Rows.boot_tuple (pa_cons (pe_comp rfl (blk_mk rfl) (cp := c__law_other_by_3) True.intro (pi_list (pv 6)) (fun _ _ _ _ => (pg_name (i := 0) nd_c__law_other_by_3 rfl (Or.inl rfl))) (fun _ _ _ _ => pf_nil) (fun _ _ _ _ => (pe_callTy (call_tuple_ofK (K := K) rfl) rfl T.tuple PyProof.Rows.boot_tuple (pa_cons (pv 0) pa_nil)))) pa_nil)) pa_nil)))))))))
      pss_nil)
      (pss_cons (ps_set (i := 7) sc__law_other_by.nd rfl (Or.inl rfl) (pe_call g__law_turned_by (hr.mono (by decide)) rfl m__law_turned_by F__law_turned_by.kp b__law_turned_by .nil pass0 (pa_cons (pe_call g__law_blown (hr.mono (by decide)) rfl m__law_blown F__law_blown.kp b__law_blown .nil pass0 (pa_cons (pv 0) (pa_cons (pv 2) (pa_cons (pv 4) pa_nil)))) (pa_cons (pe_op op_mod (pv 2) pe_int) pa_nil))))
      (pss_cut (ps_if (pt_cmpR op_ne (pv 3) pe_int (nomark _))
      (pss_one (ps_set (i := 7) sc__law_other_by.nd rfl (Or.inl rfl) (pe_call g__law_spoiled (hr.mono (by decide)) rfl m__law_spoiled F__law_spoiled.kp b__law_spoiled .nil pass0 (pa_cons (pv 7) (pa_cons (pe_op op_add (pe_op op_mul (pe_op op_fdiv (pv 2) pe_int) pe_int) (pv 3)) pa_nil)))))
      pss_nil)
      (pss_one (ps_ret (pv 7)))))))))), ?_⟩
    walk_at "rd"
    refine ⟨a, ns, 5, rfl, hs, ?_⟩
    generalize cell ns 5 = c
    walk_at "rd"
    refine ⟨by decide, ⟨by decide, by decide⟩, _, q1, _, rfl, tm, rfl, _, .inr q2, by decide, ?_⟩
    rw [List.length_map]
    generalize c / 4 = num
    refine ite2 (fun hway => ?_) (fun hway => ?_)
    . have n0 := Int.emod_nonneg num (show (8 : Int) ≠ 0 by decide)
      have n1 := Int.emod_lt_of_pos num (show (0 : Int) < 8 by decide)
      obtain ⟨n, hn, hn1', hn8⟩ : ∃ n : Nat, 1 + num % 8 = (n : Int) /\ 1 <= n /\ n <= 8 := ⟨(1 + num % 8).toNat, by omega, by omega, by omega⟩
      rw [hn, Int.toNat_natCast]
      refine ⟨by decide, by omega, by omega, ?_⟩
      refine compR (fun i ys σ2 H2 => H2 = H /\ (∃ ms : List Int, ys = ms.map V.int /\ ms.length = i /\ ∀ m ∈ ms, 0 <= m /\ m <= 1000000000) /\ ∃ o, σ2 = [o, some (.ref h), some (.int num)]) ⟨rfl, ⟨[], rfl, rfl, by simp⟩, none, rfl⟩ (by omega) (fun i ys σ2 H2 _ h2 => by obtain ⟨_, ⟨ms, rfl, hm, _⟩, _⟩ := h2; rw [List.length_map, hm]; exact Nat.le_refl _) (fun i ys σ2 H2 hi h2 => ?_) (fun ys σ2 H2 h2 => ?_)
      . obtain ⟨rfl, ⟨ms, rfl, hm, hmr⟩, o, rfl⟩ := h2
        walk_at "rd"
        refine ⟨_, q1, _, rfl, _, q1, _, rfl, tm, rfl, _, .inr q2, ?_⟩
        rw [List.length_map]
        refine ⟨num, (0 : Int) + (i : Nat), marks.length, rfl, by omega, by omega, by omega, fun x x0 x1 => ?_⟩
        refine ⟨tm, rfl, _, _, rfl, q2, _, mkW_at x0 x1, rfl, ⟨ms ++ [mkW marks x], by simp, by simp [hm], fun m hm' => ?_⟩, _, rfl⟩
        rcases List.mem_append.mp hm' with h' | h'
        . exact hmr m h'
        . rw [List.mem_singleton.mp h']; exact wf.mks _ (mkW_in x0 x1)
      . obtain ⟨rfl, ⟨ms, rfl, hm, hmr⟩, o, rfl⟩ := h2
        intro D hD
        have sD := Same.new (o := .lst (ms.map V.int)) hD
        have hDm : upd H2 D (.lst (ms.map V.int)) D = some (.lst (ms.map V.int)) := upd_same
        generalize upd H2 D (.lst (ms.map V.int)) = H3 at sD hDm ⊢
        refine ⟨by omega, by omega, ?_⟩
        refine compR (fun i ys σ4 H4 => Same H3 H4 /\ (∃ ws : List (List Int), LLs H3 H4 ys ws /\ ws.length = i /\ ∀ row ∈ ws, (row.length : Int) = L /\ ∀ x ∈ row, 0 <= x /\ x < (n : Int)) /\ ∃ o, σ4 = [o, some (.int n), some (.int num), some (.ref h)]) ⟨Same.refl _, ⟨[], LLs.nil _ _, rfl, by simp⟩, none, rfl⟩ (by omega) (fun i ys σ4 H4 _ h4 => by obtain ⟨_, ⟨ws, hLL, hw, _⟩, _⟩ := h4; rw [hLL.len, hw]; exact Nat.le_refl _) (fun i ys σ4 H4 hi h4 => ?_) (fun ys σ4 H4 h4 => ?_)
        . obtain ⟨s4, ⟨ws, hLL, hwl, hwr⟩, o, rfl⟩ := h4
          obtain ⟨tm4, tw4, y1, y2, y3⟩ := hh.mono (sD.trans s4)
          walk_at "rd"
          refine ⟨_, y1, _, rfl, _, rfl, by omega, by omega, ?_⟩
          refine compR (fun j zs σ5 H5 => H5 = H4 /\ (∃ row : List Int, zs = row.map V.int /\ row.length = j /\ ∀ x ∈ row, 0 <= x /\ x < (n : Int)) /\ ∃ o, σ5 = [o, some (.int n), some (.int num), some (.int ((0 : Int) + (i : Nat)))]) ⟨rfl, ⟨[], rfl, rfl, by simp⟩, none, rfl⟩ (by omega) (fun j zs σ5 H5 _ h5 => by obtain ⟨_, ⟨row, rfl, hr, _⟩, _⟩ := h5; rw [List.length_map, hr]; exact Nat.le_refl _) (fun j zs σ5 H5 hj h5 => ?_) (fun zs σ5 H5 h5 => ?_)
          . obtain ⟨rfl, ⟨row, rfl, hr, hrr⟩, o, rfl⟩ := h5
            walk_at "rd"
            refine ⟨.inl ⟨by omega, by omega⟩, num + 9, ((0 : Int) + (i : Nat)) * 6 + ((0 : Int) + (j : Nat)), n, rfl, by omega, by omega, by omega, fun x x0 x1 => ⟨rfl, ⟨row ++ [x], by simp, by simp [hr], fun y hy => ?_⟩, _, rfl⟩⟩
            rcases List.mem_append.mp hy with h' | h'
            . exact hrr y h'
            . rw [List.mem_singleton.mp h']; exact ⟨x0, x1⟩
          . obtain ⟨rfl, ⟨row, rfl, hr, hrr⟩, o, rfl⟩ := h5
            intro D5 hD5
            refine ⟨s4.newT hD5, ⟨ws ++ [row], hLL.snoc (Same.none s4 hD5) hD5, by simp [hwl], fun r hr' => ?_⟩, _, rfl⟩
            rcases List.mem_append.mp hr' with h' | h'
            . exact hwr r h'
            . rw [List.mem_singleton.mp h']; exact ⟨by omega, hrr⟩
        . obtain ⟨s4, ⟨ws, hLL, hwl, hwr⟩, o, rfl⟩ := h4
          intro D2 hD2
          have s5 := s4.newT (o := .lst ys) hD2
          have hD2m : upd H4 D2 (.lst ys) D2 = some (.lst ys) := upd_same
          have hLL5 := hLL.mono (Same.new (o := .lst ys) hD2)
          generalize upd H4 D2 (.lst ys) = H5 at s5 hD2m hLL5 ⊢
          obtain ⟨tm4, tw4, y1, y2, y3⟩ := hh.mono (sD.trans s5)
          refine ⟨_, y1, _, rfl, D, rfl, _, .inl ⟨SqL.of (s5 _ _ hDm), fun l hl' => ⟨D2, rfl, ⟨_, SqL.of (Same.new hl' _ _ hD2m)⟩, ?_⟩⟩⟩
          have sl := Same.new (o := .tup (ms.map V.int)) hl'
          have wfn : Wf L ms ws := ⟨hL1, hL6, by omega, by omega, by omega, fun row hr => by rw [hm]; exact hwr row hr, hmr⟩
          refine compTups (xs := ys) (ws := ws) (σ' := []) (SqL.of (sl _ _ hD2m)) hLL.len rfl (by rw [hLL.len]; omega) (fun i x w H6 s6 hx hw R hR => ?_) (fun H6 D6 zs s6 hD6 hT => ?_)
          . obtain ⟨t, a1, a2, _⟩ := hLL5.at hw
            rw [hx] at a1
            cases a1
            walk_at "rd"
            exact ⟨_, .inl ⟨SqL.of (s6 _ _ (sl _ _ a2)), fun p hp => hR p _ (Same.new hp) (SqT.of upd_same)⟩⟩
          . obtain ⟨xs', hx1, hxr⟩ := hT.rows
            rw [upd_same] at hx1
            cases hx1
            refine ⟨D6, rfl, _, .inl ⟨SqL.of upd_same, fun l1 hl1 => ⟨by omega, fun p5 hp5 => ?_⟩⟩⟩
            refine k p5 ms ws _ ((((((sD.trans s5).trans sl).trans s6).newT hD6).newT hl1).newT hp5) ⟨l, l1, SqT.of upd_same, ?_, (hxr l1 hl1).mono (Same.new hp5)⟩ wfn
            exact SqT.of (Same.new hp5 _ _ (Same.new hl1 _ _ (Same.new hD6 _ _ (s6 _ _ upd_same))))
    . obtain ⟨m, hm, hm40⟩ : ∃ m : Nat, (if (marks.length : Int) + num % 5 < 40 then (marks.length : Int) + num % 5 else 40) = (m : Int) /\ m <= 40 := by
        have := Int.emod_nonneg num (show (5 : Int) ≠ 0 by decide)
        refine ⟨(if (marks.length : Int) + num % 5 < 40 then (marks.length : Int) + num % 5 else 40).toNat, ?_, ?_⟩ <;> split <;> omega
      rw [hm]
      refine ⟨h, L, marks, ways, num, m, rfl, hh, wf, hm40, fun h1 marks1 ways1 H1 s1 hh1 wf1 => ⟨by decide, ?_⟩⟩
      refine ⟨h1, L, marks1, ways1, num % 40, rfl, hh1, wf1, fun h2 marks2 ways2 H2 s2 hh2 wf2 => ?_⟩
      obtain ⟨R, hR⟩ : ∃ R : St -> Hp -> Prop, ∀ σ' H', R σ' H' ↔ (∃ (h' : Addr) (marks' : List Int) (ways' : List (List Int)), Same H H' /\ House K H' h' L marks' ways' /\ Wf L marks' ways' /\ σ'[7]? = some (some (.ref h'))) := ⟨_, fun _ _ => Iff.rfl⟩
      refine ⟨R, ?_, fun σ' H' hRR => ?_⟩
      . walk_at "rd"
        refine ite2 (fun _ => ?_) (fun _ => ?_)
        . exact ⟨⟨by decide, by decide⟩, .inr ⟨by decide, by decide⟩, h2, L, marks2, ways2, _, rfl, hh2, wf2, fun h3 marks3 ways3 H3 s3 hh3 wf3 => (hR _ _).mpr ⟨h3, marks3, ways3, (s1.trans s2).trans s3, hh3, wf3, rfl⟩⟩
        . exact (hR _ _).mpr ⟨h2, marks2, ways2, s1.trans s2, hh2, wf2, rfl⟩
      . obtain ⟨h', marks', ways', s', hh', wf', e⟩ := (hR _ _).mp hRR
        walk_at "rd"
        exact ⟨_, e, k h' marks' ways' H' s' hh' wf'⟩
def sp_pairsof (K : PySem.W.Frag) : Sp := fun vs H Q _ => ∃ (h h2 : Addr) (L : Int) (marks marks2 : List Int) (ways ways2 : List (List Int)), vs = [.ref h, .ref h2] /\ House K H h L marks ways /\ Wf L marks ways /\ House K H h2 L marks2 ways2 /\ Wf L marks2 ways2 /\
  ∀ l rs H', Same H H' -> H l = none -> H' l = some (.lst rs) -> FoundT H' ((pairEnts ways ways2 L marks.length marks2.length 0 0).map (·.1)) rs -> (∃ top, B L (stepP ways ways2) (0, 0) (okP marks.length marks2.length) (pairEnts ways ways2 L marks.length marks2.length 0 0) (pairEnts ways ways2 L marks.length marks2.length 0 0).length top) -> Q (.ref l) H'
theorem ok__law_pairs_of {f : Addr} {fd : FuncData} (F : Fun K "_law_pairs_of" "_law_pairs_of" s__law_pairs_of f fd) (T : Txt mg)
    (Z : Exs K mg C_AskError C_BadHouse)
    : FnOk P w K mg base CX0 1 f fd ["house", "other"] (sp_pairsof K) := by
  refine F.ok sc__law_pairs_of (fun vs H Q E h => ?_) (fun cdv A outer s H vs Q E hr h => ?_)
  . obtain ⟨h, h2, L, marks, marks2, ways, ways2, rfl, _⟩ := h; rfl
  . obtain ⟨h, h2, L, marks, marks2, ways, ways2, rfl, hh, wf, hh2, wf2, k⟩ := h
    have hl := line1000
    have hL1 := wf.l1
    have hL6 := wf.l6
    have hn40 := wf.n40
    have hm40 := wf2.n40
    refine ⟨_, (@pss_cons _ _ _ _ _ (@ps_setDT _ 2 _ _ _ _ _ _ _ _ (hu_of hr) sc__law_pairs_of.nd rfl (Or.inl rfl) (pe_tup (pa_cons pe_int (pa_cons pe_int pa_nil))) pe_bl rfl (Or.inl rfl))
      (pss_cons (ps_set (i := 3) sc__law_pairs_of.nd rfl (Or.inl rfl) (pe_lst (pa_cons (pe_tup (pa_cons pe_int (pa_cons pe_int pa_nil))) pa_nil)))
      (pss_cons (ps_set (i := 4) sc__law_pairs_of.nd rfl (Or.inl rfl) pe_int)
      (pss_cons (ps_while PassesOwn.never (pt_cmpR op_lt (pv 4) (pe_callB call_len_seq (by rfl) T.len PySem.boot_len (pa_cons (pv 3) pa_nil)) (nomark _))
      (pss_cons (ps_set (i := 5) sc__law_pairs_of.nd rfl (Or.inl rfl) (pe_ix ix_list (pv 3) (pv 4) (fun _ _ => rfl)))
      (pss_cons (ps_for PassesOwn.never rfl (pi_range1 rfl T.range (pa_cons (pe_ix ix_tup (pv 0) pe_int (fun _ _ => rfl)) pa_nil)) (pg_name (i := 6) sc__law_pairs_of.nd rfl (Or.inl rfl))
      (pss_cons (ps_set (i := 7) sc__law_pairs_of.nd rfl (Or.inl rfl) (pe_tup (pa_cons (pe_ix ix_tup (pe_ix ix_tup (pe_ix ix_tup (pv 0) pe_int (fun _ _ => rfl)) (pe_ix ix_tup (pv 5) pe_int (fun _ _ => rfl)) (fun _ _ => rfl)) (pv 6) (fun _ _ => rfl)) (pa_cons (pe_ix ix_tup (pe_ix ix_tup (pe_ix ix_tup (pv 1) pe_int (fun _ _ => rfl)) (pe_ix ix_tup (pv 5) pe_int (fun _ _ => rfl)) (fun _ _ => rfl)) (pv 6) (fun _ _ => rfl)) pa_nil))))
      (pss_one (ps_if (pt_cmp (pc_dnotin (hu_of hr) (pv 7) (pv 2)))
      (pss_cons (ps_dput (hu_of hr) (pv 2) (pv 7) pe_bl rfl)
      (pss_one (ps_expr (pe_bm PySem.F.plainAttrs_list PySem.F.slot_list_append PySem.F.type_list_append mt_append (pv 3) (pa_cons (pv 7) pa_nil)))))
      pss_nil))))
      (pss_one (ps_set (i := 4) sc__law_pairs_of.nd rfl (Or.inl rfl) (pe_op op_add (pv 4) pe_int))))))
      (pss_one (ps_ret (pv 3))))))), ?_⟩
    walk_at "rd"
    have hn1 := wf.n1
    have hm1 := wf2.n1
    have hok : okP marks.length marks2.length (0, 0) := ⟨⟨by omega, by show (0 : Int) < _; omega⟩, by omega, by show (0 : Int) < _; omega⟩
    intro p hp
    refine ⟨by omega, fun pk hpk => ⟨Same.new hpk _ _ upd_same, keyP (0, 0), upd_same, by omega, fun pr hpr => ⟨by omega, fun p2 hp2 => ?_⟩⟩⟩
    have hne2 : p2 ≠ p := (none_of_upd (none_of_upd hp2).1).2
    have hp2n : H p2 = none := (none_of_upd (none_of_upd (none_of_upd (none_of_upd hp2).1).1).1).1
    have s0 : Same H (upd (upd (upd (upd (upd H p (.dT [])) pk (.tup [V.int 0, V.int 0])) p (.dT [(keyP (0, 0), V.bl true)])) pr (.tup [V.int 0, V.int 0])) p2 (.lst [V.ref pr])) := ((((Same.new hp).newT hpk).over hp).newT hpr).newT hp2
    have en0 : upd (upd (upd (upd (upd H p (.dT [])) pk (.tup [V.int 0, V.int 0])) p (.dT [(keyP (0, 0), V.bl true)])) pr (.tup [V.int 0, V.int 0])) p2 (.lst [V.ref pr]) p = some (.dT [(keyP (0, 0), V.bl true)]) := Same.new hp2 _ _ (Same.new hpr _ _ upd_same)
    have hr0 : upd (upd (upd (upd (upd H p (.dT [])) pk (.tup [V.int 0, V.int 0])) p (.dT [(keyP (0, 0), V.bl true)])) pr (.tup [V.int 0, V.int 0])) p2 (.lst [V.ref pr]) p2 = some (.lst [V.ref pr]) := upd_same
    have st0 : KeysT (([((0, 0), [])] : List ((Int × Int) × List Int)).map (·.1)) [(keyP (0, 0), V.bl true)] := rfl
    have fo0 : FoundT (upd (upd (upd (upd (upd H p (.dT [])) pk (.tup [V.int 0, V.int 0])) p (.dT [(keyP (0, 0), V.bl true)])) pr (.tup [V.int 0, V.int 0])) p2 (.lst [V.ref pr])) (([((0, 0), [])] : List ((Int × Int) × List Int)).map (·.1)) [V.ref pr] := ⟨rfl, fun i q hq => by
      cases i with
      | zero => simp at hq; subst hq; exact ⟨pr, rfl, Same.new hp2 _ _ upd_same⟩
      | succ i => simp at hq⟩
    generalize upd (upd (upd (upd (upd H p (.dT [])) pk (.tup [V.int 0, V.int 0])) p (.dT [(keyP (0, 0), V.bl true)])) pr (.tup [V.int 0, V.int 0])) p2 (.lst [V.ref pr]) = H0 at s0 en0 hr0 st0 fo0 ⊢
    clear hp2 hpr hpk
    obtain ⟨Pv, hPv⟩ : ∃ Pv : Nat -> St -> Hp -> Prop, ∀ m σ2 H2, Pv m σ2 H2 ↔ (∃ (ents : List ((Int × Int) × List Int)) (kvs : List (List Key × V)) (rs : List V) (i : Nat) (top : Int) (o6 o7 o8 : Option V), m = marks.length * marks2.length + 1 - i /\ Same H H2 /\ H2 p = some (.dT kvs) /\ H2 p2 = some (.lst rs) /\ KeysT (ents.map (·.1)) kvs /\ FoundT H2 (ents.map (·.1)) rs /\ B L (stepP ways ways2) (0, 0) (okP marks.length marks2.length) ents i top /\ (∀ e, ents[i]? = some e -> top <= place L e.2 * L + 1) /\ bfsF (stepP ways ways2) L.toNat (marks.length * marks2.length + 1 - i) ents i = pairEnts ways ways2 L marks.length marks2.length 0 0 /\ σ2 = [some (.ref h), some (.ref h2), some (.ref p), some (.ref p2), some (.int i), o6, o7, o8]) := ⟨_, fun _ _ _ => Iff.rfl⟩
    refine whileW Pv ⟨_, (hPv _ _ _).mpr ⟨_, _, _, 0, 1, none, none, none, rfl, s0, en0, hr0, st0, fo0, B.start L _ hok, fun e he => ?_, rfl, rfl⟩⟩ ?_
    . simp at he; subst he; simp [place, placeR]
    intro m σ2 H2 hpv
    obtain ⟨ents, kvs, rs, i, top, o6, o7, o8, rfl, s2, en2, hr2, st2, fo2, bf, htop, hbfs, rfl⟩ := (hPv _ _ _).mp hpv
    have hbl := bf.lenP
    have hnm : marks.length * marks2.length <= 1600 := Nat.mul_le_mul hn40 hm40
    walk_at "rd"
    refine ⟨_, .inl (SqL.of hr2), ?_⟩
    have hrl : rs.length = ents.length := by rw [fo2.1, List.length_map]
    rw [hrl]
    refine ite2 (fun hlt => ?_) (fun hge => ?_)
    . have hi : i < ents.length := by omega
      obtain ⟨e, he⟩ : ∃ e, ents[i]? = some e := ⟨ents[i], by simp [hi]⟩
      obtain ⟨⟨ra, rb⟩, w⟩ := e
      have hmem := List.mem_of_getElem? he
      have hr' : okP marks.length marks2.length (ra, rb) := bf.rng _ hmem
      obtain ⟨⟨ra0, ra1⟩, rb0, rb1⟩ := id hr'
      have htop' : top <= place L w * L + 1 := htop _ he
      obtain ⟨row, hrow, hrm, hrowl⟩ := wf.row ra0 ra1
      obtain ⟨row2, hrow2, hrm2, hrowl2⟩ := wf2.row rb0 rb1
      obtain ⟨mm, wv, q1, q2, q3⟩ := id hh
      obtain ⟨mm', wv', q1', q2', q3'⟩ := id hh2
      obtain ⟨xs, t, z1, z2, z3⟩ := q3.atZ ra0 hrow
      obtain ⟨xs', t', z1', z2', z3'⟩ := q3'.atZ rb0 hrow2
      obtain ⟨bp, hbp1, hbp2⟩ := fo2.2 i (ra, rb) (by rw [List.getElem?_map, he]; rfl)
      refine ⟨Pv (marks.length * marks2.length + 1 - (i + 1)), fun σ' H' h => ⟨_, by omega, h⟩, ?_⟩
      refine ⟨_, SqL.of hr2, _, atI_of (v := V.ref bp) (by omega) (by rw [Int.toNat_natCast]; exact hbp1), ?_⟩
      walk_at "rd"
      refine ⟨_, s2.seqT q1, _, rfl, ?_⟩
      walk_at "rd"
      refine ⟨by omega, by omega, ?_⟩
      obtain ⟨Pn, hPn⟩ : ∃ Pn : Nat -> St -> Hp -> Prop, ∀ x σ3 H3, Pn x σ3 H3 ↔ (∃ (ents' : List ((Int × Int) × List Int)) (kvs' : List (List Key × V)) (rs' : List V) (o7 o8 : Option V), Same H H3 /\ H3 p = some (.dT kvs') /\ H3 p2 = some (.lst rs') /\ KeysT (ents'.map (·.1)) kvs' /\ FoundT H3 (ents'.map (·.1)) rs' /\ H3 bp = some (.tup [.int ra, .int rb]) /\ B L (stepP ways ways2) (0, 0) (okP marks.length marks2.length) ents' i (place L w * L + (x : Int) + 1) /\ SeenF L (stepP ways ways2) ents' (ra, rb) w x /\ ents'[i]? = some ((ra, rb), w) /\ addF (stepP ways ways2) (ra, rb) w (L.toNat - x) x ents' = addF (stepP ways ways2) (ra, rb) w L.toNat 0 ents /\ σ3 = [some (.ref h), some (.ref h2), some (.ref p), some (.ref p2), some (.int i), some (.ref bp), o7, o8]) := ⟨_, fun _ _ _ => Iff.rfl⟩
      refine forR Pn ((hPn _ _ _).mpr ⟨ents, kvs, rs, o7, o8, s2, en2, hr2, st2, fo2, hbp2, bf.up (by push_cast; omega), (fun y h0 h1 => absurd h1 (by push_cast; omega)), he, rfl, rfl⟩) (fun x σ3 H3 hx h3 => ?_) (fun σ3 H3 h3 => ?_)
      . obtain ⟨ents', kvs', rs', o7, o8, s3, en3, hr3, st3, fo3, hb3, bf3, se3, he3, had, rfl⟩ := (hPn _ _ _).mp h3
        have ex : (0 : Int) + (x : Nat) = (x : Int) := by omega
        rw [ex]
        have hxL : (x : Int) < L := by omega
        obtain ⟨rw1, g1, c1, c2, c3, c4, c5⟩ := wf.step ra0 ra1 (show (0 : Int) <= (x : Int) by omega) hxL
        obtain ⟨rw2, g2, d1, d2, d3, d4, d5⟩ := wf2.step rb0 rb1 (show (0 : Int) <= (x : Int) by omega) hxL
        rw [hrow] at c1; cases c1
        rw [hrow2] at d1; cases d1
        have hgo : stepP ways ways2 (ra, rb) (x : Int) = (g1, g2) := by show (stepW ways ra x, stepW ways2 rb x) = _; rw [c3, d3]
        have hmem3 := List.mem_of_getElem? he3
        obtain ⟨bf4, se4⟩ := bf3.letter se3 hmem3 hxL (by rw [hgo]; exact ⟨⟨c4, c5⟩, d4, d5⟩)
        have he4 := put_keep (step := stepP ways ways2) (r := (ra, rb)) (w := w) (x := x) he3
        rw [show L.toNat - x = (L.toNat - (x + 1)) + 1 by omega, addF_succ] at had
        walk_at "rd"
        refine ⟨_, s3.seqT q1, _, rfl, ?_⟩
        walk_at "rd"
        refine ⟨_, SqT.of hb3, _, rfl, ?_⟩
        walk_at "rd"
        refine ⟨_, s3.seqT z1, _, z2, ?_⟩
        walk_at "rd"
        refine ⟨_, s3.seqT z3, _, atI_int (by omega) c2, _, s3.seqT q1', _, rfl, _, SqT.of hb3, _, rfl, _, rfl, _, _, rfl, s3.seqT z1', _, z2', _, rfl, _, s3.seqT z3', _, atI_int (by omega) d2, by omega, fun p3 hp3 => ?_⟩
        have sT := s3.newT hp3 (o := .tup [V.int g1, V.int g2])
        have kT : TK H3 (upd H3 p3 (.tup [V.int g1, V.int g2])) := TK.new hp3
        have enT := Same.new hp3 (o := .tup [V.int g1, V.int g2]) _ _ en3
        have hrT := Same.new hp3 (o := .tup [V.int g1, V.int g2]) _ _ hr3
        have hbT := Same.new hp3 (o := .tup [V.int g1, V.int g2]) _ _ hb3
        have foT := fo3.mono kT
        have hp3T : upd H3 p3 (.tup [V.int g1, V.int g2]) p3 = some (.tup ((keyP (g1, g2)).map kV)) := upd_same
        generalize upd H3 p3 (.tup [V.int g1, V.int g2]) = HT' at sT kT enT hrT hbT foT hp3T ⊢
        refine ⟨_, DGet.t enT hp3T, ?_⟩
        by_cases hm : (g1, g2) ∈ ents'.map (·.1)
        . have hput : put (stepP ways ways2) (ra, rb) w ents' x = ents' := by unfold put; rw [hgo, if_pos hm]
          rw [hput] at bf4 se4 he4 had
          rw [st3.yes hm, if_neg (by decide)]
          exact (hPn _ _ _).mpr ⟨ents', kvs', rs', _, _, sT, enT, hrT, st3, foT, hbT, bf4, se4, he4, had, rfl⟩
        . have hput : put (stepP ways ways2) (ra, rb) w ents' x = ents' ++ [((g1, g2), w ++ [(x : Int)])] := by unfold put; rw [hgo, if_neg hm]
          rw [hput] at bf4 se4 he4 had
          rw [st3.no hm, if_pos (by simp)]
          have hlen3 := bf3.lenP
          refine ⟨_, DPut.t (k := keyP (g1, g2)) enT hp3T (by rw [st3.len, List.length_map]; omega), ?_⟩
          have kV' : TK HT' (upd HT' p (.dT (putK kvs' (keyP (g1, g2)) (V.bl true)))) := TK.dT enT
          have hrV : upd HT' p (.dT (putK kvs' (keyP (g1, g2)) (V.bl true))) p2 = some (.lst rs') := by rw [upd_ne hne2]; exact hrT
          refine ⟨.inl ⟨rfl, _, SqL.of hrV⟩, _, hrV, by rw [fo3.1, List.length_map]; omega, (hPn _ _ _).mpr ⟨ents' ++ [((g1, g2), w ++ [(x : Int)])], putK kvs' (keyP (g1, g2)) (V.bl true), rs' ++ [V.ref p3], _, _, (sT.over hp).over hp2n, ?_, upd_same, ?_, ?_, TK.lst hrV _ _ (kV' _ _ hbT), bf4, se4, he4, had, rfl⟩⟩
          . rw [upd_ne (Ne.symm hne2)]; exact upd_same
          . have := st3.put hm (V.bl true)
            simpa using this
          . have := ((foT.mono kV').mono (TK.lst (o := .lst (rs' ++ [V.ref p3])) hrV)).snoc (p := (g1, g2)) (b := p3) (TK.lst hrV _ _ (kV' _ _ hp3T))
            simpa using this
      . obtain ⟨ents', kvs', rs', o7, o8, s3, en3, hr3, st3, fo3, hb3, bf3, se3, he3, had, rfl⟩ := (hPn _ _ _).mp h3
        rw [Nat.sub_self, addF_zero] at had
        walk_at "rd"
        obtain ⟨bf4, htop4⟩ := bf3.next (by omega) (by omega) se3 he3
        refine (hPv _ _ _).mpr ⟨ents', kvs', rs', i + 1, _, _, _, _, rfl, s3, en3, hr3, st3, fo3, bf4, htop4, ?_, by push_cast; rfl⟩
        rw [show marks.length * marks2.length + 1 - i = (marks.length * marks2.length + 1 - (i + 1)) + 1 by omega, bfsF_step he] at hbfs
        rw [had]
        exact hbfs
    . have hi : i = ents.length := by have := bf.il; omega
      subst hi
      rw [bfsF_stop (by simp)] at hbfs
      rw [<- hbfs] at k
      exact k p2 rs H2 s2 hp2n hr2 fo2 ⟨top, bf⟩
def sp_foreign (K : PySem.W.Frag) : Sp := fun vs H Q _ => ∃ (h : Addr) (L : Int) (marks : List Int) (ways : List (List Int)), vs = [.ref h] /\ House K H h L marks ways /\ Wf L marks ways /\ ∀ f L' marks' ways' H', Same H H' -> House K H' f L' marks' ways' -> Wf L' marks' ways' -> L' ≠ L -> Q (.ref f) H'
theorem ok__law_foreign {f : Addr} {fd : FuncData} (F : Fun K "_law_foreign" "_law_foreign" s__law_foreign f fd) (T : Txt mg)
    (Z : Exs K mg C_AskError C_BadHouse)
    : FnOk P w K mg base CX0 1 f fd ["house"] (sp_foreign K) := by
  refine F.ok sc__law_foreign (fun vs H Q E h => ?_) (fun cdv A outer s H vs Q E hr h => ?_)
  . obtain ⟨h, L, marks, ways, rfl, _⟩ := h; rfl
  . obtain ⟨h, L, marks, ways, rfl, hh, wf, k⟩ := h
    have hl := line1000
    have hL1 := wf.l1
    have hL6 := wf.l6
    have hn1 := wf.n1
    refine ⟨_, (pss_cons (ps_set (i := 1) sc__law_foreign.nd rfl (Or.inl rfl) (pe_op op_add (pe_op op_mod (pe_ix ix_tup (pv 0) pe_int (fun _ _ => rfl)) pe_int) pe_int))
      (pss_one (ps_ret (pe_tup (pa_cons (pv 1) (pa_cons (pe_tup (pa_cons (pe_ix ix_tup (pe_ix ix_tup (pv 0) pe_int (fun _ _ => rfl)) pe_int (fun _ _ => rfl)) pa_nil)) (pa_cons (pe_tup (pa_cons (pe_op op_repT (pe_tup (pa_cons pe_int pa_nil)) (pv 1)) pa_nil)) pa_nil))))))), ?_⟩
    walk_at "rd"
    obtain ⟨tm, tw, q1, q2, q3⟩ := id hh
    refine ⟨_, q1, _, rfl, _, rfl, by decide, ?_⟩
    walk_at "rd"
    have l0 := Int.emod_nonneg L (show (6 : Int) ≠ 0 by decide)
    have l1 := Int.emod_lt_of_pos L (show (0 : Int) < 6 by decide)
    have hLne : L % 6 + 1 ≠ L := by omega
    have hM : 1 <= L % 6 + 1 /\ L % 6 + 1 <= 6 := by omega
    generalize L % 6 + 1 = M at hLne hM ⊢
    refine ⟨_, q1, _, rfl, tm, rfl, _, q2, _, mkW_at (show (0 : Int) <= 0 by omega) (by omega), by omega, fun pm hpm => ⟨by omega, fun pz hpz => ?_⟩⟩
    have sA := (Same.new (o := .tup [V.int (mkW marks 0)]) hpm).newT (o := .tup [V.int 0]) hpz
    have hA := Same.new (o := .tup [V.int 0]) hpz _ _ (upd_same (H := H) (a := pm) (o := .tup [V.int (mkW marks 0)]))
    refine rRepT.of (SqT.of upd_same) (by simp) (by omega) (by omega) (by simp; omega) fun pr H1 s1 hpr => ⟨by omega, fun pw hpw => ⟨by omega, fun pf hpf => ?_⟩⟩
    rw [flat_rep1] at hpr
    have sB := (Same.new (o := .tup [V.ref pr]) hpw).newT (o := .tup [V.int M, V.ref pm, V.ref pw]) hpf
    refine k pf M [mkW marks 0] [List.replicate M.toNat 0] _ ((sA.trans s1).trans sB) ⟨pm, pw, SqT.of upd_same, sB.seqT (s1.seqT (SqT.of hA)), [pr], SqT.of (Same.new hpf _ _ upd_same), rfl, fun i t row e1 e2 => ?_⟩ ⟨hM.1, hM.2, by simp, by simp, rfl, fun row hr => ?_, fun m hm => ?_⟩ hLne
    . cases i with
      | zero =>
        simp at e1 e2
        subst e1 e2
        rw [List.map_replicate]
        exact sB.seqT hpr
      | succ i => simp at e1
    . rw [List.mem_singleton.mp hr]
      refine ⟨by simp; omega, fun x hx => ?_⟩
      rw [List.eq_of_mem_replicate hx]
      simp
    . rw [List.mem_singleton.mp hm]
      exact wf.mks _ (mkW_in (show (0 : Int) <= 0 by omega) (by omega))
def sp_refused16 (K : PySem.W.Frag) : Sp := fun vs H Q _ => ∃ (h a : Addr) (L M : Int) (marks marks2 : List Int) (ways ways2 : List (List Int)), vs = [.ref h, .ref a] /\ House K H h L marks ways /\ Wf L marks ways /\ House K H a M marks2 ways2 /\ Wf M marks2 ways2 /\ L ≠ M /\ ∀ H', Same H H' -> Q (.bl true) H'
theorem ok__law_refused {f : Addr} {fd : FuncData} (F : Fun K "_law_refused" "_law_refused" s__law_refused f fd) (T : Txt mg)
    (Z : Exs K mg C_AskError C_BadHouse)
    {f_alike : Addr} {fd_alike : FuncData} (g_alike : FnOk P w K mg base (CXe P w) 4 f_alike fd_alike ["house", "other"] (sp_alike K C_BadHouse)) (F_alike : Fun K "alike" "alike" s_alike f_alike fd_alike) (b_alike : Binds K fd_alike ["house", "other"] []) (m_alike : mg "alike" = some (.ref f_alike))
    : FnOk P w K mg base CX0 5 f fd ["house", "other"] (sp_refused16 K) := by
  refine F.ok sc__law_refused (fun vs H Q E h => ?_) (fun cdv A outer s H vs Q E hr h => ?_)
  . obtain ⟨h, a, L, M, marks, marks2, ways, ways2, rfl, _⟩ := h; rfl
  . obtain ⟨h, a, L, M, marks, marks2, ways, ways2, rfl, hh, wf, hh2, wf2, hne, k⟩ := h
    refine ⟨_, (pss_cons (ps_set (i := 2) sc__law_refused.nd rfl (Or.inl rfl) pe_bl)
      (pss_cut (ps_try (i := 3) (E := (fun σ cls _ H1 => σ = [some (.ref h), some (.ref a), some (.bl false), none] /\ cls = .ref C_BadHouse /\ Same H H1)) sc__law_refused.nd rfl rfl rfl Z.m_AskError rfl rfl rfl (fun xe pn hx => (pss_one (ps_expr (pe_callE g_alike (hr.mono (by decide)) rfl m_alike F_alike.kp b_alike .nil hx (pa_cons (pv 0) (pa_cons (pv 1) pa_nil))))))
      (fun ea pn => (pss_one (ps_set (i := 2) sc__law_refused.nd rfl (Or.inl rfl) (pe_and (pe_callB (call_isinstK (K := K) rfl) rfl T.isinstance PyProof.Rows.boot_isinstance (pa_cons (pv 3) (pa_cons (pe_glob (v := .ref C_BadHouse) rfl Z.m_BadHouse rfl) pa_nil))) (pe_one (pe_callB (call_isinstK (K := K) rfl) rfl T.isinstance PyProof.Rows.boot_isinstance (pa_cons (pv 3) (pa_cons (pe_bltn (v := .ty "ValueError") rfl T.ValueError L2.boot_ValueError rfl) pa_nil)))))))))
      (pss_one (ps_ret (pv 2))))), ?_⟩
    walk_at "rd"
    refine ⟨fun σ' H' => σ' = [some (.ref h), some (.ref a), some (.bl true), none] /\ Same H H', ?_, ?_⟩
    . walk_at "rd"
      refine ⟨⟨h, a, L, M, marks, marks2, ways, ways2, rfl, hh, wf, hh2, wf2, fun z => absurd z hne, fun _ H1 s1 => ⟨rfl, s1⟩⟩, fun σ1 cls H1 h1 => ?_⟩
      obtain ⟨rfl, rfl, s1⟩ := h1
      refine ⟨C_BadHouse, rfl, Z.e_BadHouse, fun ea hea => ?_⟩
      walk_at "rd"
      refine ⟨_, _, .exc upd_same Z.c_BadHouse, rel_ref, _, Z.k_BadHouse_BadHouse, ?_⟩
      rw [if_pos rfl]
      exact ⟨_, _, .exc upd_same Z.c_BadHouse, rel_ty, _, Z.v_BadHouse, rfl, s1.newT hea⟩
    . rintro σ' H' ⟨rfl, s'⟩
      walk_at "rd"
      exact k _ s'
def sp_tells21 (K : PySem.W.Frag) : Sp := fun vs H Q _ => ∃ (h h2 : Addr) (L : Int) (marks marks2 : List Int) (ways ways2 : List (List Int)) (d : Bool), vs = [.ref h, .ref h2, .bl d] /\ House K H h L marks ways /\ Wf L marks ways /\ House K H h2 L marks2 ways2 /\ Wf L marks2 ways2 /\ (d = true ↔ ∀ v, isW L v = true -> mkR marks (walkW ways v) = mkR marks2 (walkW ways2 v)) /\ ∀ H', Same H H' -> Q (.bl true) H'
theorem ok__law_tells {f : Addr} {fd : FuncData} (F : Fun K "_law_tells" "_law_tells" s__law_tells f fd) (T : Txt mg)
    (Z : Exs K mg C_AskError C_BadHouse)
    {f_alike : Addr} {fd_alike : FuncData} (g_alike : FnOk P w K mg base (CXe P w) 4 f_alike fd_alike ["house", "other"] (sp_alike K C_BadHouse)) (F_alike : Fun K "alike" "alike" s_alike f_alike fd_alike) (b_alike : Binds K fd_alike ["house", "other"] []) (m_alike : mg "alike" = some (.ref f_alike))
    : FnOk P w K mg base CX0 5 f fd ["house", "other", "due"] (sp_tells21 K) := by
  refine F.ok sc__law_tells (fun vs H Q E h => ?_) (fun cdv A outer s H vs Q E hr h => ?_)
  . obtain ⟨h, h2, L, marks, marks2, ways, ways2, d, rfl, _⟩ := h; rfl
  . obtain ⟨h, h2, L, marks, marks2, ways, ways2, d, rfl, hh, wf, hh2, wf2, hd, k⟩ := h
    refine ⟨_, (pss_cons (ps_set (i := 3) sc__law_tells.nd rfl (Or.inl rfl) (pe_call g_alike (hr.mono (by decide)) rfl m_alike F_alike.kp b_alike .nil (passNev (P := P) (w := w)) (pa_cons (pv 0) (pa_cons (pv 1) pa_nil))))
      (pss_one (ps_ret (pe_and (pe_callB call_isinstW rfl T.isinstance PyProof.Rows.boot_isinstance (pa_cons (pv 3) (pa_cons (pe_bltn (v := .ty "bool") rfl T.bool PyProof.Rows.boot_bool rfl) pa_nil))) (pe_one (pe_cmpR op_eq (pv 3) (pv 2) (nomark _))))))), ?_⟩
    walk_at "rd"
    refine ⟨h, h2, L, L, marks, marks2, ways, ways2, rfl, hh, wf, hh2, wf2, fun _ H' b s' hb => ?_, fun e => absurd rfl e⟩
    have e : b = d := Bool.eq_iff_iff.mpr (hb.trans hd.symm)
    subst e
    refine ⟨_, _, .bl _, rel_ty, _, kit_self, ?_⟩
    rw [if_pos rfl]
    refine ⟨rfl, ?_⟩
    rw [decide_eq_true rfl]
    exact k _ s'
theorem pairs_iff {L : Nat} {marks marks2 : List Int} {ways ways2 : List (List Int)} {ents : List ((Int × Int) × List Int)} {ok : Int × Int -> Prop} {top : Int} (bf : B L (stepP ways ways2) (0, 0) ok ents ents.length top) : (∀ j, j < ents.length -> ∀ e, ents[j]? = some e -> mkW marks e.1.1 = mkW marks2 e.1.2) ↔ ∀ v, isW L v = true -> mkR marks (walkW ways v) = mkR marks2 (walkW ways2 v) := by
  constructor
  . intro h v hv
    obtain ⟨w', hm, _⟩ := bf.leastW hv
    obtain ⟨j, hj, ej⟩ := List.getElem_of_mem hm
    have := h j hj _ (by rw [List.getElem?_eq_getElem hj, ej])
    rw [walkP] at this
    exact this
  . intro h j hj e he
    have hwd := bf.wd e (List.mem_of_getElem? he)
    have h1 := hwd.2
    rw [walkP] at h1
    have := h e.2 hwd.1
    rw [<- walkR_zero, <- walkR_zero, show walkR ways 0 e.2 = e.1.1 from congrArg Prod.fst h1, show walkR ways2 0 e.2 = e.1.2 from congrArg Prod.snd h1] at this
    exact this
def spLaw (K : PySem.W.Frag) : Sp := fun vs H Q _ => ∃ (a : Addr) (ns : List Int), vs = [.ref a] /\ SqL K H a (ns.map V.int) /\ ns.length <= 63 /\ ∀ H', Q (.bl true) H'
theorem ok_law {f : Addr} {fd : FuncData} (F : Fun K "law" "law" s_law f fd) (T : Txt mg)
    (Z : Exs K mg C_AskError C_BadHouse)
    {f_least : Addr} {fd_least : FuncData} (g_least : FnOk P w K mg base CX0 5 f_least fd_least ["house"] (sp_least K)) (F_least : Fun K "least" "least" s_least f_least fd_least) (b_least : Binds K fd_least ["house"] []) (m_least : mg "least" = some (.ref f_least))
    {f__law_house_by : Addr} {fd__law_house_by : FuncData} (g__law_house_by : FnOk P w K mg base CX0 3 f__law_house_by fd__law_house_by ["script"] (sp_houseby K)) (F__law_house_by : Fun K "_law_house_by" "_law_house_by" s__law_house_by f__law_house_by fd__law_house_by) (b__law_house_by : Binds K fd__law_house_by ["script"] []) (m__law_house_by : mg "_law_house_by" = some (.ref f__law_house_by))
    {f__law_other_by : Addr} {fd__law_other_by : FuncData} (g__law_other_by : FnOk P w K mg base CX0 3 f__law_other_by fd__law_other_by ["house", "script"] (sp_otherby K)) (F__law_other_by : Fun K "_law_other_by" "_law_other_by" s__law_other_by f__law_other_by fd__law_other_by) (b__law_other_by : Binds K fd__law_other_by ["house", "script"] []) (m__law_other_by : mg "_law_other_by" = some (.ref f__law_other_by))
    {f__law_pairs_of : Addr} {fd__law_pairs_of : FuncData} (g__law_pairs_of : FnOk P w K mg base CX0 1 f__law_pairs_of fd__law_pairs_of ["house", "other"] (sp_pairsof K)) (F__law_pairs_of : Fun K "_law_pairs_of" "_law_pairs_of" s__law_pairs_of f__law_pairs_of fd__law_pairs_of) (b__law_pairs_of : Binds K fd__law_pairs_of ["house", "other"] []) (m__law_pairs_of : mg "_law_pairs_of" = some (.ref f__law_pairs_of))
    {f__law_foreign : Addr} {fd__law_foreign : FuncData} (g__law_foreign : FnOk P w K mg base CX0 1 f__law_foreign fd__law_foreign ["house"] (sp_foreign K)) (F__law_foreign : Fun K "_law_foreign" "_law_foreign" s__law_foreign f__law_foreign fd__law_foreign) (b__law_foreign : Binds K fd__law_foreign ["house"] []) (m__law_foreign : mg "_law_foreign" = some (.ref f__law_foreign))
    {f__law_refused : Addr} {fd__law_refused : FuncData} (g__law_refused : FnOk P w K mg base CX0 5 f__law_refused fd__law_refused ["house", "other"] (sp_refused16 K)) (F__law_refused : Fun K "_law_refused" "_law_refused" s__law_refused f__law_refused fd__law_refused) (b__law_refused : Binds K fd__law_refused ["house", "other"] []) (m__law_refused : mg "_law_refused" = some (.ref f__law_refused))
    {f__law_tells : Addr} {fd__law_tells : FuncData} (g__law_tells : FnOk P w K mg base CX0 5 f__law_tells fd__law_tells ["house", "other", "due"] (sp_tells21 K)) (F__law_tells : Fun K "_law_tells" "_law_tells" s__law_tells f__law_tells fd__law_tells) (b__law_tells : Binds K fd__law_tells ["house", "other", "due"] []) (m__law_tells : mg "_law_tells" = some (.ref f__law_tells))
    : FnOk P w K mg base CX0 6 f fd ["script"] (spLaw K) := by
  refine F.ok sc_law (fun vs H Q E h => ?_) (fun cdv A outer s H vs Q E hr h => ?_)
  . obtain ⟨a, ns, rfl, _⟩ := h; rfl
  . obtain ⟨a, ns, rfl, hs, hz, k⟩ := h
    have hl := line1000
    refine ⟨_, (pss_cons (ps_set (i := 1) sc_law.nd rfl (Or.inl rfl) (pe_call g__law_house_by (hr.mono (by decide)) rfl m__law_house_by F__law_house_by.kp b__law_house_by .nil pass0 (pa_cons (pv 0) pa_nil)))
      (pss_cons (ps_set (i := 2) sc_law.nd rfl (Or.inl rfl) (pe_call g__law_other_by (hr.mono (by decide)) rfl m__law_other_by F__law_other_by.kp b__law_other_by .nil pass0 (pa_cons (pv 1) (pa_cons (pv 0) pa_nil))))
      (pss_cons (ps_set (i := 3) sc_law.nd rfl (Or.inl rfl) pe_bl)
      (pss_cut (ps_for PassesOwn.never rfl (pi_list (pe_call g__law_pairs_of (hr.mono (by decide)) rfl m__law_pairs_of F__law_pairs_of.kp b__law_pairs_of .nil pass0 (pa_cons (pv 1) (pa_cons (pv 2) pa_nil)))) (pg_name (i := 4) sc_law.nd rfl (Or.inl rfl))
      (pss_one (ps_if (pt_cmpR op_ne (pe_ix ix_tup (pe_ix ix_tup (pv 1) pe_int (fun _ _ => rfl)) (pe_ix ix_tup (pv 4) pe_int (fun _ _ => rfl)) (fun _ _ => rfl)) (pe_ix ix_tup (pe_ix ix_tup (pv 2) pe_int (fun _ _ => rfl)) (pe_ix ix_tup (pv 4) pe_int (fun _ _ => rfl)) (fun _ _ => rfl)) (nomark _))
      (pss_one (ps_set (i := 3) sc_law.nd rfl (Or.inl rfl) pe_bl))
      pss_nil)))
      (pss_cons (ps_if (PW.pt (pw_or (pt_not (pt_val (pe_call g__law_tells (hr.mono (by decide)) rfl m__law_tells F__law_tells.kp b__law_tells .nil pass0 (pa_cons (pv 1) (pa_cons (pv 2) (pa_cons (pv 3) pa_nil)))))) (pw_or1 (pt_not (pt_val (pe_call g__law_tells (hr.mono (by decide)) rfl m__law_tells F__law_tells.kp b__law_tells .nil pass0 (pa_cons (pv 2) (pa_cons (pv 1) (pa_cons (pv 3) pa_nil)))))))))
      (pss_one (ps_ret pe_bl))
      pss_nil)
      (pss_cons (ps_if (PW.pt (pw_or (pt_not (pt_val (pe_call g__law_tells (hr.mono (by decide)) rfl m__law_tells F__law_tells.kp b__law_tells .nil pass0 (pa_cons (pv 1) (pa_cons (pe_call g_least (hr.mono (by decide)) rfl m_least F_least.kp b_least .nil pass0 (pa_cons (pv 1) pa_nil)) (pa_cons pe_bl pa_nil)))))) (pw_or1 (pt_not (pt_val (pe_call g__law_tells (hr.mono (by decide)) rfl m__law_tells F__law_tells.kp b__law_tells .nil pass0 (pa_cons (pe_call g_least (hr.mono (by decide)) rfl m_least F_least.kp b_least .nil pass0 (pa_cons (pv 2) pa_nil)) (pa_cons (pv 2) (pa_cons pe_bl pa_nil)))))))))
      (pss_one (ps_ret pe_bl))
      pss_nil)
      (pss_cons (ps_set (i := 5) sc_law.nd rfl (Or.inl rfl) (pe_call g__law_foreign (hr.mono (by decide)) rfl m__law_foreign F__law_foreign.kp b__law_foreign .nil pass0 (pa_cons (pv 1) pa_nil)))
      (pss_one (ps_ret (pe_and (pe_call g__law_refused (hr.mono (by decide)) rfl m__law_refused F__law_refused.kp b__law_refused .nil pass0 (pa_cons (pv 1) (pa_cons (pv 5) pa_nil))) (pe_one (pe_call g__law_refused (hr.mono (by decide)) rfl m__law_refused F__law_refused.kp b__law_refused .nil pass0 (pa_cons (pv 5) (pa_cons (pv 1) pa_nil)))))))))))))), ?_⟩
    walk_at "rd"
    refine ⟨a, ns, rfl, hs, fun h L0 marks ways H1 s1 hh wf => ?_⟩
    obtain ⟨L, rfl⟩ : ∃ L : Nat, L0 = (L : Int) := ⟨L0.toNat, by have := wf.l1; omega⟩
    refine ⟨h, a, L, marks, ways, ns, rfl, hh, wf, s1.seq hs, fun h2 marks2 ways2 H2 s2 hh2 wf2 => ?_⟩
    walk_at "rd"
    obtain ⟨R, hR⟩ : ∃ R : St -> Hp -> Prop, ∀ σ' H', R σ' H' ↔ (Same H2 H' /\ ∃ (d : Bool) (o : Option V), (d = true ↔ ∀ v, isW L v = true -> mkR marks (walkW ways v) = mkR marks2 (walkW ways2 v)) /\ σ' = [some (.ref a), some (.ref h), some (.ref h2), some (.bl d), o, none]) := ⟨_, fun _ _ => Iff.rfl⟩
    refine ⟨R, ?_, fun σ3 H3 h3 => ?_⟩
    . walk_at "rd"
      refine ⟨h, h2, L, marks, marks2, ways, ways2, rfl, hh.mono s2, wf, hh2, wf2, fun l rs H6 s6 hln hl6 hfo ⟨top, bf⟩ => ?_⟩
      generalize pairEnts ways ways2 L marks.length marks2.length 0 0 = ents at hfo bf
      obtain ⟨tm, tw, q1, q2, q3⟩ := hh.mono (s2.trans s6)
      obtain ⟨tm', tw', q1', q2', q3'⟩ := hh2.mono s6
      refine ⟨l, rfl, ⟨_, SqL.of hl6⟩, ?_⟩
      obtain ⟨Pv, hPv⟩ : ∃ Pv : Nat -> St -> Hp -> Prop, ∀ i σ' H', Pv i σ' H' ↔ (H' = H6 /\ ∃ (d : Bool) (o : Option V), (d = true ↔ ∀ j, j < i -> ∀ e, ents[j]? = some e -> mkW marks e.1.1 = mkW marks2 e.1.2) /\ σ' = [some (.ref a), some (.ref h), some (.ref h2), some (.bl d), o, none]) := ⟨_, fun _ _ _ => Iff.rfl⟩
      refine forL (xs := rs) Pv ((hPv _ _ _).mpr ⟨rfl, true, none, ⟨fun _ j hj => absurd hj (Nat.not_lt_zero _), fun _ => rfl⟩, rfl⟩) (fun i σ' H' _ h' => by rw [((hPv _ _ _).mp h').1]; exact SqL.of hl6) (fun i x σ' H' hx h' => ?_) (fun σ' H' h' => ?_)
      . obtain ⟨rfl, d, o, hd, rfl⟩ := (hPv _ _ _).mp h'
        have hi : i < ents.length := by have := (List.getElem?_eq_some_iff.mp hx).1; rw [hfo.1, List.length_map] at this; exact this
        have hei : ents[i]? = some ents[i] := by simp [hi]
        obtain ⟨b, e1, e2⟩ := hfo.2 i ents[i].1 (by rw [List.getElem?_map, hei]; rfl)
        rw [hx] at e1
        cases e1
        obtain ⟨⟨a0, a1⟩, b0, b1⟩ := bf.rng _ (List.mem_of_getElem? hei)
        walk_at "rd"
        refine ⟨_, q1, _, rfl, ?_⟩
        walk_at "rd"
        refine ⟨_, SqT.of e2, _, rfl, ?_⟩
        walk_at "rd"
        refine ⟨_, q2, _, mkW_at a0 a1, _, q1', _, rfl, ?_⟩
        walk_at "rd"
        refine ⟨_, SqT.of e2, _, rfl, _, _, rfl, q2', _, mkW_at b0 b1, rfl, ?_⟩
        by_cases hmk : mkW marks ents[i].1.1 = mkW marks2 ents[i].1.2
        . rw [if_neg (by rw [decide_eq_true (congrArg V.int hmk)]; decide)]
          refine (hPv _ _ _).mpr ⟨rfl, d, _, ⟨fun z j hj e he => ?_, fun z => hd.mpr fun j hj e he => z j (by omega) e he⟩, rfl⟩
          by_cases hji : j < i
          . exact hd.mp z j hji e he
          . have : j = i := by omega
            subst this
            rw [hei] at he
            cases he
            exact hmk
        . rw [if_pos (by rw [decide_eq_false (fun z => hmk (V.int.inj z))]; decide)]
          exact (hPv _ _ _).mpr ⟨rfl, false, _, ⟨(fun z => by cases z), fun z => absurd (z i (by omega) _ hei) hmk⟩, rfl⟩
      . obtain ⟨rfl, d, o, hd, rfl⟩ := (hPv _ _ _).mp h'
        rw [hfo.1, List.length_map] at hd
        exact (hR _ _).mpr ⟨s6, d, o, hd.trans (pairs_iff bf), rfl⟩
    obtain ⟨s3, d, o, hd, rfl⟩ := (hR _ _).mp h3
    walk_at "rd"
    have hh3 := hh.mono (s2.trans s3)
    have hh23 := hh2.mono s3
    refine ⟨h, h2, L, marks, marks2, ways, ways2, d, rfl, hh3, wf, hh23, wf2, hd, fun H4 s4 => ⟨_, rfl, ?_⟩⟩
    rw [if_neg (by decide)]
    refine ⟨h2, h, L, marks2, marks, ways2, ways, d, rfl, hh23.mono s4, wf2, hh3.mono s4, wf, hd.trans ⟨fun z v hv => (z v hv).symm, fun z v hv => (z v hv).symm⟩, fun H5 s5 => ⟨_, rfl, ?_⟩⟩
    rw [if_neg (by decide)]
    have s35 := s4.trans s5
    refine ⟨h, L, marks, ways, rfl, hh3.mono s35, wf, fun p1 H6 s6 hp1 => ?_⟩
    have s36 := s35.trans s6
    refine ⟨h, p1, L, marks, _, ways, _, true, rfl, hh3.mono s36, wf, hp1, sWf wf, ⟨fun _ v hv => (s_ans wf hv).symm, fun _ => rfl⟩, fun H7 s7 => ⟨_, rfl, ?_⟩⟩
    rw [if_neg (by decide)]
    have s37 := s36.trans s7
    refine ⟨h2, L, marks2, ways2, rfl, hh23.mono s37, wf2, fun p2 H8 s8 hp2 => ?_⟩
    have s38 := s37.trans s8
    refine ⟨p2, h2, L, _, marks2, _, ways2, true, rfl, hp2, sWf wf2, hh23.mono s38, wf2, ⟨fun _ v hv => s_ans wf2 hv, fun _ => rfl⟩, fun H9 s9 => ⟨_, rfl, ?_⟩⟩
    rw [if_neg (by decide)]
    have s39 := s38.trans s9
    refine ⟨h, L, marks, ways, rfl, hh3.mono s39, wf, fun pf L' marks' ways' H10 s10 hf wff hne => ?_⟩
    have s310 := s39.trans s10
    refine ⟨h, pf, L, L', marks, marks', ways, ways', rfl, hh3.mono s310, wf, hf, wff, fun z => hne z.symm, fun H11 s11 => ⟨_, rfl, ?_⟩⟩
    rw [if_pos rfl]
    exact ⟨pf, h, L', L, marks', marks, ways', ways, rfl, hf.mono s11, wff, (hh3.mono s310).mono s11, wf, hne, fun H12 s12 => k _⟩
end
theorem all_mk {l : PySem.W.OpenLaw} {w : World} {K : PySem.W.Frag} {h : Heap} {mg : Str -> Option Value} {fa f_words_in f_reached f_check_as_many_letters f_steps_from f_word_to f_least_word_apart f_difference f_numbered f_words_and_classes f_classes_of f_homes f_least f_alike f__law_cell_at f__law_mixed f__law_marks_by f__law_ways_by f__law_blown f__law_house_by f__law_spoiled f__law_turned_by f__law_other_by f__law_pairs_of f__law_foreign f__law_refused f__law_tells f_law : Addr} (X : K.In h) (G : h.Ns mainGlobals mg) (hfa : mg "law" = some (.ref fa))
    {C_AskError C_BadHouse : Addr}
    {od_words_in an_words_in : Option Addr} {sl_words_in : Array (Option Value)} {oc_words_in kV_words_in dc_words_in pm_words_in cd_words_in ct_words_in : Value}
    {od_reached an_reached : Option Addr} {sl_reached : Array (Option Value)} {oc_reached kV_reached dc_reached pm_reached cd_reached ct_reached : Value}
    {od_check_as_many_letters an_check_as_many_letters : Option Addr} {sl_check_as_many_letters : Array (Option Value)} {oc_check_as_many_letters kV_check_as_many_letters dc_check_as_many_letters pm_check_as_many_letters cd_check_as_many_letters ct_check_as_many_letters : Value}
    {od_steps_from an_steps_from : Option Addr} {sl_steps_from : Array (Option Value)} {oc_steps_from kV_steps_from dc_steps_from pm_steps_from cd_steps_from ct_steps_from : Value}
    {od_word_to an_word_to : Option Addr} {sl_word_to : Array (Option Value)} {oc_word_to kV_word_to dc_word_to pm_word_to cd_word_to ct_word_to : Value}
    {od_least_word_apart an_least_word_apart : Option Addr} {sl_least_word_apart : Array (Option Value)} {oc_least_word_apart kV_least_word_apart dc_least_word_apart pm_least_word_apart cd_least_word_apart ct_least_word_apart : Value}
    {od_difference an_difference : Option Addr} {sl_difference : Array (Option Value)} {oc_difference kV_difference dc_difference pm_difference cd_difference ct_difference : Value}
    {od_numbered an_numbered : Option Addr} {sl_numbered : Array (Option Value)} {oc_numbered kV_numbered dc_numbered pm_numbered cd_numbered ct_numbered : Value}
    {od_words_and_classes an_words_and_classes : Option Addr} {sl_words_and_classes : Array (Option Value)} {oc_words_and_classes kV_words_and_classes dc_words_and_classes pm_words_and_classes cd_words_and_classes ct_words_and_classes : Value}
    {od_classes_of an_classes_of : Option Addr} {sl_classes_of : Array (Option Value)} {oc_classes_of kV_classes_of dc_classes_of pm_classes_of cd_classes_of ct_classes_of : Value}
    {od_homes an_homes : Option Addr} {sl_homes : Array (Option Value)} {oc_homes kV_homes dc_homes pm_homes cd_homes ct_homes : Value}
    {od_least an_least : Option Addr} {sl_least : Array (Option Value)} {oc_least kV_least dc_least pm_least cd_least ct_least : Value}
    {od_alike an_alike : Option Addr} {sl_alike : Array (Option Value)} {oc_alike kV_alike dc_alike pm_alike cd_alike ct_alike : Value}
    {od__law_cell_at an__law_cell_at : Option Addr} {sl__law_cell_at : Array (Option Value)} {oc__law_cell_at kV__law_cell_at dc__law_cell_at pm__law_cell_at cd__law_cell_at ct__law_cell_at : Value}
    {od__law_mixed an__law_mixed : Option Addr} {sl__law_mixed : Array (Option Value)} {oc__law_mixed kV__law_mixed dc__law_mixed pm__law_mixed cd__law_mixed ct__law_mixed : Value}
    {od__law_marks_by an__law_marks_by : Option Addr} {sl__law_marks_by : Array (Option Value)} {oc__law_marks_by kV__law_marks_by dc__law_marks_by pm__law_marks_by cd__law_marks_by ct__law_marks_by : Value}
    {od__law_ways_by an__law_ways_by : Option Addr} {sl__law_ways_by : Array (Option Value)} {oc__law_ways_by kV__law_ways_by dc__law_ways_by pm__law_ways_by cd__law_ways_by ct__law_ways_by : Value}
    {od__law_blown an__law_blown : Option Addr} {sl__law_blown : Array (Option Value)} {oc__law_blown kV__law_blown dc__law_blown pm__law_blown cd__law_blown ct__law_blown : Value}
    {od__law_house_by an__law_house_by : Option Addr} {sl__law_house_by : Array (Option Value)} {oc__law_house_by kV__law_house_by dc__law_house_by pm__law_house_by cd__law_house_by ct__law_house_by : Value}
    {od__law_spoiled an__law_spoiled : Option Addr} {sl__law_spoiled : Array (Option Value)} {oc__law_spoiled kV__law_spoiled dc__law_spoiled pm__law_spoiled cd__law_spoiled ct__law_spoiled : Value}
    {od__law_turned_by an__law_turned_by : Option Addr} {sl__law_turned_by : Array (Option Value)} {oc__law_turned_by kV__law_turned_by dc__law_turned_by pm__law_turned_by cd__law_turned_by ct__law_turned_by : Value}
    {od__law_other_by an__law_other_by : Option Addr} {sl__law_other_by : Array (Option Value)} {oc__law_other_by kV__law_other_by dc__law_other_by pm__law_other_by cd__law_other_by ct__law_other_by : Value}
    {od__law_pairs_of an__law_pairs_of : Option Addr} {sl__law_pairs_of : Array (Option Value)} {oc__law_pairs_of kV__law_pairs_of dc__law_pairs_of pm__law_pairs_of cd__law_pairs_of ct__law_pairs_of : Value}
    {od__law_foreign an__law_foreign : Option Addr} {sl__law_foreign : Array (Option Value)} {oc__law_foreign kV__law_foreign dc__law_foreign pm__law_foreign cd__law_foreign ct__law_foreign : Value}
    {od__law_refused an__law_refused : Option Addr} {sl__law_refused : Array (Option Value)} {oc__law_refused kV__law_refused dc__law_refused pm__law_refused cd__law_refused ct__law_refused : Value}
    {od__law_tells an__law_tells : Option Addr} {sl__law_tells : Array (Option Value)} {oc__law_tells kV__law_tells dc__law_tells pm__law_tells cd__law_tells ct__law_tells : Value}
    {od_law an_law : Option Addr} {sl_law : Array (Option Value)} {oc_law kV_law dc_law pm_law cd_law ct_law : Value}
    (a_words_in : PySem.W.nsIn K mainGlobals "words_in" = some (some (.ref f_words_in)))
    (l_words_in : K.lookup f_words_in = some ⟨oc_words_in, od_words_in, .func (PySem.W.fnOf "words_in" "words_in" (defArgs s_words_in) (defBody s_words_in) (defScope s_words_in) .none kV_words_in dc_words_in pm_words_in an_words_in cd_words_in ct_words_in), sl_words_in⟩)
    (c_words_in : PySem.W.codeIn K cd_words_in "words_in" = true)
    (k_words_in : PySem.W.keepIn K (.ref f_words_in) = true)
    (a_reached : PySem.W.nsIn K mainGlobals "reached" = some (some (.ref f_reached)))
    (l_reached : K.lookup f_reached = some ⟨oc_reached, od_reached, .func (PySem.W.fnOf "reached" "reached" (defArgs s_reached) (defBody s_reached) (defScope s_reached) .none kV_reached dc_reached pm_reached an_reached cd_reached ct_reached), sl_reached⟩)
    (c_reached : PySem.W.codeIn K cd_reached "reached" = true)
    (k_reached : PySem.W.keepIn K (.ref f_reached) = true)
    (a_check_as_many_letters : PySem.W.nsIn K mainGlobals "check_as_many_letters" = some (some (.ref f_check_as_many_letters)))
    (l_check_as_many_letters : K.lookup f_check_as_many_letters = some ⟨oc_check_as_many_letters, od_check_as_many_letters, .func (PySem.W.fnOf "check_as_many_letters" "check_as_many_letters" (defArgs s_check_as_many_letters) (defBody s_check_as_many_letters) (defScope s_check_as_many_letters) .none kV_check_as_many_letters dc_check_as_many_letters pm_check_as_many_letters an_check_as_many_letters cd_check_as_many_letters ct_check_as_many_letters), sl_check_as_many_letters⟩)
    (c_check_as_many_letters : PySem.W.codeIn K cd_check_as_many_letters "check_as_many_letters" = true)
    (k_check_as_many_letters : PySem.W.keepIn K (.ref f_check_as_many_letters) = true)
    (a_steps_from : PySem.W.nsIn K mainGlobals "steps_from" = some (some (.ref f_steps_from)))
    (l_steps_from : K.lookup f_steps_from = some ⟨oc_steps_from, od_steps_from, .func (PySem.W.fnOf "steps_from" "steps_from" (defArgs s_steps_from) (defBody s_steps_from) (defScope s_steps_from) .none kV_steps_from dc_steps_from pm_steps_from an_steps_from cd_steps_from ct_steps_from), sl_steps_from⟩)
    (c_steps_from : PySem.W.codeIn K cd_steps_from "steps_from" = true)
    (k_steps_from : PySem.W.keepIn K (.ref f_steps_from) = true)
    (a_word_to : PySem.W.nsIn K mainGlobals "word_to" = some (some (.ref f_word_to)))
    (l_word_to : K.lookup f_word_to = some ⟨oc_word_to, od_word_to, .func (PySem.W.fnOf "word_to" "word_to" (defArgs s_word_to) (defBody s_word_to) (defScope s_word_to) .none kV_word_to dc_word_to pm_word_to an_word_to cd_word_to ct_word_to), sl_word_to⟩)
    (c_word_to : PySem.W.codeIn K cd_word_to "word_to" = true)
    (k_word_to : PySem.W.keepIn K (.ref f_word_to) = true)
    (a_least_word_apart : PySem.W.nsIn K mainGlobals "least_word_apart" = some (some (.ref f_least_word_apart)))
    (l_least_word_apart : K.lookup f_least_word_apart = some ⟨oc_least_word_apart, od_least_word_apart, .func (PySem.W.fnOf "least_word_apart" "least_word_apart" (defArgs s_least_word_apart) (defBody s_least_word_apart) (defScope s_least_word_apart) .none kV_least_word_apart dc_least_word_apart pm_least_word_apart an_least_word_apart cd_least_word_apart ct_least_word_apart), sl_least_word_apart⟩)
    (c_least_word_apart : PySem.W.codeIn K cd_least_word_apart "least_word_apart" = true)
    (k_least_word_apart : PySem.W.keepIn K (.ref f_least_word_apart) = true)
    (a_difference : PySem.W.nsIn K mainGlobals "difference" = some (some (.ref f_difference)))
    (l_difference : K.lookup f_difference = some ⟨oc_difference, od_difference, .func (PySem.W.fnOf "difference" "difference" (defArgs s_difference) (defBody s_difference) (defScope s_difference) .none kV_difference dc_difference pm_difference an_difference cd_difference ct_difference), sl_difference⟩)
    (c_difference : PySem.W.codeIn K cd_difference "difference" = true)
    (k_difference : PySem.W.keepIn K (.ref f_difference) = true)
    (a_numbered : PySem.W.nsIn K mainGlobals "numbered" = some (some (.ref f_numbered)))
    (l_numbered : K.lookup f_numbered = some ⟨oc_numbered, od_numbered, .func (PySem.W.fnOf "numbered" "numbered" (defArgs s_numbered) (defBody s_numbered) (defScope s_numbered) .none kV_numbered dc_numbered pm_numbered an_numbered cd_numbered ct_numbered), sl_numbered⟩)
    (c_numbered : PySem.W.codeIn K cd_numbered "numbered" = true)
    (k_numbered : PySem.W.keepIn K (.ref f_numbered) = true)
    (a_words_and_classes : PySem.W.nsIn K mainGlobals "words_and_classes" = some (some (.ref f_words_and_classes)))
    (l_words_and_classes : K.lookup f_words_and_classes = some ⟨oc_words_and_classes, od_words_and_classes, .func (PySem.W.fnOf "words_and_classes" "words_and_classes" (defArgs s_words_and_classes) (defBody s_words_and_classes) (defScope s_words_and_classes) .none kV_words_and_classes dc_words_and_classes pm_words_and_classes an_words_and_classes cd_words_and_classes ct_words_and_classes), sl_words_and_classes⟩)
    (c_words_and_classes : PySem.W.codeIn K cd_words_and_classes "words_and_classes" = true)
    (k_words_and_classes : PySem.W.keepIn K (.ref f_words_and_classes) = true)
    (a_classes_of : PySem.W.nsIn K mainGlobals "classes_of" = some (some (.ref f_classes_of)))
    (l_classes_of : K.lookup f_classes_of = some ⟨oc_classes_of, od_classes_of, .func (PySem.W.fnOf "classes_of" "classes_of" (defArgs s_classes_of) (defBody s_classes_of) (defScope s_classes_of) .none kV_classes_of dc_classes_of pm_classes_of an_classes_of cd_classes_of ct_classes_of), sl_classes_of⟩)
    (c_classes_of : PySem.W.codeIn K cd_classes_of "classes_of" = true)
    (k_classes_of : PySem.W.keepIn K (.ref f_classes_of) = true)
    (a_homes : PySem.W.nsIn K mainGlobals "homes" = some (some (.ref f_homes)))
    (l_homes : K.lookup f_homes = some ⟨oc_homes, od_homes, .func (PySem.W.fnOf "homes" "homes" (defArgs s_homes) (defBody s_homes) (defScope s_homes) .none kV_homes dc_homes pm_homes an_homes cd_homes ct_homes), sl_homes⟩)
    (c_homes : PySem.W.codeIn K cd_homes "homes" = true)
    (k_homes : PySem.W.keepIn K (.ref f_homes) = true)
    (a_least : PySem.W.nsIn K mainGlobals "least" = some (some (.ref f_least)))
    (l_least : K.lookup f_least = some ⟨oc_least, od_least, .func (PySem.W.fnOf "least" "least" (defArgs s_least) (defBody s_least) (defScope s_least) .none kV_least dc_least pm_least an_least cd_least ct_least), sl_least⟩)
    (c_least : PySem.W.codeIn K cd_least "least" = true)
    (k_least : PySem.W.keepIn K (.ref f_least) = true)
    (a_alike : PySem.W.nsIn K mainGlobals "alike" = some (some (.ref f_alike)))
    (l_alike : K.lookup f_alike = some ⟨oc_alike, od_alike, .func (PySem.W.fnOf "alike" "alike" (defArgs s_alike) (defBody s_alike) (defScope s_alike) .none kV_alike dc_alike pm_alike an_alike cd_alike ct_alike), sl_alike⟩)
    (c_alike : PySem.W.codeIn K cd_alike "alike" = true)
    (k_alike : PySem.W.keepIn K (.ref f_alike) = true)
    (a__law_cell_at : PySem.W.nsIn K mainGlobals "_law_cell_at" = some (some (.ref f__law_cell_at)))
    (l__law_cell_at : K.lookup f__law_cell_at = some ⟨oc__law_cell_at, od__law_cell_at, .func (PySem.W.fnOf "_law_cell_at" "_law_cell_at" (defArgs s__law_cell_at) (defBody s__law_cell_at) (defScope s__law_cell_at) .none kV__law_cell_at dc__law_cell_at pm__law_cell_at an__law_cell_at cd__law_cell_at ct__law_cell_at), sl__law_cell_at⟩)
    (c__law_cell_at : PySem.W.codeIn K cd__law_cell_at "_law_cell_at" = true)
    (k__law_cell_at : PySem.W.keepIn K (.ref f__law_cell_at) = true)
    (a__law_mixed : PySem.W.nsIn K mainGlobals "_law_mixed" = some (some (.ref f__law_mixed)))
    (l__law_mixed : K.lookup f__law_mixed = some ⟨oc__law_mixed, od__law_mixed, .func (PySem.W.fnOf "_law_mixed" "_law_mixed" (defArgs s__law_mixed) (defBody s__law_mixed) (defScope s__law_mixed) .none kV__law_mixed dc__law_mixed pm__law_mixed an__law_mixed cd__law_mixed ct__law_mixed), sl__law_mixed⟩)
    (c__law_mixed : PySem.W.codeIn K cd__law_mixed "_law_mixed" = true)
    (k__law_mixed : PySem.W.keepIn K (.ref f__law_mixed) = true)
    (a__law_marks_by : PySem.W.nsIn K mainGlobals "_law_marks_by" = some (some (.ref f__law_marks_by)))
    (l__law_marks_by : K.lookup f__law_marks_by = some ⟨oc__law_marks_by, od__law_marks_by, .func (PySem.W.fnOf "_law_marks_by" "_law_marks_by" (defArgs s__law_marks_by) (defBody s__law_marks_by) (defScope s__law_marks_by) .none kV__law_marks_by dc__law_marks_by pm__law_marks_by an__law_marks_by cd__law_marks_by ct__law_marks_by), sl__law_marks_by⟩)
    (c__law_marks_by : PySem.W.codeIn K cd__law_marks_by "_law_marks_by" = true)
    (k__law_marks_by : PySem.W.keepIn K (.ref f__law_marks_by) = true)
    (a__law_ways_by : PySem.W.nsIn K mainGlobals "_law_ways_by" = some (some (.ref f__law_ways_by)))
    (l__law_ways_by : K.lookup f__law_ways_by = some ⟨oc__law_ways_by, od__law_ways_by, .func (PySem.W.fnOf "_law_ways_by" "_law_ways_by" (defArgs s__law_ways_by) (defBody s__law_ways_by) (defScope s__law_ways_by) .none kV__law_ways_by dc__law_ways_by pm__law_ways_by an__law_ways_by cd__law_ways_by ct__law_ways_by), sl__law_ways_by⟩)
    (c__law_ways_by : PySem.W.codeIn K cd__law_ways_by "_law_ways_by" = true)
    (k__law_ways_by : PySem.W.keepIn K (.ref f__law_ways_by) = true)
    (a__law_blown : PySem.W.nsIn K mainGlobals "_law_blown" = some (some (.ref f__law_blown)))
    (l__law_blown : K.lookup f__law_blown = some ⟨oc__law_blown, od__law_blown, .func (PySem.W.fnOf "_law_blown" "_law_blown" (defArgs s__law_blown) (defBody s__law_blown) (defScope s__law_blown) .none kV__law_blown dc__law_blown pm__law_blown an__law_blown cd__law_blown ct__law_blown), sl__law_blown⟩)
    (c__law_blown : PySem.W.codeIn K cd__law_blown "_law_blown" = true)
    (k__law_blown : PySem.W.keepIn K (.ref f__law_blown) = true)
    (a__law_house_by : PySem.W.nsIn K mainGlobals "_law_house_by" = some (some (.ref f__law_house_by)))
    (l__law_house_by : K.lookup f__law_house_by = some ⟨oc__law_house_by, od__law_house_by, .func (PySem.W.fnOf "_law_house_by" "_law_house_by" (defArgs s__law_house_by) (defBody s__law_house_by) (defScope s__law_house_by) .none kV__law_house_by dc__law_house_by pm__law_house_by an__law_house_by cd__law_house_by ct__law_house_by), sl__law_house_by⟩)
    (c__law_house_by : PySem.W.codeIn K cd__law_house_by "_law_house_by" = true)
    (k__law_house_by : PySem.W.keepIn K (.ref f__law_house_by) = true)
    (a__law_spoiled : PySem.W.nsIn K mainGlobals "_law_spoiled" = some (some (.ref f__law_spoiled)))
    (l__law_spoiled : K.lookup f__law_spoiled = some ⟨oc__law_spoiled, od__law_spoiled, .func (PySem.W.fnOf "_law_spoiled" "_law_spoiled" (defArgs s__law_spoiled) (defBody s__law_spoiled) (defScope s__law_spoiled) .none kV__law_spoiled dc__law_spoiled pm__law_spoiled an__law_spoiled cd__law_spoiled ct__law_spoiled), sl__law_spoiled⟩)
    (c__law_spoiled : PySem.W.codeIn K cd__law_spoiled "_law_spoiled" = true)
    (k__law_spoiled : PySem.W.keepIn K (.ref f__law_spoiled) = true)
    (a__law_turned_by : PySem.W.nsIn K mainGlobals "_law_turned_by" = some (some (.ref f__law_turned_by)))
    (l__law_turned_by : K.lookup f__law_turned_by = some ⟨oc__law_turned_by, od__law_turned_by, .func (PySem.W.fnOf "_law_turned_by" "_law_turned_by" (defArgs s__law_turned_by) (defBody s__law_turned_by) (defScope s__law_turned_by) .none kV__law_turned_by dc__law_turned_by pm__law_turned_by an__law_turned_by cd__law_turned_by ct__law_turned_by), sl__law_turned_by⟩)
    (c__law_turned_by : PySem.W.codeIn K cd__law_turned_by "_law_turned_by" = true)
    (k__law_turned_by : PySem.W.keepIn K (.ref f__law_turned_by) = true)
    (a__law_other_by : PySem.W.nsIn K mainGlobals "_law_other_by" = some (some (.ref f__law_other_by)))
    (l__law_other_by : K.lookup f__law_other_by = some ⟨oc__law_other_by, od__law_other_by, .func (PySem.W.fnOf "_law_other_by" "_law_other_by" (defArgs s__law_other_by) (defBody s__law_other_by) (defScope s__law_other_by) .none kV__law_other_by dc__law_other_by pm__law_other_by an__law_other_by cd__law_other_by ct__law_other_by), sl__law_other_by⟩)
    (c__law_other_by : PySem.W.codeIn K cd__law_other_by "_law_other_by" = true)
    (k__law_other_by : PySem.W.keepIn K (.ref f__law_other_by) = true)
    (a__law_pairs_of : PySem.W.nsIn K mainGlobals "_law_pairs_of" = some (some (.ref f__law_pairs_of)))
    (l__law_pairs_of : K.lookup f__law_pairs_of = some ⟨oc__law_pairs_of, od__law_pairs_of, .func (PySem.W.fnOf "_law_pairs_of" "_law_pairs_of" (defArgs s__law_pairs_of) (defBody s__law_pairs_of) (defScope s__law_pairs_of) .none kV__law_pairs_of dc__law_pairs_of pm__law_pairs_of an__law_pairs_of cd__law_pairs_of ct__law_pairs_of), sl__law_pairs_of⟩)
    (c__law_pairs_of : PySem.W.codeIn K cd__law_pairs_of "_law_pairs_of" = true)
    (k__law_pairs_of : PySem.W.keepIn K (.ref f__law_pairs_of) = true)
    (a__law_foreign : PySem.W.nsIn K mainGlobals "_law_foreign" = some (some (.ref f__law_foreign)))
    (l__law_foreign : K.lookup f__law_foreign = some ⟨oc__law_foreign, od__law_foreign, .func (PySem.W.fnOf "_law_foreign" "_law_foreign" (defArgs s__law_foreign) (defBody s__law_foreign) (defScope s__law_foreign) .none kV__law_foreign dc__law_foreign pm__law_foreign an__law_foreign cd__law_foreign ct__law_foreign), sl__law_foreign⟩)
    (c__law_foreign : PySem.W.codeIn K cd__law_foreign "_law_foreign" = true)
    (k__law_foreign : PySem.W.keepIn K (.ref f__law_foreign) = true)
    (a__law_refused : PySem.W.nsIn K mainGlobals "_law_refused" = some (some (.ref f__law_refused)))
    (l__law_refused : K.lookup f__law_refused = some ⟨oc__law_refused, od__law_refused, .func (PySem.W.fnOf "_law_refused" "_law_refused" (defArgs s__law_refused) (defBody s__law_refused) (defScope s__law_refused) .none kV__law_refused dc__law_refused pm__law_refused an__law_refused cd__law_refused ct__law_refused), sl__law_refused⟩)
    (c__law_refused : PySem.W.codeIn K cd__law_refused "_law_refused" = true)
    (k__law_refused : PySem.W.keepIn K (.ref f__law_refused) = true)
    (a__law_tells : PySem.W.nsIn K mainGlobals "_law_tells" = some (some (.ref f__law_tells)))
    (l__law_tells : K.lookup f__law_tells = some ⟨oc__law_tells, od__law_tells, .func (PySem.W.fnOf "_law_tells" "_law_tells" (defArgs s__law_tells) (defBody s__law_tells) (defScope s__law_tells) .none kV__law_tells dc__law_tells pm__law_tells an__law_tells cd__law_tells ct__law_tells), sl__law_tells⟩)
    (c__law_tells : PySem.W.codeIn K cd__law_tells "_law_tells" = true)
    (k__law_tells : PySem.W.keepIn K (.ref f__law_tells) = true)
    (a_law : PySem.W.nsIn K mainGlobals "law" = some (some (.ref f_law)))
    (l_law : K.lookup f_law = some ⟨oc_law, od_law, .func (PySem.W.fnOf "law" "law" (defArgs s_law) (defBody s_law) (defScope s_law) .none kV_law dc_law pm_law an_law cd_law ct_law), sl_law⟩)
    (c_law : PySem.W.codeIn K cd_law "law" = true)
    (k_law : PySem.W.keepIn K (.ref f_law) = true)
    (z_ValueError : PySem.W.nsIn K mainGlobals "ValueError" = some none)
    (z_bool : PySem.W.nsIn K mainGlobals "bool" = some none)
    (z_enumerate : PySem.W.nsIn K mainGlobals "enumerate" = some none)
    (z_isinstance : PySem.W.nsIn K mainGlobals "isinstance" = some none)
    (z_len : PySem.W.nsIn K mainGlobals "len" = some none)
    (z_list : PySem.W.nsIn K mainGlobals "list" = some none)
    (z_max : PySem.W.nsIn K mainGlobals "max" = some none)
    (z_min : PySem.W.nsIn K mainGlobals "min" = some none)
    (z_range : PySem.W.nsIn K mainGlobals "range" = some none)
    (z_reversed : PySem.W.nsIn K mainGlobals "reversed" = some none)
    (z_tuple : PySem.W.nsIn K mainGlobals "tuple" = some none)
    (z_zip : PySem.W.nsIn K mainGlobals "zip" = some none)
    (m_AskError : PySem.W.nsIn K mainGlobals "AskError" = some (some (.ref C_AskError)))
    (m_BadHouse : PySem.W.nsIn K mainGlobals "BadHouse" = some (some (.ref C_BadHouse)))
    (x_BadHouse : PySem.W.excIn K C_BadHouse bmV "ValueError.__new__" = true)
    (ga_BadHouse : PySem.W.findIn K (.ref C_BadHouse) "__getattribute__" = some (some (.builtin "BaseException.__getattribute__")))
    (hk_BadHouse : PySem.W.findIn K (.ref C_BadHouse) "__getattr__" = some none)
    {cd_BadHouse : ClassData}
    (cl_BadHouse : PySem.W.clsIn K C_BadHouse = some cd_BadHouse)
    (ca_BadHouse : PySem.W.findIn K (.ref C_BadHouse) "__class__" = some (some (.builtin "object.__class__")))
    (mo_BadHouse : PySem.W.mroIn K C_BadHouse (.type "object") = some true)
    (mb_BadHouse : PySem.W.mroIn K C_BadHouse (.type "BaseException") = some true)
    (e_BadHouse : PySem.W.exmOne K (.ref C_BadHouse) (.ref C_AskError) = some true)
    (v_BadHouse : PySem.W.kitOne K (.ref C_BadHouse) (.type "ValueError") = some true)
    (k_BadHouse_AskError : PySem.W.kitOne K (.ref C_BadHouse) (.ref C_AskError) = some true)
    (k_BadHouse_BadHouse : PySem.W.kitOne K (.ref C_BadHouse) (.ref C_BadHouse) = some true)
    (gs : PySem.W.specialIn K (.builtin "object.__class__") "__get__" = some (some (.builtin "getset_descriptor.__get__")))
    (tk : PySem.W.takesIn K (.builtin "object.__class__") = some true)
    : ∃ fd : FuncData, (∀ (s : Shared) (v : Value), BindsTo s fd ⟨[v], []⟩ [("script", v)]) /\ ∀ base : Heap, K.In base -> base.Ns mainGlobals mg -> FnOk l.prog w K mg base CX0 6 fa fd ["script"] (spLaw K) := by
  have e := hfa.symm.trans (PySem.W.mg_of X G a_law)
  cases e
  have T : Txt mg := ⟨PySem.W.mg_none_of X G z_ValueError, PySem.W.mg_none_of X G z_bool, PySem.W.mg_none_of X G z_enumerate, PySem.W.mg_none_of X G z_isinstance, PySem.W.mg_none_of X G z_len, PySem.W.mg_none_of X G z_list, PySem.W.mg_none_of X G z_max, PySem.W.mg_none_of X G z_min, PySem.W.mg_none_of X G z_range, PySem.W.mg_none_of X G z_reversed, PySem.W.mg_none_of X G z_tuple, PySem.W.mg_none_of X G z_zip⟩
  have Z : Exs K mg C_AskError C_BadHouse := ⟨PySem.W.mg_of X G m_AskError, PySem.W.mg_of X G m_BadHouse, x_BadHouse, ⟨ga_BadHouse, hk_BadHouse, by rw [cl_BadHouse]; rfl, ca_BadHouse, gs, tk, mo_BadHouse, mb_BadHouse⟩, e_BadHouse, v_BadHouse, k_BadHouse_AskError, k_BadHouse_BadHouse⟩
  have F_words_in := fun_mk (st := s_words_in) l_words_in c_words_in k_words_in
  have b_words_in := F_words_in.binds (ps := ["house"]) fun _ _ _ _ _ _ us hl => match us, hl with | [_], _ => rfl
  have m_words_in := PySem.W.mg_of X G a_words_in
  have F_reached := fun_mk (st := s_reached) l_reached c_reached k_reached
  have b_reached := F_reached.binds (ps := ["house"]) fun _ _ _ _ _ _ us hl => match us, hl with | [_], _ => rfl
  have m_reached := PySem.W.mg_of X G a_reached
  have F_check_as_many_letters := fun_mk (st := s_check_as_many_letters) l_check_as_many_letters c_check_as_many_letters k_check_as_many_letters
  have b_check_as_many_letters := F_check_as_many_letters.binds (ps := ["house", "other"]) fun _ _ _ _ _ _ us hl => match us, hl with | [_, _], _ => rfl
  have m_check_as_many_letters := PySem.W.mg_of X G a_check_as_many_letters
  have F_steps_from := fun_mk (st := s_steps_from) l_steps_from c_steps_from k_steps_from
  have b_steps_from := F_steps_from.binds (ps := ["house", "other", "start"]) fun _ _ _ _ _ _ us hl => match us, hl with | [_, _, _], _ => rfl
  have m_steps_from := PySem.W.mg_of X G a_steps_from
  have F_word_to := fun_mk (st := s_word_to) l_word_to c_word_to k_word_to
  have b_word_to := F_word_to.binds (ps := ["steps", "pair"]) fun _ _ _ _ _ _ us hl => match us, hl with | [_, _], _ => rfl
  have m_word_to := PySem.W.mg_of X G a_word_to
  have F_least_word_apart := fun_mk (st := s_least_word_apart) l_least_word_apart c_least_word_apart k_least_word_apart
  have b_least_word_apart := F_least_word_apart.binds (ps := ["house", "other", "start"]) fun _ _ _ _ _ _ us hl => match us, hl with | [_, _, _], _ => rfl
  have m_least_word_apart := PySem.W.mg_of X G a_least_word_apart
  have F_difference := fun_mk (st := s_difference) l_difference c_difference k_difference
  have b_difference := F_difference.binds (ps := ["house", "other"]) fun _ _ _ _ _ _ us hl => match us, hl with | [_, _], _ => rfl
  have m_difference := PySem.W.mg_of X G a_difference
  have F_numbered := fun_mk (st := s_numbered) l_numbered c_numbered k_numbered
  have b_numbered := F_numbered.binds (ps := ["row"]) fun _ _ _ _ _ _ us hl => match us, hl with | [_], _ => rfl
  have m_numbered := PySem.W.mg_of X G a_numbered
  have F_words_and_classes := fun_mk (st := s_words_and_classes) l_words_and_classes c_words_and_classes k_words_and_classes
  have b_words_and_classes := F_words_and_classes.binds (ps := ["house"]) fun _ _ _ _ _ _ us hl => match us, hl with | [_], _ => rfl
  have m_words_and_classes := PySem.W.mg_of X G a_words_and_classes
  have F_classes_of := fun_mk (st := s_classes_of) l_classes_of c_classes_of k_classes_of
  have b_classes_of := F_classes_of.binds (ps := ["house"]) fun _ _ _ _ _ _ us hl => match us, hl with | [_], _ => rfl
  have m_classes_of := PySem.W.mg_of X G a_classes_of
  have F_homes := fun_mk (st := s_homes) l_homes c_homes k_homes
  have b_homes := F_homes.binds (ps := ["house"]) fun _ _ _ _ _ _ us hl => match us, hl with | [_], _ => rfl
  have m_homes := PySem.W.mg_of X G a_homes
  have F_least := fun_mk (st := s_least) l_least c_least k_least
  have b_least := F_least.binds (ps := ["house"]) fun _ _ _ _ _ _ us hl => match us, hl with | [_], _ => rfl
  have m_least := PySem.W.mg_of X G a_least
  have F_alike := fun_mk (st := s_alike) l_alike c_alike k_alike
  have b_alike := F_alike.binds (ps := ["house", "other"]) fun _ _ _ _ _ _ us hl => match us, hl with | [_, _], _ => rfl
  have m_alike := PySem.W.mg_of X G a_alike
  have F__law_cell_at := fun_mk (st := s__law_cell_at) l__law_cell_at c__law_cell_at k__law_cell_at
  have b__law_cell_at := F__law_cell_at.binds (ps := ["script", "k"]) fun _ _ _ _ _ _ us hl => match us, hl with | [_, _], _ => rfl
  have m__law_cell_at := PySem.W.mg_of X G a__law_cell_at
  have F__law_mixed := fun_mk (st := s__law_mixed) l__law_mixed c__law_mixed k__law_mixed
  have b__law_mixed := F__law_mixed.binds (ps := ["number", "k", "many"]) fun _ _ _ _ _ _ us hl => match us, hl with | [_, _, _], _ => rfl
  have m__law_mixed := PySem.W.mg_of X G a__law_mixed
  have F__law_marks_by := fun_mk (st := s__law_marks_by) l__law_marks_by c__law_marks_by k__law_marks_by
  have b__law_marks_by := F__law_marks_by.binds (ps := ["number", "rooms"]) fun _ _ _ _ _ _ us hl => match us, hl with | [_, _], _ => rfl
  have m__law_marks_by := PySem.W.mg_of X G a__law_marks_by
  have F__law_ways_by := fun_mk (st := s__law_ways_by) l__law_ways_by c__law_ways_by k__law_ways_by
  have b__law_ways_by := F__law_ways_by.binds (ps := ["script", "letters", "rooms"]) fun _ _ _ _ _ _ us hl => match us, hl with | [_, _, _], _ => rfl
  have m__law_ways_by := PySem.W.mg_of X G a__law_ways_by
  have F__law_blown := fun_mk (st := s__law_blown) l__law_blown c__law_blown k__law_blown
  have b__law_blown := F__law_blown.binds (ps := ["house", "number", "rooms"]) fun _ _ _ _ _ _ us hl => match us, hl with | [_, _, _], _ => rfl
  have m__law_blown := PySem.W.mg_of X G a__law_blown
  have F__law_house_by := fun_mk (st := s__law_house_by) l__law_house_by c__law_house_by k__law_house_by
  have b__law_house_by := F__law_house_by.binds (ps := ["script"]) fun _ _ _ _ _ _ us hl => match us, hl with | [_], _ => rfl
  have m__law_house_by := PySem.W.mg_of X G a__law_house_by
  have F__law_spoiled := fun_mk (st := s__law_spoiled) l__law_spoiled c__law_spoiled k__law_spoiled
  have b__law_spoiled := F__law_spoiled.binds (ps := ["house", "number"]) fun _ _ _ _ _ _ us hl => match us, hl with | [_, _], _ => rfl
  have m__law_spoiled := PySem.W.mg_of X G a__law_spoiled
  have F__law_turned_by := fun_mk (st := s__law_turned_by) l__law_turned_by c__law_turned_by k__law_turned_by
  have b__law_turned_by := F__law_turned_by.binds (ps := ["house", "number"]) fun _ _ _ _ _ _ us hl => match us, hl with | [_, _], _ => rfl
  have m__law_turned_by := PySem.W.mg_of X G a__law_turned_by
  have F__law_other_by := fun_mk (st := s__law_other_by) l__law_other_by c__law_other_by k__law_other_by
  have b__law_other_by := F__law_other_by.binds (ps := ["house", "script"]) fun _ _ _ _ _ _ us hl => match us, hl with | [_, _], _ => rfl
  have m__law_other_by := PySem.W.mg_of X G a__law_other_by
  have F__law_pairs_of := fun_mk (st := s__law_pairs_of) l__law_pairs_of c__law_pairs_of k__law_pairs_of
  have b__law_pairs_of := F__law_pairs_of.binds (ps := ["house", "other"]) fun _ _ _ _ _ _ us hl => match us, hl with | [_, _], _ => rfl
  have m__law_pairs_of := PySem.W.mg_of X G a__law_pairs_of
  have F__law_foreign := fun_mk (st := s__law_foreign) l__law_foreign c__law_foreign k__law_foreign
  have b__law_foreign := F__law_foreign.binds (ps := ["house"]) fun _ _ _ _ _ _ us hl => match us, hl with | [_], _ => rfl
  have m__law_foreign := PySem.W.mg_of X G a__law_foreign
  have F__law_refused := fun_mk (st := s__law_refused) l__law_refused c__law_refused k__law_refused
  have b__law_refused := F__law_refused.binds (ps := ["house", "other"]) fun _ _ _ _ _ _ us hl => match us, hl with | [_, _], _ => rfl
  have m__law_refused := PySem.W.mg_of X G a__law_refused
  have F__law_tells := fun_mk (st := s__law_tells) l__law_tells c__law_tells k__law_tells
  have b__law_tells := F__law_tells.binds (ps := ["house", "other", "due"]) fun _ _ _ _ _ _ us hl => match us, hl with | [_, _, _], _ => rfl
  have m__law_tells := PySem.W.mg_of X G a__law_tells
  have F_law := fun_mk (st := s_law) l_law c_law k_law
  have b_law := F_law.binds (ps := ["script"]) fun _ _ _ _ _ _ us hl => match us, hl with | [_], _ => rfl
  have m_law := PySem.W.mg_of X G a_law
  refine ⟨PySem.W.fnOf "law" "law" (defArgs s_law) (defBody s_law) (defScope s_law) .none kV_law dc_law pm_law an_law cd_law ct_law, fun s v => .of_eq rfl, fun base _ _ => ?_⟩
  have g_words_in := ok_words_in (P := l.prog) (w := w) (base := base) F_words_in T Z 
  have g_reached := ok_reached (P := l.prog) (w := w) (base := base) F_reached T Z g_words_in F_words_in b_words_in m_words_in
  have g_check_as_many_letters := ok_check_as_many_letters (P := l.prog) (w := w) (base := base) F_check_as_many_letters T Z 
  have g_steps_from := ok_steps_from (P := l.prog) (w := w) (base := base) F_steps_from T Z 
  have g_word_to := ok_word_to (P := l.prog) (w := w) (base := base) F_word_to T Z 
  have g_least_word_apart := ok_least_word_apart (P := l.prog) (w := w) (base := base) F_least_word_apart T Z g_steps_from F_steps_from b_steps_from m_steps_from g_word_to F_word_to b_word_to m_word_to
  have g_difference := ok_difference (P := l.prog) (w := w) (base := base) F_difference T Z g_check_as_many_letters F_check_as_many_letters b_check_as_many_letters m_check_as_many_letters g_least_word_apart F_least_word_apart b_least_word_apart m_least_word_apart
  have g_numbered := ok_numbered (P := l.prog) (w := w) (base := base) F_numbered T Z 
  have g_words_and_classes := ok_words_and_classes (P := l.prog) (w := w) (base := base) F_words_and_classes T Z g_numbered F_numbered b_numbered m_numbered
  have g_classes_of := ok_classes_of (P := l.prog) (w := w) (base := base) F_classes_of T Z g_words_and_classes F_words_and_classes b_words_and_classes m_words_and_classes
  have g_homes := ok_homes (P := l.prog) (w := w) (base := base) F_homes T Z g_reached F_reached b_reached m_reached g_classes_of F_classes_of b_classes_of m_classes_of
  have g_least := ok_least (P := l.prog) (w := w) (base := base) F_least T Z g_reached F_reached b_reached m_reached g_homes F_homes b_homes m_homes
  have g_alike := ok_alike (P := l.prog) (w := w) (base := base) F_alike T Z g_difference F_difference b_difference m_difference
  have g__law_cell_at := ok__law_cell_at (P := l.prog) (w := w) (base := base) F__law_cell_at T Z 
  have g__law_mixed := ok__law_mixed (P := l.prog) (w := w) (base := base) F__law_mixed T Z 
  have g__law_marks_by := ok__law_marks_by (P := l.prog) (w := w) (base := base) F__law_marks_by T Z g__law_mixed F__law_mixed b__law_mixed m__law_mixed
  have g__law_ways_by := ok__law_ways_by (P := l.prog) (w := w) (base := base) F__law_ways_by T Z g__law_cell_at F__law_cell_at b__law_cell_at m__law_cell_at g__law_mixed F__law_mixed b__law_mixed m__law_mixed
  have g__law_blown := ok__law_blown (P := l.prog) (w := w) (base := base) F__law_blown T Z g__law_mixed F__law_mixed b__law_mixed m__law_mixed
  have g__law_house_by := ok__law_house_by (P := l.prog) (w := w) (base := base) F__law_house_by T Z g__law_cell_at F__law_cell_at b__law_cell_at m__law_cell_at g__law_marks_by F__law_marks_by b__law_marks_by m__law_marks_by g__law_ways_by F__law_ways_by b__law_ways_by m__law_ways_by g__law_blown F__law_blown b__law_blown m__law_blown
  have g__law_spoiled := ok__law_spoiled (P := l.prog) (w := w) (base := base) F__law_spoiled T Z 
  have g__law_turned_by := ok__law_turned_by (P := l.prog) (w := w) (base := base) F__law_turned_by T Z 
  have g__law_other_by := ok__law_other_by (P := l.prog) (w := w) (base := base) F__law_other_by T Z g__law_cell_at F__law_cell_at b__law_cell_at m__law_cell_at g__law_mixed F__law_mixed b__law_mixed m__law_mixed g__law_blown F__law_blown b__law_blown m__law_blown g__law_spoiled F__law_spoiled b__law_spoiled m__law_spoiled g__law_turned_by F__law_turned_by b__law_turned_by m__law_turned_by
  have g__law_pairs_of := ok__law_pairs_of (P := l.prog) (w := w) (base := base) F__law_pairs_of T Z 
  have g__law_foreign := ok__law_foreign (P := l.prog) (w := w) (base := base) F__law_foreign T Z 
  have g__law_refused := ok__law_refused (P := l.prog) (w := w) (base := base) F__law_refused T Z g_alike F_alike b_alike m_alike
  have g__law_tells := ok__law_tells (P := l.prog) (w := w) (base := base) F__law_tells T Z g_alike F_alike b_alike m_alike
  have g_law := ok_law (P := l.prog) (w := w) (base := base) F_law T Z g_least F_least b_least m_least g__law_house_by F__law_house_by b__law_house_by m__law_house_by g__law_other_by F__law_other_by b__law_other_by m__law_other_by g__law_pairs_of F__law_pairs_of b__law_pairs_of m__law_pairs_of g__law_foreign F__law_foreign b__law_foreign m__law_foreign g__law_refused F__law_refused b__law_refused m__law_refused g__law_tells F__law_tells b__law_tells m__law_tells
  exact g_law
theorem walk {l : PySem.W.OpenLaw} {q : Program} {loose : List Str} {XP : (Str -> Option Value) -> Heap -> Prop} {YP : World -> Heap -> Prop} {d : DefRec} {K : Params -> PySem.W.Frag} (hn : l.most = some 63) (hdf : d.params.defaults = [])
    (hY : ∀ (w : World) (h : Heap), YP w h -> (K w.params).In h)
    (F : ∀ (w : World) (mg : Str -> Option Value) (fa : Addr) (h : Heap), (K w.params).In h -> h.Ns mainGlobals mg -> mg d.name = some (.ref fa) ->
      ∃ fd : FuncData, (∀ (s : Shared) (u : Value), BindsTo s fd ⟨[u], []⟩ [("script", u)]) /\ ∀ base : Heap, (K w.params).In base -> base.Ns mainGlobals mg -> FnOk l.prog w (K w.params) mg base CX0 6 fa fd ["script"] (spLaw (K w.params))) :
    PySem.W.WalkO q loose XP YP l.row.toRowW d [] (fun f vs => PySem.call f vs) :=
  L2.walk_of (n := 63) (k := 6) (x := "script") (CX := fun _ => CX0) (sp := fun w => spLaw (K w.params)) hn (by decide) hdf ⟨rfl, by decide, by decide⟩ hY F (fun _ _ a ns hl _ hS => ⟨a, ns, rfl, hS, hl, fun _ => rfl⟩) fun _ _ _ _ _ z => z
end Mine
inductive PySem.W.Fast where
|tw5347329447099441835|tw14691434120759477854|tw14479676830327411038|tw17403604807191359354|tw10233023373709500560|tw12238855324981461905|tw10499387827324478911|tw7436819349345662015|tw3061550194323782949|tw6783513458023328674|tw9234451227763406011|tw11460695542317895441|tw17070714316775000601|tw15606915335944955051|tw10667814590915803632|tw10607201347789438286|tw14349035806385570619|tw13524060772099987800|tw3130254094037560956|tw3177943003476649892|tw9985846404752401918|tw11448275268614155244|tw16621498500360200309|tw2253266375990587638|tw13031896964304064111|tw9365073020702257332|tw13116181224862483516|tw4614917881102493969|tw13187214243872413899|tw9689602540614098353|tw16580863239673199854|tw5542919956260936036|tw4385279499065992547|tw18151812425541760999|tw16605431192229025630|tw10144365861534368763|tw5004492531156670875|tw7332130843209872079|tw907770009107313760|tw270374684618781224|tw2742251489382618858|tw5551828127375349499|tw13483410219854003197|tw14796167394822634397|tw5029109995172305139|tw5078045974988019318|tw7636627709927916711|tw17689428417957774082|tw10984289463344198018|tw11856987221418644761|tw5765500513520695160|tw14289634603119110474|tw17796879862491370057|tw18215539141954699582|tw8841195275602322384|tw7010401663919958905|tw17151363338136132999|tw1030583643377231791|tw5899713091272211802|tw3204162055626905992|tw9212235453347778456|tw16546349200072054636|tw6408559087040420146|tw4352013797876786859|tw1096225310845295067|tw17463392376037430884|tw36887973380064959|tw7553370982230340836|tw2678380848957266330|tw4354536474032472834|tw4343159087607820167|tw12309779709724259665|tw8015425801990451503|tw7133326865445893722|tw15172743469067129095|tw9828333156044873170|tw3480422888894718895|tw8412762220915480160|tw15623334520139115033|tw5312285253487258360|tw2240698617561663145|tw7166712822536565329|tw10922972566486184330|tw14025873186879040651|tw13042683341623527754|tw9953194663958878310|tw10835733528274951716|tw3751732061609329042|tw1578219887603743640|tw11564629189718040151|tw7637163869174688713|tw8605042878839183351|tw17908579371021556585|tw15025154713730145554|tw1957312083051148592|tw13199930228028349049|tw14957357009886127213|tw7829740228606663853|tw1142986932744471923|tw13487009509315227663|tw618654472984639107|tw3977640139774245293|tw10886426679826230725|tw6939946419620323058|tw14769018407031253567|tw18104471108401700698|tw15312411962139974288|tw16076104823106608588|tw1683731935299179092|tw1178886793408401336|tw7021048500141022644|tw4065766929691869367|tw9642785851416096476|tw15649304909054761138|tw3263199135826541203|tw17651485585018140427|tw1306655096716023256|tw9519860817940701506|tw3922487962020623867|tw4912380734154188403|tw9836003641172232830|tw17417931288053494313|tw6155515755061566324|tw18156369718798225792|tw9249574823684614734|tw10530584237357054203|tw11555736450838639017|tw7899168708834215301|tw5270811761285741829|tw4755877963724434243|tw418258512709357351|tw11468698921022678400|tw1056880088303639846|tw16615976186258992782|tw24258021456935837|tw10401574673290559954|tw4725287617021014481|tw12953414541430931978|tw7272374967905608301|tw14355081971731801699|tw9470704956024298381|tw3659679023292644008|tw6212398172038667186|tw3559283529566071434|tw673292176055854157|tw2327272144103982891|tw10151459896303127034|tw17865391620722120642|tw3637791459339102833|tw7554663769068384712|tw12772895394193769061|tw2362352431660296350|tw2094013815840456356|tw11449819433735865691|tw1777715801386126323|tw7618250201264882631|tw8664700459266455206|tw7047343647341289545|tw15432419837292568266|tw14108187910646313865|tw16057777874013538872|tw6296993664435924242|tw15440296762925244404|tw8078264550375288561|tw16405724614759223434|tw11626853020785486377|tw5886272442071227802|tw16196230130836763966|tw10473504930898202724|tw4561036881421538793|tw7761771555636836575|tw7784231669612518692|tw16350023281913440355|tw14179253670051044692|tw14678196462239682439|tw4752339375189344116|tw6259067016804405385|tw13398080295983340501|tw15987384926414040359|tw2112735035553002157|tw15601569245493314851|tw9234458904546435927|tw11626489283633082850|tw6662160350373597098|tw13602869424732744111|tw3189455313765748025|tw8346084508253849079|tw15535858209586404193|tw13442093149879494164|tw10963610460143363204|tw3462396224453542067|tw562699014271061452|tw3417419660439755306|tw2005983813988823709|tw16172990049447392054|tw17545751513080073558|tw5343506731550175321|tw5578216815641156751|tw7461180039847018612|tw176352090472656801|tw2932606354493182773|tw14661062385937459987|tw6572620251024865199|tw14844630391497674896|tw9818413968151338871|tw13488957089248062114|tw13274361981965512745|tw13258159021036251806|tw9238087056497986276|tw3091464015706955896|tw15989316145718656213|tw13971146615967104972|tw16871545439352851208|tw14609662530748651434|tw8755673474469390268|tw16391187026027142701|tw9896673784863740494|tw9391392351052581121|tw8885269538436925116|tw11034629682930064432|tw4347566199399646717|tw15774133886388722018|tw14480804639242546102|tw196502229665576139|tw2094812976073714139|tw14983149109036883896|tw15212100321662096723|tw1009441390925792735|tw495661299290358660|tw7497131234570947583
open PySem PySem.W PyProof.Rows
set_option maxRecDepth 100000 in
set_option maxHeartbeats 0 in
theorem PySem.Challenge.cw_guessroom_k21_alike_holds : PySem.Challenge.rw_guessroom_k21_alike.Holds := by
  w_on; o_law; k_head; (case hw => w_witness2)
  k_fill
  refine Mine.walk (l := PySem.Challenge.rw_guessroom_k21_alike) rfl rfl (fun w h Y => PySem.W.kIn_of Y) ?F
  case F =>
    intro w mg fa h KX G hmg
    refine' Mine.all_mk KX G hmg ?a_words_in ?l_words_in ?c_words_in ?k_words_in ?a_reached ?l_reached ?c_reached ?k_reached ?a_check_as_many_letters ?l_check_as_many_letters ?c_check_as_many_letters ?k_check_as_many_letters ?a_steps_from ?l_steps_from ?c_steps_from ?k_steps_from ?a_word_to ?l_word_to ?c_word_to ?k_word_to ?a_least_word_apart ?l_least_word_apart ?c_least_word_apart ?k_least_word_apart ?a_difference ?l_difference ?c_difference ?k_difference ?a_numbered ?l_numbered ?c_numbered ?k_numbered ?a_words_and_classes ?l_words_and_classes ?c_words_and_classes ?k_words_and_classes ?a_classes_of ?l_classes_of ?c_classes_of ?k_classes_of ?a_homes ?l_homes ?c_homes ?k_homes ?a_least ?l_least ?c_least ?k_least ?a_alike ?l_alike ?c_alike ?k_alike ?a__law_cell_at ?l__law_cell_at ?c__law_cell_at ?k__law_cell_at ?a__law_mixed ?l__law_mixed ?c__law_mixed ?k__law_mixed ?a__law_marks_by ?l__law_marks_by ?c__law_marks_by ?k__law_marks_by ?a__law_ways_by ?l__law_ways_by ?c__law_ways_by ?k__law_ways_by ?a__law_blown ?l__law_blown ?c__law_blown ?k__law_blown ?a__law_house_by ?l__law_house_by ?c__law_house_by ?k__law_house_by ?a__law_spoiled ?l__law_spoiled ?c__law_spoiled ?k__law_spoiled ?a__law_turned_by ?l__law_turned_by ?c__law_turned_by ?k__law_turned_by ?a__law_other_by ?l__law_other_by ?c__law_other_by ?k__law_other_by ?a__law_pairs_of ?l__law_pairs_of ?c__law_pairs_of ?k__law_pairs_of ?a__law_foreign ?l__law_foreign ?c__law_foreign ?k__law_foreign ?a__law_refused ?l__law_refused ?c__law_refused ?k__law_refused ?a__law_tells ?l__law_tells ?c__law_tells ?k__law_tells ?a_law ?l_law ?c_law ?k_law ?z_ValueError ?z_bool ?z_enumerate ?z_isinstance ?z_len ?z_list ?z_max ?z_min ?z_range ?z_reversed ?z_tuple ?z_zip ?m_AskError ?m_BadHouse ?x_BadHouse ?ga_BadHouse ?hk_BadHouse ?cl_BadHouse ?ca_BadHouse ?mo_BadHouse ?mb_BadHouse ?e_BadHouse ?v_BadHouse ?k_BadHouse_AskError ?k_BadHouse_BadHouse ?gs ?tk
    (case a_words_in => k_is)
    (case l_words_in => k_is)
    (case c_words_in => k_is)
    (case k_words_in => k_is)
    (case a_reached => k_is)
    (case l_reached => k_is)
    (case c_reached => k_is)
    (case k_reached => k_is)
    (case a_check_as_many_letters => k_is)
    (case l_check_as_many_letters => k_is)
    (case c_check_as_many_letters => k_is)
    (case k_check_as_many_letters => k_is)
    (case a_steps_from => k_is)
    (case l_steps_from => k_is)
    (case c_steps_from => k_is)
    (case k_steps_from => k_is)
    (case a_word_to => k_is)
    (case l_word_to => k_is)
    (case c_word_to => k_is)
    (case k_word_to => k_is)
    (case a_least_word_apart => k_is)
    (case l_least_word_apart => k_is)
    (case c_least_word_apart => k_is)
    (case k_least_word_apart => k_is)
    (case a_difference => k_is)
    (case l_difference => k_is)
    (case c_difference => k_is)
    (case k_difference => k_is)
    (case a_numbered => k_is)
    (case l_numbered => k_is)
    (case c_numbered => k_is)
    (case k_numbered => k_is)
    (case a_words_and_classes => k_is)
    (case l_words_and_classes => k_is)
    (case c_words_and_classes => k_is)
    (case k_words_and_classes => k_is)
    (case a_classes_of => k_is)
    (case l_classes_of => k_is)
    (case c_classes_of => k_is)
    (case k_classes_of => k_is)
    (case a_homes => k_is)
    (case l_homes => k_is)
    (case c_homes => k_is)
    (case k_homes => k_is)
    (case a_least => k_is)
    (case l_least => k_is)
    (case c_least => k_is)
    (case k_least => k_is)
    (case a_alike => k_is)
    (case l_alike => k_is)
    (case c_alike => k_is)
    (case k_alike => k_is)
    (case a__law_cell_at => k_is)
    (case l__law_cell_at => k_is)
    (case c__law_cell_at => k_is)
    (case k__law_cell_at => k_is)
    (case a__law_mixed => k_is)
    (case l__law_mixed => k_is)
    (case c__law_mixed => k_is)
    (case k__law_mixed => k_is)
    (case a__law_marks_by => k_is)
    (case l__law_marks_by => k_is)
    (case c__law_marks_by => k_is)
    (case k__law_marks_by => k_is)
    (case a__law_ways_by => k_is)
    (case l__law_ways_by => k_is)
    (case c__law_ways_by => k_is)
    (case k__law_ways_by => k_is)
    (case a__law_blown => k_is)
    (case l__law_blown => k_is)
    (case c__law_blown => k_is)
    (case k__law_blown => k_is)
    (case a__law_house_by => k_is)
    (case l__law_house_by => k_is)
    (case c__law_house_by => k_is)
    (case k__law_house_by => k_is)
    (case a__law_spoiled => k_is)
    (case l__law_spoiled => k_is)
    (case c__law_spoiled => k_is)
    (case k__law_spoiled => k_is)
    (case a__law_turned_by => k_is)
    (case l__law_turned_by => k_is)
    (case c__law_turned_by => k_is)
    (case k__law_turned_by => k_is)
    (case a__law_other_by => k_is)
    (case l__law_other_by => k_is)
    (case c__law_other_by => k_is)
    (case k__law_other_by => k_is)
    (case a__law_pairs_of => k_is)
    (case l__law_pairs_of => k_is)
    (case c__law_pairs_of => k_is)
    (case k__law_pairs_of => k_is)
    (case a__law_foreign => k_is)
    (case l__law_foreign => k_is)
    (case c__law_foreign => k_is)
    (case k__law_foreign => k_is)
    (case a__law_refused => k_is)
    (case l__law_refused => k_is)
    (case c__law_refused => k_is)
    (case k__law_refused => k_is)
    (case a__law_tells => k_is)
    (case l__law_tells => k_is)
    (case c__law_tells => k_is)
    (case k__law_tells => k_is)
    (case a_law => k_is)
    (case l_law => k_is)
    (case c_law => k_is)
    (case k_law => k_is)
    (case z_ValueError => k_is)
    (case z_bool => k_is)
    (case z_enumerate => k_is)
    (case z_isinstance => k_is)
    (case z_len => k_is)
    (case z_list => k_is)
    (case z_max => k_is)
    (case z_min => k_is)
    (case z_range => k_is)
    (case z_reversed => k_is)
    (case z_tuple => k_is)
    (case z_zip => k_is)
    (case m_AskError => k_is)
    (case m_BadHouse => k_is)
    (case x_BadHouse => k_exc)
    (case ga_BadHouse => k_is)
    (case hk_BadHouse => k_is)
    (case cl_BadHouse => k_is)
    (case ca_BadHouse => k_is)
    (case mo_BadHouse => k_is)
    (case mb_BadHouse => k_is)
    (case e_BadHouse => kts_exm)
    (case v_BadHouse => kit_is)
    (case k_BadHouse_AskError => kit_is)
    (case k_BadHouse_BadHouse => kit_is)
    (case gs => k_is)
    (case tk => k_is)
