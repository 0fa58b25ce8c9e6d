import PyProof.Rows.All
import Wide.All
import OpenK.AllK
import Wide.FinOn
import Lean
import PyProof.EqAt
import PyProof.EqKinds
import PyProof.TupleCall
import KE.KRevIter
import PyProof.ListRange
import PyProof.TupleOfGen
import PyProof.Draws
import PyProof.EnumMake
import PyProof.EnumFor
import PyProof.NeKinds
import KE.KDictList
import PyProof.Rows.TupDisplay
import PyProof.ZipIter
import PyProof.Rows.ZipGen
import KE.KItemsList
import PyProof.Rows.SumAny
import PyProof.StrWalks
import PyProof.StrCalls
import PyProof.StrCalls3
import PyProof.StrLawsFirst
import PyProof.StrLawsIn
import PyProof.SliceStr2
import PyProof.StrBlockI
import PyProof.Rows.StrWeight2
import PyProof.ListNew
import PyProof.DictRoadsH
import PyProof.WalkInts
import PyProof.Rows.MinMaxN
import KE.KDictLaws
import PyProof.StrCalls2
import PyProof.StrLawsChain
import KE.KIntText
import KE.KxText
import KE.KMinKey
import KE.KPairComp
import PyProof.MaxThree
import PyProof.DictValues
import OpenK.KCls
import PySem.Challenge.RW_guessroom_k54_marks_and_says
set_option Elab.async false
set_option linter.all false
set_option maxRecDepth 100000
namespace L2
open PySem PySem.Spec PyProof.Rows
abbrev Key := Sum Int Str
def keyIs : Key -> Value -> Bool
  | .inl k, v => Value.isInt k v
  | .inr x, v => Value.isStrOf x v
def keyH (w : World) : Key -> Int
  | .inl k => hashInt k
  | .inr x => hashStr w x
theorem keyIs_shape : ∀ {k : Key} {v : Value}, keyIs k v = true -> (∃ i t, k = Sum.inl i /\ v = Value.int i t) \/ (∃ x t, k = Sum.inr x /\ v = Value.str x t)
  | .inl i, v, h => by
    obtain ⟨t, e⟩ := Value.isInt_shape (k := i) (v := v) h
    exact .inl ⟨i, t, rfl, e⟩
  | .inr x, v, h => by
    obtain ⟨t, e⟩ := Value.isStrOf_shape (x := x) (v := v) h
    exact .inr ⟨x, t, rfl, e⟩
theorem keyIs_int (i : Int) (t : Tok) : keyIs (.inl i) (.int i t) = true := by simp [keyIs, Value.isInt]
theorem keyIs_str (x : Str) (t : Tok) : keyIs (.inr x) (.str x t) = true := by simp [keyIs, Value.isStrOf]
theorem key_ll (a b : Int) : decide ((Sum.inl a : Key) = Sum.inl b) = (a == b) := by
  by_cases e : a = b
  . subst e; simp
  . have h : ¬ (Sum.inl a : Key) = Sum.inl b := fun q => e (Sum.inl.inj q)
    rw [decide_eq_false h]
    exact (beq_eq_false_iff_ne.mpr e).symm
theorem key_rr (a b : Str) : decide ((Sum.inr a : Key) = Sum.inr b) = decide (a = b) := by
  by_cases e : a = b
  . subst e; simp
  . have h : ¬ (Sum.inr a : Key) = Sum.inr b := fun q => e (Sum.inr.inj q)
    rw [decide_eq_false h, decide_eq_false e]
theorem key_lr (a : Int) (b : Str) : decide ((Sum.inl a : Key) = Sum.inr b) = false := decide_eq_false (fun q => nomatch q)
theorem key_rl (a : Str) (b : Int) : decide ((Sum.inr a : Key) = Sum.inl b) = false := decide_eq_false (fun q => nomatch q)
def mixKind (prog : Program) (w : World) : PySem.KeyKind prog w Key where
  is := keyIs
  hash := keyH w
  inj := fun v a b ha hb => by
    rcases keyIs_shape ha with ⟨i, t, rfl, rfl⟩ | ⟨x, t, rfl, rfl⟩
    . rcases keyIs_shape hb with ⟨j, u, rfl, e⟩ | ⟨y, u, rfl, e⟩
      . injection e with e1 _; rw [e1]
      . exact nomatch e
    . rcases keyIs_shape hb with ⟨j, u, rfl, e⟩ | ⟨y, u, rfl, e⟩
      . exact nomatch e
      . injection e with e1 _; rw [e1]
  byValue := fun k v h => by
    rcases keyIs_shape h with ⟨i, t, rfl, rfl⟩ | ⟨x, t, rfl, rfl⟩ <;> rfl
  pyHash := fun hv h => by
    rcases keyIs_shape hv with ⟨i, t, rfl, rfl⟩ | ⟨x, t, rfl, rfl⟩
    . exact wpAny_pyHash_int h
    . exact wpAny_pyHash_str h
  eqBool := fun hu hv h => by
    rcases keyIs_shape hu with ⟨i, t, rfl, rfl⟩ | ⟨x, t, rfl, rfl⟩
    . rcases keyIs_shape hv with ⟨j, u, rfl, rfl⟩ | ⟨y, u, rfl, rfl⟩
      . rw [key_ll] at h; exact wpAny_eqBool_int h
      . rw [key_lr] at h; exact SeqAt.EqAt.int_str i t y u _ _ _ _ h
    . rcases keyIs_shape hv with ⟨j, u, rfl, rfl⟩ | ⟨y, u, rfl, rfl⟩
      . rw [key_rl] at h; exact SeqAt.EqAt.str_int x t j u _ _ _ _ h
      . rw [key_rr] at h; exact wpAny_eqBool_str h
  «strs» := fun k x t v h => by
    rcases keyIs_shape h with ⟨i, u, rfl, e⟩ | ⟨y, u, rfl, e⟩
    . exact nomatch e
    . injection e with e1 _
      subst e1
      cases v <;> rfl
theorem mixKind_int (prog : Program) (w : World) (i : Int) (t : Tok) : (mixKind prog w).is (.inl i) (.int i t) = true := keyIs_int i t
theorem mixKind_str (prog : Program) (w : World) (x : Str) (t : Tok) : (mixKind prog w).is (.inr x) (.str x t) = true := keyIs_str x t
end L2
namespace L2
open PySem PySem.Spec PyProof.Rows
inductive V where
  | non | bl (b : Bool) | int (i : Int) | str (x : Str) | byt (b : Array UInt8) | flt (b : UInt64) | ref (a : Addr) | ty (n : String)
  deriving DecidableEq
def RelV : V -> Value -> Prop
  | .non, u => u = Value.none
  | .bl b, u => u = Value.bool b
  | .int i, u => ∃ t, u = Value.int i t
  | .str x, u => ∃ t, u = Value.str x t
  | .byt b, u => ∃ t, u = Value.bytes b t
  | .flt b, u => ∃ t, u = Value.float b t
  | .ref a, u => u = Value.ref a
  | .ty n, u => u = Value.type n
abbrev Vals : List V -> List Value -> Prop := Paired RelV
theorem Vals.length {xs : List V} {us : List Value} (r : Vals xs us) : xs.length = us.length := Paired.length r
theorem Vals.get : ∀ {xs : List V} {us : List Value} {i : Nat} {x : V}, Vals xs us -> xs[i]? = some x -> ∃ u, us[i]? = some u /\ RelV x u
  | _, _, _, _, .nil, e => by simp at e
  | _, _, 0, _, .cons r _, e => by simp at e; subst e; exact ⟨_, rfl, r⟩
  | _, _, i + 1, x, .cons _ t, e => by
    obtain ⟨u, h1, h2⟩ := Vals.get (i := i) (x := x) t (by simpa using e)
    exact ⟨u, by simpa using h1, h2⟩
theorem Vals.append : ∀ {xs ys : List V} {us ws : List Value}, Vals xs us -> Vals ys ws -> Vals (xs ++ ys) (us ++ ws)
  | _, _, _, _, .nil, s => s
  | _, _, _, _, .cons r t, s => .cons r (Vals.append t s)
theorem Vals.take : ∀ {xs : List V} {us : List Value} (n : Nat), Vals xs us -> Vals (xs.take n) (us.take n)
  | _, _, 0, _ => .nil
  | _, _, _ + 1, .nil => .nil
  | _, _, n + 1, .cons r t => .cons r (Vals.take n t)
theorem Vals.drop : ∀ {xs : List V} {us : List Value} (n : Nat), Vals xs us -> Vals (xs.drop n) (us.drop n)
  | _, _, 0, r => r
  | _, _, _ + 1, .nil => .nil
  | _, _, n + 1, .cons _ t => Vals.drop n t
def RelO : Option V -> Option Value -> Prop
  | some v, some u => RelV v u
  | none, none => True
  | _, _ => False
def KV {κ : Type} : List (κ × V) -> List (κ × Value) -> Prop := Paired fun (p : κ × V) (q : κ × Value) => p.1 = q.1 /\ RelV p.2 q.2
def kV : Key -> V
  | .inl i => .int i
  | .inr x => .str x
inductive HO where
  /-- a list -/
  | lst (xs : List V)
  /-- a tuple (never changes) -/
  | tup (xs : List V)
  /-- a dict whose keys are ints and texts; one whose keys are tuples of ints and texts (the empty one is both) -/
  | dK (kvs : List (Key × V)) | dT (kvs : List (List Key × V))
  /-- a set of ints: its members, its size -/
  | set (S : Int -> Bool) (n : Nat)
  /-- an instance of the class at C, its dict at dx, its attributes -/
  | ins (C dx : Addr) (fs : List (Str × V))
  /-- the dict of the instance at x -/
  | own (x : Addr)
  /-- the dict of an exception -/
  | xd (fs : List (Str × V))
  /-- a bound method, f of x -/
  | met (f x : Addr)
  /-- a range object lo, lo + 1, .. below hi -/
  | rng (lo hi : Int)
  /-- a thing that is known to the object (the script; a dict while a loop walks it): read, never written while it is so -/
  | frz (o : Obj) (u : HO)
  /-- a code object's table -/
  | tbl (ps : Array Value)
  /-- any other thing, by what is true of its one object (a def of one's own: SetO a S n := HO.ext fun h => ..) -/
  | ext (φ : Heap -> Prop)
abbrev Hp := Addr -> Option HO
def upd (H : Hp) (a : Addr) (o : HO) : Hp := fun b => if b = a then some o else H b
theorem upd_same {H : Hp} {a : Addr} {o : HO} : upd H a o a = some o := by unfold upd; rw [if_pos rfl]
theorem upd_ne {H : Hp} {a b : Addr} {o : HO} (h : b ≠ a) : upd H a o b = H b := by unfold upd; rw [if_neg h]
theorem upd_upd {H : Hp} {a : Addr} {o u : HO} : upd (upd H a o) a u = upd H a u := by
  funext b; unfold upd; split <;> rfl
theorem ne_of {H : Hp} {a b : Addr} {o u : HO} (h : H a = some o) (h' : H b = some u) (d : o ≠ u) : a ≠ b := by
  intro e; subst e; rw [h] at h'; exact d (Option.some.inj h')
theorem ne_of_none {H : Hp} {a b : Addr} {o : HO} (h : H a = some o) (h' : H b = none) : a ≠ b := by
  intro e; subst e; rw [h] at h'; cases h'
section
variable (P : Program) (w : World)
def ObjOk (H : Hp) (h : Heap) (a : Addr) : HO -> Prop
  | .lst xs => xs.length <= sizeLine /\ ∃ (its : List Value) (n : Nat), Vals xs its /\ h.get? a = some { cls := .type "list", data := .seq its.toArray n }
  | .tup xs => xs.length <= sizeLine /\ ∃ its : List Value, Vals xs its /\ IsTup h a its.toArray
  | .dK kvs => kvs.length <= sizeLine /\ (a == sysModules) = false /\ ∃ vs, KV kvs vs /\ h.DictOf (mixKind P w) a vs
  | .dT kvs => kvs.length <= sizeLine /\ (a == sysModules) = false /\ ∃ xs : List (List Key × Addr × Value),
      Paired (fun (p : List Key × V) (q : List Key × Addr × Value) => p.1 = q.1 /\ H q.2.1 = some (.tup (p.1.map kV)) /\ RelV p.2 q.2.2) kvs xs /\
      ∃ o es ep, h.get? a = some o /\ o.ExactDict /\ o.data = .dict es ep /\ es.toList = xs.map (entryOfKey (tupleKind (mixKind P w))) /\ (xs.map (·.1)).Nodup
  | .set S n => h.SetOf (intKind P w) a S n
  | .ins C dx fs => H dx = some (.own a) /\ fs.length <= 1000 /\ dx ≠ a /\ h.get? a = some (PySem.W.instObj C dx) /\
      ∃ mA, h.Ns1 dx mA /\ (∀ f, RelO (fs.lookup f) (mA f)) /\ PySem.Within mA (fs.map (·.1))
  | .own _ => ∃ o, h.get? a = some o
  | .xd fs => ∃ mA, h.Ns1 a mA /\ ∀ f, RelO (fs.lookup f) (mA f)
  | .rng lo hi => ∃ t u v, h.get? a = some { cls := .type "range", data := .fields #[.int lo t, .int hi u, .int 1 v] }
  | .frz o u => h.get? a = some o /\ ObjOk H h a u
  | .tbl ps => h.get? a = some { cls := .none, data := .fields ps }
  | .met f x => h.get? a = some (PySem.W.methodObj (.ref f) (.ref x))
  | .ext φ => φ h /\ (∃ o, h.get? a = some o) /\ ∀ h1 h2 : Heap, φ h1 -> (∀ o, h1.get? a = some o -> h2.get? a = some o) -> φ h2
def HOk (H : Hp) (h : Heap) : Prop := ∀ a o, H a = some o -> ObjOk P w H h a o
end
section
variable {P : Program} {w : World} {H H' : Hp} {h h' : Heap} {a : Addr} {o : HO}
theorem ObjOk.lt (x : ObjOk P w H h a o) : a < h.objs.size := by
  cases o with
  | lst xs => obtain ⟨_, _, _, _, e⟩ := x; exact Heap.lt_size e
  | tup xs => obtain ⟨_, _, _, p⟩ := x; exact p.lt
  | dK kvs => obtain ⟨_, _, _, _, o, _, _, e, _⟩ := x; exact Heap.lt_size e
  | dT kvs => obtain ⟨_, _, _, _, o, _, _, e, _⟩ := x; exact Heap.lt_size e
  | set S n => obtain ⟨o, _, _, _, e, _⟩ := x; exact Heap.lt_size e
  | ins C dx fs => obtain ⟨_, _, _, e, _⟩ := x; exact Heap.lt_size e
  | own y => obtain ⟨_, e⟩ := x; exact Heap.lt_size e
  | xd fs => obtain ⟨_, ⟨_, _, _, e, _⟩, _⟩ := x; exact Heap.lt_size e
  | rng lo hi => obtain ⟨_, _, _, e⟩ := x; exact Heap.lt_size e
  | frz ob u => obtain ⟨e, _⟩ := x; exact Heap.lt_size e
  | tbl ps => exact Heap.lt_size (show h.get? a = some _ from x)
  | met f y => exact Heap.lt_size (show h.get? a = some _ from x)
  | ext φ => obtain ⟨_, ⟨_, e⟩, _⟩ := x; exact Heap.lt_size e
theorem Paired.mapP {α β : Type} {F G : α -> β -> Prop} : ∀ {l₁ : List α} {l₂ : List β}, Paired F l₁ l₂ -> (∀ a b, F a b -> G a b) -> Paired G l₁ l₂
  | _, _, .nil, _ => .nil
  | _, _, .cons r t, f => .cons (f _ _ r) (Paired.mapP t f)
theorem ObjOk.stay (x : ObjOk P w H h a o) (k : ∀ b u, (b = a \/ H b = some (.own a)) -> h.get? b = some u -> h'.get? b = some u)
    (ho : ∀ b, H b = some (.own a) -> H' b = some (.own a)) (ht : ∀ b xs, H b = some (.tup xs) -> H' b = some (.tup xs)) : ObjOk P w H' h' a o := by
  induction o with
  | lst xs => obtain ⟨z, its, n, r, e⟩ := x; exact ⟨z, its, n, r, k _ _ (.inl rfl) e⟩
  | tup xs => obtain ⟨z, its, r, ob, e, c⟩ := x; exact ⟨z, its, r, ob, k _ _ (.inl rfl) e, c⟩
  | dK kvs => obtain ⟨z, y, vs, r, ob, es, ep, e, c⟩ := x; exact ⟨z, y, vs, r, ob, es, ep, k _ _ (.inl rfl) e, c⟩
  | dT kvs =>
    obtain ⟨z, y, xs, r, ob, es, ep, e, c⟩ := x
    exact ⟨z, y, xs, Paired.mapP r fun p q z => ⟨z.1, ht _ _ z.2.1, z.2.2⟩, ob, es, ep, k _ _ (.inl rfl) e, c⟩
  | set S n => obtain ⟨ob, es, ep, t, e, c⟩ := x; exact ⟨ob, es, ep, t, k _ _ (.inl rfl) e, c⟩
  | ins C dx fs =>
    obtain ⟨d, z, ne, e, mA, ⟨od, es, ep, e2, c⟩, r⟩ := x
    exact ⟨ho _ d, z, ne, k _ _ (.inl rfl) e, mA, ⟨od, es, ep, k _ _ (.inr d) e2, c⟩, r⟩
  | own y => obtain ⟨ob, e⟩ := x; exact ⟨ob, k _ _ (.inl rfl) e⟩
  | xd fs => obtain ⟨mA, ⟨od, es, ep, e, c⟩, r⟩ := x; exact ⟨mA, ⟨od, es, ep, k _ _ (.inl rfl) e, c⟩, r⟩
  | rng lo hi => obtain ⟨t, u, v, e⟩ := x; exact ⟨t, u, v, k _ _ (.inl rfl) e⟩
  | frz ob u ih => obtain ⟨e, q⟩ := x; exact ⟨k _ _ (.inl rfl) e, ih q⟩
  | tbl ps =>
    have e : h.get? a = some { cls := .none, data := .fields ps } := x
    show h'.get? a = some { cls := .none, data := .fields ps }
    exact k a _ (.inl rfl) e
  | met f y =>
    have e : h.get? a = some (PySem.W.methodObj (.ref f) (.ref y)) := x
    show h'.get? a = some (PySem.W.methodObj (.ref f) (.ref y))
    exact k a _ (.inl rfl) e
  | ext φ => obtain ⟨p, ⟨o, e⟩, st⟩ := x; exact ⟨st _ _ p fun o q => k _ _ (.inl rfl) q, ⟨o, k _ _ (.inl rfl) e⟩, st⟩
theorem HOk.lt (x : HOk P w H h) (e : H a = some o) : a < h.objs.size := (x a o e).lt
theorem HOk.fresh (x : HOk P w H h) (e : h.objs.size <= a) : H a = none := by
  cases q : H a with
  | none => rfl
  | some u => exact absurd (Nat.lt_of_lt_of_le (x.lt q) e) (Nat.lt_irrefl _)
theorem HOk.kept (x : HOk P w H h) (k : ∀ b u, h.get? b = some u -> h'.get? b = some u) : HOk P w H h' := fun a o e =>
  (x a o e).stay (fun b u _ q => k b u q) (fun _ q => q) fun _ _ q => q
theorem HOk.laid (x : HOk P w H h) (k : ∀ b u, h.get? b = some u -> h'.get? b = some u) (hp : h.objs.size <= a) (new : ObjOk P w (upd H a o) h' a o) : HOk P w (upd H a o) h' := fun b u e => by
  have hn := x.fresh hp
  by_cases hb : b = a
  . subst hb; rw [upd_same] at e; cases e; exact new
  . rw [upd_ne hb] at e
    exact (x b u e).stay (fun c v _ q => k c v q) (fun c q => by rw [upd_ne (ne_of_none q hn)]; exact q) fun c xs q => by rw [upd_ne (ne_of_none q hn)]; exact q
end
def Rd (H : Hp) (a : Addr) (u : HO) : Prop := H a = some u \/ ∃ o, H a = some (.frz o u)
theorem Rd.ok {P : Program} {w : World} {H : Hp} {h : Heap} {a : Addr} {u : HO} (r : Rd H a u) (x : HOk P w H h) : ObjOk P w H h a u := by
  rcases r with r | ⟨o, r⟩
  . exact x a u r
  . obtain ⟨_, q⟩ := x a _ r
    exact q
def Mut : Option HO -> Prop
  | some (.lst _) => True
  | some (.dK _) => True
  | some (.dT _) => True
  | some (.set _ _) => True
  | some (.ins _ _ _) => True
  | some (.ext _) => True
  | _ => False
section
variable {P : Program} {w : World} {H : Hp} {h h' : Heap} {x e : Addr} {o' : HO}
theorem HOk.write (ok : HOk P w H h) (mu : Mut (H x)) (he : e = x \/ H e = some (.own x)) (k : ∀ b u, b ≠ e -> h.get? b = some u -> h'.get? b = some u) (heo : ∃ u, h'.get? e = some u)
    (new : ObjOk P w (upd H x o') h' x o') : HOk P w (upd H x o') h' := fun b u q => by
  have nown : ∀ c y, H c = some (.own y) -> c ≠ x := fun c y r z => by subst z; rw [r] at mu; exact mu
  have ntup : ∀ c xs, H c = some (.tup xs) -> c ≠ x := fun c xs r z => by subst z; rw [r] at mu; exact mu
  by_cases hb : b = x
  . subst hb; rw [upd_same] at q; cases q; exact new
  . rw [upd_ne hb] at q
    by_cases hbe : b = e
    . have q' : H b = some (.own x) := by
        rcases he with z | z
        . exact absurd (hbe.trans z) hb
        . rw [hbe]; exact z
      rw [q] at q'; cases q'
      obtain ⟨v, hv⟩ := heo
      exact ⟨v, by rw [hbe]; exact hv⟩
    . refine (ok b u q).stay (fun c v hc r => k c v ?_ r) (fun c r => by rw [upd_ne (nown c b r)]; exact r) fun c xs r => by rw [upd_ne (ntup c xs r)]; exact r
      rcases hc with rfl | hc
      . exact hbe
      . rintro rfl
        rcases he with z | z
        . exact nown c b hc z
        . rw [hc] at z; cases z; exact hb rfl
end
structure Un (fs ex : List Addr) (H H' : Hp) (h h' : Heap) : Prop where
  keep : ∀ b o, h.get? b = some o -> H b = none -> b ∉ fs -> b ∉ ex -> h'.get? b = some o
  slot : ∀ b o, h.get? b = some o -> H b = none -> b ∈ fs -> b ∉ ex -> ∃ sl, h'.get? b = some { o with slots := sl }
  free : ∀ b o, h.get? b = some o -> H b = none -> b ∉ ex -> H' b = none
  there : ∀ b o, h.get? b = some o -> b ∉ ex -> ∃ o', h'.get? b = some o'
  tups : ∀ b xs, H b = some (.tup xs) -> H' b = some (.tup xs)
  frzs : ∀ b o u, H b = some (.frz o u) -> H' b = some (.frz o u)
  tbls : ∀ b ps, H b = some (.tbl ps) -> ∃ more, H' b = some (.tbl (ps ++ more))
section
variable {fs fs' ex ex' : List Addr} {H H1 H2 : Hp} {h h1 h2 h' : Heap} {a x e : Addr} {o : HO}
theorem Un.any (u : Un fs ex H H1 h h1) {b : Addr} {ob : Obj} (q : h.get? b = some ob) (n : H b = none) (hx : b ∉ ex) : ∃ sl, h1.get? b = some { ob with slots := sl } := by
  by_cases hb : b ∈ fs
  . exact u.slot b ob q n hb hx
  . exact ⟨ob.slots, u.keep b ob q n hb hx⟩
theorem Un.kept (k : ∀ b u, h.get? b = some u -> h'.get? b = some u) : Un fs ex H H h h' :=
  ⟨fun b ob q _ _ _ => k b ob q, fun b ob q _ _ _ => ⟨ob.slots, k b ob q⟩, fun _ _ _ n _ => n, fun b ob q _ => ⟨ob, k b ob q⟩, fun _ _ q => q, fun _ _ _ q => q, fun _ ps q => ⟨#[], by rw [q]; simp⟩⟩
theorem Un.refl : Un fs ex H H h h := Un.kept fun _ _ q => q
theorem Un.laid (k : ∀ b u, h.get? b = some u -> h'.get? b = some u) (hp : h.objs.size <= a) (hn : H a = none) : Un fs ex H (upd H a o) h h' where
  keep := fun b u q _ _ _ => k b u q
  slot := fun b u q _ _ _ => ⟨u.slots, k b u q⟩
  free := fun b u q n _ => by rw [upd_ne (Nat.ne_of_lt (Nat.lt_of_lt_of_le (Heap.lt_size q) hp))]; exact n
  there := fun b u q _ => ⟨u, k b u q⟩
  tups := fun b xs q => by rw [upd_ne (ne_of_none q hn)]; exact q
  frzs := fun b u xs q => by rw [upd_ne (ne_of_none q hn)]; exact q
  tbls := fun b ps q => ⟨#[], by rw [upd_ne (ne_of_none q hn), q]; simp⟩
theorem Un.write (mu : Mut (H x)) (he : e = x \/ H e = some (.own x)) (k : ∀ b u, b ≠ e -> h.get? b = some u -> h'.get? b = some u) (heo : ∃ u, h'.get? e = some u) : Un fs ex H (upd H x o) h h' := by
  have hx : ∀ b, H b = none -> b ≠ x := fun b n z => by subst z; rw [n] at mu; exact mu
  have hb : ∀ b, H b = none -> b ≠ e := fun b n z => by
    subst z
    rcases he with r | r
    . exact hx b n r
    . rw [n] at r; cases r
  have hm : ∀ b u, H b = some u -> ¬ Mut (some u) -> b ≠ x := fun b u q nm z => by subst z; rw [q] at mu; exact nm mu
  refine ⟨fun b u q n _ _ => k b u (hb b n) q, fun b u q n _ _ => ⟨u.slots, k b u (hb b n) q⟩, fun b u q n _ => by rw [upd_ne (hx b n)]; exact n, fun b u q _ => ?_,
    fun b xs q => by rw [upd_ne (hm b _ q fun z => z)]; exact q, fun b u xs q => by rw [upd_ne (hm b _ q fun z => z)]; exact q, fun b ps q => ⟨#[], by rw [upd_ne (hm b _ q fun z => z), q]; simp⟩⟩
  by_cases hbe : b = e
  . subst hbe; exact heo
  . exact ⟨u, k b u hbe q⟩
end
def trk (h : Heap) (H : Hp) : List Addr := (List.range h.objs.size).filter fun a => (H a).isSome
def hidT (h : Heap) (H : Hp) : Heap := PySem.W.hideAll h (trk h H)
theorem hidT_size (h : Heap) (H : Hp) : (hidT h H).objs.size = h.objs.size := PySem.W.hideAll_size _ _
theorem hidT_get {h : Heap} {H : Hp} {b : Addr} {o : Obj} (e : h.get? b = some o) (n : H b = none) : (hidT h H).get? b = some o :=
  PySem.W.hideAll_get _ e fun hm => by
    have q : (H b).isSome = true := (List.mem_filter.mp hm).2
    rw [n] at q; simp at q
theorem of_hidT {h : Heap} {H : Hp} {b : Addr} {o : Obj} (e : (hidT h H).get? b = some o) : h.get? b = some o /\ H b = none := by
  have e' : h.get? b = some o := PySem.W.of_hideAll (trk h H) e
  refine ⟨e', ?_⟩
  cases q : H b with
  | none => rfl
  | some x =>
    have hm : b ∈ trk h H := List.mem_filter.mpr ⟨List.mem_range.mpr (Heap.lt_size e'), by simp [q]⟩
    have z : (hidT h H).get? b = none := PySem.W.hideAll_none (trk h H) hm
    rw [z] at e; cases e
def allNews (g h : Heap) (L : Addr) : List (Addr × Obj) := (List.range h.objs.size).filterMap fun a => if a = L \/ (g.get? a).isSome = true then none else (h.get? a).map fun o => (a, o)
def rest (g h : Heap) (L d : Addr) : List (Addr × Obj) := (allNews g h L).filter fun p => decide (p.1 ≠ d)
end L2
namespace L2
open PySem PySem.Spec PyProof.Rows
structure Mod (K : PySem.W.Frag) (mg : Str -> Option Value) (base : Heap) : Prop where
  kin : K.In base
  glob : base.Ns mainGlobals mg
  blt : ∃ mb, base.Ns builtinsNs mb /\ ∀ x : Str, x ≠ "__name__" -> mb x = bootBuiltins x
  nolimit : base.NoLimit
structure Cx where
  prog : Program
  w : World
  K : PySem.W.Frag
  mg : Str -> Option Value
  base : Heap
  A : Around
  N : List Str
  s₀ : Shared
  H₀ : Hp
  env : Env
  outer : List Env
  stack : List Env
  ex : List Addr
  fn : Str -> Bool
  calm : Bool
  pn : List (Addr × Obj)
  xe : Value -> Shared -> Prop
def frs (l : List Env) : List Addr := l.filterMap (·.frame)
abbrev Cx.fs (X : Cx) : List Addr := frs X.outer
def Vis (sc : Scope) (x : Str) : Prop := sc.names.lookup x = some .local \/ sc.names.lookup x = some .cell \/ sc.names.lookup x = some .free
def Loc (sc : Scope) (x : Str) : Prop := sc.names.lookup x = some .local \/ sc.names.lookup x = some .cell
def Look (env : Env) (h : Heap) (m : Str -> Option Value) (x : Str) (u : Value) : Prop :=
  (env.kindOf x = some .local /\ m x = some u) \/ ((env.kindOf x = some .cell \/ env.kindOf x = some .free) /\ ∃ c, env.cells.lookup x = some c /\ h.IsCell c (some u))
structure Cx.Ok (X : Cx) : Prop where
  mod : Mod X.K X.mg X.base
  kind : X.env.scope.kind = .function
  glob : X.env.globals = mainGlobals
  blt : X.env.builtins = builtinsNs
  above : X.s₀.heap.objs.size <= X.env.locals
  inj : ∀ x y c, X.env.cells.lookup x = some c -> X.env.cells.lookup y = some c -> x = y
  has : ∀ x, (X.env.kindOf x = some .cell \/ X.env.kindOf x = some .free) -> ∃ c, X.env.cells.lookup x = some c
  cab : ∀ x c, X.fn x = true -> X.env.cells.lookup x = some c -> X.s₀.heap.objs.size <= c
  hd : X.calm = true -> X.A.handled = none
  frames : X.A.frames = some X.stack
  stk : X.stack = X.outer \/ (X.stack = X.env :: X.outer /\ X.env.frame = some X.env.locals)
  exf : ∀ b ∈ X.ex, b ≠ X.env.locals /\ ∀ x c, X.env.cells.lookup x = some c -> c ≠ b
  bs : ∀ b o, X.base.get? b = some o -> X.s₀.heap.get? b = some o /\ X.H₀ b = none
  bsz : X.base.objs.size <= X.s₀.heap.objs.size
  noex : ∀ b o, X.base.get? b = some o -> b ∉ X.ex
  exfs : ∀ b ∈ X.ex, b ∉ X.fs
  funs : X.s₀.heap.FunFrames X.base X.outer
  frf : ∀ b ∈ X.fs, X.H₀ b = none
structure Inv (X : Cx) (pins : List (Addr × Obj)) (σ : List (Option V)) (H : Hp) (s : Shared) : Prop where
  ok : X.Ok
  os : s.os = X.s₀.os
  bare : AllBare s.gens
  base : Un X.fs X.ex X.H₀ H X.s₀.heap s.heap
  loc : ∃ m, s.heap.Ns X.env.locals m /\ ∀ (i : Nat) (x : Str) (v : V), X.N[i]? = some x -> σ[i]? = some (some v) -> Vis X.env.scope x -> ∃ u, RelV v u /\ Look X.env s.heap m x u
  cell : ∀ x c, X.env.cells.lookup x = some c -> ∃ v, s.heap.IsCell c v
  free : H X.env.locals = none
  freeC : ∀ x c, X.env.cells.lookup x = some c -> H c = none
  pin : ∀ p ∈ X.pn ++ pins, s.heap.get? p.1 = some p.2 /\ H p.1 = none /\ p.1 ≠ X.env.locals /\ p.1 ∉ X.fs /\ ∀ v, p.2.data ≠ .cell v
  hok : HOk X.prog X.w H s.heap
  len : σ.length = X.N.length
section
variable {X : Cx} {pins : List (Addr × Obj)} {σ : List (Option V)} {H H' : Hp} {s : Shared} {h' : Heap}
theorem Cx.Ok.nofr (ok : X.Ok) {b : Addr} {o : Obj} (e : X.base.get? b = some o) : b ∉ X.fs := fun hb => by
  have := (ok.funs.mem hb).1
  rw [e] at this; cases this
theorem Inv.bs (I : Inv X pins σ H s) : ∀ b o, X.base.get? b = some o -> s.heap.get? b = some o /\ H b = none := fun b o e =>
  ⟨I.base.keep b o (I.ok.bs b o e).1 (I.ok.bs b o e).2 (I.ok.nofr e) (I.ok.noex b o e), I.base.free b o (I.ok.bs b o e).1 (I.ok.bs b o e).2 (I.ok.noex b o e)⟩
theorem Inv.bk (I : Inv X pins σ H s) : ∀ b o, X.base.get? b = some o -> s.heap.get? b = some o := fun b o e => (I.bs b o e).1
theorem Inv.mod (I : Inv X pins σ H s) : Mod X.K X.mg X.base := I.ok.mod
theorem Inv.kIn (I : Inv X pins σ H s) : X.K.In s.heap := I.ok.mod.kin.keeps I.bk
theorem Inv.lt (I : Inv X pins σ H s) : X.env.locals < s.heap.objs.size := let ⟨_, hn, _⟩ := I.loc; hn.lt
theorem Inv.sz (I : Inv X pins σ H s) : X.s₀.heap.objs.size <= s.heap.objs.size := Nat.le_trans I.ok.above (Nat.le_of_lt I.lt)
theorem Inv.nofs (I : Inv X pins σ H s) {a : Addr} (h : s.heap.objs.size <= a) : a ∉ X.fs := fun hb => by
  obtain ⟨_, o, ho, _⟩ := I.ok.funs.mem hb
  exact absurd (Nat.lt_of_lt_of_le (Heap.lt_size ho) (Nat.le_trans I.sz h)) (Nat.lt_irrefl _)
theorem Inv.cne (I : Inv X pins σ H s) : ∀ x c, X.env.cells.lookup x = some c -> c ≠ X.env.locals := fun x c e z => by
  obtain ⟨v, o, ho, hd⟩ := I.cell x c e
  obtain ⟨m, ⟨o', es, ep, ho', hd', _⟩, _⟩ := I.loc
  rw [z, ho'] at ho; cases ho; rw [hd'] at hd; cases hd
theorem Inv.funs (I : Inv X pins σ H s) : s.heap.FunFrames X.base X.outer := by
  have all : ∀ (l : List Env), (∀ b ∈ frs l, b ∈ X.fs) -> X.s₀.heap.FunFrames X.base l -> s.heap.FunFrames X.base l := by
    intro l
    induction l with
    | nil => intro _ _; trivial
    | cons env r ih =>
      intro hs hl
      obtain ⟨hk, ⟨L, o, hf, hn, ho, hd⟩, hr⟩ := hl
      have hL : L ∈ X.fs := hs L (by unfold frs; rw [List.filterMap_cons, hf]; exact List.mem_cons_self)
      obtain ⟨sl, e⟩ := I.base.slot L o ho (I.ok.frf L hL) hL fun z => I.ok.exfs L z hL
      exact ⟨hk, ⟨L, _, hf, hn, e, hd⟩, ih (fun b hb => hs b (by unfold frs; rw [List.filterMap_cons, hf]; exact List.mem_cons_of_mem _ hb)) hr⟩
  exact all X.outer (fun _ hb => hb) I.ok.funs
theorem Inv.stack (I : Inv X pins σ H s) : s.heap.FunFrames X.base X.stack := by
  rcases I.ok.stk with e | ⟨e, hf⟩
  . rw [e]; exact I.funs
  . rw [e]
    obtain ⟨m, hn, _⟩ := I.loc
    refine .cons (by rw [I.ok.kind]; decide) hf hn ?_ I.funs
    exact Heap.get?_none_of_le (Nat.le_trans I.ok.bsz I.ok.above)
theorem Inv.stkSub (I : Inv X pins σ H s) : ∀ b ∈ frs X.stack, b ∈ X.env.locals :: X.fs := fun b hb => by
  rcases I.ok.stk with e | ⟨e, hf⟩
  . rw [e] at hb; exact List.mem_cons_of_mem _ hb
  . rw [e] at hb
    unfold frs at hb
    rw [List.filterMap_cons, hf] at hb
    exact hb
theorem Inv.stkFree (I : Inv X pins σ H s) : ∀ b ∈ frs X.stack, H b = none := fun b hb => by
  rcases List.mem_cons.mp (I.stkSub b hb) with e | hb
  . rw [e]; exact I.free
  . obtain ⟨_, o, ho, _⟩ := I.ok.funs.mem hb
    exact I.base.free b o ho (I.ok.frf b hb) fun z => I.ok.exfs b z hb
theorem Inv.step {g' : Array GenState} {t' : Nat} {d' : Drawn} {ch : List Addr} (I : Inv X pins σ H s)
    (hch : ∀ b ∈ ch, (b ∈ X.ex \/ X.s₀.heap.objs.size <= b) /\ b ≠ X.env.locals /\ (∀ x c, X.env.cells.lookup x = some c -> c ≠ b) /\ ∀ p ∈ X.pn ++ pins, p.1 ≠ b)
    (keep : ∀ b o, b ≠ X.env.locals -> b ∉ X.fs -> b ∉ ch -> s.heap.get? b = some o -> H b = none -> h'.get? b = some o)
    (slot : ∀ b o, b ≠ X.env.locals -> b ∈ X.fs -> b ∉ ch -> s.heap.get? b = some o -> H b = none -> ∃ sl, h'.get? b = some { o with slots := sl }) (free : ∀ b o, b ∉ ch -> s.heap.get? b = some o -> H b = none -> H' b = none)
    (there : ∀ b o, b ∉ ch -> s.heap.get? b = some o -> ∃ o', h'.get? b = some o')
    (tups : ∀ b xs, H b = some (.tup xs) -> H' b = some (.tup xs)) (frzs : ∀ b o u, H b = some (.frz o u) -> H' b = some (.frz o u)) (tbls : ∀ b ps, H b = some (.tbl ps) -> ∃ more, H' b = some (.tbl (ps ++ more)))
    (ns : ∀ m, s.heap.Ns X.env.locals m -> h'.Ns X.env.locals m) (hok : HOk X.prog X.w H' h') (hg : AllBare g') :
    Inv X pins σ H' { s with heap := h', gens := g', drawn := d', toks := t' } := by
  have neL : ∀ b o, X.s₀.heap.get? b = some o -> b ≠ X.env.locals := fun b o e => Nat.ne_of_lt (Nat.lt_of_lt_of_le (Heap.lt_size e) I.ok.above)
  have neC : ∀ b o, X.s₀.heap.get? b = some o -> b ∉ X.ex -> b ∉ ch := fun b o e hx hb => by
    rcases (hch b hb).1 with z | z
    . exact hx z
    . exact absurd (Nat.lt_of_lt_of_le (Heap.lt_size e) z) (Nat.lt_irrefl _)
  have cellK : ∀ x c, X.env.cells.lookup x = some c -> ∀ v, s.heap.IsCell c v -> h'.IsCell c v := fun x c e v ⟨o, ho, hd⟩ => by
    have nch : c ∉ ch := fun z => (hch c z).2.2.1 x c e rfl
    by_cases hc : c ∈ X.fs
    . obtain ⟨sl, q⟩ := slot c o (I.cne x c e) hc nch ho (I.freeC x c e)
      exact ⟨_, q, hd⟩
    . exact ⟨o, keep c o (I.cne x c e) hc nch ho (I.freeC x c e), hd⟩
  refine ⟨I.ok, I.os, hg, ⟨fun b o e n hb hx => ?_, fun b o e n hb hx => ?_, fun b o e n hx => ?_, fun b o e hx => ?_, fun b xs e => tups b xs (I.base.tups b xs e), fun b o xs e => frzs b o xs (I.base.frzs b o xs e), fun b ps e => ?_⟩, ?_, fun x c e => ?_, ?_, fun x c e => ?_, fun p hp => ?_, hok, I.len⟩
  . exact keep b o (neL b o e) hb (neC b o e hx) (I.base.keep b o e n hb hx) (I.base.free b o e n hx)
  . obtain ⟨sl, e1⟩ := I.base.slot b o e n hb hx
    obtain ⟨sl', e2⟩ := slot b _ (neL b o e) hb (neC b o e hx) e1 (I.base.free b o e n hx)
    exact ⟨sl', e2⟩
  . obtain ⟨o', e1⟩ := I.base.there b o e hx
    exact free b o' (neC b o e hx) e1 (I.base.free b o e n hx)
  . obtain ⟨o', e1⟩ := I.base.there b o e hx
    exact there b o' (neC b o e hx) e1
  . obtain ⟨m1, e1⟩ := I.base.tbls b ps e
    obtain ⟨m2, e2⟩ := tbls b _ e1
    exact ⟨m1 ++ m2, by rw [e2, Array.append_assoc]⟩
  . obtain ⟨m, hn, hl⟩ := I.loc
    refine ⟨m, ns m hn, fun i x v e1 e2 e3 => ?_⟩
    obtain ⟨u, r, l⟩ := hl i x v e1 e2 e3
    refine ⟨u, r, ?_⟩
    rcases l with l | ⟨k, c, e, z⟩
    . exact .inl l
    . exact .inr ⟨k, c, e, cellK x c e _ z⟩
  . obtain ⟨v, z⟩ := I.cell x c e
    exact ⟨v, cellK x c e v z⟩
  . obtain ⟨m, ⟨o, _, _, ho, _⟩, _⟩ := I.loc
    exact free _ o (fun z => (hch _ z).2.1 rfl) ho I.free
  . obtain ⟨v, o, ho, hd⟩ := I.cell x c e
    exact free c o (fun z => (hch c z).2.2.1 x c e rfl) ho (I.freeC x c e)
  . obtain ⟨e, n, ne, nf, d⟩ := I.pin p hp
    have nch : p.1 ∉ ch := fun z => (hch p.1 z).2.2.2 p hp rfl
    exact ⟨keep p.1 p.2 ne nf nch e n, free p.1 p.2 nch e n, ne, nf, d⟩
theorem Inv.un {t' : Nat} (I : Inv X pins σ H s) (u : Un X.fs [] H H' s.heap h') (hok : HOk X.prog X.w H' h') : Inv X pins σ H' { s with heap := h', toks := t' } := by
  obtain ⟨m, ⟨o, es, ep, ho, r⟩, _⟩ := id I.loc
  obtain ⟨sl, hL⟩ := u.any ho I.free (by simp)
  exact I.step (g' := s.gens) (d' := s.drawn) (ch := []) (fun _ z => nomatch z) (fun b o _ hb _ e n => u.keep b o e n hb (by simp)) (fun b o _ hb _ e n => u.slot b o e n hb (by simp)) (fun b o _ e n => u.free b o e n (by simp)) (fun b o _ e => u.there b o e (by simp)) u.tups u.frzs u.tbls (fun m' hm => by
    obtain ⟨o', es', ep', ho', r'⟩ := hm
    rw [ho] at ho'; cases ho'
    exact ⟨_, es', ep', hL, r'⟩) hok I.bare
theorem Inv.call {g' : Array GenState} {t' : Nat} {d' : Drawn} {ch : List Addr} (I : Inv X pins σ H s) (u : Un (frs X.stack) ch H H' s.heap h') (hok : HOk X.prog X.w H' h') (hg : AllBare g')
    (hch : ∀ b ∈ ch, (b ∈ X.ex \/ X.s₀.heap.objs.size <= b) /\ b ≠ X.env.locals /\ (∀ x c, X.env.cells.lookup x = some c -> c ≠ b) /\ ∀ p ∈ X.pn ++ pins, p.1 ≠ b) :
    Inv X pins σ H' { s with heap := h', gens := g', drawn := d', toks := t' } := by
  obtain ⟨m, ⟨o, es, ep, ho, r⟩, _⟩ := id I.loc
  obtain ⟨sl, hL⟩ := u.any ho I.free fun z => (hch _ z).2.1 rfl
  exact I.step (ch := ch) hch (fun b o hL hb hc e n => u.keep b o e n (fun z => (List.mem_cons.mp (I.stkSub b z)).elim hL hb) hc) (fun b o _ _ hc e n => u.any e n hc) (fun b o hc e n => u.free b o e n hc) (fun b o hc e => u.there b o e hc) u.tups u.frzs u.tbls (fun m' hm => by
    obtain ⟨o', es', ep', ho', r'⟩ := hm
    rw [ho] at ho'; cases ho'
    exact ⟨_, es', ep', hL, r'⟩) hok hg
theorem Inv.turned {t' : Nat} {it : Addr} (I : Inv X pins σ H s) (k : ∀ b o, b ≠ it -> s.heap.get? b = some o -> h'.get? b = some o) (hn : H it = none) (hL : it ≠ X.env.locals)
    (h1 : it ∈ X.ex \/ X.s₀.heap.objs.size <= it) (h2 : ∀ x c, X.env.cells.lookup x = some c -> c ≠ it) (h3 : ∀ p ∈ X.pn ++ pins, p.1 ≠ it) : Inv X pins σ H { s with heap := h', toks := t' } := by
  have nit : ∀ b u, H b = some u -> b ≠ it := fun b u e z => by rw [z, hn] at e; cases e
  refine I.step (g' := s.gens) (d' := s.drawn) (ch := [it]) (fun b hb => ?_) (fun b o _ _ hc e _ => k b o (fun z => hc (by simp [z])) e) (fun b o _ _ hc e _ => ⟨o.slots, k b o (fun z => hc (by simp [z])) e⟩) (fun _ _ _ _ n => n)
    (fun b o hc e => ⟨o, k b o (fun z => hc (by simp [z])) e⟩) (fun _ _ e => e) (fun _ _ _ e => e) (fun b ps e => ⟨#[], by rw [e]; simp⟩) (fun m hm => ?_) (fun b u e => ?_) I.bare
  . have e : b = it := by simpa using hb
    subst e
    exact ⟨h1, hL, h2, h3⟩
  . obtain ⟨o, es, ep, ho, r⟩ := hm
    exact ⟨o, es, ep, k _ o (Ne.symm hL) ho, r⟩
  . refine (I.hok b u e).stay (fun c v hc q => k c v ?_ q) (fun _ q => q) fun _ _ q => q
    rcases hc with z | z
    . rw [z]; exact nit b u e
    . exact nit c _ z
theorem Inv.tok (I : Inv X pins σ H s) (t : Nat) : Inv X pins σ H { s with toks := t } := I.un (h' := s.heap) (t' := t) Un.refl I.hok
theorem Inv.kept {t' : Nat} (I : Inv X pins σ H s) (k : ∀ b u, s.heap.get? b = some u -> h'.get? b = some u) : Inv X pins σ H { s with heap := h', toks := t' } := I.un (Un.kept k) (I.hok.kept k)
theorem Inv.laid {a : Addr} {o : HO} {t' : Nat} (I : Inv X pins σ H s) (k : ∀ b u, s.heap.get? b = some u -> h'.get? b = some u) (hp : s.heap.objs.size <= a) (new : ObjOk X.prog X.w (upd H a o) h' a o) :
    Inv X pins σ (upd H a o) { s with heap := h', toks := t' } := I.un (Un.laid k hp (I.hok.fresh hp)) (I.hok.laid k hp new)
theorem Inv.write {x e : Addr} {o : HO} {t' : Nat} (I : Inv X pins σ H s) (mu : Mut (H x)) (he : e = x \/ H e = some (.own x)) (k : ∀ b u, b ≠ e -> s.heap.get? b = some u -> h'.get? b = some u) (heo : ∃ u, h'.get? e = some u)
    (new : ObjOk X.prog X.w (upd H x o) h' x o) : Inv X pins σ (upd H x o) { s with heap := h', toks := t' } := I.un (Un.write mu he k heo) (I.hok.write mu he k heo new)
theorem Inv.pins_of {pins' : List (Addr × Obj)} (I : Inv X pins σ H s) (h : ∀ p ∈ pins', s.heap.get? p.1 = some p.2 /\ H p.1 = none /\ p.1 ≠ X.env.locals /\ p.1 ∉ X.fs /\ ∀ v, p.2.data ≠ .cell v) : Inv X pins' σ H s :=
  ⟨I.ok, I.os, I.bare, I.base, I.loc, I.cell, I.free, I.freeC, fun p hp => (List.mem_append.mp hp).elim (fun z => I.pin p (List.mem_append_left _ z)) (h p), I.hok, I.len⟩
theorem nodup_ix {N : List Str} (hN : N.Nodup) {i j : Nat} {x : Str} (a : N[i]? = some x) (b : N[j]? = some x) : i = j := by
  obtain ⟨h1, e1⟩ := List.getElem?_eq_some_iff.mp a
  obtain ⟨h2, e2⟩ := List.getElem?_eq_some_iff.mp b
  exact (List.getElem_inj hN).mp (e1.trans e2.symm)
theorem store_ok2 {M : Model} {A : Around} {E : Value -> Shared -> Prop} {i : Nat} {x : Str} {v : V} {u : Value} {Q : Unit -> Shared -> Prop} (I : Inv X pins σ H s) (hN : X.N.Nodup) (hi : X.N[i]? = some x) (hx : Loc X.env.scope x) (r : RelV v u)
    (h : ∀ s', Inv X pins (σ.set i (some v)) H s' -> (∃ a, Heap.SameBut a s.heap s'.heap /\ (a = X.env.locals \/ X.env.cells.lookup x = some a)) -> Q () s') (hf : X.fn x = true \/ X.env.scope.names.lookup x = some .local := by first | exact .inl rfl | exact .inr rfl | assumption) : wpAny M A (storeName X.env x u) Q E s := by
  obtain ⟨m, hn, hl⟩ := id I.loc
  have hcls : (X.env.scope.kind == .class || (X.env.scope.kind == .module && X.env.locals != X.env.globals)) = false := by rw [I.ok.kind]; rfl
  have hiσ : i < σ.length := by rw [I.len]; exact (List.getElem?_eq_some_iff.mp hi).1
  have cne := I.cne
  have tracked : ∀ {a : Addr} {h' : Heap}, (∃ o, s.heap.get? a = some o /\ H a = none) -> Heap.SameBut a s.heap h' -> HOk X.prog X.w H h' := fun {a h'} ha hs b ob e => by
    obtain ⟨_, _, hfree⟩ := ha
    refine (I.hok b ob e).stay (fun c w' hc q => (hs.2 c ?_).trans q) (fun _ q => q) fun _ _ q => q
    rintro rfl
    rcases hc with rfl | hc
    . rw [hfree] at e; cases e
    . rw [hfree] at hc; cases hc
  rcases hx with hk | hk
  . refine wpAny_storeName_local hk hn (fun h' hn' hs => ?_) hcls
    obtain ⟨oL, _, _, hoL, _⟩ := id hn
    refine h _ ⟨I.ok, I.os, I.bare, ⟨fun b o e n hb hx => ?_, fun b o e n hb hx => ?_, I.base.free, fun b o e hx => ?_, I.base.tups, I.base.frzs, I.base.tbls⟩, ⟨_, hn', fun j y v' e1 e2 e3 => ?_⟩, fun y c e => ?_, I.free, I.freeC, fun p hp => ?_, tracked ⟨oL, hoL, I.free⟩ hs, by simpa using I.len⟩ ⟨_, hs, .inl rfl⟩
    . exact (hs.2 b (Nat.ne_of_lt (Nat.lt_of_lt_of_le (Heap.lt_size e) I.ok.above))).trans (I.base.keep b o e n hb hx)
    . obtain ⟨sl, e1⟩ := I.base.slot b o e n hb hx
      exact ⟨sl, (hs.2 b (Nat.ne_of_lt (Nat.lt_of_lt_of_le (Heap.lt_size e) I.ok.above))).trans e1⟩
    . obtain ⟨o', e1⟩ := I.base.there b o e hx
      exact ⟨o', (hs.2 b (Nat.ne_of_lt (Nat.lt_of_lt_of_le (Heap.lt_size e) I.ok.above))).trans e1⟩
    . by_cases hj : j = i
      . subst hj
        rw [hi] at e1; cases e1
        rw [List.getElem?_set_self hiσ] at e2
        cases e2
        exact ⟨u, r, .inl ⟨hk, by simp⟩⟩
      . rw [List.getElem?_set_ne (Ne.symm hj)] at e2
        obtain ⟨u', r', q⟩ := hl j y v' e1 e2 e3
        refine ⟨u', r', ?_⟩
        rcases q with ⟨k, e⟩ | ⟨k, c, e, z⟩
        . refine .inl ⟨k, ?_⟩
          have : y ≠ x := fun e => hj (nodup_ix hN e1 (e ▸ hi))
          simp [this, e]
        . exact .inr ⟨k, c, e, z.sameBut hs (cne y c e)⟩
    . obtain ⟨w', z⟩ := I.cell y c e
      exact ⟨w', z.sameBut hs (cne y c e)⟩
    . obtain ⟨e, n, ne, nf, d⟩ := I.pin p hp
      exact ⟨(hs.2 p.1 ne).trans e, n, ne, nf, d⟩
  . have hfn : X.fn x = true := by
      rcases hf with z | z
      . exact z
      . rw [z] at hk; cases hk
    obtain ⟨c, hc⟩ := I.ok.has x (.inl hk)
    obtain ⟨w', z⟩ := I.cell x c hc
    refine wpAny_storeName_cell I.ok.kind hk hc z (fun h' hc' hs => ?_)
    obtain ⟨oc, hoc, hocd⟩ := id z
    refine h { s with heap := h' } ⟨I.ok, I.os, I.bare, ⟨fun b o e n hb hx => ?_, fun b o e n hb hx => ?_, I.base.free, fun b o e hx => ?_, I.base.tups, I.base.frzs, I.base.tbls⟩, ⟨m, hn.sameBut hs (Ne.symm (cne x c hc)), fun j y v' e1 e2 e3 => ?_⟩, fun y c' e => ?_, I.free, I.freeC, fun p hp => ?_, tracked ⟨oc, hoc, I.freeC x c hc⟩ hs, by simpa using I.len⟩ ⟨c, hs, .inr hc⟩
    . exact (hs.2 b (Nat.ne_of_lt (Nat.lt_of_lt_of_le (Heap.lt_size e) (I.ok.cab x c hfn hc)))).trans (I.base.keep b o e n hb hx)
    . obtain ⟨sl, e1⟩ := I.base.slot b o e n hb hx
      exact ⟨sl, (hs.2 b (Nat.ne_of_lt (Nat.lt_of_lt_of_le (Heap.lt_size e) (I.ok.cab x c hfn hc)))).trans e1⟩
    . obtain ⟨o', e1⟩ := I.base.there b o e hx
      exact ⟨o', (hs.2 b (Nat.ne_of_lt (Nat.lt_of_lt_of_le (Heap.lt_size e) (I.ok.cab x c hfn hc)))).trans e1⟩
    . by_cases hj : j = i
      . subst hj
        rw [hi] at e1; cases e1
        rw [List.getElem?_set_self hiσ] at e2
        cases e2
        exact ⟨u, r, .inr ⟨.inl hk, c, hc, hc'⟩⟩
      . rw [List.getElem?_set_ne (Ne.symm hj)] at e2
        obtain ⟨u', r', q⟩ := hl j y v' e1 e2 e3
        refine ⟨u', r', ?_⟩
        rcases q with q | ⟨k, c', e, z'⟩
        . exact .inl q
        . refine .inr ⟨k, c', e, z'.sameBut hs ?_⟩
          rintro rfl
          exact hj (nodup_ix hN e1 (I.ok.inj _ _ _ e hc ▸ hi))
    . by_cases hcc : c' = c
      . subst hcc; exact ⟨_, hc'⟩
      . obtain ⟨w2, z2⟩ := I.cell y c' e
        exact ⟨w2, z2.sameBut hs hcc⟩
    . obtain ⟨e, n, ne, nf, d⟩ := I.pin p hp
      refine ⟨(hs.2 p.1 ?_).trans e, n, ne, nf, d⟩
      intro q
      rw [q, hoc] at e
      have q' : oc = p.2 := Option.some.inj e
      exact d w' (by rw [<- q']; exact hocd)
theorem store_ok {M : Model} {A : Around} {E : Value -> Shared -> Prop} {i : Nat} {x : Str} {v : V} {u : Value} {Q : Unit -> Shared -> Prop} (I : Inv X pins σ H s) (hN : X.N.Nodup) (hi : X.N[i]? = some x) (hx : Loc X.env.scope x) (r : RelV v u)
    (h : ∀ s', Inv X pins (σ.set i (some v)) H s' -> Q () s') (hf : X.fn x = true \/ X.env.scope.names.lookup x = some .local := by first | exact .inl rfl | exact .inr rfl | assumption) : wpAny M A (storeName X.env x u) Q E s :=
  store_ok2 I hN hi hx r (fun s' I' _ => h s' I') hf
theorem Inv.call' {s' : Shared} {ch : List Addr} (I : Inv X pins σ H s) (ho : s'.os = s.os) (u : Un (frs X.stack) ch H H' s.heap s'.heap) (hok : HOk X.prog X.w H' s'.heap) (hg : AllBare s'.gens)
    (hch : ∀ b ∈ ch, (b ∈ X.ex \/ X.s₀.heap.objs.size <= b) /\ b ≠ X.env.locals /\ (∀ x c, X.env.cells.lookup x = some c -> c ≠ b) /\ ∀ p ∈ X.pn ++ pins, p.1 ≠ b) : Inv X pins σ H' s' := by
  obtain ⟨h', g', d', t', o'⟩ := s'
  have e : o' = s.os := ho
  subst e
  exact I.call (g' := g') (t' := t') (d' := d') u hok hg hch
end
abbrev XK := Value -> Option Addr -> Hp -> Prop
abbrev St := List (Option V)
abbrev VK := V -> Hp -> Prop
abbrev TE := St -> Hp -> VK -> Prop
abbrev TT := St -> Hp -> (Bool -> Hp -> Prop) -> Prop
abbrev TA := St -> Hp -> (List V -> Hp -> Prop) -> Prop
structure Ends where
  nx : St -> Hp -> Prop
  rt : VK
  bk : St -> Hp -> Prop := fun _ _ => False
  ct : St -> Hp -> Prop := fun _ _ => False
abbrev TS := Ends -> St -> Hp -> Prop
def EP (X : Cx) (pins : List (Addr × Obj)) (σ : St) (Q : VK) (u : Value) (s' : Shared) : Prop := ∃ v H', Inv X pins σ H' s' /\ RelV v u /\ Q v H'
def TP (X : Cx) (pins : List (Addr × Obj)) (σ : St) (Q : Bool -> Hp -> Prop) (b : Bool) (s' : Shared) : Prop := ∃ H', Inv X pins σ H' s' /\ Q b H'
def AP (X : Cx) (pins : List (Addr × Obj)) (σ : St) (Q : List V -> Hp -> Prop) (us : List Value) (s' : Shared) : Prop := ∃ vs H', Inv X pins σ H' s' /\ Vals vs us /\ Q vs H'
def SP (X : Cx) (pins : List (Addr × Obj)) (D : Ends) (f : Flow) (s' : Shared) : Prop :=
  match f with
  | .next => ∃ σ' H', Inv X pins σ' H' s' /\ D.nx σ' H'
  | .brk => ∃ σ' H', Inv X pins σ' H' s' /\ D.bk σ' H'
  | .cont => ∃ σ' H', Inv X pins σ' H' s' /\ D.ct σ' H'
  | .ret u => ∃ v σ' H', Inv X pins σ' H' s' /\ RelV v u /\ D.rt v H'
def PE (X : Cx) (e : Expr) (t : TE) : Prop :=
  ∀ (pins : List (Addr × Obj)) (s : Shared) (σ : St) (H : Hp) (Q : VK), Inv X pins σ H s -> t σ H Q -> wpAny (model X.prog X.w) X.A (eval e X.env) (EP X pins σ Q) X.xe s
def PT (X : Cx) (e : Expr) (t : TT) : Prop :=
  ∀ (pins : List (Addr × Obj)) (s : Shared) (σ : St) (H : Hp) (Q : Bool -> Hp -> Prop), Inv X pins σ H s -> t σ H Q -> wpAny (model X.prog X.w) X.A (isTrue e X.env (eval e X.env)) (TP X pins σ Q) X.xe s
def PW (X : Cx) (e : Expr) (t : TT) : Prop :=
  ∀ (whole : Sem Value) (pins : List (Addr × Obj)) (s : Shared) (σ : St) (H : Hp) (Q : Bool -> Hp -> Prop), Inv X pins σ H s -> t σ H Q -> wpAny (model X.prog X.w) X.A (isTrue e X.env whole) (TP X pins σ Q) X.xe s
theorem PW.pt {X : Cx} {e : Expr} {t : TT} (h : PW X e t) : PT X e t := h _
def PA (X : Cx) (es : List Expr) (t : TA) : Prop :=
  ∀ (pos : Pos) (pins : List (Addr × Obj)) (s : Shared) (σ : St) (H : Hp) (Q : List V -> Hp -> Prop), Inv X pins σ H s -> t σ H Q -> wpAny (model X.prog X.w) X.A (spliced (backTo pos (starEach es X.env))) (AP X pins σ Q) X.xe s
def PS (X : Cx) (st : Stmt) (t : TS) : Prop :=
  ∀ (pins : List (Addr × Obj)) (s : Shared) (σ : St) (H : Hp) (D : Ends), Inv X pins σ H s -> t D σ H -> wpAny (model X.prog X.w) X.A (exec st X.env) (SP X pins D) X.xe s
def PSs (X : Cx) (st : List Stmt) (t : TS) : Prop :=
  ∀ (pins : List (Addr × Obj)) (s : Shared) (σ : St) (H : Hp) (D : Ends), Inv X pins σ H s -> t D σ H -> wpAny (model X.prog X.w) X.A (execs st X.env) (SP X pins D) X.xe s
theorem thn {α : Type} {t : Sem α} {Q Q' : α -> Shared -> Prop} {M : Model} {A : Around} {E : Value -> Shared -> Prop} {s : Shared} (h : wpAny M A t Q E s) (hQ : ∀ a s, Q a s -> Q' a s) : wpAny M A t Q' E s := wpAny_mono h hQ fun _ _ x => x
end L2
namespace L2
open PySem PySem.Spec PyProof.Rows
section
variable {X : Cx}
def tVar (i : Nat) : TE := fun σ H Q => ∃ v, σ[i]? = some (some v) /\ Q v H
def tC (v : V) : TE := fun _ H Q => Q v H
theorem pe_var {i : Nat} {x : Str} {pos : Pos} (hN : X.N[i]? = some x) (hv : Vis X.env.scope x) (hd : (x == ("__debug__" : Str)) = false := by decide) (hcd : (x == ("__classdict__" : Str)) = false := by decide) : PE X (.Name x pos) (tVar i) := by
  intro pins s σ H Q I h
  obtain ⟨v, e, h⟩ := h
  obtain ⟨m, hn, hl⟩ := I.loc
  obtain ⟨u, r, l⟩ := hl i x v hN e hv
  have fin : EP X pins σ Q u s := ⟨v, H, I, r, h⟩
  rcases l with ⟨hk, hm⟩ | ⟨hk, c, hc, hcell⟩
  . exact wpAny_Name (wpAny_loadName_local I.ok.kind hk hn hm fin) hd
  . rcases hk with hk | hk
    . exact wpAny_Name (wpAny_loadName_cell I.ok.kind hk hc hcell fin) hd
    . exact wpAny_Name (wpAny_loadName_free I.ok.kind hk hc hcell fin hcd) hd
theorem pe_int {i j pos} : PE X (.Constant (.int i) j pos) (tC (.int i)) := fun _ _ _ H _ I h => wpAny_Constant_int ⟨.int i, H, I.tok _, ⟨_, rfl⟩, h⟩
theorem pe_bl {b j pos} : PE X (.Constant (.bool b) j pos) (tC (.bl b)) := fun _ _ _ H _ I h => Constant_bool ⟨.bl b, H, I, rfl, h⟩
theorem pe_non {j pos} : PE X (.Constant .none j pos) (tC .non) := fun _ _ _ H _ I h => Constant_none ⟨.non, H, I, rfl, h⟩
theorem pe_str {x j pos} : PE X (.Constant (.str x) j pos) (tC (.str x)) := fun _ _ _ H _ I h => Calls.Constant_str ⟨.str x, H, I.tok _, ⟨_, rfl⟩, h⟩
def Gl (X : Cx) (x : Str) : Prop := X.env.kindOf x = some .globalImplicit
theorem ld_glob {E : Value -> Shared -> Prop} {pins : List (Addr × Obj)} {s : Shared} {σ : St} {H : Hp} {x : Str} {u : Value} {pos : Pos} {Q : Value -> Shared -> Prop} (I : Inv X pins σ H s) (hg : Gl X x) (hm : X.mg x = some u) (h : Q u s)
    (hd : (x == ("__debug__" : Str)) = false := by decide) : wpAny (model X.prog X.w) X.A (eval (.Name x pos) X.env) Q E s :=
  Calls.Name_function_global I.ok.kind hg (Calls.loadGlobal_global (by rw [I.ok.glob]; exact I.mod.glob.keeps I.bk) hm h) hd
theorem ld_blt {E : Value -> Shared -> Prop} {pins : List (Addr × Obj)} {s : Shared} {σ : St} {H : Hp} {x : Str} {u : Value} {pos : Pos} {Q : Value -> Shared -> Prop} (I : Inv X pins σ H s) (hg : Gl X x) (hm : X.mg x = none) (hv : bootBuiltins x = some u) (h : Q u s)
    (hn : x ≠ "__name__" := by decide) (hd : (x == ("__debug__" : Str)) = false := by decide) : wpAny (model X.prog X.w) X.A (eval (.Name x pos) X.env) Q E s := by
  obtain ⟨mb, h1, h2⟩ := I.mod.blt
  exact Calls.Name_function_global I.ok.kind hg (Calls.loadGlobal_builtin (by rw [I.ok.glob]; exact I.mod.glob.keeps I.bk) hm (by rw [I.ok.blt]; exact h1.keeps I.bk) ((h2 x hn).trans hv) h) hd
theorem pe_glob {x : Str} {v : V} {u : Value} {pos : Pos} (hg : Gl X x) (hm : X.mg x = some u) (r : RelV v u) (hd : (x == ("__debug__" : Str)) = false := by decide) : PE X (.Name x pos) (tC v) :=
  fun _ _ _ H _ I h => ld_glob I hg hm ⟨v, H, I, r, h⟩ hd
theorem pe_bltn {x : Str} {v : V} {u : Value} {pos : Pos} (hg : Gl X x) (hm : X.mg x = none) (hv : bootBuiltins x = some u) (r : RelV v u) (hn : x ≠ "__name__" := by decide) (hd : (x == ("__debug__" : Str)) = false := by decide) : PE X (.Name x pos) (tC v) :=
  fun _ _ _ H _ I h => ld_blt I hg hm hv ⟨v, H, I, r, h⟩ hn hd
variable {a b : Expr} {ta tb : TE} {pos : Pos}
def PC (X : Cx) (op : CmpOp) (a b : Expr) (t : TE) : Prop :=
  ∀ (pins : List (Addr × Obj)) (s : Shared) (σ : St) (H : Hp) (Q : VK), Inv X pins σ H s -> t σ H Q ->
    wpAny (model X.prog X.w) X.A (eval a X.env) (fun v s₁ => wpAny (model X.prog X.w) X.A (eval b X.env) (fun u s₂ => wpAny (model X.prog X.w) X.A (compareOp op v u) (EP X pins σ Q) X.xe s₂) X.xe s₁) X.xe s
theorem nobehind (b : Expr) {op : CmpOp} (h : op ≠ .In) (h2 : op ≠ .NotIn) : behindInMarks op b = false := by
  have e1 : (op == CmpOp.In) = false := by cases op <;> first | rfl | exact absurd rfl h
  have e2 : (op == CmpOp.NotIn) = false := by cases op <;> first | rfl | exact absurd rfl h2
  cases b <;> simp [behindInMarks, e1, e2]
def tB (t : TE) : TT := fun σ H Q => t σ H fun x H1 => ∃ c, x = .bl c /\ Q c H1
theorem pt_cmp {op : CmpOp} {t : TE} (h : PC X op a b t) (h1 : behindInMarks op b = false := by first | exact nobehind _ (by decide) (by decide) | rfl) : PT X (.Compare a [op] [b] pos) (tB t) := by
  intro pins s σ H Q I hw
  refine wpAny_isTrue_Compare1 (thn (h pins s σ H _ I hw) fun v s1 h1 => thn h1 fun u s2 h2 => thn h2 fun c s3 ⟨x, H1, I1, r1, q1⟩ => ?_) h1
  obtain ⟨d, rfl, q⟩ := q1
  cases r1
  exact wpAny_truthy_bool ⟨H1, I1, q⟩
theorem pt_val {e : Expr} {t : TE} (h : PE X e t) (he : ∀ whole, isTrue e X.env whole = (do let v <- whole; standAt e.pos; holding [v] (truthy v)) := by intro _; rfl) : PT X e (tB t) := by
  intro pins s σ H Q I hw
  refine isTrue_plain (thn (h pins s σ H _ I hw) fun v s1 ⟨x, H1, I1, r1, q1⟩ => ?_) (he _)
  obtain ⟨d, rfl, q⟩ := q1
  cases r1
  exact wpAny_truthy_bool ⟨H1, I1, q⟩
variable {tA tB' : TT} {rest : List Expr}
def tOr (t u : TT) : TT := fun σ H Q => t σ H fun c H1 => if c = true then Q true H1 else u σ H1 Q
def tNot (t : TT) : TT := fun σ H Q => t σ H fun c H1 => Q (!c) H1
theorem pw_or1 (ha : PT X a tA) : PW X (.BoolOp .Or [a] pos) tA := by
  intro wh pins s σ H Q I h
  refine isTrue_or (thn (ha pins s σ H Q I h) fun c s1 e => ?_)
  cases c with
  | false => exact isTrue_or_nil e
  | true => exact e
theorem pw_or (ha : PT X a tA) (hb : PW X (.BoolOp .Or (b :: rest) pos) tB') : PW X (.BoolOp .Or (a :: b :: rest) pos) (tOr tA tB') := by
  intro wh pins s σ H Q I h
  refine isTrue_or (thn (ha pins s σ H _ I h) fun c s1 ⟨H1, I1, q1⟩ => ?_)
  cases c with
  | true => exact ⟨H1, I1, q1⟩
  | false => exact hb wh pins s1 σ H1 Q I1 q1
theorem pt_not (ha : PT X a tA) : PT X (.UnaryOp .Not a pos) (tNot tA) := by
  intro pins s σ H Q I h
  exact isTrue_not (ha pins s σ H (fun c H1 => Q (!c) H1) I h)
def tAndV (ta tb : TE) : TE := fun σ H Q => ta σ H fun x H1 => ∃ c, x = .bl c /\ if c = true then tb σ H1 Q else Q (.bl false) H1
def tOrV (ta tb : TE) : TE := fun σ H Q => ta σ H fun x H1 => ∃ c, x = .bl c /\ if c = true then Q (.bl true) H1 else tb σ H1 Q
def tNotV (ta : TE) : TE := fun σ H Q => ta σ H fun x H1 => ∃ c, x = .bl c /\ Q (.bl (!c)) H1
theorem pe_one {op} {t : TE} (h : PE X a t) : PE X (.BoolOp op [a] pos) t := fun pins s σ H Q I hw => BoolOp_one (h pins s σ H Q I hw)
theorem pe_and (ha : PE X a ta) (hb : PE X (.BoolOp .And (b :: rest) pos) tb) : PE X (.BoolOp .And (a :: b :: rest) pos) (tAndV ta tb) := by
  intro pins s σ H Q I h
  refine BoolOp_and (thn (ha pins s σ H _ I h) fun v s1 ⟨x, H1, I1, r1, q1⟩ => ?_)
  obtain ⟨c, rfl, q1⟩ := q1
  cases r1
  refine wpAny_truthy_bool ?_
  cases c with
  | true => exact hb pins s1 σ H1 Q I1 q1
  | false => exact ⟨.bl false, H1, I1, rfl, q1⟩
theorem pe_or (ha : PE X a ta) (hb : PE X (.BoolOp .Or (b :: rest) pos) tb) : PE X (.BoolOp .Or (a :: b :: rest) pos) (tOrV ta tb) := by
  intro pins s σ H Q I h
  refine BoolOp_or (thn (ha pins s σ H _ I h) fun v s1 ⟨x, H1, I1, r1, q1⟩ => ?_)
  obtain ⟨c, rfl, q1⟩ := q1
  cases r1
  refine wpAny_truthy_bool ?_
  cases c with
  | false => exact hb pins s1 σ H1 Q I1 q1
  | true => exact ⟨.bl true, H1, I1, rfl, q1⟩
theorem pe_not (ha : PE X a ta) : PE X (.UnaryOp .Not a pos) (tNotV ta) := by
  intro pins s σ H Q I h
  refine UnaryOp_ (thn (ha pins s σ H _ I h) fun v s1 ⟨x, H1, I1, r1, q1⟩ => ?_)
  obtain ⟨c, rfl, q1⟩ := q1
  cases r1
  exact not_of (wpAny_truthy_bool ⟨.bl (!c), H1, I1, rfl, q1⟩)
def tIf (t : TT) (ta tb : TE) : TE := fun σ H Q => t σ H fun c H1 => if c = true then ta σ H1 Q else tb σ H1 Q
theorem pe_ifExp {c : Expr} (hc : PT X c tA) (ha : PE X a ta) (hb : PE X b tb) : PE X (.IfExp c a b pos) (tIf tA ta tb) := by
  intro pins s σ H Q I h
  refine wpAny_IfExp (thn (hc pins s σ H _ I h) fun d s1 ⟨H1, I1, q1⟩ => ?_)
  cases d with
  | true => exact ha pins s1 σ H1 Q I1 q1
  | false => exact hb pins s1 σ H1 Q I1 q1
end
end L2
namespace L2
open PySem PySem.Spec PyProof.Rows
def SqL (K : PySem.W.Frag) (H : Hp) (a : Addr) (xs : List V) : Prop :=
  Rd H a (.lst xs) \/
    ∃ (o : Obj) (its : Array Value) (n : Nat), K.lookup a = some o /\ o.cls = .type "list" /\ o.dict = none /\ o.data = .seq its n /\ its.size <= sizeLine /\ Vals xs its.toList
def SqT (K : PySem.W.Frag) (H : Hp) (a : Addr) (xs : List V) : Prop :=
  Rd H a (.tup xs) \/
    ∃ (o : Obj) (its : Array Value) (n : Nat), K.lookup a = some o /\ o.cls = .type "tuple" /\ o.data = .seq its n /\ its.size <= sizeLine /\ Vals xs its.toList
def absV : Value -> Option V
  | .none => some .non
  | .bool b => some (.bl b)
  | .int i _ => some (.int i)
  | .str x _ => some (.str x)
  | .bytes b _ => some (.byt b)
  | .float b _ => some (.flt b)
  | .ref a => some (.ref a)
  | .type n => some (.ty n)
  | _ => none
theorem RelV.abs {x : V} {u : Value} (r : RelV x u) : absV u = some x := by
  cases x with
  | non => cases r; rfl
  | bl _ => cases r; rfl
  | int _ => obtain ⟨t, rfl⟩ := r; rfl
  | str _ => obtain ⟨t, rfl⟩ := r; rfl
  | byt _ => obtain ⟨t, rfl⟩ := r; rfl
  | flt _ => obtain ⟨t, rfl⟩ := r; rfl
  | ref _ => cases r; rfl
  | ty _ => cases r; rfl
theorem RelV.inj {x y : V} {u : Value} (r : RelV x u) (q : RelV y u) : x = y := Option.some.inj (r.abs.symm.trans q.abs)
theorem Vals.inj : ∀ {xs ys : List V} {us : List Value}, Vals xs us -> Vals ys us -> xs = ys
  | _, _, _, .nil, .nil => rfl
  | _, _, _, .cons r t, .cons r' t' => by rw [r.inj r', Vals.inj t t']
section
variable {X : Cx} {pins : List (Addr × Obj)} {σ : St} {H : Hp} {s : Shared} {a : Addr} {xs ys : List V}
theorem SqL.of {K : PySem.W.Frag} (h : H a = some (.lst xs)) : SqL K H a xs := .inl (.inl h)
theorem SqT.of {K : PySem.W.Frag} (h : H a = some (.tup xs)) : SqT K H a xs := .inl (.inl h)
theorem Inv.list (I : Inv X pins σ H s) (h : SqL X.K H a xs) : ∃ its : List Value, Vals xs its /\ PlainL s.heap a its.toArray /\ xs.length <= sizeLine := by
  rcases h with h | ⟨o, its, n, hk, hc, hd, hs, hz, r⟩
  . obtain ⟨z, its, n, r, e⟩ := h.ok I.hok
    exact ⟨its, r, ⟨_, n, e, rfl, rfl, rfl⟩, z⟩
  . refine ⟨its.toList, r, ⟨o, n, I.kIn a o hk, hc, hd, by simpa using hs⟩, ?_⟩
    have e := r.length
    simp only [Array.length_toList] at e
    omega
theorem Inv.tuple (I : Inv X pins σ H s) (h : SqT X.K H a xs) : ∃ its : List Value, Vals xs its /\ IsTup s.heap a its.toArray /\ xs.length <= sizeLine := by
  rcases h with h | ⟨o, its, n, hk, hc, hs, hz, r⟩
  . obtain ⟨z, its, r, p⟩ := h.ok I.hok
    exact ⟨its, r, p, z⟩
  . refine ⟨its.toList, r, ⟨o, I.kIn a o hk, hc, n, by simpa using hs⟩, ?_⟩
    have e := r.length
    simp only [Array.length_toList] at e
    omega
theorem Inv.list_inj (I : Inv X pins σ H s) (h : SqL X.K H a xs) (h' : SqL X.K H a ys) : xs = ys := by
  obtain ⟨its, r, ⟨o, n, e, _, _, d⟩, _⟩ := I.list h
  obtain ⟨its', r', ⟨o', n', e', _, _, d'⟩, _⟩ := I.list h'
  rw [e] at e'; cases e'
  rw [d] at d'
  injection d' with d1 _
  have : its = its' := by simpa using congrArg Array.toList d1
  subst this
  exact r.inj r'
theorem Inv.tuple_inj (I : Inv X pins σ H s) (h : SqT X.K H a xs) (h' : SqT X.K H a ys) : xs = ys := by
  obtain ⟨its, r, ⟨o, e, _, n, d⟩, _⟩ := I.tuple h
  obtain ⟨its', r', ⟨o', e', _, n', d'⟩, _⟩ := I.tuple h'
  rw [e] at e'; cases e'
  rw [d] at d'
  injection d' with d1 _
  have : its = its' := by simpa using congrArg Array.toList d1
  subst this
  exact r.inj r'
end
abbrev Cx.wish (X : Cx) (E : Value -> Shared -> Prop) : Cx := { X with xe := E }
abbrev Cx.nox (X : Cx) : Cx := X.wish fun _ _ => False
theorem Cx.Ok.wish {X : Cx} (ok : X.Ok) (E : Value -> Shared -> Prop) : (X.wish E).Ok :=
  ⟨ok.mod, ok.kind, ok.glob, ok.blt, ok.above, ok.inj, ok.has, ok.cab, ok.hd, ok.frames, ok.stk, ok.exf, ok.bs, ok.bsz, ok.noex, ok.exfs, ok.funs, ok.frf⟩
theorem Cx.Ok.unwish {X : Cx} {E : Value -> Shared -> Prop} (ok : (X.wish E).Ok) : X.Ok :=
  ⟨ok.mod, ok.kind, ok.glob, ok.blt, ok.above, ok.inj, ok.has, ok.cab, ok.hd, ok.frames, ok.stk, ok.exf, ok.bs, ok.bsz, ok.noex, ok.exfs, ok.funs, ok.frf⟩
section
variable {X : Cx} {pins : List (Addr × Obj)} {σ : St} {H : Hp} {s : Shared} {E : Value -> Shared -> Prop}
theorem Inv.wish (I : Inv X pins σ H s) (E : Value -> Shared -> Prop) : Inv (X.wish E) pins σ H s := ⟨I.ok.wish E, I.os, I.bare, I.base, I.loc, I.cell, I.free, I.freeC, I.pin, I.hok, I.len⟩
theorem Inv.unwish (I : Inv (X.wish E) pins σ H s) : Inv X pins σ H s := ⟨I.ok.unwish, I.os, I.bare, I.base, I.loc, I.cell, I.free, I.freeC, I.pin, I.hok, I.len⟩
theorem SP.unwish {D : Ends} {f : Flow} {s' : Shared} (h : SP (X.wish E) pins D f s') : SP X pins D f s' := by
  cases f with
  | next => obtain ⟨σ', H', I, q⟩ := h; exact ⟨σ', H', I.unwish, q⟩
  | brk => obtain ⟨σ', H', I, q⟩ := h; exact ⟨σ', H', I.unwish, q⟩
  | cont => obtain ⟨σ', H', I, q⟩ := h; exact ⟨σ', H', I.unwish, q⟩
  | ret u => obtain ⟨v, σ', H', I, r, q⟩ := h; exact ⟨v, σ', H', I.unwish, r, q⟩
theorem PSs.nox {st : List Stmt} {t : TS} (h : PSs X.nox st t) : PSs X st t := fun pins s σ H D I hw =>
  wpAny_mono (h pins s σ H D (I.wish _) hw) (fun _ _ q => q.unwish) fun _ _ z => False.elim z
end
section
variable {X : Cx} {st : Stmt} {rest : List Stmt} {t u : TS} {e : Expr} {te : TE} {pos : Pos}
def tNext : TS := fun D σ H => D.nx σ H
def tSeq (t u : TS) : TS := fun D σ H => t { D with nx := u D } σ H
theorem pss_nil : PSs X [] tNext := fun _ _ σ H _ I h => wpAny_execs_nil ⟨σ, H, I, h⟩
theorem pss_cons (h1 : PS X st t) (h2 : PSs X rest u) : PSs X (st :: rest) (tSeq t u) := by
  intro pins s σ H D I h
  refine wpAny_execs_cons (thn (h1 pins s σ H { D with nx := u D } I h) fun f s1 q => ?_)
  cases f with
  | next =>
    obtain ⟨σ', H', I', q⟩ := q
    exact h2 pins s1 σ' H' D I' q
  | ret v => exact q
  | brk => exact q
  | cont => exact q
theorem pss_one (h1 : PS X st t) : PSs X [st] t := by
  intro pins s σ H D I h
  refine wpAny_execs_cons (thn (h1 pins s σ H D I h) fun f s1 q => ?_)
  cases f with
  | next => exact wpAny_execs_nil q
  | ret v => exact q
  | brk => exact q
  | cont => exact q
theorem Inv.quiet {pins : List (Addr × Obj)} {σ : St} {H : Hp} {s : Shared} (I : Inv X pins σ H s) : interactive X.env = false := by simp [interactive, I.ok.kind]
def tDrop (te : TE) : TS := fun D σ H => te σ H fun _ H1 => D.nx σ H1
theorem ps_expr (he : PE X e te) (hs : swapsWith e none pos.line X.env = pure false := by rfl) : PS X (.Expr e pos) (tDrop te) := by
  intro pins s σ H D I h
  exact wpAny_Expr_any (thn (he pins s σ H _ I h) fun v s1 ⟨x, H1, I1, r1, q1⟩ => ⟨σ, H1, I1, q1⟩) I.quiet hs
def tRet (te : TE) : TS := fun D σ H => te σ H D.rt
theorem ps_ret (he : PE X e te) : PS X (.Return (some e) pos) (tRet te) := by
  intro pins s σ H D I h
  exact wpAny_Return_some (thn (he pins s σ H _ I h) fun v s1 ⟨x, H1, I1, r1, q1⟩ => ⟨x, σ, H1, I1, r1, q1⟩)
def tIfS (c : TT) (t u : TS) : TS := fun D σ H => c σ H fun b H1 => if b = true then t D σ H1 else u D σ H1
theorem ps_if {c : Expr} {a b : List Stmt} {tc : TT} (hc : PT X c tc) (ha : PSs X a t) (hb : PSs X b u) : PS X (.If c a b pos) (tIfS tc t u) := by
  intro pins s σ H D I h
  refine wpAny_If (thn (hc pins s σ H _ I h) fun d s1 ⟨H1, I1, q1⟩ => ?_)
  cases d with
  | true => exact ha pins s1 σ H1 D I1 q1
  | false => exact hb pins s1 σ H1 D I1 q1
end
abbrev TG := V -> St -> Hp -> (St -> Hp -> Prop) -> Prop
def PG (X : Cx) (target : Expr) (t : TG) : Prop :=
  ∀ (pins : List (Addr × Obj)) (s : Shared) (σ : St) (H : Hp) (v : V) (u : Value) (Q : St -> Hp -> Prop), Inv X pins σ H s -> RelV v u -> t v σ H Q ->
    wpAny (model X.prog X.w) X.A (assign target X.env u) (fun _ s' => ∃ σ' H', Inv X pins σ' H' s' /\ Q σ' H') X.xe s
section
variable {X : Cx} {pos : Pos}
def gName (i : Nat) : TG := fun v σ H Q => Q (σ.set i (some v)) H
theorem pg_name {i : Nat} {x : Str} (hN : X.N.Nodup) (hi : X.N[i]? = some x) (hx : Loc X.env.scope x) (hf : X.fn x = true \/ X.env.scope.names.lookup x = some .local := by first | exact .inl rfl | exact .inr rfl | assumption) : PG X (.Name x pos) (gName i) := by
  intro pins s σ H v u Q I r h
  exact wpAny_assign_Name (store_ok I hN hi hx r (fun s' I' => ⟨_, H, I', h⟩) hf)
def tAsg (te : TE) (g : TG) : TS := fun D σ H => te σ H fun x H1 => g x σ H1 D.nx
theorem ps_set {i : Nat} {x : Str} {e : Expr} {te : TE} {pos' : Pos} (hN : X.N.Nodup) (hi : X.N[i]? = some x) (hx : Loc X.env.scope x) (he : PE X e te) (hs : swapsWith e (some (.Name x pos')) pos.line X.env = pure false := by rfl) (hf : X.fn x = true \/ X.env.scope.names.lookup x = some .local := by first | exact .inl rfl | exact .inr rfl | assumption) :
    PS X (.Assign [.Name x pos'] e pos) (tAsg te (gName i)) := by
  intro pins s σ H D I h
  refine wpAny_Assign_Name (thn (he pins s σ H _ I h) fun v s1 ⟨y, H1, I1, r1, q1⟩ => ?_) hs
  exact store_ok I1 hN hi hx r1 (fun s2 I2 => ⟨_, H1, I2, q1⟩) hf
end
section
variable {X : Cx} {pos : Pos}
def tWhile (c : TT) (tb : TS) : TS := fun D σ H => ∃ W : Nat -> St -> Hp -> Prop, (∃ m, W m σ H) /\ ∀ m σ H, W m σ H ->
  c σ H fun b H1 => if b = true then ∃ N : St -> Hp -> Prop, (∀ σ' H', N σ' H' -> ∃ m', m' < m /\ W m' σ' H') /\ tb { D with nx := N, ct := N, bk := D.nx } σ H1 else D.nx σ H1
theorem ps_while {c : Expr} {body : List Stmt} {tc : TT} {tb : TS} (hp : PassesOwn (model X.prog X.w) X.A X.env X.xe) (hc : PT X c tc) (hb : PSs X body tb) : PS X (.While c body [] pos) (tWhile tc tb) := by
  intro pins s σ H D I h
  obtain ⟨W, ⟨m0, w0⟩, turn⟩ := h
  refine wpAny_While (codeAny_whileLoop (fun n s' => ∃ σ' H', Inv X pins σ' H' s' /\ W n σ' H') ?_ m0 ⟨σ, H, I, w0⟩)
  rintro n s1 ⟨σ1, H1, I1, w1⟩
  refine wpAny_passesOwn hp (thn (hc pins s1 σ1 H1 _ I1 (turn n σ1 H1 w1)) fun b s2 ⟨H2, I2, q2⟩ => ?_)
  cases b with
  | true =>
    obtain ⟨N, hN, q2⟩ := q2
    rw [if_pos rfl]
    refine wpAny_passesOwn hp (thn (hb pins s2 σ1 H2 _ I2 q2) fun f s3 q3 => ?_)
    cases f with
    | next =>
      obtain ⟨σ3, H3, I3, n3⟩ := q3
      obtain ⟨m', hm, w3⟩ := hN σ3 H3 n3
      exact ⟨m', hm, σ3, H3, I3, w3⟩
    | cont =>
      obtain ⟨σ3, H3, I3, n3⟩ := q3
      obtain ⟨m', hm, w3⟩ := hN σ3 H3 n3
      exact ⟨m', hm, σ3, H3, I3, w3⟩
    | brk => exact q3
    | ret v => exact q3
  | false =>
    rw [if_neg Bool.false_ne_true]
    exact wpAny_execs_nil ⟨σ1, H2, I2, q2⟩
end
structure It where
  go : Nat -> Hp -> Prop
  yld : Nat -> Hp -> V -> Hp -> Prop
  stop : Nat -> Hp -> Prop
def FpOk (X : Cx) (pins : List (Addr × Obj)) (H : Hp) (b : Addr) : Prop :=
  H b = none /\ b ≠ X.env.locals /\ b ∉ X.fs /\ (b ∈ X.ex \/ X.s₀.heap.objs.size <= b) /\ (∀ x c, X.env.cells.lookup x = some c -> c ≠ b) /\ ∀ p ∈ X.pn ++ pins, p.1 ≠ b
theorem Inv.fpOk {X : Cx} {pins : List (Addr × Obj)} {σ : St} {H H' : Hp} {s : Shared} {b : Addr} (I : Inv X pins σ H s) (hb : s.heap.objs.size <= b) (hn : H' b = none) : FpOk X pins H' b := by
  refine ⟨hn, Nat.ne_of_gt (Nat.lt_of_lt_of_le I.lt hb), I.nofs hb, .inr (Nat.le_trans I.sz hb), fun x c e z => ?_, fun p hp z => ?_⟩
  . obtain ⟨v, q⟩ := I.cell x c e
    exact absurd (Nat.lt_of_lt_of_le q.lt (by rw [z]; exact hb)) (Nat.lt_irrefl _)
  . exact absurd (Nat.lt_of_lt_of_le (Heap.lt_size (I.pin p hp).1) (by rw [z]; exact hb)) (Nat.lt_irrefl _)
structure Turn (P : Program) (w : World) (K : PySem.W.Frag) (tg : Expr) (J : It) (fp : List Addr) (it : Addr) (tn : Nat -> Heap -> Prop) : Prop where
  mem : it ∈ fp
  obj : ∀ i h, tn i h -> ∀ b ∈ fp, ∃ o, h.get? b = some o /\ ∀ v, o.data ≠ .cell v
  keep : ∀ i h h', tn i h -> (∀ b ∈ fp, ∀ o, h.get? b = some o -> h'.get? b = some o) -> tn i h'
  item : ∀ (X : Cx), X.prog = P -> X.w = w -> X.K = K -> X.calm = true -> ∀ (i : Nat) (pins : List (Addr × Obj)) (s : Shared) (σ : St) (H : Hp) (E : Value -> Shared -> Prop), Inv X pins σ H s -> (∀ b ∈ fp, FpOk X pins H b) -> tn i s.heap -> J.go i H ->
    wpAny (model P w) X.A (pyNext (.ref it)) (fun r s1 => ∃ u, r = some u /\
      wpAny (model P w) X.A (letOwnedTupleGo tg (.ref it) u) (fun _ s2 => ∃ x H', Inv X pins σ H' s2 /\ RelV x u /\ J.yld i H x H' /\ tn (i + 1) s2.heap /\ ∀ b ∈ fp, H' b = none) E s1) E s
  done : ∀ (X : Cx), X.prog = P -> X.w = w -> X.K = K -> X.calm = true -> ∀ (i : Nat) (pins : List (Addr × Obj)) (s : Shared) (σ : St) (H : Hp) (E : Value -> Shared -> Prop), Inv X pins σ H s -> (∀ b ∈ fp, FpOk X pins H b) -> tn i s.heap -> J.stop i H ->
    wpAny (model P w) X.A (pyNext (.ref it)) (fun r s1 => r = none /\ Inv X pins σ H s1) E s
  self : ∀ (A : Around) (i : Nat) (s : Shared) (Q : Value -> Shared -> Prop) (E : Value -> Shared -> Prop), tn i s.heap -> Q (.ref it) s -> wpAny (model P w) A (pyIter (.ref it)) Q E s
abbrev TI := St -> Hp -> (It -> Hp -> Prop) -> Prop
def PIE (X : Cx) (pins : List (Addr × Obj)) (σ : St) (tg : Expr) (R : It -> Hp -> Prop) (itv : Value) (s2 : Shared) : Prop :=
  ∃ (it : Addr) (fp : List Addr) (tn : Nat -> Heap -> Prop) (J : It) (H' : Hp), itv = .ref it /\ Inv X pins σ H' s2 /\ Turn X.prog X.w X.K tg J fp it tn /\ tn 0 s2.heap /\ (∀ b ∈ fp, FpOk X pins H' b) /\ R J H'
def PI (X : Cx) (tg iter : Expr) (wi : TI) : Prop :=
  ∀ (pins : List (Addr × Obj)) (s : Shared) (σ : St) (H : Hp) (R : It -> Hp -> Prop), Inv X pins σ H s -> wi σ H R ->
    wpAny (model X.prog X.w) X.A (eval iter X.env) (fun v s1 => wpAny (model X.prog X.w) X.A (pyIter v) (PIE X pins σ tg R) X.xe s1) X.xe s
theorem go_of {M : Model} {A : Around} {E : Value -> Shared -> Prop} {s : Shared} {tg : Expr} {it : Addr} {u : Value} {o : Obj} {n : String} {vs : Array Value} {Q : Unit -> Shared -> Prop} (ho : s.heap.get? it = some o) (hc : o.cls = .type n) (hd : o.data = .fields vs)
    (hn : ["enumerate", "zip", "dict_itemiterator", "dict_reverseitemiterator", "odict_iterator", "itertools.zip_longest", "itertools.pairwise"].contains n = false) (hQ : Q () s) : wpAny M A (letOwnedTupleGo tg (.ref it) u) Q E s := by
  unfold letOwnedTupleGo
  cases tg <;> first
    | exact wpAny_pure hQ
    | (cases u <;> first
        | exact wpAny_pure hQ
        | (refine wpAny_bind (wpAny_load ho ?_)
           rw [hc, hd]
           show wpAny M A (if (["enumerate", "zip", "dict_itemiterator", "dict_reverseitemiterator", "odict_iterator", "itertools.zip_longest", "itertools.pairwise"].contains n && vs[0]? == some (rawInt _)) = true then _ else _) Q E s
           rw [if_neg (by intro h; rw [hn, Bool.false_and] at h; cases h)]
           exact wpAny_pure hQ))
def Itl (K : PySem.W.Frag) (a : Addr) : It :=
  ⟨fun i H => ∃ xs x, SqL K H a xs /\ xs[i]? = some x, fun i H x H' => H' = H /\ ∀ xs, SqL K H a xs -> xs[i]? = some x, fun i H => ∃ xs, SqL K H a xs /\ xs.length <= i⟩
def Itt (K : PySem.W.Frag) (a : Addr) : It :=
  ⟨fun i H => ∃ xs x, SqT K H a xs /\ xs[i]? = some x, fun i H x H' => H' = H /\ ∀ xs, SqT K H a xs -> xs[i]? = some x, fun i H => ∃ xs, SqT K H a xs /\ xs.length <= i⟩
def Itr (lo : Int) (n : Nat) : It := ⟨fun i _ => i < n, fun i H x H' => H' = H /\ x = .int (lo + i), fun i _ => n <= i⟩
theorem turn_list {P : Program} {w : World} {K : PySem.W.Frag} {tg : Expr} (a it : Addr) : Turn P w K tg (Itl K a) [it] it (fun i h => h.IsListIter it a i) where
  mem := by simp
  obj := fun i h st b hb => by
    have e : b = it := by simpa using hb
    subst e
    obtain ⟨o, e, c, d⟩ := st
    exact ⟨o, e, fun v z => by rw [d] at z; cases z⟩
  keep := fun i h h' st k => st.at fun o e => k it (by simp) o e
  item := by
    intro X hP hw hK hc i pins s σ H E I hf st hg
    subst hP hw hK
    obtain ⟨xs, x, hq, hx⟩ := hg
    obtain ⟨its, rv, p, hz⟩ := I.list hq
    obtain ⟨u, hu, ru⟩ := rv.get hx
    obtain ⟨f0, f1, f2, f3, f4, f5⟩ := hf it (by simp)
    refine wpAny_pyNext_list_item st p.isList (x := u) (by simpa using hu) fun h' st' sb => ?_
    have I1 : Inv X pins σ H { s with heap := h' } := I.turned (t' := s.toks) (fun b o hb e => (sb.2 b hb).trans e) f0 f1 f3 f4 f5
    obtain ⟨o, e, c, d⟩ := id st'
    exact ⟨u, rfl, go_of (s := { s with heap := h' }) e c d (by decide) ⟨x, H, I1, ru, ⟨rfl, fun ys hy => by rw [I.list_inj hy hq]; exact hx⟩, st', fun b hb => (hf b hb).1⟩⟩
  done := by
    intro X hP hw hK hc i pins s σ H E I hf st hg
    subst hP hw hK
    obtain ⟨xs, hq, hx⟩ := hg
    obtain ⟨its, rv, p, hz⟩ := I.list hq
    obtain ⟨f0, f1, f2, f3, f4, f5⟩ := hf it (by simp)
    have hl := rv.length
    exact wpAny_pyNext_list_end (I.ok.hd hc) st p.isList (by simp; omega) fun h' eb => ⟨rfl, I.turned (t' := s.toks) (fun b o hb e => eb b o hb e) f0 f1 f3 f4 f5⟩
  self := fun _ _ _ _ _ st h => wpAny_pyIter_listiter st h
theorem turn_tuple {P : Program} {w : World} {K : PySem.W.Frag} {tg : Expr} (a it : Addr) : Turn P w K tg (Itt K a) [it] it (fun i h => h.IsTupleIter it a i) where
  mem := by simp
  obj := fun i h st b hb => by
    have e : b = it := by simpa using hb
    subst e
    obtain ⟨o, e, c, d⟩ := st
    exact ⟨o, e, fun v z => by rw [d] at z; cases z⟩
  keep := fun i h h' st k => st.at fun o e => k it (by simp) o e
  item := by
    intro X hP hw hK hc i pins s σ H E I hf st hg
    subst hP hw hK
    obtain ⟨xs, x, hq, hx⟩ := hg
    obtain ⟨its, rv, p, hz⟩ := I.tuple hq
    obtain ⟨u, hu, ru⟩ := rv.get hx
    obtain ⟨f0, f1, f2, f3, f4, f5⟩ := hf it (by simp)
    refine wpAny_pyNext_tuple_item st (show s.heap.IsTuple a its.toArray from p) (x := u) (by simpa using hu) fun h' st' sb => ?_
    have I1 : Inv X pins σ H { s with heap := h' } := I.turned (t' := s.toks) (fun b o hb e => (sb.2 b hb).trans e) f0 f1 f3 f4 f5
    obtain ⟨o, e, c, d⟩ := id st'
    exact ⟨u, rfl, go_of (s := { s with heap := h' }) e c d (by decide) ⟨x, H, I1, ru, ⟨rfl, fun ys hy => by rw [I.tuple_inj hy hq]; exact hx⟩, st', fun b hb => (hf b hb).1⟩⟩
  done := by
    intro X hP hw hK hc i pins s σ H E I hf st hg
    subst hP hw hK
    obtain ⟨xs, hq, hx⟩ := hg
    obtain ⟨its, rv, p, hz⟩ := I.tuple hq
    obtain ⟨f0, f1, f2, f3, f4, f5⟩ := hf it (by simp)
    have hl := rv.length
    exact wpAny_pyNext_tuple_end (I.ok.hd hc) st (show s.heap.IsTuple a its.toArray from p) (by simp; omega) fun h' eb => ⟨rfl, I.turned (t' := s.toks) (fun b o hb e => eb b o hb e) f0 f1 f3 f4 f5⟩
  self := fun _ _ _ _ _ st h => wpAny_pyIter_tupleiter st h
theorem turn_range {P : Program} {w : World} {K : PySem.W.Frag} {tg : Expr} (it : Addr) (lo : Int) (n : Nat) : Turn P w K tg (Itr lo n) [it] it (fun i h => IsRangeIter h it (lo + (i : Nat) * 1) ((n : Int) - (i : Nat)) 1) where
  mem := by simp
  obj := fun i h st b hb => by
    have e : b = it := by simpa using hb
    subst e
    exact ⟨_, st, fun v z => by
      have z' : Data.fields _ = Data.cell v := z
      cases z'⟩
  keep := fun i h h' st k => k it (by simp) _ st
  item := by
    intro X hP hw hK hc i pins s σ H E I hf st hg
    subst hP hw hK
    obtain ⟨f0, f1, f2, f3, f4, f5⟩ := hf it (by simp)
    have W := Walks.range (prog := X.prog) (w := X.w) (I.ok.hd hc) it lo 1 n
    refine W.item i s _ _ hg st fun v h' tk hv st' kk => ?_
    obtain ⟨t, rfl⟩ := hv
    have I1 : Inv X pins σ H { s with heap := h', toks := tk } := I.turned (fun b o hb e => kk b o (by simpa using hb) e) f0 f1 f3 f4 f5
    refine ⟨_, rfl, go_of (s := { s with heap := h', toks := tk }) (n := "range_iterator") st' rfl rfl (by decide) ⟨.int (lo + i), H, I1, ⟨t, ?_⟩, ⟨rfl, rfl⟩, st', fun b hb => (hf b hb).1⟩⟩
    rw [Int.mul_one]
  done := by
    intro X hP hw hK hc i pins s σ H E I hf st hg
    subst hP hw hK
    obtain ⟨f0, f1, f2, f3, f4, f5⟩ := hf it (by simp)
    exact wpAny_pyNext_range_end (I.ok.hd hc) st (by have : n <= i := hg; omega) fun h' eb => ⟨rfl, I.turned (t' := s.toks) (fun b o hb e => eb b o hb e) f0 f1 f3 f4 f5⟩
  self := fun _ _ _ _ _ st h => wpAny_pyIter_rangeiter st h
end L2
namespace L2
open PySem PySem.Spec PyProof.Rows
section
variable {X : Cx} {tg : Expr}
def iList (K : PySem.W.Frag) (tl : TE) : TI := fun σ H R => tl σ H fun x H1 => ∃ a, x = .ref a /\ (∃ xs, SqL K H1 a xs) /\ R (Itl K a) H1
def iTup (K : PySem.W.Frag) (tl : TE) : TI := fun σ H R => tl σ H fun x H1 => ∃ a, x = .ref a /\ (∃ xs, SqT K H1 a xs) /\ R (Itt K a) H1
theorem pi_list {l : Expr} {tl : TE} (hl : PE X l tl) : PI X tg l (iList X.K tl) := by
  intro pins s σ H R I h
  refine thn (hl pins s σ H _ I h) fun v s1 ⟨x, H1, I1, r1, q1⟩ => ?_
  obtain ⟨a, e, ⟨xs, hq⟩, q⟩ := q1
  subst e
  cases r1
  obtain ⟨its, rv, p, hz⟩ := I1.list hq
  refine wpAny_pyIter_list p.isList ?_
  refine ⟨s1.heap.objs.size, [s1.heap.objs.size], _, _, H1, rfl, I1.kept (t' := s1.toks) fun b o e => Heap.get?_push_of_some _ e, turn_list a _, ⟨_, Heap.get?_push_size _ rfl, rfl, rfl⟩, fun b hb => ?_, q⟩
  have e : b = s1.heap.objs.size := by simpa using hb
  subst e
  exact I1.fpOk (Nat.le_refl _) (I1.hok.fresh (Nat.le_refl _))
theorem pi_tup {l : Expr} {tl : TE} (hl : PE X l tl) : PI X tg l (iTup X.K tl) := by
  intro pins s σ H R I h
  refine thn (hl pins s σ H _ I h) fun v s1 ⟨x, H1, I1, r1, q1⟩ => ?_
  obtain ⟨a, e, ⟨xs, hq⟩, q⟩ := q1
  subst e
  cases r1
  obtain ⟨its, rv, p, hz⟩ := I1.tuple hq
  refine wpAny_pyIter_tuple (show s1.heap.IsTuple a its.toArray from p) ?_
  refine ⟨s1.heap.objs.size, [s1.heap.objs.size], _, _, H1, rfl, I1.kept (t' := s1.toks) fun b o e => Heap.get?_push_of_some _ e, turn_tuple a _, ⟨_, Heap.get?_push_size _ rfl, rfl, rfl⟩, fun b hb => ?_, q⟩
  have e : b = s1.heap.objs.size := by simpa using hb
  subst e
  exact I1.fpOk (Nat.le_refl _) (I1.hok.fresh (Nat.le_refl _))
theorem range_it {pins : List (Addr × Obj)} {σ : St} {H : Hp} {s : Shared} {R : It -> Hp -> Prop} {E : Value -> Shared -> Prop} {lo hi : Int} {t u v : Tok} {tk : Nat} (I : Inv X pins σ H s) (h1 : -(2 ^ 62) <= lo) (h2 : lo < 2 ^ 62) (h3 : -(2 ^ 62) <= hi) (h4 : hi < 2 ^ 62)
    (q : R (Itr lo (hi - lo).toNat) H) : wpAny (model X.prog X.w) X.A (pyIter (.ref s.heap.objs.size)) (PIE X pins σ tg R) E { s with heap := s.heap.push { cls := .type "range", data := .fields #[.int lo t, .int hi u, .int 1 v] }, toks := tk } := by
  refine wpAny_pyIter_range (IsRange.new ..) (small_one h1 h2 h3 h4) ?_
  have I1 : Inv X pins σ H { s with heap := s.heap.push { cls := .type "range", data := .fields #[.int lo t, .int hi u, .int 1 v] }, toks := tk } := I.kept fun b o e => Heap.get?_push_of_some _ e
  refine ⟨(s.heap.push { cls := .type "range", data := .fields #[.int lo t, .int hi u, .int 1 v] }).objs.size, [(s.heap.push { cls := .type "range", data := .fields #[.int lo t, .int hi u, .int 1 v] }).objs.size], _, _, H, rfl,
    I1.kept (t' := tk) fun b o e => Heap.get?_push_of_some _ e, turn_range _ lo (hi - lo).toNat, ?_, fun b hb => ?_, q⟩
  . have e1 : lo + ((0 : Nat) : Int) * 1 = lo := by simp
    have e2 : (((hi - lo).toNat : Nat) : Int) - ((0 : Nat) : Int) = Builtin.Range.rangeSize lo hi 1 := by rw [rangeSize_one]; split <;> omega
    show IsRangeIter _ _ (lo + ((0 : Nat) : Int) * 1) ((((hi - lo).toNat : Nat) : Int) - ((0 : Nat) : Int)) 1
    rw [e1, e2]
    exact Heap.get?_push_size _ rfl
  . have e : b = (s.heap.push { cls := .type "range", data := .fields #[.int lo t, .int hi u, .int 1 v] }).objs.size := by simpa using hb
    subst e
    exact I1.fpOk (Nat.le_refl _) (I1.hok.fresh (Nat.le_refl _))
def iRng1 (ta : TA) : TI := fun σ H R => ta σ H fun vs H1 => ∃ j : Int, vs = [.int j] /\ -(2 ^ 62) <= j /\ j < 2 ^ 62 /\ R (Itr 0 j.toNat) H1
theorem pi_range1 {a : Expr} {ta : TA} {p pos : Pos} (hg : Gl X "range") (hm : X.mg "range" = none) (ha : PA X [a] ta) (hs : starEach [a] X.env = [(false, eval a X.env)] := by rfl) : PI X tg (.Call (.Name "range" p) [a] [] pos) (iRng1 ta) := by
  intro pins s σ H R I h
  refine Call_ (ld_blt I hg hm boot_range (PyProof.Rows.callWith_type1 (thn (ha pos pins s σ H _ I h) fun us s1 ⟨vs, H1, I1, r1, q1⟩ => ?_) hs rfl))
  obtain ⟨j, e, q1, q2, q⟩ := q1
  subst e
  cases r1 with
  | cons r rr =>
    cases rr
    obtain ⟨t, rfl⟩ := r
    exact call_range_1 (range_it I1 (by omega) (by omega) q1 q2 (by simpa using q))
def tFor (wi : TI) (g : TG) (tb : TS) : TS := fun D σ H => wi σ H fun J H1 => ∃ W : Nat -> Nat -> St -> Hp -> Prop, (∃ m, W 0 m σ H1) /\ ∀ i m σ H, W i m σ H ->
  (J.stop i H /\ D.nx σ H) \/ (J.go i H /\ ∃ N : St -> Hp -> Prop, (∀ σ' H', N σ' H' -> ∃ m', m' < m /\ W (i + 1) m' σ' H') /\ ∀ x H', J.yld i H x H' -> g x σ H' fun σ2 H2 => tb { D with nx := N, ct := N, bk := D.nx } σ2 H2)
def pinsAt (fp : List Addr) (h : Heap) : List (Addr × Obj) := fp.filterMap fun b => (h.get? b).map fun o => (b, o)
theorem mem_pinsAt {fp : List Addr} {h : Heap} {b : Addr} {o : Obj} (hb : b ∈ fp) (e : h.get? b = some o) : (b, o) ∈ pinsAt fp h := List.mem_filterMap.mpr ⟨b, hb, by rw [e]; rfl⟩
theorem of_pinsAt {fp : List Addr} {h : Heap} {p : Addr × Obj} (hp : p ∈ pinsAt fp h) : p.1 ∈ fp /\ h.get? p.1 = some p.2 := by
  obtain ⟨b, hb, e⟩ := List.mem_filterMap.mp hp
  cases q : h.get? b with
  | none => rw [q] at e; cases e
  | some o =>
    rw [q] at e
    have e' : (b, o) = p := Option.some.inj e
    subst e'
    exact ⟨hb, q⟩
theorem Inv.pinned {pins : List (Addr × Obj)} {σ : St} {H : Hp} {s : Shared} {fp : List Addr} (I : Inv X pins σ H s) (hf : ∀ b ∈ fp, FpOk X pins H b) (ho : ∀ b ∈ fp, ∃ o, s.heap.get? b = some o /\ ∀ v, o.data ≠ .cell v) : Inv X (pins ++ pinsAt fp s.heap) σ H s :=
  I.pins_of fun p hp => (List.mem_append.mp hp).elim (fun z => I.pin p (List.mem_append_right _ z)) fun z => by
    obtain ⟨hb, e⟩ := of_pinsAt z
    obtain ⟨f0, f1, f2, _⟩ := hf p.1 hb
    obtain ⟨o, e', d⟩ := ho p.1 hb
    rw [e] at e'; cases e'
    exact ⟨e, f0, f1, f2, d⟩
theorem Inv.unpinned {pins pl : List (Addr × Obj)} {σ : St} {H : Hp} {s : Shared} (I : Inv X (pins ++ pl) σ H s) : Inv X pins σ H s := I.pins_of fun p hp => I.pin p (List.mem_append_right _ (List.mem_append_left _ hp))
theorem ps_for {iter : Expr} {body : List Stmt} {wi : TI} {g : TG} {tb : TS} {pos : Pos} (hp : PassesOwn (model X.prog X.w) X.A X.env X.xe) (hc : X.calm = true) (hi : PI X tg iter wi) (hg : PG X tg g) (hb : PSs X body tb)
    (hs : ∀ x, foldedSetIterable iter X.env x = pure x := by intro _; rfl) : PS X (.For tg iter body [] pos) (tFor wi g tb) := by
  intro pins s σ H D I h
  refine wpAny_For (thn (hi pins s σ H _ I h) fun v s1 h1 => thn h1 fun itv s2 h2 => ?_) hs
  obtain ⟨it, fp, tn, J, H2, e, I2, T, st2, f2, W, ⟨m0, w0⟩, turn⟩ := h2
  subst e
  -- what stays true of the iterator's objects through the loop
  have stat : ∀ {H' : Hp}, (∀ b ∈ fp, H' b = none) -> ∀ b ∈ fp, FpOk X pins H' b := fun hn b hb => ⟨hn b hb, (f2 b hb).2⟩
  refine codeAny_forLoop_any (fun n s' => ∃ i σ' H', Inv X pins σ' H' s' /\ tn i s'.heap /\ (∀ b ∈ fp, H' b = none) /\ W i n σ' H') ?_ m0 ⟨0, σ, H2, I2, st2, fun b hb => (f2 b hb).1, w0⟩
  rintro n s3 ⟨i, σ3, H3, I3, st3, fr3, w3⟩
  rcases turn i n σ3 H3 w3 with ⟨stop, qn⟩ | ⟨go, N, hN, step⟩
  . refine wpAny_passesOwn hp (thn (T.done X rfl rfl rfl hc i pins s3 σ3 H3 X.xe I3 (stat fr3) st3 stop) fun r s4 ⟨hr, I4⟩ => ?_)
    subst hr
    exact wpAny_execs_nil ⟨σ3, H3, I4, qn⟩
  . refine wpAny_passesOwn hp (thn (T.item X rfl rfl rfl hc i pins s3 σ3 H3 X.xe I3 (stat fr3) st3 go) fun r s4 ⟨u, hr, h4⟩ => ?_)
    subst hr
    refine wpAny_passesOwn hp (thn h4 fun _ s5 ⟨x, H5, I5, r5, y5, st5, fr5⟩ => ?_)
    have I5' := I5.pinned (stat fr5) (T.obj _ _ st5)
    refine wpAny_passesOwn hp (thn (hg _ s5 σ3 H5 x u _ I5' r5 (step x H5 y5)) fun _ s6 ⟨σ6, H6, I6, q6⟩ => ?_)
    refine wpAny_passesOwn hp (thn (hb _ s6 σ6 H6 _ I6 q6) fun f s7 q7 => ?_)
    have again : ∀ {σ7 : St} {H7 : Hp}, Inv X (pins ++ pinsAt fp s5.heap) σ7 H7 s7 -> N σ7 H7 -> ∃ m, m < n /\ ∃ i σ' H', Inv X pins σ' H' s7 /\ tn i s7.heap /\ (∀ b ∈ fp, H' b = none) /\ W i m σ' H' := fun {σ7 H7} I7 n7 => by
      obtain ⟨m', hm, w7⟩ := hN σ7 H7 n7
      refine ⟨m', hm, i + 1, σ7, H7, I7.unpinned, T.keep _ _ _ st5 fun b hb o e => (I7.pin (b, o) (List.mem_append_right _ (List.mem_append_right _ (mem_pinsAt hb e)))).1, fun b hb => ?_, w7⟩
      obtain ⟨o, e, d⟩ := T.obj _ _ st5 b hb
      exact (I7.pin (b, o) (List.mem_append_right _ (List.mem_append_right _ (mem_pinsAt hb e)))).2.1
    cases f with
    | next => obtain ⟨σ7, H7, I7, n7⟩ := q7; exact again I7 n7
    | cont => obtain ⟨σ7, H7, I7, n7⟩ := q7; exact again I7 n7
    | brk => obtain ⟨σ7, H7, I7, q7⟩ := q7; exact ⟨σ7, H7, I7.unpinned, q7⟩
    | ret v => obtain ⟨x7, σ7, H7, I7, r7, q7⟩ := q7; exact ⟨x7, σ7, H7, I7.unpinned, r7, q7⟩
end
theorem for_list {K : PySem.W.Frag} {a : Addr} {xs : List V} {g : TG} {tb : TS} {D : Ends} {σ : St} {H : Hp} (Pv : Nat -> St -> Hp -> Prop) (h0 : Pv 0 σ H) (hl : ∀ i σ H, i <= xs.length -> Pv i σ H -> SqL K H a xs)
    (hs : ∀ i x σ H, xs[i]? = some x -> Pv i σ H -> g x σ H fun σ2 H2 => tb { D with nx := Pv (i + 1), ct := Pv (i + 1), bk := D.nx } σ2 H2) (hd : ∀ σ H, Pv xs.length σ H -> D.nx σ H) :
    ∃ W : Nat -> Nat -> St -> Hp -> Prop, (∃ m, W 0 m σ H) /\ ∀ i m σ H, W i m σ H ->
      ((Itl K a).stop i H /\ D.nx σ H) \/ ((Itl K a).go i H /\ ∃ N : St -> Hp -> Prop, (∀ σ' H', N σ' H' -> ∃ m', m' < m /\ W (i + 1) m' σ' H') /\ ∀ x H', (Itl K a).yld i H x H' -> g x σ H' fun σ2 H2 => tb { D with nx := N, ct := N, bk := D.nx } σ2 H2) := by
  refine ⟨fun i m σ H => m = xs.length - i /\ i <= xs.length /\ Pv i σ H, ⟨xs.length, by simp, Nat.zero_le _, h0⟩, ?_⟩
  rintro i m σ H ⟨rfl, hi, p⟩
  have q := hl i σ H hi p
  by_cases hlt : i < xs.length
  . refine .inr ⟨⟨xs, xs[i], q, by simp [hlt]⟩, Pv (i + 1), fun σ' H' p' => ⟨xs.length - (i + 1), by omega, rfl, hlt, p'⟩, fun x H' y => ?_⟩
    obtain ⟨e, y⟩ := y
    subst e
    exact hs i x σ _ (y xs q) p
  . have e : i = xs.length := by omega
    subst e
    exact .inl ⟨⟨xs, q, Nat.le_refl _⟩, hd σ H p⟩
theorem for_tup {K : PySem.W.Frag} {a : Addr} {xs : List V} {g : TG} {tb : TS} {D : Ends} {σ : St} {H : Hp} (Pv : Nat -> St -> Hp -> Prop) (h0 : Pv 0 σ H) (hl : ∀ i σ H, i <= xs.length -> Pv i σ H -> SqT K H a xs)
    (hs : ∀ i x σ H, xs[i]? = some x -> Pv i σ H -> g x σ H fun σ2 H2 => tb { D with nx := Pv (i + 1), ct := Pv (i + 1), bk := D.nx } σ2 H2) (hd : ∀ σ H, Pv xs.length σ H -> D.nx σ H) :
    ∃ W : Nat -> Nat -> St -> Hp -> Prop, (∃ m, W 0 m σ H) /\ ∀ i m σ H, W i m σ H ->
      ((Itt K a).stop i H /\ D.nx σ H) \/ ((Itt K a).go i H /\ ∃ N : St -> Hp -> Prop, (∀ σ' H', N σ' H' -> ∃ m', m' < m /\ W (i + 1) m' σ' H') /\ ∀ x H', (Itt K a).yld i H x H' -> g x σ H' fun σ2 H2 => tb { D with nx := N, ct := N, bk := D.nx } σ2 H2) := by
  refine ⟨fun i m σ H => m = xs.length - i /\ i <= xs.length /\ Pv i σ H, ⟨xs.length, by simp, Nat.zero_le _, h0⟩, ?_⟩
  rintro i m σ H ⟨rfl, hi, p⟩
  have q := hl i σ H hi p
  by_cases hlt : i < xs.length
  . refine .inr ⟨⟨xs, xs[i], q, by simp [hlt]⟩, Pv (i + 1), fun σ' H' p' => ⟨xs.length - (i + 1), by omega, rfl, hlt, p'⟩, fun x H' y => ?_⟩
    obtain ⟨e, y⟩ := y
    subst e
    exact hs i x σ _ (y xs q) p
  . have e : i = xs.length := by omega
    subst e
    exact .inl ⟨⟨xs, q, Nat.le_refl _⟩, hd σ H p⟩
theorem for_range {lo : Int} {n : Nat} {g : TG} {tb : TS} {D : Ends} {σ : St} {H : Hp} (Pv : Nat -> St -> Hp -> Prop) (h0 : Pv 0 σ H)
    (hs : ∀ i σ H, i < n -> Pv i σ H -> g (.int (lo + i)) σ H fun σ2 H2 => tb { D with nx := Pv (i + 1), ct := Pv (i + 1), bk := D.nx } σ2 H2) (hd : ∀ σ H, Pv n σ H -> D.nx σ H) :
    ∃ W : Nat -> Nat -> St -> Hp -> Prop, (∃ m, W 0 m σ H) /\ ∀ i m σ H, W i m σ H ->
      ((Itr lo n).stop i H /\ D.nx σ H) \/ ((Itr lo n).go i H /\ ∃ N : St -> Hp -> Prop, (∀ σ' H', N σ' H' -> ∃ m', m' < m /\ W (i + 1) m' σ' H') /\ ∀ x H', (Itr lo n).yld i H x H' -> g x σ H' fun σ2 H2 => tb { D with nx := N, ct := N, bk := D.nx } σ2 H2) := by
  refine ⟨fun i m σ H => m = n - i /\ i <= n /\ Pv i σ H, ⟨n, by simp, Nat.zero_le _, h0⟩, ?_⟩
  rintro i m σ H ⟨rfl, hi, p⟩
  by_cases hlt : i < n
  . refine .inr ⟨hlt, Pv (i + 1), fun σ' H' p' => ⟨n - (i + 1), by omega, rfl, hlt, p'⟩, fun x H' y => ?_⟩
    obtain ⟨e, y⟩ := y
    subst e y
    exact hs i σ _ hlt p
  . have e : i = n := by omega
    subst e
    exact .inl ⟨Nat.le_refl _, hd σ H p⟩
end L2
namespace L2
open PySem PySem.Spec PyProof.Rows
abbrev R2 := V -> V -> Hp -> VK -> Prop
def OpR (X : Cx) (f : Value -> Value -> Sem Value) (r : R2) : Prop :=
  ∀ (pins : List (Addr × Obj)) (s : Shared) (σ : St) (H : Hp) (x y : V) (v u : Value) (Q : VK), Inv X pins σ H s -> RelV x v -> RelV y u -> r x y H Q ->
    wpAny (model X.prog X.w) X.A (f v u) (EP X pins σ Q) X.xe s
def UnR (X : Cx) (f : Value -> Sem Value) (r : V -> Hp -> VK -> Prop) : Prop :=
  ∀ (pins : List (Addr × Obj)) (s : Shared) (σ : St) (H : Hp) (x : V) (v : Value) (Q : VK), Inv X pins σ H s -> RelV x v -> r x H Q ->
    wpAny (model X.prog X.w) X.A (f v) (EP X pins σ Q) X.xe s
def CallR (X : Cx) (f : Value) (r : List V -> Hp -> VK -> Prop) : Prop :=
  ∀ (pins : List (Addr × Obj)) (s : Shared) (σ : St) (H : Hp) (xs : List V) (us : List Value) (Q : VK), Inv X pins σ H s -> Vals xs us -> r xs H Q ->
    wpAny (model X.prog X.w) X.A (call f us) (EP X pins σ Q) X.xe s
def tOp (r : R2) (ta tb : TE) : TE := fun σ H Q => ta σ H fun x H1 => tb σ H1 fun y H2 => r x y H2 Q
def tUn (r : V -> Hp -> VK -> Prop) (ta : TE) : TE := fun σ H Q => ta σ H fun x H1 => r x H1 Q
def rI (C : Int -> Int -> Prop) (g : Int -> Int -> V) : R2 := fun x y H Q => ∃ i j, x = .int i /\ y = .int j /\ C i j /\ Q (g i j) H
def rI0 (g : Int -> Int -> V) : R2 := fun x y H Q => ∃ i j, x = .int i /\ y = .int j /\ Q (g i j) H
def rU (g : Int -> V) : V -> Hp -> VK -> Prop := fun x H Q => ∃ i, x = .int i /\ Q (g i) H
section
variable {X : Cx} {a b c : Expr} {ta tb tc : TE} {pos : Pos}
theorem binT (ha : PE X a ta) (hb : PE X b tb) {pins : List (Addr × Obj)} {s : Shared} {σ : St} {H : Hp} {R : V -> V -> Hp -> Prop} (I : Inv X pins σ H s)
    (h : ta σ H fun x H1 => tb σ H1 fun y H2 => R x y H2) {Q : Value -> Shared -> Prop} {f : Value -> Value -> Sem Value}
    (hf : ∀ v u s2 x y H2, Inv X pins σ H2 s2 -> RelV x v -> RelV y u -> R x y H2 -> wpAny (model X.prog X.w) X.A (f v u) Q X.xe s2) :
    wpAny (model X.prog X.w) X.A (eval a X.env) (fun v s₁ => wpAny (model X.prog X.w) X.A (eval b X.env) (fun u s₂ => wpAny (model X.prog X.w) X.A (f v u) Q X.xe s₂) X.xe s₁) X.xe s := by
  refine thn (ha pins s σ H _ I h) fun v s1 ⟨x, H1, I1, r1, q1⟩ => ?_
  refine thn (hb pins s1 σ H1 _ I1 q1) fun u s2 ⟨y, H2, I2, r2, q2⟩ => ?_
  exact hf v u s2 x y H2 I2 r1 r2 q2
theorem pe_op {op : Operator} {r : R2} (ho : OpR X (binaryOp op) r) (ha : PE X a ta) (hb : PE X b tb) : PE X (.BinOp a op b pos) (tOp r ta tb) := by
  intro pins s σ H Q I h
  exact wpAny_BinOp (binT ha hb I h fun v u s2 x y H2 I2 rx ry q => ho pins s2 σ H2 x y v u Q I2 rx ry q)
theorem pe_un {op : UnaryOp} {r : V -> Hp -> VK -> Prop} (ho : UnR X (unaryOp op) r) (ha : PE X a ta) : PE X (.UnaryOp op a pos) (tUn r ta) := by
  intro pins s σ H Q I h
  exact UnaryOp_ (thn (ha pins s σ H _ I h) fun v s1 ⟨x, H1, I1, r1, q1⟩ => ho pins s1 σ H1 x v Q I1 r1 q1)
theorem opI {f : Value -> Value -> Sem Value} {C : Int -> Int -> Prop} {g : Int -> Int -> Int}
    (rule : ∀ (i j : Int) (t u : Tok) (s : Shared) (Q : Value -> Shared -> Prop) (E : Value -> Shared -> Prop), C i j -> Q (.int (g i j) s.toks) { s with toks := s.toks + 1 } -> wpAny (model X.prog X.w) X.A (f (.int i t) (.int j u)) Q E s) :
    OpR X f (rI C fun i j => .int (g i j)) := by
  intro pins s σ H x y v u Q I rx ry h
  obtain ⟨i, j, rfl, rfl, hc, q⟩ := h
  obtain ⟨t, rfl⟩ := rx
  obtain ⟨t', rfl⟩ := ry
  exact rule i j t t' s _ _ hc ⟨.int (g i j), H, I.tok _, ⟨_, rfl⟩, q⟩
theorem opI0 {f : Value -> Value -> Sem Value} {g : Int -> Int -> Int}
    (rule : ∀ (i j : Int) (t u : Tok) (s : Shared) (Q : Value -> Shared -> Prop) (E : Value -> Shared -> Prop), Q (.int (g i j) s.toks) { s with toks := s.toks + 1 } -> wpAny (model X.prog X.w) X.A (f (.int i t) (.int j u)) Q E s) :
    OpR X f (rI0 fun i j => .int (g i j)) := by
  intro pins s σ H x y v u Q I rx ry h
  obtain ⟨i, j, rfl, rfl, q⟩ := h
  obtain ⟨t, rfl⟩ := rx
  obtain ⟨t', rfl⟩ := ry
  exact rule i j t t' s _ _ ⟨.int (g i j), H, I.tok _, ⟨_, rfl⟩, q⟩
theorem opB0 {f : Value -> Value -> Sem Value} {g : Int -> Int -> Bool}
    (rule : ∀ (i j : Int) (t u : Tok) (s : Shared) (Q : Value -> Shared -> Prop) (E : Value -> Shared -> Prop), Q (.bool (g i j)) s -> wpAny (model X.prog X.w) X.A (f (.int i t) (.int j u)) Q E s) :
    OpR X f (rI0 fun i j => .bl (g i j)) := by
  intro pins s σ H x y v u Q I rx ry h
  obtain ⟨i, j, rfl, rfl, q⟩ := h
  obtain ⟨t, rfl⟩ := rx
  obtain ⟨t', rfl⟩ := ry
  exact rule i j t t' s _ _ ⟨.bl (g i j), H, I, rfl, q⟩
def CDiv (i j : Int) : Prop := 0 < j /\ j < 1073741824
def CMul (i j : Int) : Prop := (-(2 ^ 64) < i /\ i < 2 ^ 64) \/ (-(2 ^ 64) < j /\ j < 2 ^ 64)
theorem CMul.ok {i j : Int} (h : CMul i j) : IntMulOk i j := by
  rcases h with ⟨h1, h2⟩ | ⟨h1, h2⟩
  . exact .of_left (intBits_le_64 h1 h2)
  . exact .of_right (intBits_le_64 h1 h2)
theorem op_add : OpR X (binaryOp .Add) (rI0 fun i j => .int (i + j)) := opI0 fun _ _ _ _ _ _ _ q => add_int q
theorem op_mul : OpR X (binaryOp .Mult) (rI CMul fun i j => .int (i * j)) := opI fun _ _ _ _ _ _ _ hc q => mul_int q hc.ok
theorem op_fdiv : OpR X (binaryOp .FloorDiv) (rI CDiv fun i j => .int (i / j)) := opI fun i j _ _ _ _ _ hc q => by
  have h1 : (0 : Int) < j := hc.1
  have h2 : j < 1073741824 := hc.2
  exact floordiv_int (by omega) (by rw [Int.fdiv_eq_ediv_of_nonneg i (by omega)]; exact q) (.inl (PyProof.noPylong_small (by omega)))
theorem op_mod : OpR X (binaryOp .Mod) (rI (fun _ j => 0 < j) fun i j => .int (i % j)) := opI fun i j _ _ _ _ _ hc q => by
  have h1 : (0 : Int) < j := hc
  exact mod_int' (by omega) (by rw [Int.fmod_eq_emod_of_nonneg i (by omega)]; exact q)
theorem unI {f : Value -> Sem Value} {g : Int -> Int}
    (rule : ∀ (i : Int) (t : Tok) (s : Shared) (Q : Value -> Shared -> Prop) (E : Value -> Shared -> Prop), Q (.int (g i) s.toks) { s with toks := s.toks + 1 } -> wpAny (model X.prog X.w) X.A (f (.int i t)) Q E s) :
    UnR X f (rU fun i => .int (g i)) := by
  intro pins s σ H x v Q I rx h
  obtain ⟨i, rfl, q⟩ := h
  obtain ⟨t, rfl⟩ := rx
  exact rule i t s _ _ ⟨.int (g i), H, I.tok _, ⟨_, rfl⟩, q⟩
theorem un_neg : UnR X (unaryOp .USub) (rU fun i => .int (-i)) := unI fun _ _ _ _ _ q => neg_int q
end
def scal : V -> V -> Bool
  | .non, .non => true | .non, .int _ => true | .int _, .non => true | .non, .bl _ => true | .bl _, .non => true | .non, .str _ => true | .str _, .non => true
  | .int _, .int _ => true | .bl _, .bl _ => true | .str _, .str _ => true | .byt _, .byt _ => true
  | .int _, .str _ => true | .str _, .int _ => true | .bl _, .str _ => true | .str _, .bl _ => true
  | _, _ => false
def rEq : R2 := fun x y H Q => scal x y = true /\ Q (.bl (decide (x = y))) H
def rNe : R2 := fun x y H Q => scal x y = true /\ Q (.bl (!decide (x = y))) H
theorem dec_int {i j : Int} : decide (V.int i = V.int j) = (i == j) := by
  rw [Bool.eq_iff_iff]
  simp
theorem dec_bl {i j : Bool} : decide (V.bl i = V.bl j) = (i == j) := by
  rw [Bool.eq_iff_iff]
  simp
theorem dec_str {i j : Str} : decide (V.str i = V.str j) = (i == j) := by
  rw [Bool.eq_iff_iff]
  simp
theorem dec_byt {i j : Array UInt8} : decide (V.byt i = V.byt j) = (i.toList == j.toList) := by
  rw [Bool.eq_iff_iff]
  cases i
  cases j
  simp
section
variable {X : Cx} {a b c : Expr} {ta tb tc : TE} {pos : Pos}
theorem fin_bl {pins : List (Addr × Obj)} {σ : St} {H : Hp} {s : Shared} {Q : VK} {k k' : Bool} (I : Inv X pins σ H s) (q : Q (.bl k) H) (e : k = k') : EP X pins σ Q (.bool k') s := by
  subst e
  exact ⟨.bl k, H, I, rfl, q⟩
theorem op_eq : OpR X (compareOp .Eq) rEq := by
  intro pins s σ H x y v u Q I rx ry h
  obtain ⟨hs, q⟩ := h
  cases x with
  | non =>
    cases rx
    cases y with
    | non => cases ry; exact PySem.EqNone.eq_none_none (fin_bl I q (by simp))
    | bl j => cases ry; exact PySem.EqNone.eq_none_bool (fin_bl I q (by simp))
    | int j => obtain ⟨t', rfl⟩ := ry; exact PySem.EqNone.eq_none_int (fin_bl I q (by simp))
    | str j => obtain ⟨t', rfl⟩ := ry; exact PySem.EqNone.eq_none_str (fin_bl I q (by simp))
    | _ => exact absurd (show false = true from hs) Bool.false_ne_true
  | bl i =>
    cases rx
    cases y with
    | non => cases ry; exact PySem.EqNone.eq_bool_none (fin_bl I q (by simp))
    | bl j => cases ry; exact eq_bool (fin_bl I q dec_bl)
    | str j => obtain ⟨t', rfl⟩ := ry; exact PySem.EqMixed.eq_bool_str (fin_bl I q (by simp))
    | _ => exact absurd (show false = true from hs) Bool.false_ne_true
  | int i =>
    obtain ⟨t, rfl⟩ := rx
    cases y with
    | non => cases ry; exact PySem.EqNone.eq_int_none (fin_bl I q (by simp))
    | int j => obtain ⟨t', rfl⟩ := ry; exact eq_int (fin_bl I q dec_int)
    | str j => obtain ⟨t', rfl⟩ := ry; exact PySem.EqMixed.eq_int_str (fin_bl I q (by simp))
    | _ => exact absurd (show false = true from hs) Bool.false_ne_true
  | str i =>
    obtain ⟨t, rfl⟩ := rx
    cases y with
    | non => cases ry; exact PySem.EqNone.eq_str_none (fin_bl I q (by simp))
    | bl j => cases ry; exact PySem.EqMixed.eq_str_bool (fin_bl I q (by simp))
    | int j => obtain ⟨t', rfl⟩ := ry; exact PySem.EqMixed.eq_str_int (fin_bl I q (by simp))
    | str j => obtain ⟨t', rfl⟩ := ry; exact eq_str (fin_bl I q dec_str)
    | _ => exact absurd (show false = true from hs) Bool.false_ne_true
  | byt i =>
    obtain ⟨t, rfl⟩ := rx
    cases y with
    | byt j => obtain ⟨t', rfl⟩ := ry; exact PySem.W.eq_bytes (fin_bl I q dec_byt)
    | _ => exact absurd (show false = true from hs) Bool.false_ne_true
  | _ => cases y <;> exact absurd (show false = true from hs) Bool.false_ne_true
theorem op_ne : OpR X (compareOp .NotEq) rNe := by
  intro pins s σ H x y v u Q I rx ry h
  obtain ⟨hs, q⟩ := h
  cases x with
  | non =>
    cases rx
    cases y with
    | non => cases ry; exact PySem.EqNone.ne_none_none (fin_bl I q (by simp))
    | bl j => cases ry; exact PySem.EqNone.ne_none_bool (fin_bl I q (by simp))
    | int j => obtain ⟨t', rfl⟩ := ry; exact PySem.EqNone.ne_none_int (fin_bl I q (by simp))
    | str j => obtain ⟨t', rfl⟩ := ry; exact PySem.EqNone.ne_none_str (fin_bl I q (by simp))
    | _ => exact absurd (show false = true from hs) Bool.false_ne_true
  | bl i =>
    cases rx
    cases y with
    | non => cases ry; exact PySem.EqNone.ne_bool_none (fin_bl I q (by simp))
    | bl j => cases ry; exact ne_bool (fin_bl I q (congrArg not dec_bl))
    | str j => obtain ⟨t', rfl⟩ := ry; exact PySem.EqMixed.ne_bool_str (fin_bl I q (by simp))
    | _ => exact absurd (show false = true from hs) Bool.false_ne_true
  | int i =>
    obtain ⟨t, rfl⟩ := rx
    cases y with
    | non => cases ry; exact PySem.EqNone.ne_int_none (fin_bl I q (by simp))
    | int j => obtain ⟨t', rfl⟩ := ry; exact ne_int (fin_bl I q (congrArg not dec_int))
    | str j => obtain ⟨t', rfl⟩ := ry; exact PySem.EqMixed.ne_int_str (fin_bl I q (by simp))
    | _ => exact absurd (show false = true from hs) Bool.false_ne_true
  | str i =>
    obtain ⟨t, rfl⟩ := rx
    cases y with
    | non => cases ry; exact PySem.EqNone.ne_str_none (fin_bl I q (by simp))
    | bl j => cases ry; exact PySem.EqMixed.ne_str_bool (fin_bl I q (by simp))
    | int j => obtain ⟨t', rfl⟩ := ry; exact PySem.EqMixed.ne_str_int (fin_bl I q (by simp))
    | str j => obtain ⟨t', rfl⟩ := ry; exact ne_str (fin_bl I q (congrArg not dec_str))
    | _ => exact absurd (show false = true from hs) Bool.false_ne_true
  | byt i =>
    obtain ⟨t, rfl⟩ := rx
    cases y with
    | byt j => obtain ⟨t', rfl⟩ := ry; exact PySem.W.ne_bytes (fin_bl I q (congrArg not dec_byt))
    | _ => exact absurd (show false = true from hs) Bool.false_ne_true
  | _ => cases y <;> exact absurd (show false = true from hs) Bool.false_ne_true
theorem op_lt : OpR X (compareOp .Lt) (rI0 fun i j => .bl (decide (i < j))) := opB0 fun _ _ _ _ _ _ _ q => lt_int q
theorem op_gt : OpR X (compareOp .Gt) (rI0 fun i j => .bl (decide (j < i))) := opB0 fun _ _ _ _ _ _ _ q => gt_int q
theorem op_isN : OpR X (compareOp .Is) (fun x y H Q => y = .non /\ Q (.bl (decide (x = .non))) H) := by
  intro pins s σ H x y v u Q I rx ry h
  obtain ⟨rfl, q⟩ := h
  cases ry
  refine is_none_gen (fin_bl I q ?_)
  cases x <;> first
    | (cases rx; rfl)
    | (obtain ⟨t, rfl⟩ := rx; rfl)
theorem nomark (b : Expr) {op : CmpOp} (h : op ≠ .In := by decide) (h2 : op ≠ .NotIn := by decide) : behindInMarks op b = false := by
  have e1 : (op == CmpOp.In) = false := by cases op <;> first | rfl | exact absurd rfl h
  have e2 : (op == CmpOp.NotIn) = false := by cases op <;> first | rfl | exact absurd rfl h2
  cases b <;> simp [behindInMarks, e1, e2]
theorem pe_cmpR {op : CmpOp} {r : R2} (ho : OpR X (compareOp op) r) (ha : PE X a ta) (hb : PE X b tb) (hm : behindInMarks op b = false) : PE X (.Compare a [op] [b] pos) (tOp r ta tb) := by
  intro pins s σ H Q I h
  exact wpAny_Compare1 (binT ha hb I h fun v u s2 x y H2 I2 rx ry q => ho pins s2 σ H2 x y v u Q I2 rx ry q) hm
def tTest (t : TE) : TT := fun σ H Q => t σ H fun x H' => ∃ k, x = .bl k /\ Q k H'
theorem pt_cmpR {op : CmpOp} {r : R2} (ho : OpR X (compareOp op) r) (ha : PE X a ta) (hb : PE X b tb) (hm : behindInMarks op b = false) : PT X (.Compare a [op] [b] pos) (tTest (tOp r ta tb)) := by
  intro pins s σ H Q I h
  refine wpAny_isTrue_Compare1 (thn (ha pins s σ H _ I h) fun v s1 ⟨x, H1, I1, r1, q1⟩ => thn (hb pins s1 σ H1 _ I1 q1) fun u s2 ⟨y, H2, I2, r2, q2⟩ =>
    thn (ho pins s2 σ H2 x y v u _ I2 r1 r2 q2) fun c s3 ⟨z, H3, I3, r3, k, e, q3⟩ => ?_) hm
  subst e
  cases r3
  exact wpAny_truthy_bool ⟨H3, I3, q3⟩
theorem line63 : (sizeLine : Nat) < 2 ^ 63 := by rw [sizeLine_eq]; decide
theorem vals1 {x : V} {us : List Value} (r : Vals [x] us) : ∃ u, us = [u] /\ RelV x u := by
  cases r with
  | cons r1 r2 => cases r2; exact ⟨_, rfl, r1⟩
theorem vals2 {x y : V} {us : List Value} (r : Vals [x, y] us) : ∃ u w', us = [u, w'] /\ RelV x u /\ RelV y w' := by
  cases r with
  | cons r1 r2 =>
    cases r2 with
    | cons r3 r4 => cases r4; exact ⟨_, _, rfl, r1, r3⟩
theorem call_max2 (hc : X.calm = true) : CallR X (.builtin "max") (fun xs H Q => ∃ i j, xs = [.int i, .int j] /\ Q (.int (if j > i then j else i)) H) := by
  intro pins s σ H xs us Q I r h
  obtain ⟨i, j, rfl, q⟩ := h
  obtain ⟨u, w', rfl, ⟨t, rfl⟩, ⟨t', rfl⟩⟩ := vals2 r
  refine max_two_ints (I.ok.hd hc) fun h' tk k => ⟨_, H, I.kept k, ?_, q⟩
  by_cases hj : j > i
  . rw [if_pos hj, if_pos hj]; exact ⟨_, rfl⟩
  . rw [if_neg hj, if_neg hj]; exact ⟨_, rfl⟩
theorem call_min2 (hc : X.calm = true) : CallR X (.builtin "min") (fun xs H Q => ∃ i j, xs = [.int i, .int j] /\ Q (.int (if j < i then j else i)) H) := by
  intro pins s σ H xs us Q I r h
  obtain ⟨i, j, rfl, q⟩ := h
  obtain ⟨u, w', rfl, ⟨t, rfl⟩, ⟨t', rfl⟩⟩ := vals2 r
  refine min_two_ints (I.ok.hd hc) fun h' tk k => ⟨_, H, I.kept k, ?_, q⟩
  by_cases hj : j < i
  . rw [if_pos hj, if_pos hj]; exact ⟨_, rfl⟩
  . rw [if_neg hj, if_neg hj]; exact ⟨_, rfl⟩
end
end L2
namespace L2
open PySem PySem.Spec PyProof.Rows
structure ObjM (h : Heap) (x dx C : Addr) (mA : Str -> Option Value) : Prop where
  obj : h.get? x = some (PySem.W.instObj C dx)
  ns : h.Ns1 dx mA
  ne : dx ≠ x
theorem lookIn_ns {h : Heap} {dx : Addr} {mA : Str -> Option Value} (n : h.Ns1 dx mA) : ∃ od, h.get? dx = some od /\ ∀ name, PySem.W.lookIn name od = some (mA name) := by
  obtain ⟨o, es, ep, ho, hd, hk, _, hm⟩ := n
  refine ⟨o, ho, fun name => ?_⟩
  have e := hm name
  unfold nsFind findBy at e
  rw [<- Array.find?_toList] at e
  unfold PySem.W.lookIn
  rw [hd]
  dsimp only
  split
  . rename_i y q
    rw [q] at e
    exact congrArg some e
  . rename_i q
    rw [q] at e
    have a : es.toList.any (·.refKey) = false := by
      rw [List.any_eq_false]
      intro y hy
      obtain ⟨z, t, hkey⟩ := hk y (Array.mem_toList_iff.mp hy)
      simp [DictEntry.refKey, hkey]
    have a' : ¬ es.toList.any (·.refKey) = true := by rw [a]; exact Bool.false_ne_true
    rw [if_neg a']
    exact congrArg some e
theorem ObjM.look {h : Heap} {x dx C : Addr} {mA : Str -> Option Value} (I : ObjM h x dx C mA) : ∃ od, PySem.W.InstAt h x (PySem.W.instObj C dx) C (some od) /\ ∀ name, PySem.W.lookIn name od = some (mA name) :=
  let ⟨od, ho, hl⟩ := lookIn_ns I.ns
  ⟨od, ⟨I.obj, rfl, rfl, ho⟩, hl⟩
section
variable {prog : Program} {w : World} {A : Around} {E : Value -> Shared -> Prop} {s : Shared} {K : PySem.W.Frag} {x dx C f : Addr} {mA : Str -> Option Value} {name : Str} {v : Value}
end
theorem RelO.some_of {v : V} {o : Option Value} (r : RelO (some v) o) : ∃ u, o = some u /\ RelV v u := by
  cases o with
  | none => exact (show False from r).elim
  | some u => exact ⟨u, rfl, r⟩
section
variable {P : Program} {w : World} {H H' : Hp} {h h' : Heap} {a C dx : Addr} {fs fs' : List (Str × V)}
theorem ins_get (hok : HOk P w H h) (e : H a = some (.ins C dx fs)) : ∃ mA, ObjM h a dx C mA /\ (∀ f, RelO (fs.lookup f) (mA f)) /\ PySem.Within mA (fs.map (·.1)) /\ fs.length <= 1000 /\ H dx = some (.own a) := by
  obtain ⟨d, z, ne, ob, mA, n, r, q⟩ := (show ObjOk P w H h a (.ins C dx fs) from hok a _ e)
  exact ⟨mA, ⟨ob, n, ne⟩, r, q, z, d⟩
end
structure Cls (K : PySem.W.Frag) (C : Addr) : Prop where
  pg : PySem.W.plainGet K C Str.empty = true
  hd : PySem.W.hasDictIn K C = true
  po : PySem.W.plainOver K C = true
  sa : PySem.W.findIn K (.ref C) "__setattr__" = some (some (.builtin "object.__setattr__"))
theorem Cls.get {K : PySem.W.Frag} {C : Addr} (c : Cls K C) (f : Str) : PySem.W.plainGet K C f = true := c.pg
section
variable {X : Cx} {pins : List (Addr × Obj)} {σ : St} {H : Hp} {s : Shared} {a C dx : Addr} {fs : List (Str × V)} {f : Str} {v : V} {A : Around} {E : Value -> Shared -> Prop}
end
section
variable {X : Cx} {o e value : Expr} {f : Str} {pos pos' tpos : Pos} {ta tv : TE}
end
section
variable {X : Cx} {pins : List (Addr × Obj)} {σ : St} {H : Hp} {s : Shared} {A : Around} {E : Value -> Shared -> Prop} {Q : Value -> Shared -> Prop} {c : Value} {b : Bool}
inductive TyOf (K : PySem.W.Frag) (H : Hp) : V -> Value -> Prop where
  | non : TyOf K H .non (.type "NoneType")
  | bl (x : Bool) : TyOf K H (.bl x) (.type "bool")
  | int (i : Int) : TyOf K H (.int i) (.type "int")
  | str (x : Str) : TyOf K H (.str x) (.type "str")
  | flt (x : UInt64) : TyOf K H (.flt x) (.type "float")
  | lst {a : Addr} {xs : List V} (e : H a = some (.lst xs)) : TyOf K H (.ref a) (.type "list")
  | frz {a : Addr} {o : Obj} {xs : List V} (e : H a = some (.frz o (.lst xs))) : TyOf K H (.ref a) (.type "list")
  | tup {a : Addr} {xs : List V} (e : H a = some (.tup xs)) : TyOf K H (.ref a) (.type "tuple")
  | dK {a : Addr} {kvs : List (Key × V)} (e : H a = some (.dK kvs)) : TyOf K H (.ref a) (.type "dict")
  | dT {a : Addr} {kvs : List (List Key × V)} (e : H a = some (.dT kvs)) : TyOf K H (.ref a) (.type "dict")
  | ins {a C dx : Addr} {fs : List (Str × V)} (e : H a = some (.ins C dx fs)) (cl : Cls K C) (ha : PySem.W.findIn K (.ref C) "__class__" = some (some (.builtin "object.__class__")))
      (hn : PySem.W.specialIn K (.builtin "object.__class__") "__get__" = some (some (.builtin "getset_descriptor.__get__"))) (htk : PySem.W.takesIn K (.builtin "object.__class__") = some true)
      (hm : PySem.W.mroIn K C (.type "object") = some true) : TyOf K H (.ref a) (.ref C)
theorem isinst_ok {x : V} {u t : Value} (I : Inv X pins σ H s) (rx : RelV x u) (ty : TyOf X.K H x t) (e : PySem.W.kitOne X.K t c = some b) (h : ∀ tk, Q (.bool b) { s with toks := tk }) :
    wpAny (model X.prog X.w) A (call (.builtin "isinstance") [u, c]) Q E s := by
  cases ty with
  | non => cases (show u = Value.none from rx); exact PySem.W.kia_one PySem.W.kitx_none I.kIn True.intro e (fun z => nomatch z) h
  | bl y => cases (show u = Value.bool y from rx); exact PySem.W.kia_one PySem.W.kitx_bool I.kIn True.intro e (fun z => nomatch z) h
  | int i => obtain ⟨t, q⟩ := (show ∃ t, u = Value.int i t from rx); cases q; exact PySem.W.kia_one PySem.W.kitx_int I.kIn True.intro e (fun z => nomatch z) h
  | str y => obtain ⟨t, q⟩ := (show ∃ t, u = Value.str y t from rx); cases q; exact PySem.W.kia_one PySem.W.kitx_str I.kIn True.intro e (fun z => nomatch z) h
  | flt y => obtain ⟨t, q⟩ := (show ∃ t, u = Value.float y t from rx); cases q; exact PySem.W.kia_one PySem.W.kitx_float I.kIn True.intro e (fun z => nomatch z) h
  | @lst a xs ea =>
    cases (show u = Value.ref a from rx)
    obtain ⟨_, _, n, _, h1⟩ := (show ObjOk X.prog X.w H s.heap a (.lst xs) from I.hok a _ ea)
    exact PySem.W.kia_one PySem.W.kitx_list I.kIn ⟨_, h1, rfl⟩ e (fun z => nomatch z) h
  | @frz a ob xs ea =>
    cases (show u = Value.ref a from rx)
    obtain ⟨_, _, _, n, _, h1⟩ := (show ObjOk X.prog X.w H s.heap a (.frz ob (.lst xs)) from I.hok a _ ea)
    exact PySem.W.kia_one PySem.W.kitx_list I.kIn ⟨_, h1, rfl⟩ e (fun z => nomatch z) h
  | @tup a xs ea =>
    cases (show u = Value.ref a from rx)
    obtain ⟨_, _, _, p⟩ := (show ObjOk X.prog X.w H s.heap a (.tup xs) from I.hok a _ ea)
    obtain ⟨o, h1, h2, _⟩ := p
    exact PySem.W.kia_one PySem.W.kitx_tuple I.kIn ⟨o, h1, h2⟩ e (fun z => nomatch z) h
  | @dK a kvs ea =>
    cases (show u = Value.ref a from rx)
    obtain ⟨_, _, vs, _, p⟩ := (show ObjOk X.prog X.w H s.heap a (.dK kvs) from I.hok a _ ea)
    obtain ⟨o, es, ep, h1, h2, _⟩ := p
    exact PySem.W.kia_one PySem.W.kitx_dict I.kIn ⟨o, h1, h2.1⟩ e (fun z => nomatch z) h
  | @dT a kvs ea =>
    cases (show u = Value.ref a from rx)
    obtain ⟨_, _, xs, _, o, es, ep, h1, h2, _⟩ := (show ObjOk X.prog X.w H s.heap a (.dT kvs) from I.hok a _ ea)
    exact PySem.W.kia_one PySem.W.kitx_dict I.kIn ⟨o, h1, h2.1⟩ e (fun z => nomatch z) h
  | @ins a C dx fs ea cl ha hn htk hm =>
    cases (show u = Value.ref a from rx)
    obtain ⟨mA, O, _⟩ := ins_get I.hok ea
    obtain ⟨od, J, _⟩ := O.look
    exact PySem.W.kia_one (PySem.W.kitx_own (cl.get _) cl.hd ha hn htk hm) I.kIn J e (fun z => nomatch z) h
end
end L2
namespace L2
open PySem PySem.Spec PyProof.Rows
structure Room (k : Nat) (A : Around) : Prop where
  hd : A.handled = none
  dp : A.depth + 3 * k + 5 < recursionLimit
  un : A.units + 16 * k + 200 < cLine
theorem Room.mono {j k : Nat} {A : Around} (r : Room k A) (h : j <= k) : Room j A := ⟨r.hd, by have := r.dp; omega, by have := r.un; omega⟩
theorem Room.deeper {k : Nat} {A : Around} (r : Room (k + 1) A) (env : Env) : Room k (A.deeper env) :=
  ⟨r.hd, by have := r.dp; show A.depth + 1 + 3 * k + 5 < _; omega, by have := r.un; show A.units + 3 + 16 * k + 200 < _; omega⟩
theorem Room.depth {k : Nat} {A : Around} (r : Room k A) : A.depth < recursionLimit := by have := r.dp; omega
theorem Room.units {k : Nat} {A : Around} (r : Room k A) : A.units + 64 < cLine := by have := r.un; omega
def tNil : TA := fun _ H Q => Q [] H
def tCons (ta : TE) (tr : TA) : TA := fun σ H Q => ta σ H fun x H1 => tr σ H1 fun xs H2 => Q (x :: xs) H2
section
variable {X : Cx} {e : Expr} {es : List Expr} {te : TE} {t : TA} {pos : Pos}
theorem pa_nil : PA X [] tNil := fun _ _ _ _ H Q I h => Calls.spliced_nil ⟨[], H, I, .nil, h⟩
theorem pa_cons (ha : PE X e te) (hr : PA X es t) (hs : starEach (e :: es) X.env = (false, eval e X.env) :: starEach es X.env := by rfl) : PA X (e :: es) (tCons te t) := by
  intro pos pins s σ H Q I h
  rw [hs]
  show wpAny _ _ (spliced ((false, eval e X.env) :: backTo pos (starEach es X.env))) _ _ s
  refine Calls.spliced_cons (thn (ha pins s σ H _ I h) fun u s1 ⟨x, H1, I1, r1, q1⟩ => ?_)
  exact thn (hr pos pins s1 σ H1 _ I1 q1) fun us s2 ⟨xs, H2, I2, r2, q2⟩ => ⟨x :: xs, H2, I2, .cons r1 r2, q2⟩
def tTup (t : TA) : TE := fun σ H Q => t σ H fun xs H1 => xs.length <= sizeLine /\ ∀ p, H1 p = none -> Q (.ref p) (upd H1 p (.tup xs))
def tLst (t : TA) : TE := fun σ H Q => t σ H fun xs H1 => xs.length <= sizeLine /\ ∀ p, H1 p = none -> Q (.ref p) (upd H1 p (.lst xs))
theorem pe_tup {x1} (h : PA X es t) : PE X (.Tuple es x1 pos) (tTup t) := by
  intro pins s σ H Q I hq
  refine wpAny_Tuple_spliced (thn (h pos pins s σ H _ I hq) fun us s1 ⟨xs, H1, I1, r, z, q⟩ => ⟨by rw [<- r.length]; exact z, ?_⟩)
  have hf : H1 s1.heap.objs.size = none := I1.hok.fresh (Nat.le_refl _)
  refine ⟨.ref s1.heap.objs.size, upd H1 s1.heap.objs.size (.tup xs), I1.laid (t' := s1.toks) (fun b u e => Heap.get?_push_of_some _ e) (Nat.le_refl _) ?_, rfl, q _ hf⟩
  exact ⟨z, us, r, ⟨_, Heap.get?_push_size _ rfl, rfl, _, rfl⟩⟩
theorem pe_lst (h : PA X es t) : PE X (.List es pos) (tLst t) := by
  intro pins s σ H Q I hq
  refine wpAny_List_spliced (thn (h pos pins s σ H _ I hq) fun us s1 ⟨xs, H1, I1, r, z, q⟩ => ⟨by rw [<- r.length]; exact z, ?_⟩)
  have hf : H1 s1.heap.objs.size = none := I1.hok.fresh (Nat.le_refl _)
  refine ⟨.ref s1.heap.objs.size, upd H1 s1.heap.objs.size (.lst xs), I1.laid (t' := s1.toks) (fun b u e => Heap.get?_push_of_some _ e) (Nat.le_refl _) ?_, rfl, q _ hf⟩
  exact ⟨z, us, 0, r, Heap.get?_push_size _ rfl⟩
end
abbrev Sp := List V -> Hp -> VK -> XK -> Prop
abbrev CXT := List Env -> Hp -> Shared -> XK -> Value -> Shared -> Prop
structure Env0 (P : Program) (w : World) (K : PySem.W.Frag) (mg : Str -> Option Value) (base : Heap) (A : Around) (outer : List Env) (s : Shared) (H : Hp) : Prop where
  frames : A.frames = some outer
  mod : Mod K mg base
  bs : ∀ b o, base.get? b = some o -> s.heap.get? b = some o /\ H b = none
  bsz : base.objs.size <= s.heap.objs.size
  funs : s.heap.FunFrames base outer
  frf : ∀ b ∈ frs outer, H b = none
  hok : HOk P w H s.heap
  bare : AllBare s.gens
def CE (outer : List Env) (P : Program) (w : World) (H : Hp) (s : Shared) (Q : VK) (u : Value) (s' : Shared) : Prop :=
  ∃ v H', s'.os = s.os /\ AllBare s'.gens /\ Un (frs outer) [] H H' s.heap s'.heap /\ HOk P w H' s'.heap /\ RelV v u /\ Q v H'
def CR (CX : CXT) (outer : List Env) (P : Program) (w : World) (H : Hp) (s : Shared) (Q : VK) (E : XK) (r : Result) (s' : Shared) : Prop :=
  match r with
  | .ok (.ret u) => CE outer P w H s Q u s'
  | .ok _ => False
  | .error e => CX outer H s E e s'
structure FnOk (P : Program) (w : World) (K : PySem.W.Frag) (mg : Str -> Option Value) (base : Heap) (CX : CXT) (k : Nat) (f : Addr) (fd : FuncData) (ps : List Str) (sp : Sp) : Prop where
  len : ∀ vs H Q E, sp vs H Q E -> vs.length = ps.length
  run : ∀ (A : Around) (outer : List Env) (s : Shared) (H : Hp) (args : Args) (us : List Value) (vs : List V) (Q : VK) (E : XK), Room k A -> Env0 P w K mg base A outer s H -> BindsTo s fd args (ps.zip us) -> Vals vs us -> sp vs H Q E ->
    codeAny (model P w) A (.call (.ref f) args) (CR CX outer P w H s Q E) s
section
variable {X : Cx} {pins : List (Addr × Obj)} {σ : St} {H : Hp} {s s' : Shared}
theorem Inv.env0 (I : Inv X pins σ H s) : Env0 X.prog X.w X.K X.mg X.base X.A X.stack s H :=
  ⟨I.ok.frames, I.ok.mod, I.bs, Nat.le_trans I.ok.bsz I.sz, I.stack, I.stkFree, I.hok, I.bare⟩
theorem Inv.after {Q : VK} {u : Value} (I : Inv X pins σ H s) (h : CE X.stack X.prog X.w H s Q u s') : EP X pins σ Q u s' := by
  obtain ⟨v, H', os, bare, un, hok, r, q⟩ := h
  obtain ⟨hh, g, d, t, os'⟩ := s'
  obtain rfl : os' = s.os := os
  exact ⟨v, H', I.call (h' := hh) (g' := g) (d' := d) (t' := t) (ch := []) un hok bare (fun b z => absurd z (by simp)), r, q⟩
end
def tCall (sp : Sp) (dvs : List V) (E : XK) (t : TA) : TE := fun σ H Q => t σ H fun vs H1 => sp (vs ++ dvs) H1 Q E
def Binds (K : PySem.W.Frag) (fd : FuncData) (ps : List Str) (ds : List Value) : Prop :=
  ∀ (s : Shared) (us : List Value), K.In s.heap -> (us ++ ds).length = ps.length -> BindsTo s fd ⟨us, []⟩ (ps.zip (us ++ ds))
theorem Binds.all {K : PySem.W.Frag} {fd : FuncData} {ps : List Str} (h : ∀ us : List Value, us.length = ps.length -> bindArgs fd ⟨us, []⟩ = pure (ps.zip us)) : Binds K fd ps [] := fun s us _ hl => by
  rw [List.append_nil] at hl ⊢
  exact .of_eq (h us hl)
def Passes (CX : CXT) (X : Cx) (E : XK) : Prop := ∀ (pins : List (Addr × Obj)) (σ : St) (H : Hp) (s : Shared) (e : Value) (s' : Shared), Inv X pins σ H s -> CX X.stack H s E e s' -> X.xe e s'
section
variable {X : Cx} {CX : CXT} {k : Nat} {f C : Addr} {fd : FuncData} {ps : List Str} {sp : Sp} {dvs : List V} {ds : List Value} {E : XK} {x m : Str} {p pos apos : Pos} {e o : Expr} {es : List Expr} {ta : TE} {t : TA}
theorem run_fn {pins : List (Addr × Obj)} {σ : St} {H : Hp} {s : Shared} {Q : VK} {us : List Value} {vs : List V} (F : FnOk X.prog X.w X.K X.mg X.base CX k f fd ps sp) (hr : Room k X.A) (hb : Binds X.K fd ps ds) (hd : Vals dvs ds) (hx : Passes CX X E)
    (I : Inv X pins σ H s) (r : Vals vs us) (h : sp (vs ++ dvs) H Q E) : wpAny (model X.prog X.w) X.A (call (.ref f) us) (EP X pins σ Q) X.xe s := by
  have r2 : Vals (vs ++ dvs) (us ++ ds) := r.append hd
  have hl : (us ++ ds).length = ps.length := by rw [<- r2.length]; exact F.len _ _ _ _ h
  refine wpAny_call (codeAny_mono (F.run X.A X.stack s H ⟨us, []⟩ (us ++ ds) (vs ++ dvs) Q E hr I.env0 (hb s us I.kIn hl) r2 h) fun r s' hq => ?_)
  cases r with
  | error e => exact hx pins σ H s e s' I hq
  | ok fl =>
    cases fl with
    | ret u => exact I.after hq
    | next => exact False.elim hq
    | brk => exact False.elim hq
    | cont => exact False.elim hq
theorem pe_call (F : FnOk X.prog X.w X.K X.mg X.base CX k f fd ps sp) (hr : Room k X.A) (hg : Gl X x) (hm : X.mg x = some (.ref f)) (hk : PySem.W.keepIn X.K (.ref f) = true) (hb : Binds X.K fd ps ds) (hd : Vals dvs ds) (hx : Passes CX X E)
    (ha : PA X (e :: es) t) (hdb : (x == ("__debug__" : Str)) = false := by decide) (he : starEach (e :: es) X.env = (false, eval e X.env) :: starEach es X.env := by rfl) (hpl : (backTo pos (starEach es X.env)).any (·.1) = false := by rfl) :
    PE X (.Call (.Name x p) (e :: es) [] pos) (tCall sp dvs E t) := by
  intro pins s σ H Q I h
  refine wpAny_Call_Name_kw (ld_glob I hg hm ?_ hdb)
  refine PySem.W.callWith_K (h₀ := X.base) I.ok.mod.kin hk (thn (ha pos pins s σ H _ I h) fun us s1 ⟨vs, H1, I1, r, q⟩ => ⟨I1.kIn, ?_⟩) he hpl
  exact run_fn F hr hb hd hx I1 r q
end
section
variable {X : Cx} {CX : CXT} {k : Nat} {f C : Addr} {fd : FuncData} {ps ks : List Str} {sp : Sp} {E : XK} {x m : Str} {p pos apos kpos : Pos} {e o : Expr} {es : List Expr} {kws : List Keyword} {te ta : TE} {t tk : TA} {nm : Option Str}
variable {g : List Value -> List Value -> List Value} {gV : List V -> List V -> List V}
end
structure FnScope (N P : List Str) (sc : Scope) : Prop where
  kind : sc.kind = .function
  co : sc.isCoroutine = false
  gen : sc.isGenerator = false
  nd : N.Nodup
  pre : N.take P.length = P
  par : ∀ x ∈ P, sc.names.lookup x = some .local \/ sc.names.lookup x = some .cell
  nofree : ∀ y ∈ sc.names, y.2 ≠ .free
theorem bindL_out {kindOf : Str -> Option NameKind} {x : Str} : ∀ {binds : List (Str × Value)} {m : Str -> Option Value}, (∀ v, (x, v) ∉ binds) -> bindL kindOf binds m x = m x
  | [], _, _ => rfl
  | (n, v) :: r, m, h => by
    unfold bindL
    rw [bindL_out fun w hw => h w (List.mem_cons_of_mem _ hw)]
    split
    . have : x ≠ n := by rintro rfl; exact h v List.mem_cons_self
      simp [this]
    . rfl
theorem bindC_out {kindOf : Str -> Option NameKind} {x : Str} : ∀ {binds : List (Str × Value)} {m : Str -> Option Value}, (∀ v, (x, v) ∉ binds) -> bindC kindOf binds m x = m x
  | [], _, _ => rfl
  | (n, v) :: r, m, h => by
    unfold bindC
    rw [bindC_out fun w hw => h w (List.mem_cons_of_mem _ hw)]
    split
    . rfl
    . have : x ≠ n := by rintro rfl; exact h v List.mem_cons_self
      simp [this]
theorem bindL_get {kindOf : Str -> Option NameKind} {x : Str} {v : Value} : ∀ {P : List Str} {vs : List Value} {i : Nat} {m : Str -> Option Value}, P.Nodup -> P[i]? = some x -> vs[i]? = some v -> kindOf x = some .local ->
    bindL kindOf (P.zip vs) m x = some v
  | [], _, _, _, _, h, _, _ => by simp at h
  | _ :: _, [], _, _, _, _, h, _ => by simp at h
  | p :: P, w :: vs, 0, m, nd, h1, h2, hk => by
    simp at h1 h2; subst h1; subst h2
    show bindL kindOf ((p, w) :: P.zip vs) m p = _
    unfold bindL
    rw [bindL_out fun v hv => (List.nodup_cons.mp nd).1 (List.of_mem_zip hv).1, if_pos hk]
    simp
  | p :: P, w :: vs, i + 1, m, nd, h1, h2, hk => by
    show bindL kindOf ((p, w) :: P.zip vs) m x = _
    unfold bindL
    exact bindL_get (i := i) (List.nodup_cons.mp nd).2 (by simpa using h1) (by simpa using h2) hk
theorem bindC_get {kindOf : Str -> Option NameKind} {x : Str} {v : Value} : ∀ {P : List Str} {vs : List Value} {i : Nat} {m : Str -> Option Value}, P.Nodup -> P[i]? = some x -> vs[i]? = some v -> kindOf x ≠ some .local ->
    bindC kindOf (P.zip vs) m x = some v
  | [], _, _, _, _, h, _, _ => by simp at h
  | _ :: _, [], _, _, _, _, h, _ => by simp at h
  | p :: P, w :: vs, 0, m, nd, h1, h2, hk => by
    simp at h1 h2; subst h1; subst h2
    show bindC kindOf ((p, w) :: P.zip vs) m p = _
    unfold bindC
    rw [bindC_out fun v hv => (List.nodup_cons.mp nd).1 (List.of_mem_zip hv).1, if_neg hk]
    simp
  | p :: P, w :: vs, i + 1, m, nd, h1, h2, hk => by
    show bindC kindOf ((p, w) :: P.zip vs) m x = _
    unfold bindC
    exact bindC_get (i := i) (List.nodup_cons.mp nd).2 (by simpa using h1) (by simpa using h2) hk
def start (N : List Str) (vs : List V) : St := vs.map some ++ List.replicate (N.length - vs.length) none
def cxOf (CX : CXT) (P : Program) (w : World) (K : PySem.W.Frag) (mg : Str -> Option Value) (base : Heap) (N : List Str) (qual : Str) (scope : Scope) (f : Addr) (cd : Value) (A : Around) (outer : List Env) (s : Shared) (H : Hp) (E : XK) : Cx where
  prog := P
  w := w
  K := K
  mg := mg
  base := base
  A := A.deeper (envOfC qual scope s.heap.objs.size f cd)
  N := N
  s₀ := s
  H₀ := H
  env := envOfC qual scope s.heap.objs.size f cd
  outer := outer
  stack := envOfC qual scope s.heap.objs.size f cd :: outer
  ex := []
  calm := true
  fn := fun _ => true
  pn := []
  xe := fun e s' => wpAny (model P w) (A.deeper (envOfC qual scope s.heap.objs.size f cd)) (leaving (envOfC qual scope s.heap.objs.size f cd) e) (fun _ s'' => CX outer H s E e s'') (fun e' s'' => CX outer H s E e' s'') s'
theorem cell_has {sc : Scope} {n : Nat} {x : Str} (h : sc.names.lookup x = some .cell) : ∃ c, (cellsFrom n sc.names []).lookup x = some c := by
  have q := PySem.W.cellsFrom_some sc.names n [] (.inl h)
  exact Option.isSome_iff_exists.mp q
theorem inv_start {CX : CXT} {P : Program} {w : World} {K : PySem.W.Frag} {mg : Str -> Option Value} {base : Heap} {N ps : List Str} {qual : Str} {scope : Scope} {f : Addr} {cd : Value} {A : Around} {outer : List Env} {s s1 : Shared} {H : Hp} {E : XK} {us : List Value} {vs : List V}
    (S : FnScope N ps scope) (hd : A.handled = none) (e0 : Env0 P w K mg base A outer s H) (hl : vs.length = ps.length) (r : Vals vs us)
    (x : InCallC s s.heap.objs.size (bindL (envOfC qual scope s.heap.objs.size f cd).kindOf (ps.zip us) fun _ => none) (cellsFrom (s.heap.objs.size + 1) scope.names []) (bindC (envOfC qual scope s.heap.objs.size f cd).kindOf (ps.zip us) fun _ => none) s1) :
    Inv (cxOf CX P w K mg base N qual scope f cd A outer s H E) [] (start N vs) H s1 := by
  have hpl : ps.length <= N.length := by have := congrArg List.length S.pre; rw [List.length_take] at this; omega
  obtain ⟨h1, tk, rfl, hk⟩ := x.done
  have noA : ∀ b : Addr, b ∉ (cxOf CX P w K mg base N qual scope f cd A outer s H E).ex := fun b z => absurd (show b ∈ ([] : List Addr) from z) (by simp)
  refine ⟨⟨e0.mod, S.kind, rfl, rfl, Nat.le_refl _, fun y z c h1 h2 => ?_, fun y hy => ?_, fun y c _ h => ?_, fun _ => hd, Around.frames_deeper e0.frames, .inr ⟨rfl, rfl⟩, fun b z => absurd z (noA b), e0.bs, e0.bsz, fun b _ _ => noA b, fun b z => absurd z (noA b), e0.funs, e0.frf⟩,
    rfl, e0.bare, Un.kept hk, ⟨_, x.toInCall.ns, fun i y v h1 h2 h3 => ?_⟩, fun y c h => ⟨_, x.cell y c h⟩, e0.hok.fresh (Nat.le_refl _), fun y c h => ?_, fun p hp => absurd (show p ∈ ([] : List (Addr × Obj)) from hp) (by simp), e0.hok.kept hk, ?_⟩
  . exact name_of_addr x.apart (PySem.mem_of_lookup h1) (PySem.mem_of_lookup h2)
  . have hy : scope.names.lookup y = some .cell \/ scope.names.lookup y = some .free := hy
    rcases hy with hy | hy
    . exact cell_has hy
    . exact absurd rfl (S.nofree _ (PySem.mem_of_lookup hy))
  . exact Nat.le_of_lt (x.above y c (PySem.mem_of_lookup h))
  . have hi : i < vs.length := by
      unfold start at h2
      by_cases hi : i < vs.length
      . exact hi
      . rw [List.getElem?_append_right (by simpa using hi)] at h2
        rw [List.getElem?_replicate] at h2
        split at h2 <;> cases h2
    have ha : vs[i]? = some v := by
      unfold start at h2
      rw [List.getElem?_append_left (by simpa using hi), List.getElem?_map] at h2
      cases e : vs[i]? with
      | none => rw [e] at h2; cases h2
      | some a => rw [e] at h2; cases h2; rfl
    obtain ⟨u, hu, rv⟩ := r.get ha
    have hp : ps[i]? = some y := by
      rw [<- S.pre, List.getElem?_take_of_lt (by omega)]; exact h1
    have ndP : ps.Nodup := by rw [<- S.pre]; exact S.nd.sublist (List.take_sublist _ _)
    refine ⟨u, rv, ?_⟩
    rcases S.par y (List.mem_of_getElem? hp) with k | k
    . exact .inl ⟨k, bindL_get ndP hp hu k⟩
    . obtain ⟨c, e⟩ := cell_has (n := s.heap.objs.size + 1) k
      refine .inr ⟨.inl k, c, e, ?_⟩
      have q := x.cell y c e
      rw [bindC_get ndP hp hu (by show scope.names.lookup y ≠ _; rw [k]; decide)] at q
      exact q
  . exact e0.hok.fresh (Nat.le_of_lt (x.above y c (PySem.mem_of_lookup h)))
  . unfold start
    show _ = N.length
    rw [List.length_append, List.length_map, List.length_replicate]
    omega
theorem fn_of {CX : CXT} {P : Program} {w : World} {K : PySem.W.Frag} {mg : Str -> Option Value} {base : Heap} {k : Nat} {f : Addr} {name qual : Str} {params : Arguments} {body : List Stmt} {scope : Scope} {dV kV doc pm cdv ct oc : Value} {an od : Option Addr}
    {osl : Array (Option Value)} {N ps : List Str} {sp : Sp} (lk : K.lookup f = some ⟨oc, od, .func (PySem.W.fnOf name qual params body scope dV kV doc pm an cdv ct), osl⟩) (hcd : PySem.W.codeIn K cdv qual = true) (S : FnScope N ps scope)
    (len : ∀ vs H Q E, sp vs H Q E -> vs.length = ps.length)
    (hbody : ∀ (A : Around) (outer : List Env) (s : Shared) (H : Hp) (vs : List V) (Q : VK) (E : XK), Room k (A.deeper (envOfC qual scope s.heap.objs.size f cdv)) -> sp vs H Q E ->
      ∃ t, PSs (cxOf CX P w K mg base N qual scope f cdv A outer s H E) body t /\ t { nx := fun _ H' => Q .non H', rt := Q } (start N vs) H) :
    FnOk P w K mg base CX (k + 1) f (PySem.W.fnOf name qual params body scope dV kV doc pm an cdv ct) ps sp := by
  refine ⟨len, fun A outer s H args us vs Q E hr e0 hb r hsp => ?_⟩
  have hl := len _ _ _ _ hsp
  have KX : K.In s.heap := e0.mod.kin.keeps fun b o e => (e0.bs b o e).1
  have lim : s.heap.NoLimit := e0.mod.nolimit.keeps fun b o e => (e0.bs b o e).1
  have hkind : ∀ y ∈ ps.zip us, scope.names.lookup y.1 = some .local \/ (scope.names.lookup y.1 = some .cell /\ ((cellsFrom (s.heap.objs.size + 1) scope.names []).lookup y.1).isSome = true) := fun ⟨n, v⟩ hy => by
    rcases S.par n (List.of_mem_zip hy).1 with q | q
    . exact .inl q
    . exact .inr ⟨q, PySem.W.cellsFrom_some _ _ _ (.inl q)⟩
  refine codeAny_call_function hr.depth (KX _ _ lk) rfl S.co S.gen rfl (PySem.W.codeRec_of KX hcd) (hb _ _ _ _ ?_)
  refine wpAny_newFunctionEnv_cells S.kind hkind fun env he s1 x => ?_
  subst he
  refine ⟨lim.keeps x.toInCall.keep, codeAny_func ?_⟩
  obtain ⟨t, ht, hq⟩ := hbody A outer s H vs Q E (hr.deeper _) hsp
  have I : Inv (cxOf CX P w K mg base N qual scope f cdv A outer s H E) [] (start N vs) H s1 := inv_start S hr.hd e0 hl r x
  refine wpAny_mono (ht [] s1 (start N vs) H _ I hq) (fun fl s' hs => ?_) fun e s' hs => hs
  have fin : ∀ {σ' : St} {H' : Hp} {v : V} {u : Value}, Inv (cxOf CX P w K mg base N qual scope f cdv A outer s H E) [] σ' H' s' -> RelV v u -> Q v H' -> CE outer P w H s Q u s' :=
    fun {σ' H' v u} J rv q => ⟨v, H', J.os, J.bare, J.base, J.hok, rv, q⟩
  cases fl with
  | ret u =>
    obtain ⟨v, σ', H', J, rv, q⟩ := hs
    exact fin J rv q
  | next =>
    obtain ⟨σ', H', J, q⟩ := hs
    exact fin (v := V.non) (u := Value.none) J rfl q
  | brk =>
    obtain ⟨_, _, _, q⟩ := hs
    exact False.elim q
  | cont =>
    obtain ⟨_, _, _, q⟩ := hs
    exact False.elim q
end L2
namespace L2
open PySem PySem.Spec PyProof.Rows
section
variable {X : Cx} {x : Str} {p pos : Pos} {e : Expr} {es : List Expr} {t : TA} {id T : String} {r : List V -> Hp -> VK -> Prop}
def tCB (r : List V -> Hp -> VK -> Prop) (t : TA) : TE := fun σ H Q => t σ H fun vs H1 => r vs H1 Q
theorem pe_callB (hc : CallR X (.builtin id) r) (hg : Gl X x) (hm : X.mg x = none) (hv : bootBuiltins x = some (.builtin id)) (ha : PA X (e :: es) t) (hn : x ≠ "__name__" := by decide) (hdb : (x == ("__debug__" : Str)) = false := by decide)
    (he : starEach (e :: es) X.env = (false, eval e X.env) :: starEach es X.env := by rfl) (hpl : (backTo pos (starEach es X.env)).any (·.1) = false := by rfl) : PE X (.Call (.Name x p) (e :: es) [] pos) (tCB r t) := by
  intro pins s σ H Q I h
  refine wpAny_Call_Name_kw (ld_blt I hg hm hv ?_ hn hdb)
  exact PyProof.Rows.callWith_builtin1 (thn (ha pos pins s σ H _ I h) fun us s1 ⟨vs, H1, I1, r1, q1⟩ => hc pins s1 σ H1 vs us Q I1 r1 q1) he hpl
theorem pe_callTy (hc : CallR X (.type T) r) (hg : Gl X x) (hm : X.mg x = none) (hv : bootBuiltins x = some (.type T)) (ha : PA X (e :: es) t) (hn : x ≠ "__name__" := by decide) (hdb : (x == ("__debug__" : Str)) = false := by decide)
    (he : starEach (e :: es) X.env = (false, eval e X.env) :: starEach es X.env := by rfl) (hpl : (backTo pos (starEach es X.env)).any (·.1) = false := by rfl) : PE X (.Call (.Name x p) (e :: es) [] pos) (tCB r t) := by
  intro pins s σ H Q I h
  refine wpAny_Call_Name_kw (ld_blt I hg hm hv ?_ hn hdb)
  exact PyProof.Rows.callWith_type1 (thn (ha pos pins s σ H _ I h) fun us s1 ⟨vs, H1, I1, r1, q1⟩ => hc pins s1 σ H1 vs us Q I1 r1 q1) he hpl
end
end L2
namespace HT
open PySem PyProof.Rows
section
open PySem.SeqAt
open PySem.AutoSeq1 (wpAny_loadPart')
open PySem.MeetsSeq PySem.MeetsSeq2 PySem.MeetsSeq3
end
section
variable {prog : Program} {w : World} {A : Around} {E : Value -> Shared -> Prop} {s : Shared}
def sIx (n d : Nat) : Option Int -> Nat
  | none => d
  | some v => if v < 0 then (v + (n : Int)).toNat else min v.toNat n
theorem sIx_none (n d : Nat) : sIx n d none = d := rfl
theorem sIx_nat (n d k : Nat) : sIx n d (some (k : Int)) = min k n := by
  show (if (k : Int) < 0 then ((k : Int) + (n : Int)).toNat else min (k : Int).toNat n) = min k n
  rw [if_neg (by omega), Int.toNat_natCast]
end
end HT
namespace L2
open PySem PySem.Spec PyProof.Rows
abbrev TO := St -> Hp -> (Option Int -> Hp -> Prop) -> Prop
def PO (X : Cx) (e : Option Expr) (t : TO) : Prop :=
  ∀ (pins : List (Addr × Obj)) (s : Shared) (σ : St) (H : Hp) (Q : Option Int -> Hp -> Prop), Inv X pins σ H s -> t σ H Q ->
    wpAny (model X.prog X.w) X.A (evalPart e X.env) (fun u s' => ∃ o H', Inv X pins σ H' s' /\ IsPart u o /\ Q o H') X.xe s
def tNoPart : TO := fun _ H Q => Q none H
def tPart (t : TE) : TO := fun σ H Q => t σ H fun x H1 => ∃ i, x = .int i /\ Q (some i) H1
section
variable {X : Cx} {e : Expr} {te : TE} {lo hi : Option Expr} {tl th : TO} {pos p2 : Pos}
theorem po_none : PO X none tNoPart := by
  intro pins s σ H Q I h
  rw [evalPart_none]
  exact wpAny_pure ⟨none, H, I, .none, h⟩
theorem po_some (h : PE X e te) : PO X (some e) (tPart te) := by
  intro pins s σ H Q I hw
  rw [evalPart_some]
  refine thn (h pins s σ H _ I hw) fun u s1 ⟨x, H1, I1, r1, q1⟩ => ?_
  obtain ⟨i, rfl, q⟩ := q1
  obtain ⟨t, rfl⟩ := r1
  exact ⟨some i, H1, I1, .int i t, q⟩
def SlR (X : Cx) (r : V -> Option Int -> Option Int -> Hp -> VK -> Prop) : Prop :=
  ∀ (pins : List (Addr × Obj)) (s : Shared) (σ : St) (H : Hp) (x : V) (v vl vu : Value) (lo hi : Option Int) (sl : Addr) (Q : VK), Inv X pins σ H s -> RelV x v -> s.heap.IsSliceOf sl vl vu .none -> IsPart vl lo -> IsPart vu hi -> r x lo hi H Q ->
    ∃ T id, typeLookup (.type T) "__getitem__" = pure (some (.builtin id)) /\ s.TypeIs v T /\ wpAny (model X.prog X.w) X.A (getItem v (.ref sl)) (EP X pins σ Q) X.xe s
def tSl (r : V -> Option Int -> Option Int -> Hp -> VK -> Prop) (te : TE) (tl th : TO) : TE := fun σ H Q => te σ H fun x H1 => tl σ H1 fun l H2 => th σ H2 fun u H3 => r x l u H3 Q
theorem pe_slice {r : V -> Option Int -> Option Int -> Hp -> VK -> Prop} (hr : SlR X r) (he : PE X e te) (hl : PO X lo tl) (hu : PO X hi th) : PE X (.Subscript e (.Slice lo hi none p2) pos) (tSl r te tl th) := by
  intro pins s σ H Q I h
  refine Subscript_ (thn (he pins s σ H _ I h) fun v s1 ⟨x, H1, I1, r1, q1⟩ => ?_)
  refine wpAny_Slice (thn (hl pins s1 σ H1 _ I1 q1) fun vl s2 ⟨l, H2, I2, pl, q2⟩ => thn (hu pins s2 σ H2 _ I2 q2) fun vu s3 ⟨u, H3, I3, pu, q3⟩ => ?_)
  rw [evalPart_none]
  refine wpAny_pure ?_
  have I4 : Inv X pins σ H3 { s3 with heap := s3.heap.push { cls := .type "slice", data := .fields #[vl, vu, .none] } } := I3.kept (t' := s3.toks) fun b ob q => Heap.get?_push_of_some _ q
  obtain ⟨T, id, hT, ht, hg⟩ := hr pins { s3 with heap := s3.heap.push { cls := .type "slice", data := .fields #[vl, vu, .none] } } σ H3 x v vl vu l u s3.heap.objs.size Q I4 r1 (Heap.IsSliceOf.new ..) pl pu q3
  show wpAny (model X.prog X.w) X.A (subscriptTail e (.Slice lo hi none p2) v (.ref s3.heap.objs.size)) (EP X pins σ Q) X.xe { s3 with heap := s3.heap.push { cls := .type "slice", data := .fields #[vl, vu, .none] } }
  exact tail_any (ops := [.ref s3.heap.objs.size, v]) ht hT hg (by with_unfolding_all rfl)
def cutV (xs : List V) (lo hi : Option Int) : List V := (xs.drop (HT.sIx xs.length 0 lo)).take (HT.sIx xs.length xs.length hi - HT.sIx xs.length 0 lo)
theorem cutV_length (xs : List V) (lo hi : Option Int) : (cutV xs lo hi).length <= xs.length := by
  unfold cutV
  rw [List.length_take, List.length_drop]
  omega
end
end L2
namespace L2
open PySem PySem.Spec PyProof.Rows
def ixN (n : Nat) (i : Int) : Option Nat := if 0 <= i then (if i < n then some i.toNat else none) else if -(n : Int) <= i then some (i + n).toNat else none
def atI {α : Type} (xs : List α) (i : Int) : Option α := (ixN xs.length i).bind fun j => xs[j]?
theorem ixN_seq {n : Nat} {i : Int} {j : Nat} (h : ixN n i = some j) : seqIndex? i n = some j /\ j < n /\ -(n : Int) <= i /\ i < n := by
  unfold ixN at h
  by_cases h0 : 0 <= i
  . rw [if_pos h0] at h
    by_cases h1 : i < n
    . rw [if_pos h1] at h
      have e : i.toNat = j := Option.some.inj h
      exact ⟨by rw [seqIndex_of h0 h1, e], by omega, by omega, h1⟩
    . rw [if_neg h1] at h; cases h
  . rw [if_neg h0] at h
    by_cases h1 : -(n : Int) <= i
    . rw [if_pos h1] at h
      have e : (i + n).toNat = j := Option.some.inj h
      exact ⟨by rw [seqIndex_neg (by omega) h1, e], by omega, h1, by omega⟩
    . rw [if_neg h1] at h; cases h
theorem atI_get {α : Type} {xs : List α} {i : Int} {v : α} (h : atI xs i = some v) : ∃ j, seqIndex? i xs.length = some j /\ xs[j]? = some v /\ j < xs.length /\ -(xs.length : Int) <= i /\ i < xs.length := by
  unfold atI at h
  cases e : ixN xs.length i with
  | none => rw [e] at h; cases h
  | some j =>
    rw [e] at h
    obtain ⟨h1, h2, h3, h4⟩ := ixN_seq e
    exact ⟨j, h1, h, h2, h3, h4⟩
theorem atI_nat {α : Type} {xs : List α} {j : Nat} {v : α} (h : xs[j]? = some v) : atI xs (j : Int) = some v := by
  have hj : j < xs.length := (List.getElem?_eq_some_iff.mp h).1
  have e : ixN xs.length (j : Int) = some j := by
    unfold ixN
    rw [if_pos (by omega), if_pos (by omega)]; simp
  unfold atI; rw [e]; exact h
theorem atI_last {α : Type} (xs : List α) (v : α) : atI (xs ++ [v]) (-1) = some v := by
  have hl : (xs ++ [v]).length = xs.length + 1 := by simp
  have e : ixN (xs ++ [v]).length (-1) = some xs.length := by
    unfold ixN
    rw [hl, if_neg (by decide), if_pos (by omega)]
    congr 1
    omega
  unfold atI
  rw [e]
  show (xs ++ [v])[xs.length]? = some v
  simp
def PlainIx (b : Expr) : Prop := ∀ o i, subscripted b false o i = operate [o, i] (getItem o i)
def IxR (X : Cx) (r : R2) : Prop :=
  ∀ (value slice : Expr) (pins : List (Addr × Obj)) (s : Shared) (σ : St) (H : Hp) (x y : V) (v u : Value) (Q : VK), Inv X pins σ H s -> RelV x v -> RelV y u -> r x y H Q ->
    subscripted slice false v u = operate [v, u] (getItem v u) -> wpAny (model X.prog X.w) X.A (subscriptTail value slice v u) (EP X pins σ Q) X.xe s
def MtR (X : Cx) (id : String) (r : V -> List V -> Hp -> VK -> Prop) : Prop :=
  ∀ (pins : List (Addr × Obj)) (s : Shared) (σ : St) (H : Hp) (x : V) (xs : List V) (v : Value) (us : List Value) (Q : VK), Inv X pins σ H s -> RelV x v -> Vals xs us -> r x xs H Q ->
    wpAny (model X.prog X.w) X.A (call (.builtin id) (v :: us)) (EP X pins σ Q) X.xe s
section
variable {X : Cx} {a b : Expr} {ta tb : TE} {pos : Pos}
theorem pe_ix {r : R2} (hr : IxR X r) (ha : PE X a ta) (hb : PE X b tb) (hs : PlainIx b) : PE X (.Subscript a b pos) (tOp r ta tb) := by
  intro pins s σ H Q I h
  exact Subscript_ (binT ha hb I h fun v u s2 x y H2 I2 rx ry q => hr a b pins s2 σ H2 x y v u Q I2 rx ry q (hs _ _))
def rIxL (K : PySem.W.Frag) : R2 := fun x y H Q => ∃ p xs i v, x = .ref p /\ y = .int i /\ SqL K H p xs /\ atI xs i = some v /\ Q v H
def rIxT (K : PySem.W.Frag) : R2 := fun x y H Q => ∃ p xs i v, x = .ref p /\ y = .int i /\ SqT K H p xs /\ atI xs i = some v /\ Q v H
theorem ix_list : IxR X (rIxL X.K) := by
  intro value slice pins s σ H x y v u Q I rx ry h hs
  obtain ⟨p, xs, i, z, rfl, rfl, hq, he, q⟩ := h
  cases rx
  obtain ⟨t, rfl⟩ := ry
  obtain ⟨its, r, pl, hz⟩ := I.list hq
  obtain ⟨j, h1, h2, h3, h4, h5⟩ := atI_get he
  obtain ⟨w, ew, rw'⟩ := r.get h2
  have hl := r.length
  have hn := line63
  have fin : EP X pins σ Q w s := ⟨z, H, I, rw', q⟩
  by_cases h0 : 0 <= i
  . have hj : i.toNat = j := by
      rw [seqIndex_of h0 h5] at h1
      exact Option.some.inj h1
    exact item_listR pl.isList h0 (by omega) (by rw [hj]; simpa using ew) fin hs
  . have hj : (i + (its.toArray.size : Int)).toNat = j := by
      rw [seqIndex_neg (by omega) h4] at h1
      rw [List.size_toArray, <- hl]
      exact Option.some.inj h1
    exact subscriptTail_builtinR (x := w) pl.isList.typeIs slot_list_getitem.lookup
      (wpAny_getItem_list_neg (Q := fun r s' => r = w /\ EP X pins σ Q r s') pl.isList (by omega) (by rw [List.size_toArray] <;> omega) (by omega) (by rw [hj]; simpa using ew) ⟨rfl, fin⟩) hs
theorem ix_tup : IxR X (rIxT X.K) := by
  intro value slice pins s σ H x y v u Q I rx ry h hs
  obtain ⟨p, xs, i, z, rfl, rfl, hq, he, q⟩ := h
  cases rx
  obtain ⟨t, rfl⟩ := ry
  obtain ⟨its, r, pl, hz⟩ := I.tuple hq
  obtain ⟨j, h1, h2, h3, h4, h5⟩ := atI_get he
  obtain ⟨w, ew, rw'⟩ := r.get h2
  have hl := r.length
  have hn := line63
  have fin : EP X pins σ Q w s := ⟨z, H, I, rw', q⟩
  exact subscriptTail_builtinR (x := w) pl.typeIs slot_tuple_getitem.lookup
    (getItem_tuple (j := j) (Q := fun r s' => r = w /\ EP X pins σ Q r s') pl (by omega) (by omega) (by rw [List.size_toArray, <- hl]; exact h1) (by simpa using ew) ⟨rfl, fin⟩) hs
theorem slice_bounds (lo hi : Option Int) (n : Nat) : (sliceBounds lo hi none n).1 = ((HT.sIx n 0 lo : Nat) : Int) /\ (sliceBounds lo hi none n).2.1 = ((HT.sIx n n hi : Nat) : Int) /\ (sliceBounds lo hi none n).2.2 = 1 := by
  refine ⟨?_, ?_, rfl⟩
  . cases lo with
    | none => simp [sliceBounds, HT.sIx]
    | some i =>
      simp only [sliceBounds, HT.sIx, Option.getD_none, show (1 : Int) > 0 by decide, if_true]
      by_cases h : i < 0
      . simp only [h, if_true] <;> omega
      . simp only [h, if_false] <;> omega
  . cases hi with
    | none => simp [sliceBounds, HT.sIx]
    | some i =>
      simp only [sliceBounds, HT.sIx, Option.getD_none, show (1 : Int) > 0 by decide, if_true]
      by_cases h : i < 0
      . simp only [h, if_true] <;> omega
      . simp only [h, if_false] <;> omega
theorem slicePick_cut (its : List Value) (lo hi : Option Int) : slicePick its.toArray lo hi none = ((its.drop (HT.sIx its.length 0 lo)).take (HT.sIx its.length its.length hi - HT.sIx its.length 0 lo)).toArray := by
  obtain ⟨h1, h2, h3⟩ := slice_bounds lo hi its.toArray.size
  unfold slicePick
  rw [h1, h2, h3]
  simp only [sliceRange_one, pick_run, List.size_toArray] <;> rfl
def rSlL (K : PySem.W.Frag) : V -> Option Int -> Option Int -> Hp -> VK -> Prop := fun x lo hi H Q => ∃ a xs, x = .ref a /\ SqL K H a xs /\ ∀ p, H p = none -> Q (.ref p) (upd H p (.lst (cutV xs lo hi)))
theorem sl_list : SlR X (rSlL X.K) := by
  intro pins s σ H x v vl vu lo hi sl Q I rx hs pl pu h
  obtain ⟨a, xs, rfl, hx, q⟩ := h
  cases rx
  obtain ⟨its, r, ht, hz⟩ := I.list hx
  have hlen := r.length
  refine ⟨"list", _, slot_list_getitem.lookup, ht.isList.typeIs, ?_⟩
  refine wpAny_getItem_list_slice ht.isList hs pl pu .none (by simp) ?_ (by rw [List.size_toArray] <;> omega)
  rw [slicePick_cut, <- hlen]
  refine ⟨.ref s.heap.objs.size, _, I.laid (t' := s.toks) (o := .lst (cutV xs lo hi)) (fun b ob q => Heap.get?_push_of_some _ q) (Nat.le_refl _) ?_, rfl, q _ (I.hok.fresh (Nat.le_refl _))⟩
  exact ⟨Nat.le_trans (cutV_length xs lo hi) hz, _, 0, (r.drop (HT.sIx xs.length 0 lo)).take (HT.sIx xs.length xs.length hi - HT.sIx xs.length 0 lo), Heap.get?_push_size _ rfl⟩
def flatV : V -> Bool
  | .non => true
  | .bl _ => true
  | .int _ => true
  | .str _ => true
  | _ => false
def eqV : V -> V -> Bool
  | .non, .non => true
  | .bl a, .bl b => a == b
  | .bl a, .int b => (if a then 1 else 0) == b
  | .int a, .bl b => a == (if b then 1 else 0)
  | .int a, .int b => a == b
  | .str a, .str b => a == b
  | _, _ => false
theorem eqAt_V {A : Around} {s : Shared} {y x : V} {u v : Value} (ry : RelV y u) (rx : RelV x v) (fy : flatV y = true) (fx : flatV x = true) : SeqAt.EqAt A s u v (eqV y x) := by
  cases y with
  | non =>
    cases ry
    cases x with
    | non => cases rx; exact SeqAt.EqAt.same _
    | bl b => cases rx; exact SeqAt.EqAt.none_bool b
    | int b => obtain ⟨t, rfl⟩ := rx; exact SeqAt.EqAt.none_int b t
    | str b => obtain ⟨t, rfl⟩ := rx; exact SeqAt.EqAt.none_str b t
    | _ => exact absurd (show false = true from fx) Bool.false_ne_true
  | bl a =>
    cases ry
    cases x with
    | non => cases rx; exact SeqAt.EqAt.bool_none a
    | bl b => cases rx; exact SeqAt.EqAt.bool_bool a b
    | int b => obtain ⟨t, rfl⟩ := rx; exact SeqAt.EqAt.bool_int a b t
    | str b => obtain ⟨t, rfl⟩ := rx; exact SeqAt.EqAt.bool_str a b t
    | _ => exact absurd (show false = true from fx) Bool.false_ne_true
  | int a =>
    obtain ⟨t', rfl⟩ := ry
    cases x with
    | non => cases rx; exact SeqAt.EqAt.int_none a t'
    | bl b => cases rx; exact SeqAt.EqAt.int_bool a t' b
    | int b => obtain ⟨t, rfl⟩ := rx; exact SeqAt.EqAt.int_int a t' b t
    | str b => obtain ⟨t, rfl⟩ := rx; exact SeqAt.EqAt.int_str a t' b t
    | _ => exact absurd (show false = true from fx) Bool.false_ne_true
  | str a =>
    obtain ⟨t', rfl⟩ := ry
    cases x with
    | non => cases rx; exact SeqAt.EqAt.str_none a t'
    | bl b => cases rx; exact SeqAt.EqAt.str_bool a t' b
    | int b => obtain ⟨t, rfl⟩ := rx; exact SeqAt.EqAt.str_int a t' b t
    | str b => obtain ⟨t, rfl⟩ := rx; exact SeqAt.EqAt.str_str a t' b t
    | _ => exact absurd (show false = true from fx) Bool.false_ne_true
  | _ => exact absurd (show false = true from fy) Bool.false_ne_true
theorem call_len_seq : CallR X (.builtin "len") (fun xs H Q => ∃ p ys, xs = [.ref p] /\ (SqL X.K H p ys \/ SqT X.K H p ys) /\ Q (.int ys.length) H) := by
  intro pins s σ H xs us Q I r h
  obtain ⟨p, ys, rfl, hq, q⟩ := h
  obtain ⟨u, rfl, rx⟩ := vals1 r
  cases rx
  have hn := line63
  rcases hq with hq | hq
  . obtain ⟨its, r', pl, hz⟩ := I.list hq
    have hlen := r'.length
    exact Calls.call_len_list pl.isList (by simp only [List.size_toArray] <;> omega) ⟨.int ys.length, H, I.tok _, ⟨s.toks + 1, by rw [List.size_toArray, hlen]⟩, q⟩
  . obtain ⟨its, r', pl, hz⟩ := I.tuple hq
    have hlen := r'.length
    exact len_tuple pl (by simp only [List.size_toArray] <;> omega) ⟨.int ys.length, H, I.tok _, ⟨s.toks + 1, by rw [List.size_toArray, hlen]⟩, q⟩
theorem call_tuple_of : CallR X (.type "tuple") (fun xs H Q => ∃ p ys, xs = [.ref p] /\ ((SqL X.K H p ys /\ ∀ l, H l = none -> Q (.ref l) (upd H l (.tup ys))) \/ (SqT X.K H p ys /\ Q (.ref p) H))) := by
  intro pins s σ H xs us Q I r h
  obtain ⟨p, ys, rfl, h⟩ := h
  obtain ⟨u, rfl, rx⟩ := vals1 r
  cases rx
  rcases h with ⟨hq, q⟩ | ⟨hq, q⟩
  . obtain ⟨its, r', pl, hz⟩ := I.list hq
    have hlen := r'.length
    refine call_tuple_list pl.isList (fun h' kp => ?_) (by simp only [List.size_toArray] <;> omega)
    have I1 : Inv X pins σ H { s with heap := h' } := I.kept (t' := s.toks) kp
    have I2 : Inv X pins σ (upd H h'.objs.size (.tup ys)) { s with heap := h'.push { cls := .type "tuple", data := .seq its.toArray } } :=
      I1.laid (t' := s.toks) (fun b o e => Heap.get?_push_of_some _ e) (Nat.le_refl _) (show ObjOk X.prog X.w _ _ _ (.tup ys) from ⟨hz, its, r', IsTup.new _ _⟩)
    exact ⟨.ref h'.objs.size, _, I2, rfl, q _ (I1.hok.fresh (Nat.le_refl _))⟩
  . obtain ⟨its, r', pl, hz⟩ := I.tuple hq
    exact call_tuple_same pl ⟨.ref p, H, I, rfl, q⟩
def tyV (K : PySem.W.Frag) (T : String) (x : V) (H : Hp) : Prop := match x with
  | .str _ => T = "str"
  | .int _ => T = "int"
  | .ref p => (T = "list" /\ ∃ xs, SqL K H p xs) \/ (T = "tuple" /\ ∃ o, K.lookup p = some o /\ o.cls = .type "tuple" /\ o.dict = none) \/
      (T = "dict" /\ ((∃ kvs, H p = some (.dK kvs)) \/ ∃ kvs, H p = some (.dT kvs))) \/ (T = "set" /\ ∃ S n, H p = some (.set S n))
  | _ => False
theorem tyV_is {pins : List (Addr × Obj)} {σ : St} {H : Hp} {s : Shared} {T : String} {x : V} {v : Value} (I : Inv X pins σ H s) (r : RelV x v) (ty : tyV X.K T x H) :
    s.TypeIs v T /\ ∀ a, v = .ref a -> ∃ ob, s.heap.get? a = some ob /\ ob.dict = none := by
  cases x with
  | str z =>
    obtain ⟨t, rfl⟩ := r
    cases (show T = "str" from ty)
    exact ⟨typeIs_str s z t, fun _ e => nomatch e⟩
  | int i =>
    obtain ⟨t, rfl⟩ := r
    cases (show T = "int" from ty)
    exact ⟨typeIs_int s i t, fun _ e => nomatch e⟩
  | ref p =>
    cases r
    rcases ty with ⟨rfl, xs, hq⟩ | ⟨rfl, o, hk, hc, hd⟩ | ⟨rfl, hk⟩ | ⟨rfl, S, n, hk⟩
    . obtain ⟨its, _, pl, _⟩ := I.list hq
      refine ⟨pl.isList.typeIs, fun a e => ?_⟩
      cases e
      obtain ⟨o, n, e, c, hd, _⟩ := pl
      exact ⟨o, e, hd⟩
    . refine ⟨⟨o, I.kIn p o hk, hc⟩, fun a e => ?_⟩
      cases e
      exact ⟨o, I.kIn _ o hk, hd⟩
    . have z : ∃ o, s.heap.get? p = some o /\ o.ExactDict := by
        rcases hk with ⟨kvs, hk⟩ | ⟨kvs, hk⟩
        . obtain ⟨_, _, _, _, o, _, _, e, ex, _⟩ := I.hok p _ hk
          exact ⟨o, e, ex⟩
        . obtain ⟨_, _, _, _, o, _, _, e, ex, _⟩ := I.hok p _ hk
          exact ⟨o, e, ex⟩
      obtain ⟨o, e, ex⟩ := z
      refine ⟨⟨o, e, ex.1⟩, fun a e2 => ?_⟩
      cases e2
      exact ⟨o, e, ex.2.1⟩
    . obtain ⟨o, _, _, _, e, ex, _⟩ := I.hok p _ hk
      refine ⟨⟨o, e, ex.1⟩, fun a e2 => ?_⟩
      cases e2
      exact ⟨o, e, ex.2.1⟩
  | _ => exact False.elim ty
def tBM (K : PySem.W.Frag) (T : String) (r : V -> List V -> Hp -> VK -> Prop) (to : TE) (t : TA) : TE := fun σ H Q => to σ H fun x H1 => tyV K T x H1 /\ t σ H1 fun xs H2 => r x xs H2 Q
variable {o e : Expr} {es : List Expr} {to : TE} {t : TA} {name : Str} {apos cpos : Pos} {T id : String} {r : V -> List V -> Hp -> VK -> Prop}
theorem pe_bm (pa : PlainAttrs T) (slot : Slot T name id) (hty : typeOf (.builtin id) = pure (.type "method_descriptor")) (hm : MtR X id r) (ho : PE X o to) (ha : PA X (e :: es) t)
    (hbase : attributeBase o name X.env (eval o X.env) = eval o X.env := by rfl)
    (hfew : ((backTo cpos (starEach (e :: es) X.env)).all (fun x => !x.1) && (backToKw cpos (keywordEach [] X.env)).all (fun x => x.1.isSome)
      && decide ((e :: es).length + ([] : List Keyword).length + (if ([] : List Keyword).isEmpty then 0 else 1) < 30)) = true := by rfl)
    (hline : (apos.endLine == cpos.line) = true := by rfl) (hs : starEach (e :: es) X.env = (false, eval e X.env) :: starEach es X.env := by rfl) (hplain : (backTo cpos (starEach es X.env)).any (·.1) = false := by rfl) :
    PE X (.Call (.Attribute o name apos) (e :: es) [] cpos) (tBM X.K T r to t) := by
  intro pins s σ H Q I h
  refine wpAny_Call_method_late hbase hfew hline rfl (thn (ho pins s σ H _ I h) fun v s1 ⟨x, H1, I1, r1, ty, q1⟩ => ?_)
  obtain ⟨h1, h2⟩ := tyV_is I1 r1 ty
  refine ⟨T, id, pa, slot, hty, h1, h2, ?_⟩
  have hA := ha cpos pins s1 σ H1 _ I1 q1
  rw [hs] at hA ⊢
  refine Calls.callWith_builtin (by show (false || (backTo cpos (starEach es X.env)).any (·.1)) = false; rw [hplain] <;> rfl) (Calls.evalArgs_plain ?_)
  exact thn hA fun us s2 ⟨vs, H2, I2, r2, q2⟩ => hm pins s2 σ H2 x vs v us Q I2 r1 r2 q2
/- xs.append(e), list.index on a module's tuple .. are MtR facts of 06m -/
end
end L2
namespace L2
open PySem PySem.Spec PyProof.Rows
def MtM (X : Cx) (id : String) (r : V -> List V -> Hp -> VK -> Prop) : Prop :=
  ∀ (pins : List (Addr × Obj)) (s : Shared) (σ : St) (H : Hp) (x : V) (xs : List V) (v : Value) (us : List Value) (Q : VK), Inv X pins σ H s -> RelV x v -> Vals xs us -> r x xs H Q ->
    wpAny (model X.prog X.w) X.A (call (.builtin id) (v :: us)) (EP X pins σ Q) X.xe s
theorem Vals.one : ∀ {x : V} {us : List Value}, Vals [x] us -> ∃ u, us = [u] /\ RelV x u
  | _, _, .cons r .nil => ⟨_, rfl, r⟩
section
variable {X : Cx} {pins : List (Addr × Obj)} {σ : St} {H : Hp} {s : Shared} {l b : Addr} {xs ys zs : List V}
theorem Inv.lset {its its' : List Value} {n : Nat} {f : Array Value -> Array Value} {t' : Nat} (I : Inv X pins σ H s) (hH : H l = some (.lst xs))
    (e : s.heap.get? l = some { cls := .type "list", data := .seq its.toArray n }) (hf : f its.toArray = its'.toArray) (hv : Vals ys its') (hz : ys.length <= sizeLine) :
    Inv X pins σ (upd H l (.lst ys)) { s with heap := s.heap.update l (Obj.mapSeq f), toks := t' } := by
  have q := PySem.IsL.update e f
  rw [hf] at q
  refine I.write (x := l) (e := l) (by rw [hH]; exact trivial) (.inl rfl) (fun b' u hb hu => (Heap.get?_update_other s.heap (Obj.mapSeq f) (Ne.symm hb)).trans hu) ⟨_, q⟩ ?_
  exact ⟨hz, its', _, hv, q⟩
theorem Inv.lstM (I : Inv X pins σ H s) (hH : H l = some (.lst xs)) : xs.length <= sizeLine /\ ∃ (its : List Value) (n : Nat), Vals xs its /\ xs.length = its.length /\ s.heap.get? l = some { cls := .type "list", data := .seq its.toArray n } := by
  obtain ⟨z, its, n, r, e⟩ := I.hok l _ hH
  exact ⟨z, its, n, r, r.length, e⟩
end
section
variable {X : Cx}
def rAppend : V -> List V -> Hp -> VK -> Prop := fun x vs H Q => ∃ l xs y, x = .ref l /\ vs = [y] /\ H l = some (.lst xs) /\ xs.length < sizeLine /\ Q .non (upd H l (.lst (xs ++ [y])))
theorem mt_append : MtM X "list.append" rAppend := by
  intro pins s σ H x vs v us Q I rx rv h
  obtain ⟨l, xs, y, rfl, rfl, hH, hz, q⟩ := h
  cases rx
  obtain ⟨u, rfl, ru⟩ := rv.one
  obtain ⟨z, its, n, r, hl, e⟩ := I.lstM hH
  refine call_meets F.slot_list_append ⟨_, e, rfl⟩ F.entry_list_append (F.args_list_append_2 _ _) (PySem.list_append l its.toArray n u (by rw [List.size_toArray]; omega)) ⟨e, ?_⟩
  refine ⟨.non, _, I.lset (its' := its ++ [u]) hH e (by simp) (r.append (.cons ru .nil)) ?_, rfl, q⟩
  rw [List.length_append, List.length_singleton]
  omega
end
section
variable {prog : Program} {w : World} {A : Around} {E : Value -> Shared -> Prop} {s : Shared}
end
section
variable {X : Cx}
end
end L2
namespace Att
open PySem PySem.W PySem.Calls PyProof.Rows
theorem ints_of_wellAll {P : Params} {h : Heap} : ∀ (ns : List Int) (vs : List Value), WellAll P h vs (ns.map WData.int) -> IntsAre vs ns := by
  intro ns
  induction ns with
  | nil =>
    intro vs w
    rw [List.map_nil] at w
    cases w
    exact .nil
  | cons n ns ih =>
    intro vs w
    rw [List.map_cons] at w
    cases w with
    | cons a b =>
      cases a
      exact .cons _ _ (ih _ b)
theorem script_of {l : OpenLaw} {n : Nat} (hn : l.most = some n) {P : Params} {h : Heap} {args : List WData} {vals : List Value}
    (hpre : l.row.toRowW.claim.pre args = true) (hwl : WellAll P h vals args) :
    ∃ a vs ns, vals = [Value.ref a] /\ args = [WData.list (ns.map WData.int)] /\ h.get? a = some { cls := .type "list", data := .seq vs.toArray } /\ IntsAre vs ns /\ ns.length <= n := by
  have hsh : WShape.hasAll [] args [.list .int] = true := (pre_splitW hpre).1
  have hc : l.pre.holds [] { args := args } = true := (pre_splitW hpre).2
  obtain ⟨d, r, rfl, h1, h2⟩ := hasAllW_cons hsh
  obtain rfl := hasAllW_nil h2
  obtain ⟨xs, rfl, h3⟩ := hasW_list h1
  obtain ⟨ns, rfl⟩ := items_int h3
  have hlen : ns.length <= n := by
    unfold OpenLaw.pre at hc
    have h4 : (WTm.not (.lt (.lit (.int (n : Int))) (.len (.arg 0)))).holds [] { args := [.list (ns.map .int)] } = true := by
      have h4 := (holds_andW hc).1
      rw [hn] at h4
      exact h4
    have h5 := condW_of h4 (w_not (w_lt w_lit (w_len_list (w_arg rfl))))
    rw [List.length_map] at h5
    refine Nat.le_of_not_lt fun q => ?_
    have q' : (n : Int) < ((ns.length : Nat) : Int) := by omega
    first
      | (rw [decide_eq_true q'] at h5; exact absurd h5 (by decide))
      | (simp at h5; omega)
  cases hwl with
  | cons w1 w2 =>
    cases w2
    cases w1 with
    | list ho hall => exact ⟨_, _, ns, rfl, rfl, ho, ints_of_wellAll ns _ hall, hlen⟩
theorem post_true (l : OpenLaw) (args : List WData) : l.row.toRowW.claim.post args (.bool true) args = true :=
  postW_of (r := l.row.toRowW) (X := (true == true))
    (show WShape.has [] (.bool true) .bool = true by first | rfl | decide | simp [WShape.has, WShape.arms, WShape.armsAll])
    (show (WTm.eq .res (.lit (.bool true))).value [] { args := args, res := some (.bool true), after := args } = some (.bool (true == true)) from w_eq_bool (w_res rfl) w_lit) rfl
theorem attach_call {l : OpenLaw} {n : Nat} {q : Program} {loose : List Str} {XP : (Str -> Option Value) -> Heap -> Prop} {YP : World -> Heap -> Prop} {d : DefRec}
    (hn : l.most = some n) (hdf : d.params.defaults = [])
    (call : ∀ (w : World) (s₀ s₁ : Shared) (mg mb : Str -> Option Value) (fa : Addr) (o : Obj) (pm cd doc : Value) (a : Addr) (vs : List Value) (ns : List Int),
      Ground q loose [] XP w s₀ mg mb s₁.heap -> YP w s₁.heap ->
      s₁.heap.get? fa = some o -> o.data = .func (docDef d.name d.params d.body d.scope pm cd doc) -> s₁.heap.CodeRec cd d.name -> mg d.name = some (.ref fa) ->
      s₁.heap.get? a = some { cls := .type "list", data := .seq vs.toArray } -> IntsAre vs ns -> ns.length <= n -> s₁.gens = #[] ->
      codeAny (model l.prog w) callerA (.call (.ref fa) ⟨[.ref a], []⟩) (fun r s' => r = .ok (.ret (.bool true)) /\ OldK s₁.heap s'.heap /\ s'.os = s₁.os /\ AllBare s'.gens) s₁) :
    WalkO q loose XP YP l.row.toRowW d [] (fun f vs => PySem.call f vs) := by
  intro w s₀ s₁ mg mb G Y fa o pm cd doc dV kV ho hd hcd hD hmg hg args vals as hpre hlay hrd hwl hlo
  obtain rfl : dV = .none := Dflts.none hD hdf
  obtain rfl : kV = .none := Dflts.noKw hD
  obtain ⟨a, vs, ns, rfl, rfl, hobj, hints, hlen⟩ := script_of hn hpre hwl
  refine enter_call (codeAny_mono (call w s₀ s₁ mg mb fa o pm cd doc a vs ns G Y ho (fd_plain hd) hcd hmg hobj hints hlen hg) fun r s' hq => ?_)
  obtain ⟨rfl, h2, h3, h4⟩ := hq
  exact ⟨.inl ⟨.bool true, .bool true, [], rfl, fun _ => rfl, .bool true, post_true l _, fun _ => ⟨List.Pairwise.nil, fun _ hm => (nomatch hm)⟩⟩, h2, h3, h4⟩
section
variable {prog : Program} {w : World} {A : Around} {E : Value -> Shared -> Prop} {s : Shared} {K : Frag}
end
end Att
namespace L2
open PySem PySem.Spec PyProof.Rows
theorem vals_ints : ∀ {vs : List Value} {ns : List Int}, IntsAre vs ns -> Vals (ns.map V.int) vs
  | _, _, .nil => .nil
  | _, _, .cons n t h => .cons ⟨t, rfl⟩ (vals_ints h)
def Only (H : Hp) : Prop := ∀ b, H b = none \/ ∃ o xs, H b = some (.frz o (.lst xs))
theorem law_call {P : Program} {w : World} {K : PySem.W.Frag} {mg mb : Str -> Option Value} {CX : CXT} {k : Nat} {fa a : Addr} {fd : FuncData} {x : Str} {sp : Sp} {s₁ : Shared} {vs : List Value} {ns : List Int}
    (KX : K.In s₁.heap) (hns : s₁.heap.Ns mainGlobals mg) (hb : s₁.heap.Ns builtinsNs mb) (hbb : ∀ x : Str, x ≠ "__name__" -> mb x = bootBuiltins x) (hlim : s₁.heap.NoLimit) (hg : s₁.gens = #[])
    (ha : s₁.heap.get? a = some { cls := .type "list", data := .seq vs.toArray }) (hi : IntsAre vs ns) (hl : ns.length <= sizeLine) (hr : Room k callerA)
    (F : ∀ base : Heap, K.In base -> base.Ns mainGlobals mg -> FnOk P w K mg base CX k fa fd [x] sp) (hbind : ∀ (s : Shared) (u : Value), BindsTo s fd ⟨[u], []⟩ [(x, u)])
    (hsp : ∀ H : Hp, Only H -> SqL K H a (ns.map V.int) -> sp [.ref a] H (fun v _ => v = .bl true) fun _ _ _ => False)
    (hCX : ∀ H e s', CX [] H s₁ (fun _ _ _ => False) e s' -> False) :
    codeAny (model P w) callerA (.call (.ref fa) ⟨[.ref a], []⟩) (fun r s' => r = .ok (.ret (.bool true)) /\ OldK s₁.heap s'.heap /\ s'.os = s₁.os /\ AllBare s'.gens) s₁ := by
  have rv := vals_ints hi
  have lenV := hi.length
  -- from an abstract heap in which nothing but the script may be tracked
  have core : ∀ H : Hp, Only H -> SqL K H a (ns.map V.int) -> HOk P w H s₁.heap -> (∀ b, H b ≠ none -> b = a) -> (H a ≠ none -> K.lookup a = none) ->
      codeAny (model P w) callerA (.call (.ref fa) ⟨[.ref a], []⟩) (fun r s' => r = .ok (.ret (.bool true)) /\ OldK s₁.heap s'.heap /\ s'.os = s₁.os /\ AllBare s'.gens) s₁ := by
    intro H hO hS hok hA hK
    have base_of : ∀ {b : Addr} {o : Obj}, s₁.heap.get? b = some o -> H b = none -> (hidT s₁.heap H).get? b = some o := fun e n => hidT_get e n
    have noA : ∀ {b : Addr} {o : Obj} {es : Array DictEntry} {ep : Nat}, s₁.heap.get? b = some o -> o.data = .dict es ep -> H b = none := fun {b o es ep} e d => by
      cases q : H b with
      | none => rfl
      | some u =>
        have e' : b = a := hA b (by rw [q]; simp)
        subst e'
        rw [ha] at e; cases e
        have d' : Data.seq vs.toArray _ = Data.dict es ep := d
        cases d'
    have nsK : ∀ {b : Addr} {m : Str -> Option Value}, s₁.heap.Ns b m -> (hidT s₁.heap H).Ns b m := fun {b m} ⟨o, es, ep, e, d, r⟩ => ⟨o, es, ep, base_of e (noA e d), d, r⟩
    have hKb : K.In (hidT s₁.heap H) := fun b o e => base_of (KX b o e) (by
      cases q : H b with
      | none => rfl
      | some u =>
        have e' : b = a := hA b (by rw [q]; simp)
        subst e'
        rw [hK (by rw [q]; simp)] at e; cases e)
    have hM : Mod K mg (hidT s₁.heap H) := ⟨hKb, nsK hns, ⟨mb, nsK hb, hbb⟩, let ⟨mc, h1, h2⟩ := hlim; ⟨mc, nsK h1, h2⟩⟩
    have e0 : Env0 P w K mg (hidT s₁.heap H) callerA [] s₁ H := ⟨rfl, hM, fun b o e => of_hidT e, Nat.le_of_eq (hidT_size _ _), trivial, fun b hb => absurd (show b ∈ ([] : List Addr) from hb) (by simp), hok, .of_eq hg⟩
    refine codeAny_mono ((F _ hKb (nsK hns)).run callerA [] s₁ H ⟨[.ref a], []⟩ [.ref a] [.ref a] _ _ hr e0 (hbind s₁ (.ref a)) (.cons rfl .nil) (hsp H hO hS)) fun r s' h => ?_
    cases r with
    | error e => exact (hCX H e s' h).elim
    | ok fl =>
      cases fl with
      | next => exact False.elim h
      | brk => exact False.elim h
      | cont => exact False.elim h
      | ret u =>
        obtain ⟨v, H', os, bare, un, hok', r', q⟩ := h
        have q' : v = .bl true := q
        subst q'
        obtain rfl : u = Value.bool true := r'
        refine ⟨rfl, OldK.of_keep fun b o e => ?_, os, bare⟩
        cases q : H b with
        | none => exact un.keep b o e q (by intro z; exact absurd (show b ∈ ([] : List Addr) from z) (by simp)) (by simp)
        | some u =>
          rcases hO b with z | ⟨ob, xs, z⟩
          . rw [q] at z; cases z
          . have z2 := un.frzs b ob _ z
            obtain ⟨e1, _⟩ := hok b _ z
            obtain ⟨e2, _⟩ := hok' b _ z2
            rw [e] at e1; cases e1
            exact e2
  cases hk : K.lookup a with
  | some o =>
    -- the script is one of the module's own objects
    have e := KX a o hk
    rw [ha] at e
    cases e
    refine core (fun _ => none) (fun _ => .inl rfl) (.inr ⟨_, vs.toArray, _, hk, rfl, rfl, rfl, by rw [List.size_toArray, lenV]; exact hl, by simpa using rv⟩) (fun b u z => by have z' : (none : Option HO) = some u := z; cases z') (fun b z => absurd rfl z) fun z => absurd rfl z
  | none =>
    refine core (fun b => if b = a then some (.frz { cls := .type "list", data := .seq vs.toArray } (.lst (ns.map V.int))) else none) (fun b => ?_) (.inl (.inr ⟨{ cls := .type "list", data := .seq vs.toArray }, if_pos rfl⟩)) (fun b u z => ?_) (fun b z => ?_) fun _ => hk
    . by_cases hb : b = a
      . exact .inr ⟨_, _, if_pos hb⟩
      . exact .inl (if_neg hb)
    . by_cases hb : b = a
      . have z' := (if_pos hb).symm.trans z
        cases z'
        subst hb
        exact ⟨ha, by rw [List.length_map]; exact hl, vs, _, rv, ha⟩
      . have z' := (if_neg hb).symm.trans z
        cases z'
    . by_cases hb : b = a
      . exact hb
      . exact absurd (if_neg hb) z
end L2
namespace L2
open PySem PySem.Spec PyProof.Rows
theorem walk_of {l : PySem.W.OpenLaw} {n k : Nat} {q : Program} {loose : List Str} {XP : (Str -> Option Value) -> Heap -> Prop} {YP : World -> Heap -> Prop} {d : DefRec} {K : Params -> PySem.W.Frag} {CX : World -> CXT} {sp : World -> Sp} {x : Str}
    (hn : l.most = some n) (hn2 : n <= sizeLine) (hdf : d.params.defaults = []) (hr : Room k callerA)
    (hY : ∀ (w : World) (h : Heap), YP w h -> (K w.params).In h)
    (F : ∀ (w : World) (mg : Str -> Option Value) (fa : Addr) (h : Heap), (K w.params).In h -> h.Ns mainGlobals mg -> mg d.name = some (.ref fa) ->
      ∃ fd : FuncData, (∀ (s : Shared) (u : Value), BindsTo s fd ⟨[u], []⟩ [(x, u)]) /\
        ∀ base : Heap, (K w.params).In base -> base.Ns mainGlobals mg -> FnOk l.prog w (K w.params) mg base (CX w) k fa fd [x] (sp w))
    (hsp : ∀ (w : World) (H : Hp) (a : Addr) (ns : List Int), ns.length <= n -> Only H -> SqL (K w.params) H a (ns.map V.int) -> sp w [.ref a] H (fun v _ => v = .bl true) fun _ _ _ => False)
    (hCX : ∀ (w : World) (H : Hp) (s : Shared) (e : Value) (s' : Shared), CX w [] H s (fun _ _ _ => False) e s' -> False) :
    PySem.W.WalkO q loose XP YP l.row.toRowW d [] (fun f vs => PySem.call f vs) := by
  refine Att.attach_call hn hdf fun w s₀ s₁ mg mb fa o pm cd doc a vs ns G Y ho hd hcd hmg hobj hints hlen hg => ?_
  have KX := hY w _ Y
  obtain ⟨fd, hb, hF⟩ := F w mg fa _ KX G.T.g hmg
  exact law_call KX G.T.g G.T.b G.T.builtins G.T.nolimit hg hobj hints (Nat.le_trans hlen hn2) hr hF hb (fun H hO hS => hsp w H a ns hlen hO hS) fun H e s' => hCX w H s₁ e s'
end L2
namespace L2
open PySem PySem.Spec PyProof.Rows
def defArgs (s : Stmt) : Arguments := match s with
  | .FunctionDef _ a _ _ _ _ _ _ _ _ => a
  | _ => { posonlyargs := [], args := [], vararg := none, kwonlyargs := [], kw_defaults := [], kwarg := none, defaults := [] }
def defBody (s : Stmt) : List Stmt := match s with
  | .FunctionDef _ _ b _ _ _ _ _ _ _ => b
  | _ => []
def defScope (s : Stmt) : Scope := match s with
  | .FunctionDef _ _ _ _ _ _ sc _ _ _ => sc
  | _ => { kind := .function, names := [], isGenerator := false, isCoroutine := false }
abbrev CX0 : CXT := fun _ _ _ _ _ _ => False
abbrev E0 : XK := fun _ _ _ => False
theorem pass0 {X : Cx} : Passes CX0 X E0 := fun _ _ _ _ _ _ _ h => h.elim
structure Fun (K : PySem.W.Frag) (x qual : Str) (st : Stmt) (f : Addr) (fd : FuncData) : Prop where
  ex : ∃ (oc : Value) (od : Option Addr) (kV doc pm : Value) (an : Option Addr) (cdv ct : Value) (osl : Array (Option Value)),
    fd = PySem.W.fnOf x qual (defArgs st) (defBody st) (defScope st) .none kV doc pm an cdv ct /\ K.lookup f = some ⟨oc, od, .func fd, osl⟩ /\ PySem.W.codeIn K cdv qual = true
  kp : PySem.W.keepIn K (.ref f) = true
section
variable {P : Program} {w : World} {K : PySem.W.Frag} {mg : Str -> Option Value} {base : Heap}
theorem Fun.ok {x qual : Str} {st : Stmt} {f : Addr} {fd : FuncData} {N ps : List Str} {k : Nat} {sp : Sp} (F : Fun K x qual st f fd) (S : FnScope N ps (defScope st)) (len : ∀ vs H Q E, sp vs H Q E -> vs.length = ps.length)
    (hbody : ∀ (cdv : Value) (A : Around) (outer : List Env) (s : Shared) (H : Hp) (vs : List V) (Q : VK) (E : XK), Room k (A.deeper (envOfC qual (defScope st) s.heap.objs.size f cdv)) -> sp vs H Q E ->
      ∃ t, PSs (cxOf CX0 P w K mg base N qual (defScope st) f cdv A outer s H E).nox (defBody st) t /\ t { nx := fun _ H' => Q .non H', rt := Q } (start N vs) H) : FnOk P w K mg base CX0 (k + 1) f fd ps sp := by
  obtain ⟨oc, od, kV, doc, pm, an, cdv, ct, osl, rfl, lk, hcd⟩ := F.ex
  refine fn_of lk hcd S len fun A outer s H vs Q E hr hsp => ?_
  obtain ⟨t, h, q⟩ := hbody cdv A outer s H vs Q E hr hsp
  exact ⟨t, h.nox, q⟩
theorem Fun.binds {x qual : Str} {st : Stmt} {f : Addr} {fd : FuncData} {ps : List Str} (F : Fun K x qual st f fd)
    (h : ∀ (kV doc pm : Value) (an : Option Addr) (cdv ct : Value) (us : List Value), us.length = ps.length -> bindArgs (PySem.W.fnOf x qual (defArgs st) (defBody st) (defScope st) .none kV doc pm an cdv ct) ⟨us, []⟩ = pure (ps.zip us)) : Binds K fd ps [] := by
  obtain ⟨oc, od, kV, doc, pm, an, cdv, ct, osl, rfl, lk, hcd⟩ := F.ex
  exact .all (h kV doc pm an cdv ct)
theorem fun_mk {x qual : Str} {st : Stmt} {f : Addr} {oc : Value} {od an : Option Addr} {osl : Array (Option Value)} {kV doc pm cdv ct : Value} (l : K.lookup f = some ⟨oc, od, .func (PySem.W.fnOf x qual (defArgs st) (defBody st) (defScope st) .none kV doc pm an cdv ct), osl⟩)
    (c : PySem.W.codeIn K cdv qual = true) (k : PySem.W.keepIn K (.ref f) = true) : Fun K x qual st f (PySem.W.fnOf x qual (defArgs st) (defBody st) (defScope st) .none kV doc pm an cdv ct) := ⟨⟨oc, od, kV, doc, pm, an, cdv, ct, osl, rfl, l, c⟩, k⟩
end
section
variable {X : Cx}
theorem pv (i : Nat) {x : Str} {pos : Pos} (hN : X.N[i]? = some x := by rfl) (hv : Vis X.env.scope x := by first | exact Or.inl rfl | exact Or.inr (Or.inl rfl) | exact Or.inr (Or.inr rfl)) (hd : (x == ("__debug__" : Str)) = false := by decide)
    (hcd : (x == ("__classdict__" : Str)) = false := by decide) : PE X (.Name x pos) (tVar i) := pe_var hN hv hd hcd
end
theorem ite2 {c A B : Prop} [Decidable c] (h1 : c -> A) (h2 : ¬ c -> B) : if c then A else B := by
  by_cases h : c
  . rw [if_pos h]
    exact h1 h
  . rw [if_neg h]
    exact h2 h
def Same (H H' : Hp) : Prop := ∀ b o, H b = some o -> H' b = some o
theorem Same.refl (H : Hp) : Same H H := fun _ _ h => h
theorem Same.trans {H H1 H2 : Hp} (a : Same H H1) (b : Same H1 H2) : Same H H2 := fun c o h => b c o (a c o h)
theorem Same.seq {K : PySem.W.Frag} {H H' : Hp} {a : Addr} {xs : List V} (e : Same H H') (h : SqL K H a xs) : SqL K H' a xs := by
  rcases h with (h | ⟨o, h⟩) | h
  . exact .inl (.inl (e _ _ h))
  . exact .inl (.inr ⟨o, e _ _ h⟩)
  . exact .inr h
end L2
set_option Elab.async false
set_option linter.all false
set_option maxRecDepth 100000
set_option maxHeartbeats 4000000
namespace L2
open PySem PySem.Spec PyProof.Rows
section
variable {κ : Type} [DecidableEq κ]
def valV (kvs : List (κ × V)) (k : κ) : Option V := (kvs.find? fun kv => decide (kv.1 = k)).map (·.2)
def putK (kvs : List (κ × V)) (k : κ) (v : V) : List (κ × V) :=
  if (kvs.any fun kv => decide (kv.1 = k)) = true then kvs.map (fun kv => if kv.1 = k then (kv.1, v) else kv) else kvs ++ [(k, v)]
theorem valV_pos {p : κ × V} {r : List (κ × V)} {k : κ} (e : p.1 = k) : valV (p :: r) k = some p.2 := by simp [valV, List.find?_cons, e]
theorem valV_neg {p : κ × V} {r : List (κ × V)} {k : κ} (e : ¬ p.1 = k) : valV (p :: r) k = valV r k := by simp [valV, List.find?_cons, e]
theorem valV_any (k : κ) : ∀ kvs : List (κ × V), (kvs.any fun kv => decide (kv.1 = k)) = (valV kvs k).isSome
  | [] => rfl
  | p :: r => by
    rw [List.any_cons]
    by_cases e : p.1 = k
    . simp only [valV_pos e, decide_eq_true e, Bool.true_or, Option.isSome_some]
    . rw [valV_neg e, decide_eq_false e, Bool.false_or]; exact valV_any k r
theorem length_putK (kvs : List (κ × V)) (k : κ) (v : V) : (putK kvs k v).length <= kvs.length + 1 := by
  unfold putK
  split
  . rw [List.length_map]; omega
  . rw [List.length_append, List.length_cons, List.length_nil]; omega
theorem putK_new {kvs : List (κ × V)} {k : κ} (v : V) (h : valV kvs k = none) : putK kvs k v = kvs ++ [(k, v)] := by
  unfold putK
  rw [valV_any, h]
  exact if_neg (by decide)
theorem RelO.isSome_eq {o : Option V} {u : Option Value} (r : RelO o u) : o.isSome = u.isSome := by
  cases o with
  | none => cases u with
    | none => rfl
    | some _ => exact (show False from r).elim
  | some _ => cases u with
    | none => exact (show False from r).elim
    | some _ => rfl
theorem KV.val {kvs : List (κ × V)} {vs : List (κ × Value)} (r : KV kvs vs) (k : κ) : RelO (valV kvs k) (valueAt vs k) := by
  unfold KV at r
  induction r with
  | nil => exact True.intro
  | @cons p q ps qs h t ih =>
    obtain ⟨h1, h2⟩ := h
    by_cases e : p.1 = k
    . have e' : q.1 = k := h1.symm.trans e
      have b : valueAt (q :: qs) k = some q.2 := by simp [valueAt, List.find?_cons, e']
      rw [valV_pos e, b]; exact h2
    . have e' : ¬ q.1 = k := fun z => e (h1.trans z)
      have b : valueAt (q :: qs) k = valueAt qs k := by simp [valueAt, List.find?_cons, e']
      rw [valV_neg e, b]; exact ih
theorem KV.any {kvs : List (κ × V)} {vs : List (κ × Value)} (r : KV kvs vs) (k : κ) : (kvs.any fun kv => decide (kv.1 = k)) = vs.any fun kv => decide (kv.1 = k) := by
  unfold KV at r
  induction r with
  | nil => rfl
  | cons h t ih => rw [List.any_cons, List.any_cons, ih, h.1]
theorem KV.repl {kvs : List (κ × V)} {vs : List (κ × Value)} (r : KV kvs vs) (k : κ) {y : V} {u : Value} (ry : RelV y u) :
    KV (kvs.map fun kv => if kv.1 = k then (kv.1, y) else kv) (vs.map fun kv => if kv.1 = k then (kv.1, u) else kv) := by
  unfold KV at r ⊢
  induction r with
  | nil => exact .nil
  | @cons p q ps qs h t ih =>
    rw [List.map_cons, List.map_cons]
    refine .cons ?_ ih
    obtain ⟨h1, h2⟩ := h
    by_cases e : p.1 = k
    . rw [if_pos e, if_pos (h1.symm.trans e)]; exact ⟨h1, ry⟩
    . rw [if_neg e, if_neg (fun z => e (h1.trans z))]; exact ⟨h1, h2⟩
theorem KV.put {kvs : List (κ × V)} {vs : List (κ × Value)} (r : KV kvs vs) (k : κ) {y : V} {u : Value} (ry : RelV y u) : KV (putK kvs k y) (stored vs k u) := by
  unfold putK stored
  rw [r.any k]
  by_cases e : (vs.any fun kv => decide (kv.1 = k)) = true
  . rw [if_pos e, if_pos e]; exact r.repl k ry
  . rw [if_neg e, if_neg e]; exact Paired.snoc r ⟨rfl, ry⟩
theorem KV.length {kvs : List (κ × V)} {vs : List (κ × Value)} (r : KV kvs vs) : kvs.length = vs.length := Paired.length r
end
theorem kV_is {P : Program} {w : World} {k : Key} {u : Value} (r : RelV (kV k) u) : (mixKind P w).is k u = true := by
  cases k with
  | inl i => obtain ⟨t, e⟩ := (show ∃ t, u = Value.int i t from r); subst e; exact mixKind_int P w i t
  | inr x => obtain ⟨t, e⟩ := (show ∃ t, u = Value.str x t from r); subst e; exact mixKind_str P w x t
theorem items_are {P : Program} {w : World} : ∀ {ks : List Key} {us : List Value}, Vals (ks.map kV) us -> ItemsAre (mixKind P w) ks us
  | [], _, r => by rw [List.map_nil] at r; cases r; exact .nil
  | k :: ks, _, r => by
    rw [List.map_cons] at r
    cases r with
    | cons h t => exact .cons (kV_is h) (items_are t)
abbrev KT (H : Hp) : List (List Key × V) -> List (List Key × Addr × Value) -> Prop := Paired fun p q => p.1 = q.1 /\ H q.2.1 = some (.tup (p.1.map kV)) /\ RelV p.2 q.2.2
theorem KT.val {H : Hp} {kvs : List (List Key × V)} {xs : List (List Key × Addr × Value)} (r : KT H kvs xs) (k : List Key) : RelO (valV kvs k) ((atKey xs k).map (·.2)) := by
  induction r with
  | nil => exact True.intro
  | @cons p q ps qs h t ih =>
    obtain ⟨h1, _, h2⟩ := h
    by_cases e : p.1 = k
    . have e' : q.1 = k := h1.symm.trans e
      have b : atKey (q :: qs) k = some q.2 := by simp [atKey, List.find?_cons, e']
      rw [valV_pos e, b]; exact h2
    . have e' : ¬ q.1 = k := fun z => e (h1.trans z)
      have b : atKey (q :: qs) k = atKey qs k := by simp [atKey, List.find?_cons, e']
      rw [valV_neg e, b]; exact ih
theorem KT.repl {H : Hp} {kvs : List (List Key × V)} {xs : List (List Key × Addr × Value)} (r : KT H kvs xs) (k : List Key) {y : V} {u : Value} (ry : RelV y u) :
    KT H (kvs.map fun kv => if kv.1 = k then (kv.1, y) else kv) (xs.map (putAt k u)) := by
  induction r with
  | nil => exact .nil
  | @cons p q ps qs h t ih =>
    rw [List.map_cons, List.map_cons]
    refine .cons ?_ ih
    obtain ⟨h1, h2, h3⟩ := h
    unfold putAt
    by_cases e : p.1 = k
    . rw [if_pos e, if_pos (h1.symm.trans e)]; exact ⟨h1, h2, ry⟩
    . rw [if_neg e, if_neg (fun z => e (h1.trans z))]; exact ⟨h1, h2, h3⟩
theorem KT.put {H : Hp} {kvs : List (List Key × V)} {xs : List (List Key × Addr × Value)} (r : KT H kvs xs) (k : List Key) {b : Addr} {y : V} {u : Value} (hb : H b = some (.tup (k.map kV))) (ry : RelV y u) :
    KT H (putK kvs k y) (storedH xs k b u) := by
  have e : (kvs.any fun kv => decide (kv.1 = k)) = (atKey xs k).isSome := by
    rw [valV_any, (r.val k).isSome_eq, Option.isSome_map]
  unfold putK storedH
  rw [e]
  by_cases q : (atKey xs k).isSome = true
  . rw [if_pos q, if_pos q]; exact r.repl k ry
  . rw [if_neg q, if_neg q]; exact Paired.snoc r ⟨rfl, hb, ry⟩
theorem KT.keeps {H H' : Hp} {kvs : List (List Key × V)} {xs : List (List Key × Addr × Value)} (r : KT H kvs xs) (ht : ∀ b ys, H b = some (.tup ys) -> H' b = some (.tup ys)) : KT H' kvs xs :=
  Paired.mapP r fun _ _ z => ⟨z.1, ht _ _ z.2.1, z.2.2⟩
section
variable {P : Program} {w : World} {H : Hp} {h : Heap} {a : Addr}
theorem rd_of {u : HO} (ok : HOk P w H h) (e : Rd H a u) : ObjOk P w H h a u := e.ok ok
theorem dk_rd {kvs : List (Key × V)} (ok : HOk P w H h) (e : Rd H a (.dK kvs)) : kvs.length <= sizeLine /\ (a == sysModules) = false /\ ∃ vs, KV kvs vs /\ h.DictOf (mixKind P w) a vs :=
  show ObjOk P w H h a (.dK kvs) from rd_of ok e
theorem dk_of {kvs : List (Key × V)} (ok : HOk P w H h) (e : H a = some (.dK kvs)) : kvs.length <= sizeLine /\ (a == sysModules) = false /\ ∃ vs, KV kvs vs /\ h.DictOf (mixKind P w) a vs := dk_rd ok (.inl e)
theorem key_of {ks : List Key} (ok : HOk P w H h) (e : H a = some (.tup (ks.map kV))) : (tupleKind (mixKind P w)).is h ks a := by
  obtain ⟨_, its, r, o, h1, h2, n, h3⟩ := (show ObjOk P w H h a (.tup (ks.map kV)) from ok a _ e)
  exact ⟨o, its.toArray, n, h1, h2, h3, by simpa using items_are r⟩
theorem dt_rd {kvs : List (List Key × V)} (ok : HOk P w H h) (e : Rd H a (.dT kvs)) : kvs.length <= sizeLine /\ (a == sysModules) = false /\
    ∃ xs, KT H kvs xs /\ h.DictOfH (tupleKind (mixKind P w)) a xs := by
  obtain ⟨z, y, xs, r, o, es, ep, h1, h2, h3, h4, h5⟩ := (show ObjOk P w H h a (.dT kvs) from rd_of ok e)
  refine ⟨z, y, xs, r, o, es, ep, h1, h2, h3, h4, fun x hx => ?_, h5⟩
  have all : ∀ {l : List (List Key × V)} {m : List (List Key × Addr × Value)}, KT H l m -> ∀ x ∈ m, (tupleKind (mixKind P w)).is h x.1 x.2.1 := by
    intro l m q
    induction q with
    | nil => intro x hx; exact nomatch hx
    | @cons p q ps qs hq t ih =>
      intro x hx
      rcases List.mem_cons.mp hx with e | hx
      . subst e
        exact key_of ok (by rw [<- hq.1]; exact hq.2.1)
      . exact ih x hx
  exact all r x hx
theorem dt_of {kvs : List (List Key × V)} (ok : HOk P w H h) (e : H a = some (.dT kvs)) : kvs.length <= sizeLine /\ (a == sysModules) = false /\
    ∃ xs, KT H kvs xs /\ h.DictOfH (tupleKind (mixKind P w)) a xs := dt_rd ok (.inl e)
end
def DGet (H : Hp) (a : Addr) (y : V) (r : Option V) : Prop :=
  (∃ kvs k, Rd H a (.dK kvs) /\ y = kV k /\ r = valV kvs k) \/ ∃ kvs k b, Rd H a (.dT kvs) /\ y = .ref b /\ H b = some (.tup (k.map kV)) /\ r = valV kvs k
def DPut (H : Hp) (a : Addr) (y v : V) (H' : Hp) : Prop :=
  (∃ kvs k, H a = some (.dK kvs) /\ y = kV k /\ kvs.length < sizeLine /\ H' = upd H a (.dK (putK kvs k v))) \/
  ∃ kvs k b, H a = some (.dT kvs) /\ y = .ref b /\ H b = some (.tup (k.map kV)) /\ kvs.length < sizeLine /\ H' = upd H a (.dT (putK kvs k v))
section
variable {X : Cx} {pins : List (Addr × Obj)} {σ : St} {H : Hp} {s : Shared} {a : Addr} {y v : V} {u r : Value} {o : Option V} {A : Around} {E : Value -> Shared -> Prop}
theorem Inv.big (I : Inv X pins σ H s) : sysModules < s.heap.objs.size := by
  have h : mainGlobals < s.heap.objs.size := (I.mod.glob.keeps I.bk).lt
  exact Nat.lt_trans (by decide) h
theorem d_getItem {Q : Value -> Shared -> Prop} (hu : A.units + 1 < cLine) (I : Inv X pins σ H s) (g : DGet H a y (some v)) (ry : RelV y u) (h : ∀ w' s', Inv X pins σ H s' -> RelV v w' -> Q w' s') :
    wpAny (model X.prog X.w) A (getItem (.ref a) u) Q E s := by
  rcases g with ⟨kvs, k, e, ey, l⟩ | ⟨kvs, k, b, e, ey, eb, l⟩
  . subst ey
    obtain ⟨z, hd, vs, rel, dd⟩ := dk_rd I.hok e
    obtain ⟨w', hw, rw'⟩ := RelO.some_of (v := v) (o := valueAt vs k) (by rw [l]; exact rel.val k)
    exact wpAny_getItem_of (kV_is ry) dd.mapOf hw (h w' _ (I.tok _) rw')
  . subst ey
    cases (show u = Value.ref b from ry)
    obtain ⟨z, hd, xs, rel, dd⟩ := dt_rd I.hok e
    obtain ⟨w', hw, rw'⟩ := RelO.some_of (v := v) (o := (atKey xs k).map (·.2)) (by rw [l]; exact rel.val k)
    obtain ⟨p, hp, hp2⟩ := Option.map_eq_some_iff.mp hw
    refine wpAny_getItem_heap (tupleKind_room_in1 hu) (key_of I.hok eb) dd hp ?_
    rw [hp2]
    exact h w' _ (I.tok _) rw'
theorem d_notIn {Q : Value -> Shared -> Prop} (hu : A.units + 1 < cLine) (I : Inv X pins σ H s) (g : DGet H a y o) (ry : RelV y u) (h : ∀ s', Inv X pins σ H s' -> Q (.bool (!o.isSome)) s') :
    wpAny (model X.prog X.w) A (compareOp .NotIn u (.ref a)) Q E s := by
  rcases g with ⟨kvs, k, e, ey, l⟩ | ⟨kvs, k, b, e, ey, eb, l⟩
  . subst ey
    obtain ⟨z, hd, vs, rel, dd⟩ := dk_rd I.hok e
    refine wpAny_notIn_of (kV_is ry) hd dd.mapOf ?_
    rw [<- (rel.val k).isSome_eq, <- l]
    exact h _ (I.tok _)
  . subst ey
    cases (show u = Value.ref b from ry)
    obtain ⟨z, hd, xs, rel, dd⟩ := dt_rd I.hok e
    refine wpAny_notIn_heap (tupleKind_room_in1 hu) (key_of I.hok eb) hd dd ?_
    have q := (rel.val k).isSome_eq
    rw [Option.isSome_map] at q
    rw [<- q, <- l]
    exact h _ (I.tok _)
theorem d_write {h' : Heap} {t' : Nat} {ob : HO} (I : Inv X pins σ H s) (mu : Mut (H a)) (hs : Heap.SameBut a s.heap h') (he : ∃ q, h'.get? a = some q) (new : ObjOk X.prog X.w (upd H a ob) h' a ob) :
    Inv X pins σ (upd H a ob) { s with heap := h', toks := t' } :=
  I.write (x := a) (e := a) mu (.inl rfl) (fun b q hb z => (hs.2 b hb).trans z) he new
theorem dk_new {P : Program} {w : World} {H' : Hp} {h' : Heap} {kvs : List (Key × V)} {vs : List (Key × Value)} (z : kvs.length <= sizeLine) (hd : (a == sysModules) = false) (rel : KV kvs vs) (dd : h'.DictOf (mixKind P w) a vs) :
    ObjOk P w H' h' a (.dK kvs) := ⟨z, hd, vs, rel, dd⟩
theorem d_setItem {H' : Hp} {Q : Unit -> Shared -> Prop} (hu : A.units + 1 < cLine) (I : Inv X pins σ H s) (g : DPut H a y v H') (ry : RelV y u) (rv : RelV v r) (h : ∀ s', Inv X pins σ H' s' -> Q () s') :
    wpAny (model X.prog X.w) A (setItem (.ref a) u r) Q E s := by
  rcases g with ⟨kvs, k, e, ey, l, eH⟩ | ⟨kvs, k, b, e, ey, eb, l, eH⟩
  . subst ey eH
    obtain ⟨z, hd, vs, rel, dd⟩ := dk_of I.hok e
    have hz : vs.length <= sizeLine := by rw [<- rel.length]; exact z
    have hl : (putK kvs k v).length <= sizeLine := by have := length_putK kvs k v; omega
    refine wpAny_setItem_pairs (hsz := hz) (kV_is ry) dd fun h' dd' hs => h _ ?_
    have he : ∃ q, h'.get? a = some q := let ⟨q, _, _, hq, _⟩ := dd'; ⟨q, hq⟩
    exact d_write I (by rw [e]; exact True.intro) hs he (dk_new hl hd (rel.put k rv) dd')
  . subst ey eH
    cases (show u = Value.ref b from ry)
    obtain ⟨z, hd, xs, rel, dd⟩ := dt_of I.hok e
    have hz : xs.length <= sizeLine := by rw [<- Paired.length rel]; exact z
    have hl : (putK kvs k v).length <= sizeLine := by have := length_putK kvs k v; omega
    refine wpAny_setItem_heap (hsz := hz) (tupleKind_room_in1 hu) (key_of I.hok eb) dd fun h' dd' hs => h _ ?_
    obtain ⟨q, es, ep, hq, h2, h3, h4, _, h5⟩ := dd'
    refine d_write I (by rw [e]; exact True.intro) hs ⟨q, hq⟩ ⟨hl, hd, _, (rel.put k eb rv).keeps fun c ys ec => ?_, q, es, ep, hq, h2, h3, h4, h5⟩
    rw [upd_ne (ne_of ec e (fun z => nomatch z))]
    exact ec
end
section
variable {X : Cx} {pins : List (Addr × Obj)} {σ : St} {H : Hp} {s : Shared} {a : Addr} {kvs : List (Key × V)} {k : Key} {u : Value} {A : Around} {E : Value -> Shared -> Prop}
end
def NoSl (i : Expr) : Prop := ∀ ov iv, subscripted i false ov iv = operate [ov, iv] (getItem ov iv)
theorem subD_of {prog : Program} {w : World} {A : Around} {E : Value -> Shared -> Prop} {s : Shared} {env : Env} {value slice : Expr} {pos : Pos} {T id : String} {Q : Value -> Shared -> Prop}
    (hl : typeLookup (.type T) "__getitem__" = pure (some (.builtin id))) (hs : NoSl slice)
    (h : wpAny (model prog w) A (eval value env) (fun o s₁ => wpAny (model prog w) A (eval slice env) (fun i s₂ => s₂.TypeIs o T /\ wpAny (model prog w) A (getItem o i) Q E s₂) E s₁) E s) :
    wpAny (model prog w) A (eval (.Subscript value slice pos) env) Q E s := by
  refine Subscript_ (wpAny_mono h (fun o s₁ h₁ => wpAny_mono h₁ (fun i s₂ h₂ => ?_) fun _ _ x => x) fun _ _ x => x)
  obtain ⟨hT, h₂⟩ := h₂
  unfold subscriptTail
  refine wpAny_bind ?_
  rw [getitemInPython_of_ne hT.not_modules]
  refine wpAny_bind (wpAny_specialOf hT hl ?_)
  have fin : wpAny (model prog w) A (subscripted slice false o i) (fun r s₃ => wpAny (model prog w) A (letTemporaryGo value o r >>= fun _ => pure r) Q E s₃) E s₂ := by
    rw [hs o i]
    exact wpAny_operating (wpAny_mono h₂ (fun r s₃ h₃ => wpAny_bind (wpAny_letTemporaryGo (wpAny_pure h₃))) fun _ _ x => x)
  first
    | exact wpAny_pure (wpAny_bind fin)
    | exact wpAny_bind (wpAny_pure (wpAny_bind fin))
    | exact wpAny_bind fin
theorem dict_typeIs {X : Cx} {pins : List (Addr × Obj)} {σ : St} {H : Hp} {s : Shared} {a : Addr} {y : V} {o : Option V} (I : Inv X pins σ H s) (g : DGet H a y o) : s.TypeIs (.ref a) "dict" := by
  rcases g with ⟨kvs, k, e, _, _⟩ | ⟨kvs, k, b, e, _, _, _⟩
  . obtain ⟨_, _, vs, _, dd⟩ := dk_rd I.hok e
    exact dd.typeIs
  . obtain ⟨_, _, xs, _, dd⟩ := dt_rd I.hok e
    exact dd.typeIs
section
variable {X : Cx} {o i e value : Expr} {pos pos' tpos : Pos} {td ty tv : TE}
end
theorem dk_empty {P : Program} {w : World} {H : Hp} (h : Heap) (hb : sysModules < h.objs.size) : ObjOk P w H (h.push { cls := .type "dict", data := .dict #[] }) h.objs.size (.dK []) :=
  ⟨Nat.zero_le _, beq_eq_false_iff_ne.mpr (Ne.symm (Nat.ne_of_lt hb)), [], .nil, Heap.DictOf.new h⟩
section
variable {X : Cx} {pos : Pos}
end
section
variable {X : Cx} {pins : List (Addr × Obj)} {σ : St} {H : Hp} {s : Shared} {a : Addr} {y d : V} {u r : Value} {o : Option V} {A : Around} {E : Value -> Shared -> Prop}
end
section
variable {X : Cx} {o e f : Expr} {apos cpos : Pos} {td ty tx : TE}
end
section
variable {X : Cx} {pins : List (Addr × Obj)} {σ : St} {H : Hp} {s : Shared} {a : Addr} {kvs : List (Key × V)} {A : Around} {E : Value -> Shared -> Prop}
end
section
variable {X : Cx} {pins : List (Addr × Obj)} {σ : St} {H : Hp} {s : Shared} {a : Addr} {y : V} {u : Value} {A : Around} {E : Value -> Shared -> Prop}
end
end L2
set_option Elab.async false
set_option linter.all false
set_option maxRecDepth 100000
set_option maxHeartbeats 4000000
namespace L2
open PySem PySem.Spec PyProof.Rows
def clOf (env : Env) : List (Str × NameKind) -> List (Str × Addr) -> List (Str × Addr)
  | [], acc => acc
  | (n, k) :: r, acc => if (k == .free) = true then clOf env r ((n, (env.cells.lookup n).getD 0) :: acc) else clOf env r acc
theorem closure_eq {env : Env} {scope : Scope} (h : ∀ p ∈ scope.names, p.2 = .free -> ∃ c, env.cells.lookup p.1 = some c) : closureFor scope env = pure (clOf env scope.names []) := by
  have go : ∀ (l : List (Str × NameKind)) (acc : List (Str × Addr)), (∀ p ∈ l, p.2 = .free -> ∃ c, env.cells.lookup p.1 = some c) ->
      (forIn l acc fun (x : Str × NameKind) (cs : List (Str × Addr)) => (if (x.2 == .free) = true then do let c <- cellOf env x.1; pure (ForInStep.yield ((x.1, c) :: cs)) else pure (ForInStep.yield cs) : Sem (ForInStep (List (Str × Addr))))) = (pure (clOf env l acc) : Sem (List (Str × Addr))) := by
    intro l
    induction l with
    | nil => intro acc _; rfl
    | cons p r ih =>
      intro acc hl
      obtain ⟨n, k⟩ := p
      rw [List.forIn_cons]
      by_cases hk : (k == .free) = true
      . obtain ⟨c, hc⟩ := hl (n, k) List.mem_cons_self (by simpa using hk)
        have e1 : cellOf env n = pure c := by unfold cellOf; rw [hc]
        have ih' := ih ((n, c) :: acc) fun q hq => hl q (List.mem_cons_of_mem _ hq)
        show ((if (k == .free) = true then do let c <- cellOf env n; pure (ForInStep.yield ((n, c) :: acc)) else pure (ForInStep.yield acc) : Sem _) >>= _) = _
        rw [if_pos hk, e1]
        show (forIn r ((n, c) :: acc) _ : Sem _) = _
        rw [clOf, if_pos hk, hc]
        exact ih'
      . have ih' := ih acc fun q hq => hl q (List.mem_cons_of_mem _ hq)
        show ((if (k == .free) = true then do let c <- cellOf env n; pure (ForInStep.yield ((n, c) :: acc)) else pure (ForInStep.yield acc) : Sem _) >>= _) = _
        rw [if_neg hk]
        show (forIn r acc _ : Sem _) = _
        rw [clOf, if_neg hk]
        exact ih'
  have e := go scope.names [] h
  unfold closureFor
  show (forIn scope.names [] _ >>= fun cs => pure cs : Sem _) = _
  have e2 : (forIn scope.names [] (fun (x : Str × NameKind) (r : List (Str × Addr)) => (match x with
      | (name, kind) => if (kind == .free) = true then do let c <- cellOf env name; pure (ForInStep.yield ((name, c) :: r)) else do pure PUnit.unit; pure (ForInStep.yield r) : Sem (ForInStep (List (Str × Addr)))))) = (pure (clOf env scope.names []) : Sem (List (Str × Addr))) := e
  exact congrArg (fun z => z >>= fun cs => pure cs) e2
theorem clOf_mem {env : Env} : ∀ (l : List (Str × NameKind)) (acc : List (Str × Addr)), (∀ p ∈ l, p.2 = .free -> ∃ c, env.cells.lookup p.1 = some c) -> (∀ q ∈ acc, env.cells.lookup q.1 = some q.2) -> ∀ q ∈ clOf env l acc, env.cells.lookup q.1 = some q.2
  | [], _, _, ha, q, hq => ha q hq
  | (n, k) :: r, acc, hl, ha, q, hq => by
    unfold clOf at hq
    by_cases hk : (k == .free) = true
    . rw [if_pos hk] at hq
      obtain ⟨c, hc⟩ := hl (n, k) List.mem_cons_self (by simpa using hk)
      refine clOf_mem r _ (fun p hp => hl p (List.mem_cons_of_mem _ hp)) (fun p hp => ?_) q hq
      rcases List.mem_cons.mp hp with rfl | hp
      . show env.cells.lookup n = some ((env.cells.lookup n).getD 0)
        rw [hc]; rfl
      . exact ha p hp
    . rw [if_neg hk] at hq
      exact clOf_mem r _ (fun p hp => hl p (List.mem_cons_of_mem _ hp)) ha q hq
theorem clOf_has {env : Env} : ∀ (l : List (Str × NameKind)) (acc : List (Str × Addr)) (x : Str), ((x, NameKind.free) ∈ l \/ ∃ c, (x, c) ∈ acc) -> ∃ c, (x, c) ∈ clOf env l acc
  | [], _, _, h => by
    rcases h with h | h
    . cases h
    . exact h
  | (n, k) :: r, acc, x, h => by
    unfold clOf
    by_cases hk : (k == .free) = true
    . rw [if_pos hk]
      refine clOf_has r _ x ?_
      rcases h with h | ⟨c, h⟩
      . rcases List.mem_cons.mp h with h | h
        . cases h
          exact .inr ⟨_, List.mem_cons_self⟩
        . exact .inl h
      . exact .inr ⟨c, List.mem_cons_of_mem _ h⟩
    . rw [if_neg hk]
      refine clOf_has r _ x ?_
      rcases h with h | h
      . rcases List.mem_cons.mp h with h | h
        . cases h
          exact absurd rfl hk
        . exact .inl h
      . exact .inr h
theorem lookup_some_of_mem {β : Type} : ∀ {l : List (Str × β)} {x : Str} {c : β}, (x, c) ∈ l -> ∃ c', l.lookup x = some c'
  | [], _, _, h => by cases h
  | (n, d) :: r, x, c, h => by
    by_cases hx : (x == n) = true
    . exact ⟨d, by rw [List.lookup_cons, hx]⟩
    . rcases List.mem_cons.mp h with h | h
      . cases h; exact absurd (beq_self_eq_true _) hx
      . obtain ⟨c', e⟩ := lookup_some_of_mem h
        exact ⟨c', by rw [List.lookup_cons]; simp only [Bool.not_eq_true] at hx; rw [hx]; exact e⟩
def relF (env : Env) : Str × NameKind -> Str × NameKind := fun (n, k) => if (k == NameKind.free && env.scope.kind == .function && env.kindOf n == some .cell) then (n, NameKind.cell) else (n, k)
theorem relF_yes {env : Env} {n : Str} {k : NameKind} (h : (k == NameKind.free && env.scope.kind == .function && env.kindOf n == some .cell) = true) : relF env (n, k) = (n, .cell) := if_pos h
theorem relF_no {env : Env} {n : Str} {k : NameKind} (h : ¬ (k == NameKind.free && env.scope.kind == .function && env.kindOf n == some .cell) = true) : relF env (n, k) = (n, k) := if_neg h
theorem relabel_kind {env : Env} : ∀ {names : List (Str × NameKind)} {x : Str} {k : NameKind}, (∀ y ∈ names, y.2 ≠ .cell) ->
    (names.map (relF env)).lookup x = some k -> (k = .cell \/ k = .free) -> (x, NameKind.free) ∈ names
  | [], _, _, _, h, _ => by simp at h
  | (n, k') :: r, x, k, hc, h, hk => by
    have ih := @relabel_kind env r x k (fun y hy => hc y (List.mem_cons_of_mem _ hy))
    rw [List.map_cons] at h
    by_cases hb : (k' == NameKind.free && env.scope.kind == .function && env.kindOf n == some .cell) = true
    . rw [relF_yes hb, List.lookup_cons] at h
      cases hx : x == n with
      | true =>
        have e : x = n := by simpa using hx
        subst e
        have e2 : k' = .free := by
          simp only [Bool.and_eq_true] at hb
          simpa using hb.1.1
        subst e2
        exact List.mem_cons_self
      | false =>
        rw [hx] at h
        exact List.mem_cons_of_mem _ (ih h hk)
    . rw [relF_no hb, List.lookup_cons] at h
      cases hx : x == n with
      | true =>
        rw [hx] at h
        have e : x = n := by simpa using hx
        subst e
        have e2 : k' = k := Option.some.inj h
        subst e2
        rcases hk with rfl | rfl
        . exact absurd rfl (hc _ List.mem_cons_self)
        . exact List.mem_cons_self
      | false =>
        rw [hx] at h
        exact List.mem_cons_of_mem _ (ih h hk)
theorem relabel_free {env : Env} : ∀ {names : List (Str × NameKind)} {x : Str}, names.lookup x = some .free ->
    ∃ k, (k = NameKind.cell \/ k = NameKind.free) /\ (names.map (relF env)).lookup x = some k
  | [], _, h => by simp at h
  | (n, k') :: r, x, h => by
    have ih := @relabel_free env r x
    rw [List.lookup_cons] at h
    rw [List.map_cons]
    cases hx : x == n with
    | true =>
      rw [hx] at h
      have e2 : k' = .free := Option.some.inj h
      subst e2
      by_cases hb : ((NameKind.free : NameKind) == NameKind.free && env.scope.kind == .function && env.kindOf n == some .cell) = true
      . exact ⟨.cell, .inl rfl, by rw [relF_yes hb, List.lookup_cons, hx]⟩
      . exact ⟨.free, .inr rfl, by rw [relF_no hb, List.lookup_cons, hx]⟩
    | false =>
      rw [hx] at h
      obtain ⟨k, hk, e⟩ := ih h
      refine ⟨k, hk, ?_⟩
      by_cases hb : (k' == NameKind.free && env.scope.kind == .function && env.kindOf n == some .cell) = true
      . rw [relF_yes hb, List.lookup_cons, hx]; exact e
      . rw [relF_no hb, List.lookup_cons, hx]; exact e
end L2
set_option Elab.async false
set_option linter.all false
set_option maxRecDepth 100000
set_option maxHeartbeats 4000000
namespace L2
open PySem PySem.Spec PyProof.Rows
section
variable {prog : Program} {w : World} {A : Around} {R : Result -> Shared -> Prop} {s : Shared}
abbrev cpW (prog : Program) (w : World) (A : Around) (R : Result -> Shared -> Prop) (env : Env) {α : Type} (m : Sem α) (Q : α -> Shared -> Prop) : Shared -> Prop := wpAny (model prog w) A m Q (notedBy (model prog w) A env fun e t => R (.error e) t)
theorem compLoop_gen {elt target iter : Expr} {ifs : List Expr} {scope : Scope} {pos : Pos} {it acc : Value} {env : Env} (I : Nat -> Shared -> Prop)
    (turn : ∀ n s, I n s -> cpW prog w A R env (pyNext it) (fun r s => match r with
      | none => R (.ok .next) s
      | some v => cpW prog w A R env (letOwnedTupleGo target it v) (fun _ => cpW prog w A R env (assign target env v) fun _ => cpW prog w A R env (forIn ifs true fun c r => if r = true then do let ok <- isTrue c env (eval c env); pure (ForInStep.yield ok) else pure (ForInStep.yield r)) fun ok s =>
          if ok = true then cpW prog w A R env (eval elt env) (fun x => cpW prog w A R env (call (.builtin "list.append") [acc, x]) fun _ t => ∃ m, m < n /\ I m t) s else ∃ m, m < n /\ I m s) s) s)
    (n : Nat) (h : I n s) : codeAny (model prog w) A (.compLoop (.ListComp elt [⟨target, iter, ifs, 0⟩] scope pos) 0 it acc env) R s := by
  have mono : ∀ {α β : Type} {m : Sem α} {f : α -> Sem β} {Q : α -> Shared -> Prop} {Q' : β -> Shared -> Prop} {s : Shared}, cpW prog w A R env m Q s -> (∀ a t, Q a t -> cpW prog w A R env (f a) Q' t) -> cpW prog w A R env (m >>= f) Q' s := fun h k => wpAny_bind (wpAny_mono h k fun _ _ e => e)
  refine codeAny_loop rfl I (fun n s hI => wpAny_noted ?_) n h
  rw [compTurn_list]
  refine wpAny_bind (wpAny_standAt (mono (turn n s hI) fun r s1 h1 => ?_))
  cases r with
  | none => exact wpAny_pure h1
  | some v =>
    refine mono h1 fun _ _ h2 => mono h2 fun _ _ h3 => mono h3 fun ok s4 h4 => ?_
    cases ok with
    | false => exact wpAny_pure ⟨rfl, h4⟩
    | true => exact wpAny_bind (mono h4 fun _ _ h5 => mono h5 fun _ _ h6 => wpAny_pure (wpAny_pure ⟨rfl, h6⟩))
end
abbrev Cx.blk (X : Cx) (N : List Str) (sc : Scope) (C : Addr) (s₀ : Shared) (H₀ : Hp) (ex : List Addr) : Cx :=
  { X with N := N, env := compEnvC sc (clOf X.env sc.names []) C X.env, outer := X.stack, s₀ := s₀, H₀ := H₀, ex := ex, fn := fun _ => false, pn := [], xe := fun _ _ => False }
structure BlkSc (X : Cx) (sc : Scope) : Prop where
  kind : sc.kind = .function
  nocell : ∀ y ∈ sc.names, y.2 ≠ .cell
  loc : ∀ y ∈ sc.names, y.2 = .local -> sc.names.lookup y.1 = some .local
  free : ∀ y ∈ sc.names, y.2 = .free -> X.env.kindOf y.1 = some .cell \/ X.env.kindOf y.1 = some .free
abbrev Caps := List (Str × Option Nat)
def Caps.names (c : Caps) : List Str := c.map (·.1)
def Caps.st (c : Caps) (σ : St) : St := c.map fun p => p.2.bind fun j => (σ[j]?).join
def CapsOk (N : List Str) (sc : Scope) : Caps -> Prop
  | [] => True
  | (_, none) :: r => CapsOk N sc r
  | (x, some j) :: r => (N[j]? = some x /\ sc.names.lookup x = some .free) /\ CapsOk N sc r
theorem CapsOk.get {N : List Str} {sc : Scope} : ∀ {c : Caps} {i : Nat} {x : Str} {j : Nat}, CapsOk N sc c -> c[i]? = some (x, some j) -> N[j]? = some x /\ sc.names.lookup x = some .free
  | [], _, _, _, _, h => by simp at h
  | (y, none) :: r, 0, x, j, _, h => by simp at h
  | (y, none) :: r, i + 1, x, j, ok, h => CapsOk.get (c := r) (i := i) ok (by simpa using h)
  | (y, some k) :: r, 0, x, j, ok, h => by
    simp only [List.getElem?_cons_zero, Option.some.injEq, Prod.mk.injEq] at h
    obtain ⟨rfl, rfl⟩ := h
    exact ok.1
  | (y, some k) :: r, i + 1, x, j, ok, h => CapsOk.get (c := r) (i := i) ok.2 (by simpa using h)
section
variable {X : Cx} {pins : List (Addr × Obj)} {σ : St} {H : Hp} {s : Shared} {sc : Scope} {fp : List Addr}
theorem blk_cells (I : Inv X pins σ H s) (S : BlkSc X sc) : ∀ p ∈ sc.names, p.2 = .free -> ∃ c, X.env.cells.lookup p.1 = some c := fun p hp e => I.ok.has p.1 (S.free p hp e)
theorem blk_lookup (I : Inv X pins σ H s) (S : BlkSc X sc) {x : Str} {c : Addr} (h : (clOf X.env sc.names []).lookup x = some c) : X.env.cells.lookup x = some c :=
  clOf_mem sc.names [] (blk_cells I S) (fun q hq => by cases hq) (x, c) (PySem.mem_of_lookup h)
theorem blk_ok {N : List Str} {C : Addr} (I : Inv X pins σ H s) (S : BlkSc X sc) (hC : s.heap.objs.size <= C) (hf : ∀ b ∈ fp, FpOk X pins H b) (ho : ∀ b ∈ fp, ∃ o, s.heap.get? b = some o) : (X.blk N sc C s H fp).Ok where
  mod := I.ok.mod
  kind := S.kind
  glob := I.ok.glob
  blt := I.ok.blt
  above := hC
  inj := fun x y c h1 h2 => I.ok.inj x y c (blk_lookup I S h1) (blk_lookup I S h2)
  has := fun x hx => by
    have hx' : (x, NameKind.free) ∈ sc.names := by
      rcases hx with hx | hx
      . exact relabel_kind (env := X.env) S.nocell hx (.inl rfl)
      . exact relabel_kind (env := X.env) S.nocell hx (.inr rfl)
    obtain ⟨c, hc⟩ := clOf_has (env := X.env) sc.names [] x (.inl hx')
    exact lookup_some_of_mem hc
  cab := fun x c h => absurd (show false = true from h) Bool.false_ne_true
  hd := I.ok.hd
  frames := I.ok.frames
  stk := .inl rfl
  exf := fun b hb => by
    obtain ⟨o, ho⟩ := ho b hb
    refine ⟨Nat.ne_of_lt (Nat.lt_of_lt_of_le (Heap.lt_size ho) hC), fun x c h => (hf b hb).2.2.2.2.1 x c (blk_lookup I S h)⟩
  bs := I.bs
  bsz := Nat.le_trans I.ok.bsz I.sz
  noex := fun b o e hb => by
    rcases (hf b hb).2.2.2.1 with z | z
    . exact I.ok.noex b o e z
    . exact absurd (Nat.lt_of_lt_of_le (Heap.lt_size (I.ok.bs b o e).1) z) (Nat.lt_irrefl _)
  exfs := fun b hb z => by
    rcases List.mem_cons.mp (I.stkSub b z) with e | e
    . exact (hf b hb).2.1 e
    . exact (hf b hb).2.2.1 e
  funs := I.stack
  frf := I.stkFree
theorem blk_start {c : Caps} {C : Addr} {s4 : Shared} {m : Str -> Option Value} (I : Inv X pins σ H s) (S : BlkSc X sc) (hc : CapsOk X.N sc c) (hC : s.heap.objs.size <= C) (hf : ∀ b ∈ fp, FpOk X pins H b) (ho : ∀ b ∈ fp, ∃ o, s.heap.get? b = some o)
    (hos : s4.os = s.os) (hb : s4.gens = s.gens) (hk : ∀ b o, s.heap.get? b = some o -> s4.heap.get? b = some o) (hn : s4.heap.Ns C m) : Inv (X.blk c.names sc C s H fp) [] (c.st σ) H s4 where
  ok := blk_ok I S hC hf ho
  os := hos
  bare := by rw [hb]; exact I.bare
  base := Un.kept hk
  loc := by
    refine ⟨m, hn, fun i x v h1 h2 hv => ?_⟩
    have h1' : (c.map (·.1))[i]? = some x := h1
    have h2' : (c.map fun p => p.2.bind fun j => (σ[j]?).join)[i]? = some (some v) := h2
    rw [List.getElem?_map] at h1' h2'
    cases e : c[i]? with
    | none => rw [e] at h1'; cases h1'
    | some p =>
      obtain ⟨y, oj⟩ := p
      rw [e] at h1' h2'
      have e1 : y = x := Option.some.inj h1'
      subst e1
      have e2 : (oj.bind fun j => (σ[j]?).join) = some v := Option.some.inj h2'
      cases oj with
      | none => cases e2
      | some j =>
        have e3 : (σ[j]?).join = some v := e2
        have e4 : σ[j]? = some (some v) := by
          cases q : σ[j]? with
          | none => rw [q] at e3; cases e3
          | some z => rw [q] at e3; exact congrArg some e3
        obtain ⟨k1, k2⟩ := CapsOk.get hc e
        have k3 : X.env.kindOf y = some .cell \/ X.env.kindOf y = some .free := S.free (y, .free) (PySem.mem_of_lookup k2) rfl
        have vis : Vis X.env.scope y := by
          rcases k3 with k | k
          . exact .inr (.inl k)
          . exact .inr (.inr k)
        obtain ⟨mX, hnX, hl⟩ := I.loc
        obtain ⟨u, r, l⟩ := hl j y v k1 e4 vis
        refine ⟨u, r, ?_⟩
        rcases l with ⟨k, _⟩ | ⟨_, ca, hca, z⟩
        . rcases k3 with k' | k' <;> (rw [k] at k'; cases k')
        . obtain ⟨kd, hkd, ek⟩ := relabel_free (env := X.env) k2
          have hk2 : (compEnvC sc (clOf X.env sc.names []) C X.env).kindOf y = some kd := ek
          obtain ⟨c', hc'⟩ := clOf_has (env := X.env) sc.names [] y (.inl (PySem.mem_of_lookup k2))
          obtain ⟨c2, hc2⟩ := lookup_some_of_mem hc'
          have e5 := blk_lookup I S hc2
          rw [hca] at e5
          have e6 : ca = c2 := Option.some.inj e5
          subst e6
          refine .inr ⟨?_, ca, hc2, ?_⟩
          . rcases hkd with rfl | rfl
            . exact .inl hk2
            . exact .inr hk2
          . obtain ⟨oc, hoc, hd⟩ := z
            exact ⟨oc, hk _ _ hoc, hd⟩
  cell := fun x ca h => by
    obtain ⟨v, oc, hoc, hd⟩ := I.cell x ca (blk_lookup I S h)
    exact ⟨v, oc, hk _ _ hoc, hd⟩
  free := I.hok.fresh hC
  freeC := fun x ca h => I.freeC x ca (blk_lookup I S h)
  pin := fun p hp => absurd (show p ∈ ([] : List (Addr × Obj)) from hp) (by simp)
  hok := I.hok.kept hk
  len := by show (c.map _).length = (c.map _).length; rw [List.length_map, List.length_map]
theorem HOk.track {P : Program} {w : World} {H : Hp} {h : Heap} {a : Addr} {o : HO} (x : HOk P w H h) (hn : H a = none) (new : ObjOk P w (upd H a o) h a o) : HOk P w (upd H a o) h := fun b u e => by
  by_cases hb : b = a
  . subst hb; rw [upd_same] at e; cases e; exact new
  . rw [upd_ne hb] at e
    exact (x b u e).stay (fun c v _ q => q) (fun c q => by rw [upd_ne (ne_of_none q hn)]; exact q) fun c xs q => by rw [upd_ne (ne_of_none q hn)]; exact q
theorem Un.track {fs ex : List Addr} {H H' : Hp} {h h' : Heap} {a : Addr} {o : HO} (u : Un fs ex H H' h h') (ha : h.objs.size <= a) (hn : H' a = none) : Un fs ex H (upd H' a o) h h' where
  keep := u.keep
  slot := u.slot
  free := fun b ob q n hx => by rw [upd_ne (Nat.ne_of_lt (Nat.lt_of_lt_of_le (Heap.lt_size q) ha))]; exact u.free b ob q n hx
  there := u.there
  tups := fun b xs q => by rw [upd_ne (ne_of_none (u.tups b xs q) hn)]; exact u.tups b xs q
  frzs := fun b ob xs q => by rw [upd_ne (ne_of_none (u.frzs b ob xs q) hn)]; exact u.frzs b ob xs q
  tbls := fun b ps q => by
    obtain ⟨more, e⟩ := u.tbls b ps q
    exact ⟨more, by rw [upd_ne (ne_of_none e hn)]; exact e⟩
theorem blk_end {c : Caps} {C D : Addr} {s' : Shared} {σ' : St} {H' : Hp} {o : HO} (I : Inv X pins σ H s) (J : Inv (X.blk c.names sc C s H fp) [] σ' H' s') (hf : ∀ b ∈ fp, FpOk X pins H b) (hD : s.heap.objs.size <= D) (hn : H' D = none)
    (new : ObjOk X.prog X.w (upd H' D o) s'.heap D o) : Inv X pins σ (upd H' D o) s' := by
  have u : Un (frs X.stack) fp H H' s.heap s'.heap := J.base
  exact I.call' J.os (u.track hD hn) (J.hok.track hn new) J.bare fun b hb => ⟨(hf b hb).2.2.2.1, (hf b hb).2.1, (hf b hb).2.2.2.2.1, (hf b hb).2.2.2.2.2⟩
end
def PF (X : Cx) (ifs : List Expr) (t : TT) : Prop :=
  ∀ (pins : List (Addr × Obj)) (s : Shared) (σ : St) (H : Hp) (Q : Bool -> Hp -> Prop), Inv X pins σ H s -> t σ H Q ->
    wpAny (model X.prog X.w) X.A (forIn ifs true fun c r => if r = true then do let ok <- isTrue c X.env (eval c X.env); pure (ForInStep.yield ok) else pure (ForInStep.yield r)) (TP X pins σ Q) X.xe s
def tTrue : TT := fun _ H Q => Q true H
theorem pf_nil {X : Cx} : PF X [] tTrue := fun _ _ _ H _ I h => wpAny_tests_nil ⟨H, I, h⟩
def tComp (wi : TI) (cp : Caps) (g : TG) (tc : TT) (te : TE) : TE := fun σ H Q => wi σ H fun J H1 => ∃ W : Nat -> Nat -> List V -> St -> Hp -> Prop, (∃ m, W 0 m [] (cp.st σ) H1) /\ ∀ i m ys σ' H', W i m ys σ' H' ->
  ys.length < sizeLine /\ ((J.stop i H' /\ ∀ D, H' D = none -> Q (.ref D) (upd H' D (.lst ys))) \/ (J.go i H' /\ ∃ N : List V -> St -> Hp -> Prop, (∀ zs σ2 H2, N zs σ2 H2 -> ∃ m', m' < m /\ W (i + 1) m' zs σ2 H2) /\ ∀ x H2, J.yld i H' x H2 -> g x σ' H2 fun σ2 H3 => tc σ2 H3 fun b H4 =>
    if b = true then te σ2 H4 fun v H5 => N (ys ++ [v]) σ2 H5 else N ys σ2 H4))
section
variable {X : Cx} {tg iter elt : Expr} {ifs : List Expr} {sc : Scope} {pos : Pos} {wi : TI} {cp : Caps} {g : TG} {tc : TT} {te : TE}
theorem comp_core (hc : X.calm = true) (S : BlkSc X sc) (hcp : CapsOk X.N sc cp)
    (hg : ∀ C s₀ H₀ ex, PG (X.blk cp.names sc C s₀ H₀ ex) tg g) (hf : ∀ C s₀ H₀ ex, PF (X.blk cp.names sc C s₀ H₀ ex) ifs tc) (he : ∀ C s₀ H₀ ex, PE (X.blk cp.names sc C s₀ H₀ ex) elt te)
    {pins : List (Addr × Obj)} {σ : St} {H : Hp} {s : Shared} {J : It} {it : Addr} {fp : List Addr} {tn : Nat -> Heap -> Prop} {Q : VK} {RR : Value -> Addr -> Result -> Shared -> Prop} {E : Value -> Shared -> Prop}
    (I : Inv X pins σ H s) (T : Turn X.prog X.w X.K tg J fp it tn) (st : tn 0 s.heap) (fpo : ∀ b ∈ fp, FpOk X pins H b)
    (hw : ∃ W : Nat -> Nat -> List V -> St -> Hp -> Prop, (∃ m, W 0 m [] (cp.st σ) H) /\ ∀ i m ys σ' H', W i m ys σ' H' ->
      ys.length < sizeLine /\ ((J.stop i H' /\ ∀ D, H' D = none -> Q (.ref D) (upd H' D (.lst ys))) \/ (J.go i H' /\ ∃ N : List V -> St -> Hp -> Prop, (∀ zs σ2 H2, N zs σ2 H2 -> ∃ m', m' < m /\ W (i + 1) m' zs σ2 H2) /\ ∀ x H2, J.yld i H' x H2 -> g x σ' H2 fun σ2 H3 => tc σ2 H3 fun b H4 =>
        if b = true then te σ2 H4 fun v H5 => N (ys ++ [v]) σ2 H5 else N ys σ2 H4)))
    (hR : ∀ D C s' H' (m : Str -> Option Value), Inv X pins σ H' s' -> Q (.ref D) H' -> s'.heap.Ns C m -> H' C = none -> C ≠ X.env.locals -> X.s₀.heap.objs.size <= C -> (∀ x c, X.env.cells.lookup x = some c -> c ≠ C) -> (∀ p ∈ X.pn ++ pins, p.1 ≠ C) -> RR (.ref D) C (.ok .next) s') :
    wpAny (model X.prog X.w) X.A (newList []) (fun acc s₃ => wpAny (model X.prog X.w) X.A (newFunctionEnv sc X.env.globals (clOf X.env sc.names []) [] X.env.qual none .none (some X.env)) (fun cenv s₄ =>
      codeAny (model X.prog X.w) X.A (.compStart (.ListComp elt [⟨tg, iter, ifs, 0⟩] sc pos) 0 (.ref it) acc { cenv with scope := relabel sc X.env }) (RR acc cenv.locals) s₄) E s₃) E s := by
  obtain ⟨W, ⟨m0, w0⟩, turn⟩ := hw
  refine wpAny_newObj_type (wpAny_newFunctionEnv S.nocell (by intro y hy; simp at hy) (fun h₁ hns₁ hsb₁ => ?_) S.kind)
  dsimp only at hns₁ hsb₁ ⊢
  generalize hH2 : s.heap.push { cls := .type "list", dict := none, data := .seq ([] : List Value).toArray } = H2 at hns₁ hsb₁ ⊢
  have hC : H2.objs.size = s.heap.objs.size + 1 := by rw [<- hH2, Heap.size_push]
  have hDC : s.heap.objs.size ≠ H2.objs.size := by rw [hC]; exact Nat.ne_of_lt (Nat.lt_succ_self _)
  have hCle : s.heap.objs.size <= H2.objs.size := by rw [hC]; exact Nat.le_succ _
  have below : ∀ b, b < s.heap.objs.size -> b ≠ H2.objs.size := fun b hb => by rw [hC]; exact Nat.ne_of_lt (Nat.lt_succ_of_lt hb)
  have old : ∀ b o, s.heap.get? b = some o -> h₁.get? b = some o := fun b o e => hsb₁.extBut b o (below b (Heap.lt_size e)) (Heap.get?_push_of_some _ (hH2 ▸ Heap.get?_push_of_some _ e))
  have hacc : h₁.get? s.heap.objs.size = some { cls := .type "list", data := .seq ([] : List Value).toArray 0 } := hsb₁.extBut _ _ hDC (Heap.get?_push_of_some _ (hH2 ▸ Heap.get?_push_size _ rfl))
  have hst₁ : tn 0 h₁ := T.keep 0 _ _ st fun b _ o e => old b o e
  have hobj : ∀ b ∈ fp, ∃ o, s.heap.get? b = some o := fun b hb => let ⟨o, e, _⟩ := T.obj 0 _ st b hb; ⟨o, e⟩
  have J0 : Inv (X.blk cp.names sc H2.objs.size s H fp) [] (cp.st σ) H { s with heap := h₁, toks := s.toks + ([] : List (Str × Value)).length } := blk_start I S hcp hCle fpo hobj rfl rfl old hns₁
  have nfs : ∀ b, s.heap.objs.size <= b -> b ∉ frs X.stack := fun b hb z => by
    rcases List.mem_cons.mp (I.stkSub b z) with e | e
    . exact absurd (Nat.lt_of_lt_of_le I.lt (by rw [<- e]; exact hb)) (Nat.lt_irrefl _)
    . exact I.nofs hb e
  have ncell : ∀ b, s.heap.objs.size <= b -> ∀ x c, X.env.cells.lookup x = some c -> c ≠ b := fun b hb x c e z => by
    obtain ⟨v, q⟩ := I.cell x c e
    exact absurd (Nat.lt_of_lt_of_le q.lt (by rw [z]; exact hb)) (Nat.lt_irrefl _)
  have fpb : ∀ {pins' : List (Addr × Obj)} {H' : Hp}, (∀ b ∈ fp, H' b = none) -> (∀ p ∈ pins', p.1 ∉ fp) -> ∀ b ∈ fp, FpOk (X.blk cp.names sc H2.objs.size s H fp) pins' H' b := fun {pins' H'} hn hp b hb => by
    obtain ⟨o, e⟩ := hobj b hb
    refine ⟨hn b hb, below b (Heap.lt_size e), fun z => ?_, .inl hb, fun x c h => (fpo b hb).2.2.2.2.1 x c (blk_lookup I S h), fun p hp' z => ?_⟩
    . rcases List.mem_cons.mp (I.stkSub b z) with e | e
      . exact (fpo b hb).2.1 e
      . exact (fpo b hb).2.2.1 e
    . have hp'' : p ∈ pins' := by simpa using hp'
      exact hp p hp'' (by rw [z]; exact hb)
  have loop : ∀ s₃ : Shared, s₃ = { s with heap := h₁, toks := s.toks + ([] : List (Str × Value)).length } ->
      codeAny (model X.prog X.w) X.A (.compLoop (.ListComp elt [⟨tg, iter, ifs, 0⟩] sc pos) 0 (.ref it) (.ref s.heap.objs.size) (compEnvC sc (clOf X.env sc.names []) H2.objs.size X.env))
        (RR (.ref s.heap.objs.size) H2.objs.size) s₃ := by
    rintro s₃ rfl
    refine compLoop_gen (fun n s' => ∃ i σ' H' ys its k, Inv (X.blk cp.names sc H2.objs.size s H fp) [] σ' H' s' /\ tn i s'.heap /\ (∀ b ∈ fp, H' b = none) /\ H' s.heap.objs.size = none /\
      s'.heap.get? s.heap.objs.size = some { cls := .type "list", data := .seq its.toArray k } /\ Vals ys its /\ W i n ys σ' H') ?_ m0
      ⟨0, _, H, [], [], 0, J0, hst₁, fun b hb => (fpo b hb).1, I.hok.fresh (Nat.le_refl _), hacc, .nil, w0⟩
    rintro n s3 ⟨i, σ3, H3, ys, its, k, I3, st3, fr3, hD3, e3, rv, w3⟩
    obtain ⟨hz, tr⟩ := turn i n ys σ3 H3 w3
    have hlen := rv.length
    -- the accumulator stands still while anything else runs
    have dpin : ∀ p ∈ [(s.heap.objs.size, ({ cls := .type "list", data := .seq its.toArray k } : Obj))], p.1 ∉ fp := fun p hp z => by
      have e : p = _ := List.mem_singleton.mp hp
      subst e
      obtain ⟨o, e⟩ := hobj _ z
      exact absurd (Heap.lt_size e) (Nat.lt_irrefl _)
    have I3' : Inv (X.blk cp.names sc H2.objs.size s H fp) [(s.heap.objs.size, ({ cls := .type "list", data := .seq its.toArray k } : Obj))] σ3 H3 s3 := I3.pins_of fun p hp => by
      have e : p = _ := List.mem_singleton.mp hp
      subst e
      exact ⟨e3, hD3, hDC, nfs _ (Nat.le_refl _), fun v z => by cases z⟩
    have stat : ∀ b ∈ fp, FpOk (X.blk cp.names sc H2.objs.size s H fp) [(s.heap.objs.size, ({ cls := .type "list", data := .seq its.toArray k } : Obj))] H3 b := fpb fr3 dpin
    rcases tr with ⟨stop, qn⟩ | ⟨go, N, hN, step⟩
    . refine thn (T.done (X.blk cp.names sc H2.objs.size s H fp) rfl rfl rfl hc i _ s3 σ3 H3 _ I3' stat st3 stop) fun r s4 ⟨hr, I4⟩ => ?_
      subst hr
      obtain ⟨e4, n4, _⟩ := I4.pin (s.heap.objs.size, ({ cls := .type "list", data := .seq its.toArray k } : Obj)) (by simp)
      have new : ObjOk X.prog X.w (upd H3 s.heap.objs.size (.lst ys)) s4.heap s.heap.objs.size (.lst ys) := ⟨Nat.le_of_lt hz, its, k, rv, e4⟩
      obtain ⟨mC, hnC, _⟩ := I4.loc
      have I4' : Inv (X.blk cp.names sc H2.objs.size s H fp) [] σ3 H3 s4 := I4.pins_of fun p hp => by cases hp
      have I5 := blk_end I I4' fpo (Nat.le_refl _) n4 new
      refine hR _ _ s4 _ mC I5 (qn _ n4) hnC ?_ (Nat.ne_of_gt (Nat.lt_of_lt_of_le I.lt hCle)) (Nat.le_trans I.sz hCle) (ncell _ hCle) fun p hp z => ?_
      . rw [upd_ne (Ne.symm hDC)]; exact I4.free
      . exact absurd (Nat.lt_of_lt_of_le (Heap.lt_size (I.pin p hp).1) (by rw [z]; exact hCle)) (Nat.lt_irrefl _)
    . refine thn (T.item (X.blk cp.names sc H2.objs.size s H fp) rfl rfl rfl hc i _ s3 σ3 H3 _ I3' stat st3 go) fun r s4 ⟨u, hr, h4⟩ => ?_
      subst hr
      refine thn h4 fun _ s5 ⟨x, H5, I5, r5, y5, st5, fr5⟩ => ?_
      have I5' := I5.pinned (fpb fr5 dpin) (T.obj _ _ st5)
      have fin : ∀ {σ7 : St} {H7 : Hp} {s7 : Shared}, Inv (X.blk cp.names sc H2.objs.size s H fp) ([(s.heap.objs.size, ({ cls := .type "list", data := .seq its.toArray k } : Obj))] ++ pinsAt fp s5.heap) σ7 H7 s7 ->
          s7.heap.get? s.heap.objs.size = some { cls := .type "list", data := .seq its.toArray k } /\ H7 s.heap.objs.size = none /\ (∀ b ∈ fp, H7 b = none) /\ ∀ b ∈ fp, ∀ o, s5.heap.get? b = some o -> s7.heap.get? b = some o := fun {σ7 H7 s7} I7 => by
        obtain ⟨e7, n7, _⟩ := I7.pin (s.heap.objs.size, ({ cls := .type "list", data := .seq its.toArray k } : Obj)) (by simp)
        refine ⟨e7, n7, fun b hb => ?_, fun b hb o e => ?_⟩
        . obtain ⟨o, e, _⟩ := T.obj _ _ st5 b hb
          exact (I7.pin (b, o) (List.mem_append_right _ (List.mem_append_right _ (mem_pinsAt hb e)))).2.1
        . exact (I7.pin (b, o) (List.mem_append_right _ (List.mem_append_right _ (mem_pinsAt hb e)))).1
      refine wpAny_mono (hg _ _ _ _ _ s5 σ3 H5 x u _ I5' r5 (step x H5 y5)) (fun _ s6 ⟨σ6, H6, I6, q6⟩ => ?_) fun _ _ z => False.elim z
      refine wpAny_mono (hf _ _ _ _ _ s6 σ6 H6 _ I6 q6) (fun ok s7 ⟨H7, I7, q7⟩ => ?_) fun _ _ z => False.elim z
      cases ok with
      | false =>
        rw [if_neg Bool.false_ne_true]
        rw [if_neg Bool.false_ne_true] at q7
        obtain ⟨m', hm, w7⟩ := hN _ _ _ q7
        obtain ⟨e7, n7, fr7, k7⟩ := fin I7
        exact ⟨m', hm, i + 1, σ6, H7, ys, its, k, I7.pins_of (fun p hp => by cases hp), T.keep _ _ _ st5 k7, fr7, n7, e7, rv, w7⟩
      | true =>
        rw [if_pos rfl]
        rw [if_pos rfl] at q7
        refine wpAny_mono (he _ _ _ _ _ s7 σ6 H7 _ I7 q7) (fun v s8 ⟨y, H8, I8, r8, q8⟩ => ?_) fun _ _ z => False.elim z
        obtain ⟨m', hm, w8⟩ := hN _ _ _ q8
        obtain ⟨e8, n8, fr8, k8⟩ := fin I8
        refine call_meets F.slot_list_append ⟨_, e8, rfl⟩ F.entry_list_append (F.args_list_append_2 _ _) (PySem.list_append s.heap.objs.size its.toArray k v (by rw [List.size_toArray]; omega)) ⟨e8, ?_⟩
        obtain ⟨k', q⟩ : ∃ k', (s8.heap.update s.heap.objs.size (Obj.mapSeq fun x => x.push v)).get? s.heap.objs.size = some { cls := .type "list", data := .seq (its ++ [v]).toArray k' } := ⟨_, by
          have q := PySem.IsL.update e8 fun x => x.push v
          have e : (its ++ [v]).toArray = its.toArray.push v := by simp
          rw [e]
          exact q⟩
        have I8' : Inv (X.blk cp.names sc H2.objs.size s H fp) [] σ6 H8 s8 := I8.pins_of fun p hp => by cases hp
        have I9 : Inv (X.blk cp.names sc H2.objs.size s H fp) [] σ6 H8 { s8 with heap := s8.heap.update s.heap.objs.size (Obj.mapSeq fun x => x.push v), toks := s8.toks } :=
          I8'.turned (it := s.heap.objs.size) (fun b o hb e => (Heap.get?_update_other _ _ (Ne.symm hb)).trans e) n8 hDC (.inr (Nat.le_refl _)) (fun x c e => ncell _ (Nat.le_refl _) x c (blk_lookup I S e)) (fun p hp => by cases hp)
        refine ⟨m', hm, i + 1, σ6, H8, ys ++ [y], its ++ [v], k', I9, T.keep (i + 1) s5.heap _ st5 (fun b hb o e => ?_), fr8, n8, q, rv.append (.cons r8 .nil), w8⟩
        . refine (Heap.get?_update_other _ _ ?_).trans (k8 b hb o e)
          intro z
          obtain ⟨ob, eb⟩ := hobj b hb
          exact absurd (Heap.lt_size eb) (by rw [<- z]; exact Nat.lt_irrefl _)
  exact codeAny_compStart_list (loop _ rfl) (T.self _ 0 _ _ _ hst₁ (loop _ rfl))
theorem pe_comp (hc : X.calm = true) (S : BlkSc X sc) (hcp : CapsOk X.N sc cp) (hi : PI X tg iter wi)
    (hg : ∀ C s₀ H₀ ex, PG (X.blk cp.names sc C s₀ H₀ ex) tg g) (hf : ∀ C s₀ H₀ ex, PF (X.blk cp.names sc C s₀ H₀ ex) ifs tc) (he : ∀ C s₀ H₀ ex, PE (X.blk cp.names sc C s₀ H₀ ex) elt te)
    (hs : ∀ x, foldedSetIterable iter X.env x = pure x := by intro _; rfl) : PE X (.ListComp elt [⟨tg, iter, ifs, 0⟩] sc pos) (tComp wi cp g tc te) := by
  intro pins s σ H Q I h
  rw [eval_ListComp]
  refine wpAny_comprehension_free (use := none) rfl hs (closure_eq (blk_cells I S)) S.kind S.loc (thn (hi pins s σ H _ I h) fun xv s₁ h₁ => thn h₁ fun itv s₂ h₂ => ?_)
  obtain ⟨it, fp, tn, J, H2, e, I2, T, st2, f2, hw⟩ := h₂
  subst e
  refine comp_core (RR := fun acc C => compPost (model X.prog X.w) X.A X.xe none (EP X pins σ Q) acc C) hc S hcp hg hf he I2 T st2 f2 hw ?_
  intro D C s' H' m I' q hn hC hL hz hcl hp
  exact ⟨m, hn, fun h' hs' => ⟨.ref D, H', I'.turned (t' := s'.toks) (it := C) (fun b o hb e => hs'.extBut b o hb e) hC hL (.inr hz) hcl hp, rfl, q⟩⟩
end
theorem comp_list {K : PySem.W.Frag} {a : Addr} {xs : List V} {g : TG} {tc : TT} {te : TE} {Q : VK} {σ : St} {H : Hp} (Pv : Nat -> List V -> St -> Hp -> Prop) (h0 : Pv 0 [] σ H) (hz : xs.length < sizeLine)
    (hl : ∀ i ys σ H, i <= xs.length -> Pv i ys σ H -> SqL K H a xs /\ ys.length <= i)
    (hs : ∀ i x ys σ H, xs[i]? = some x -> Pv i ys σ H -> g x σ H fun σ2 H2 => tc σ2 H2 fun b H3 => if b = true then te σ2 H3 fun v H4 => Pv (i + 1) (ys ++ [v]) σ2 H4 else Pv (i + 1) ys σ2 H3)
    (hd : ∀ ys σ H, Pv xs.length ys σ H -> ∀ D, H D = none -> Q (.ref D) (upd H D (.lst ys))) :
    ∃ W : Nat -> Nat -> List V -> St -> Hp -> Prop, (∃ m, W 0 m [] σ H) /\ ∀ i m ys σ' H', W i m ys σ' H' ->
      ys.length < sizeLine /\ (((Itl K a).stop i H' /\ ∀ D, H' D = none -> Q (.ref D) (upd H' D (.lst ys))) \/ ((Itl K a).go i H' /\ ∃ N : List V -> St -> Hp -> Prop, (∀ zs σ2 H2, N zs σ2 H2 -> ∃ m', m' < m /\ W (i + 1) m' zs σ2 H2) /\ ∀ x H2, (Itl K a).yld i H' x H2 -> g x σ' H2 fun σ2 H3 => tc σ2 H3 fun b H4 =>
        if b = true then te σ2 H4 fun v H5 => N (ys ++ [v]) σ2 H5 else N ys σ2 H4)) := by
  refine ⟨fun i m ys σ H => m = xs.length - i /\ i <= xs.length /\ Pv i ys σ H, ⟨xs.length, by simp, Nat.zero_le _, h0⟩, ?_⟩
  rintro i m ys σ H ⟨rfl, hi, p⟩
  obtain ⟨q, ly⟩ := hl i ys σ H hi p
  refine ⟨by omega, ?_⟩
  by_cases hlt : i < xs.length
  . refine .inr ⟨⟨xs, xs[i], q, by simp [hlt]⟩, Pv (i + 1), fun zs σ' H' p' => ⟨xs.length - (i + 1), by omega, rfl, hlt, p'⟩, fun x H' y => ?_⟩
    obtain ⟨e, y⟩ := y
    subst e
    exact hs i x ys σ _ (y xs q) p
  . have e : i = xs.length := by omega
    subst e
    exact .inl ⟨⟨xs, q, Nat.le_refl _⟩, hd ys σ H p⟩
theorem comp_tup {K : PySem.W.Frag} {a : Addr} {xs : List V} {g : TG} {tc : TT} {te : TE} {Q : VK} {σ : St} {H : Hp} (Pv : Nat -> List V -> St -> Hp -> Prop) (h0 : Pv 0 [] σ H) (hz : xs.length < sizeLine)
    (hl : ∀ i ys σ H, i <= xs.length -> Pv i ys σ H -> SqT K H a xs /\ ys.length <= i)
    (hs : ∀ i x ys σ H, xs[i]? = some x -> Pv i ys σ H -> g x σ H fun σ2 H2 => tc σ2 H2 fun b H3 => if b = true then te σ2 H3 fun v H4 => Pv (i + 1) (ys ++ [v]) σ2 H4 else Pv (i + 1) ys σ2 H3)
    (hd : ∀ ys σ H, Pv xs.length ys σ H -> ∀ D, H D = none -> Q (.ref D) (upd H D (.lst ys))) :
    ∃ W : Nat -> Nat -> List V -> St -> Hp -> Prop, (∃ m, W 0 m [] σ H) /\ ∀ i m ys σ' H', W i m ys σ' H' ->
      ys.length < sizeLine /\ (((Itt K a).stop i H' /\ ∀ D, H' D = none -> Q (.ref D) (upd H' D (.lst ys))) \/ ((Itt K a).go i H' /\ ∃ N : List V -> St -> Hp -> Prop, (∀ zs σ2 H2, N zs σ2 H2 -> ∃ m', m' < m /\ W (i + 1) m' zs σ2 H2) /\ ∀ x H2, (Itt K a).yld i H' x H2 -> g x σ' H2 fun σ2 H3 => tc σ2 H3 fun b H4 =>
        if b = true then te σ2 H4 fun v H5 => N (ys ++ [v]) σ2 H5 else N ys σ2 H4)) := by
  refine ⟨fun i m ys σ H => m = xs.length - i /\ i <= xs.length /\ Pv i ys σ H, ⟨xs.length, by simp, Nat.zero_le _, h0⟩, ?_⟩
  rintro i m ys σ H ⟨rfl, hi, p⟩
  obtain ⟨q, ly⟩ := hl i ys σ H hi p
  refine ⟨by omega, ?_⟩
  by_cases hlt : i < xs.length
  . refine .inr ⟨⟨xs, xs[i], q, by simp [hlt]⟩, Pv (i + 1), fun zs σ' H' p' => ⟨xs.length - (i + 1), by omega, rfl, hlt, p'⟩, fun x H' y => ?_⟩
    obtain ⟨e, y⟩ := y
    subst e
    exact hs i x ys σ _ (y xs q) p
  . have e : i = xs.length := by omega
    subst e
    exact .inl ⟨⟨xs, q, Nat.le_refl _⟩, hd ys σ H p⟩
theorem comp_range {lo : Int} {n : Nat} {g : TG} {tc : TT} {te : TE} {Q : VK} {σ : St} {H : Hp} (Pv : Nat -> List V -> St -> Hp -> Prop) (h0 : Pv 0 [] σ H) (hz : n < sizeLine)
    (hl : ∀ i ys σ H, i <= n -> Pv i ys σ H -> ys.length <= i)
    (hs : ∀ i ys σ H, i < n -> Pv i ys σ H -> g (.int (lo + i)) σ H fun σ2 H2 => tc σ2 H2 fun b H3 => if b = true then te σ2 H3 fun v H4 => Pv (i + 1) (ys ++ [v]) σ2 H4 else Pv (i + 1) ys σ2 H3)
    (hd : ∀ ys σ H, Pv n ys σ H -> ∀ D, H D = none -> Q (.ref D) (upd H D (.lst ys))) :
    ∃ W : Nat -> Nat -> List V -> St -> Hp -> Prop, (∃ m, W 0 m [] σ H) /\ ∀ i m ys σ' H', W i m ys σ' H' ->
      ys.length < sizeLine /\ (((Itr lo n).stop i H' /\ ∀ D, H' D = none -> Q (.ref D) (upd H' D (.lst ys))) \/ ((Itr lo n).go i H' /\ ∃ N : List V -> St -> Hp -> Prop, (∀ zs σ2 H2, N zs σ2 H2 -> ∃ m', m' < m /\ W (i + 1) m' zs σ2 H2) /\ ∀ x H2, (Itr lo n).yld i H' x H2 -> g x σ' H2 fun σ2 H3 => tc σ2 H3 fun b H4 =>
        if b = true then te σ2 H4 fun v H5 => N (ys ++ [v]) σ2 H5 else N ys σ2 H4)) := by
  refine ⟨fun i m ys σ H => m = n - i /\ i <= n /\ Pv i ys σ H, ⟨n, by simp, Nat.zero_le _, h0⟩, ?_⟩
  rintro i m ys σ H ⟨rfl, hi, p⟩
  have ly := hl i ys σ H hi p
  refine ⟨by omega, ?_⟩
  by_cases hlt : i < n
  . refine .inr ⟨hlt, Pv (i + 1), fun zs σ' H' p' => ⟨n - (i + 1), by omega, rfl, hlt, p'⟩, fun x H' y => ?_⟩
    obtain ⟨e, y⟩ := y
    subst e y
    exact hs i ys σ _ hlt p
  . have e : i = n := by omega
    subst e
    exact .inl ⟨Nat.le_refl _, hd ys σ H p⟩
end L2
set_option Elab.async false
set_option linter.all false
set_option maxRecDepth 100000
set_option maxHeartbeats 4000000
namespace L2
open PySem PySem.Spec PyProof.Rows
section
variable {X : Cx}
theorem call_isinst : CallR X (.builtin "isinstance") (fun xs H Q => ∃ x c cv t b, xs = [x, c] /\ TyOf X.K H x t /\ (∀ u, RelV c u -> u = cv) /\ PySem.W.kitOne X.K t cv = some b /\ Q (.bl b) H) := by
  intro pins s σ H xs us Q I r h
  obtain ⟨x, c, cv, t, b, rfl, ty, hc, hk, q⟩ := h
  obtain ⟨u, w', rfl, rx, rc⟩ := vals2 r
  rw [hc _ rc]
  exact isinst_ok I rx ty hk fun tk => ⟨.bl b, H, I.tok tk, rfl, q⟩
def EqD (K : PySem.W.Frag) (H : Hp) : Nat -> V -> V -> Bool -> Prop
  | 0, x, y, b => flatV x = true /\ flatV y = true /\ b = eqV x y
  | n + 1, x, y, b => (flatV x = true /\ flatV y = true /\ b = eqV x y) \/ ∃ a c xs ys, x = .ref a /\ y = .ref c /\ ((SqL K H a xs /\ SqL K H c ys) \/ (SqT K H a xs /\ SqT K H c ys)) /\ 
      ∃ e : Nat -> Bool, (∀ i x y, xs[i]? = some x -> ys[i]? = some y -> EqD K H n x y (e i)) /\ b = (decide (xs.length = ys.length) && (List.range (min xs.length ys.length)).all e)
theorem in1_units (A : Around) : A.in1.units = A.units + 1 := rfl
theorem eqV_self {x : V} (h : flatV x = true) : eqV x x = true := by
  cases x <;> first | rfl | (simp [eqV]; done) | exact absurd (show false = true from h) Bool.false_ne_true
theorem EqD.self {pins : List (Addr × Obj)} {s : Shared} {σ : St} {H : Hp} (I : Inv X pins σ H s) : ∀ (n : Nat) {x : V} {b : Bool}, EqD X.K H n x x b -> b = true := by
  intro n
  induction n with
  | zero =>
    rintro x b ⟨fx, _, rfl⟩
    exact eqV_self fx
  | succ n ih =>
    rintro x b (⟨fx, _, rfl⟩ | ⟨a, c, xs, ys, rfl, e2, hq, e, he, rfl⟩)
    . exact eqV_self fx
    . cases e2
      have exy : xs = ys := by
        rcases hq with ⟨h1, h2⟩ | ⟨h1, h2⟩
        . exact I.list_inj h1 h2
        . exact I.tuple_inj h1 h2
      subst exy
      simp only [decide_true, Bool.true_and, Nat.min_self, List.all_eq_true, List.mem_range]
      intro i hi
      exact ih (he i xs[i] xs[i] (by simp [hi]) (by simp [hi]))
theorem all_and {n m : Nat} {e : Nat -> Bool} : ((List.range (min n m)).all e && n == m) = (decide (n = m) && (List.range (min n m)).all e) := by
  rw [Bool.and_comm]
  congr 1
theorem EqD.at {pins : List (Addr × Obj)} {s : Shared} {σ : St} {H : Hp} (I : Inv X pins σ H s) : ∀ (n : Nat) (A : Around) {x y : V} {u v : Value} {b : Bool}, A.units + n < cLine -> RelV x u -> RelV y v -> EqD X.K H n x y b ->
    SeqAt.EqAt A s u v b /\ ∀ a c, x = .ref a -> y = .ref c -> SeqAt.RcAt A s u v b := by
  intro n
  induction n with
  | zero =>
    intro A x y u v b hu rx ry h
    obtain ⟨fx, fy, rfl⟩ := h
    refine ⟨eqAt_V rx ry fx fy, ?_⟩
    rintro a c rfl rfl
    exact absurd (show false = true from fx) Bool.false_ne_true
  | succ n ih =>
    intro A x y u v b hu rx ry h
    have hself := h
    rcases h with ⟨fx, fy, rfl⟩ | ⟨a, c, xs, ys, rfl, rfl, hq, e, he, rfl⟩
    . refine ⟨eqAt_V rx ry fx fy, ?_⟩
      rintro a c rfl rfl
      exact absurd (show false = true from fx) Bool.false_ne_true
    . cases rx
      cases ry
      have key : ∀ (its its2 : List Value), Vals xs its -> Vals ys its2 -> ∀ j (h1 : j < its.toArray.size) (h2 : j < its2.toArray.size), SeqAt.EqAt A.in1 s its.toArray[j] its2.toArray[j] (e j) := fun its its2 r1 r2 j h1 h2 => by
        have l1 := r1.length
        have l2 := r2.length
        rw [List.size_toArray] at h1 h2
        obtain ⟨u1, g1, q1⟩ := r1.get (i := j) (x := xs[j]'(by omega)) (by simp [show j < xs.length by omega])
        obtain ⟨u2, g2, q2⟩ := r2.get (i := j) (x := ys[j]'(by omega)) (by simp [show j < ys.length by omega])
        have k1 : its.toArray[j]'(by rw [List.size_toArray]; exact h1) = u1 := by
          have := (List.getElem?_eq_some_iff.mp g1).2
          simpa using this
        have k2 : its2.toArray[j]'(by rw [List.size_toArray]; exact h2) = u2 := by
          have := (List.getElem?_eq_some_iff.mp g2).2
          simpa using this
        rw [k1, k2]
        exact (ih A.in1 (by rw [in1_units]; omega) q1 q2 (he j _ _ (by simp [show j < xs.length by omega]) (by simp [show j < ys.length by omega]))).1
      have rc : SeqAt.RcAt A s (.ref a) (.ref c) (decide (xs.length = ys.length) && (List.range (min xs.length ys.length)).all e) := by
        rcases hq with ⟨h1, h2⟩ | ⟨h1, h2⟩
        . obtain ⟨its, r1, p1, _⟩ := I.list h1
          obtain ⟨its2, r2, p2, _⟩ := I.list h2
          have l1 := r1.length
          have l2 := r2.length
          by_cases hl : xs.length = ys.length
          . have := SeqAt.RcAt.lists (e := e) p1.isList p2.isList (by rw [List.size_toArray, List.size_toArray]; omega) (by omega) (key its its2 r1 r2)
            rw [List.size_toArray, <- l1] at this
            rw [decide_eq_true hl, Bool.true_and, <- hl, Nat.min_self]
            exact this
          . rw [decide_eq_false hl, Bool.false_and]
            exact SeqAt.RcAt.lists_lengths p1.isList p2.isList (by rw [List.size_toArray, List.size_toArray]; simp; omega) (by omega)
        . obtain ⟨its, r1, p1, _⟩ := I.tuple h1
          obtain ⟨its2, r2, p2, _⟩ := I.tuple h2
          have l1 := r1.length
          have l2 := r2.length
          have := SeqAt.RcAt.tuples (e := e) (show s.heap.IsTuple a its.toArray from p1) (show s.heap.IsTuple c its2.toArray from p2) (by omega) (key its its2 r1 r2)
          rw [List.size_toArray, List.size_toArray, <- l1, <- l2, all_and] at this
          exact this
      refine ⟨?_, fun a' c' _ _ => rc⟩
      by_cases hac : a = c
      . subst hac
        rw [EqD.self I (n + 1) hself]
        exact SeqAt.EqAt.same _
      . exact SeqAt.EqAt.of_refs hac rc
theorem EqD.flat {K : PySem.W.Frag} {H : Hp} {a c : Addr} {xs ys : List V} (hq : (SqL K H a xs /\ SqL K H c ys) \/ (SqT K H a xs /\ SqT K H c ys)) (fx : ∀ x ∈ xs, flatV x = true) (fy : ∀ y ∈ ys, flatV y = true) (hi : ∀ x ∈ xs, ∀ y ∈ ys, eqV x y = decide (x = y)) (n : Nat) :
    EqD K H (n + 1) (.ref a) (.ref c) (decide (xs = ys)) := by
  have base : ∀ m i x y, xs[i]? = some x -> ys[i]? = some y -> EqD K H m x y (decide (x = y)) := fun m i x y h1 h2 => by
    have m1 := List.mem_of_getElem? h1
    have m2 := List.mem_of_getElem? h2
    cases m with
    | zero => exact ⟨fx _ m1, fy _ m2, (hi _ m1 _ m2).symm⟩
    | succ m => exact .inl ⟨fx _ m1, fy _ m2, (hi _ m1 _ m2).symm⟩
  refine .inr ⟨a, c, xs, ys, rfl, rfl, hq, fun i => match xs[i]?, ys[i]? with | some x, some y => decide (x = y) | _, _ => true, fun i x y h1 h2 => ?_, ?_⟩
  . simp only [h1, h2]
    exact base n i x y h1 h2
  . rw [Bool.eq_iff_iff]
    simp only [decide_eq_true_eq, Bool.and_eq_true, List.all_eq_true, List.mem_range]
    constructor
    . rintro rfl
      refine ⟨rfl, fun i hi => ?_⟩
      have hi : i < xs.length := by omega
      simp [hi]
    . rintro ⟨hl, h⟩
      refine List.ext_getElem? fun i => ?_
      by_cases hi : i < xs.length
      . have := h i (by omega)
        simp [hi, show i < ys.length by omega] at this
        simp [hi, show i < ys.length by omega, this]
      . rw [List.getElem?_eq_none (by omega), List.getElem?_eq_none (by omega)]
end
end L2
namespace L2
open PySem PySem.Spec PyProof.Rows
def blkOk (outer : List (Str × NameKind)) (sc : Scope) : Bool :=
  sc.kind == .function && sc.names.all (fun y => y.2 != .cell && (y.2 != .local || sc.names.lookup y.1 == some .local) && (y.2 != .free || outer.lookup y.1 == some .cell || outer.lookup y.1 == some .free))
theorem blk_mk {X : Cx} {sc : Scope} (h : blkOk X.env.scope.names sc = true) : BlkSc X sc := by
  unfold blkOk at h
  rw [Bool.and_eq_true, List.all_eq_true] at h
  obtain ⟨h1, h2⟩ := h
  refine ⟨by simpa using h1, fun y hy z => ?_, fun y hy z => ?_, fun y hy z => ?_⟩
  . have := h2 y hy
    simp only [Bool.and_eq_true] at this
    have := this.1.1
    rw [z] at this
    exact absurd this (by decide)
  . have := h2 y hy
    simp only [Bool.and_eq_true] at this
    have := this.1.2
    rw [z] at this
    simpa using this
  . have := h2 y hy
    simp only [Bool.and_eq_true] at this
    have := this.2
    rw [z] at this
    have t : (X.env.scope.names.lookup y.1 == some .cell || X.env.scope.names.lookup y.1 == some .free) = true := by simpa using this
    rw [Bool.or_eq_true] at t
    rcases t with t | t
    . exact .inl (by show X.env.scope.names.lookup y.1 = some .cell; simpa using t)
    . exact .inr (by show X.env.scope.names.lookup y.1 = some .free; simpa using t)
end L2
set_option Elab.async false
set_option linter.all false
set_option maxRecDepth 100000
set_option maxHeartbeats 4000000
namespace L2
open PySem PySem.Spec PyProof.Rows
section
variable {t u : TS} {te ta tb tc' : TE} {tt tu : TT} {A B : TA} {D : Ends} {σ : St} {H : Hp} {Q : VK} {R : Bool -> Hp -> Prop} {S : List V -> Hp -> Prop} {i : Nat} {v : V} {g : TG} {r r' : R2} {K : PySem.W.Frag} {wi : TI} {cp : Caps}
theorem r_seq : tSeq t u D σ H = t { D with nx := u D } σ H := rfl
theorem r_next : tNext D σ H = D.nx σ H := rfl
theorem r_asg : tAsg te g D σ H = te σ H fun x H1 => g x σ H1 D.nx := rfl
theorem r_gname {N : St -> Hp -> Prop} : gName i v σ H N = N (σ.set i (some v)) H := rfl
theorem r_var : tVar i σ H Q = ∃ v, σ[i]? = some (some v) /\ Q v H := rfl
theorem r_c : tC v σ H Q = Q v H := rfl
theorem r_op : tOp r ta tb σ H Q = ta σ H fun x H1 => tb σ H1 fun y H2 => r x y H2 Q := rfl
theorem r_un {f : V -> Hp -> VK -> Prop} : tUn f ta σ H Q = ta σ H fun x H1 => f x H1 Q := rfl
theorem r_I {C : Int -> Int -> Prop} {f : Int -> Int -> V} {x y : V} : rI C f x y H Q = ∃ i j, x = .int i /\ y = .int j /\ C i j /\ Q (f i j) H := rfl
theorem r_I0 {f : Int -> Int -> V} {x y : V} : rI0 f x y H Q = ∃ i j, x = .int i /\ y = .int j /\ Q (f i j) H := rfl
theorem r_U {f : Int -> V} {x : V} : rU f x H Q = ∃ i, x = .int i /\ Q (f i) H := rfl
theorem r_call {sp : Sp} {dvs : List V} {E : XK} : tCall sp dvs E A σ H Q = A σ H fun vs H1 => sp (vs ++ dvs) H1 Q E := rfl
theorem r_cons : tCons te A σ H S = te σ H fun x H1 => A σ H1 fun xs H2 => S (x :: xs) H2 := rfl
theorem r_nil : tNil σ H S = S [] H := rfl
theorem r_ret : tRet te D σ H = te σ H D.rt := rfl
theorem r_drop : tDrop te D σ H = te σ H fun _ H1 => D.nx σ H1 := rfl
theorem r_if : tIfS tt t u D σ H = tt σ H fun b H1 => if b = true then t D σ H1 else u D σ H1 := rfl
theorem r_B : tB te σ H R = te σ H fun x H1 => ∃ c, x = .bl c /\ R c H1 := rfl
theorem r_test : tTest te σ H R = te σ H fun x H1 => ∃ c, x = .bl c /\ R c H1 := rfl
theorem r_or : tOr tt tu σ H R = tt σ H fun c H1 => if c = true then R true H1 else tu σ H1 R := rfl
theorem r_not : tNot tt σ H R = tt σ H fun c H1 => R (!c) H1 := rfl
theorem r_andV : tAndV ta tb σ H Q = ta σ H fun x H1 => ∃ c, x = .bl c /\ if c = true then tb σ H1 Q else Q (.bl false) H1 := rfl
theorem r_orV : tOrV ta tb σ H Q = ta σ H fun x H1 => ∃ c, x = .bl c /\ if c = true then Q (.bl true) H1 else tb σ H1 Q := rfl
theorem r_notV : tNotV ta σ H Q = ta σ H fun x H1 => ∃ c, x = .bl c /\ Q (.bl (!c)) H1 := rfl
theorem r_ifE : tIf tt ta tb σ H Q = tt σ H fun c H1 => if c = true then ta σ H1 Q else tb σ H1 Q := rfl
theorem r_CB {f : List V -> Hp -> VK -> Prop} : tCB f A σ H Q = A σ H fun vs H1 => f vs H1 Q := rfl
theorem r_lst : tLst A σ H Q = A σ H fun xs H1 => xs.length <= sizeLine /\ ∀ p, H1 p = none -> Q (.ref p) (upd H1 p (.lst xs)) := rfl
theorem r_tup : tTup A σ H Q = A σ H fun xs H1 => xs.length <= sizeLine /\ ∀ p, H1 p = none -> Q (.ref p) (upd H1 p (.tup xs)) := rfl
theorem r_ixL {x y : V} : rIxL K x y H Q = ∃ p xs i v, x = .ref p /\ y = .int i /\ SqL K H p xs /\ atI xs i = some v /\ Q v H := rfl
theorem r_ixT {x y : V} : rIxT K x y H Q = ∃ p xs i v, x = .ref p /\ y = .int i /\ SqT K H p xs /\ atI xs i = some v /\ Q v H := rfl
theorem r_sl {f : V -> Option Int -> Option Int -> Hp -> VK -> Prop} {tl th : TO} : tSl f te tl th σ H Q = te σ H fun x H1 => tl σ H1 fun l H2 => th σ H2 fun u H3 => f x l u H3 Q := rfl
theorem r_part {U : Option Int -> Hp -> Prop} : tPart te σ H U = te σ H fun x H1 => ∃ i, x = .int i /\ U (some i) H1 := rfl
theorem r_nopart {U : Option Int -> Hp -> Prop} : tNoPart σ H U = U none H := rfl
theorem r_slL {x : V} {lo hi : Option Int} : rSlL K x lo hi H Q = ∃ a xs, x = .ref a /\ SqL K H a xs /\ ∀ p, H p = none -> Q (.ref p) (upd H p (.lst (cutV xs lo hi))) := rfl
theorem r_BM {T : String} {f : V -> List V -> Hp -> VK -> Prop} : tBM K T f te A σ H Q = te σ H fun x H1 => tyV K T x H1 /\ A σ H1 fun xs H2 => f x xs H2 Q := rfl
theorem r_append {x : V} {vs : List V} : rAppend x vs H Q = ∃ l xs y, x = .ref l /\ vs = [y] /\ H l = some (.lst xs) /\ xs.length < sizeLine /\ Q .non (upd H l (.lst (xs ++ [y]))) := rfl
theorem r_Eq {x y : V} : rEq x y H Q = (scal x y = true /\ Q (.bl (decide (x = y))) H) := rfl
theorem r_Ne {x y : V} : rNe x y H Q = (scal x y = true /\ Q (.bl (!decide (x = y))) H) := rfl
theorem r_iList {Z : It -> Hp -> Prop} : iList K te σ H Z = te σ H fun x H1 => ∃ a, x = .ref a /\ (∃ xs, SqL K H1 a xs) /\ Z (Itl K a) H1 := rfl
theorem r_iTup {Z : It -> Hp -> Prop} : iTup K te σ H Z = te σ H fun x H1 => ∃ a, x = .ref a /\ (∃ xs, SqT K H1 a xs) /\ Z (Itt K a) H1 := rfl
theorem r_iRng1 {Z : It -> Hp -> Prop} : iRng1 A σ H Z = A σ H fun vs H1 => ∃ j : Int, vs = [.int j] /\ -(2 ^ 62) <= j /\ j < 2 ^ 62 /\ Z (Itr 0 j.toNat) H1 := rfl
theorem r_true : tTrue σ H R = R true H := rfl
end
theorem Same.new {H : Hp} {p : Addr} {o : HO} (h : H p = none) : Same H (upd H p o) := fun b u e => by rw [upd_ne (ne_of_none e h)]; exact e
theorem Same.newT {H H' : Hp} {p : Addr} {o : HO} (s : Same H H') (h : H' p = none) : Same H (upd H' p o) := s.trans (Same.new h)
theorem Same.over {H H' : Hp} {p : Addr} {o : HO} (s : Same H H') (h : H p = none) : Same H (upd H' p o) := fun b u e => by rw [upd_ne (ne_of_none e h)]; exact s b u e
theorem none_of_upd {H : Hp} {p D : Addr} {o : HO} (h : upd H p o D = none) : H D = none /\ D ≠ p := by
  by_cases e : D = p
  . subst e; rw [upd_same] at h; cases h
  . rw [upd_ne e] at h; exact ⟨h, e⟩
theorem Same.seqT {K : PySem.W.Frag} {H H' : Hp} {a : Addr} {xs : List V} (e : Same H H') (h : SqT K H a xs) : SqT K H' a xs := by
  rcases h with (h | ⟨o, h⟩) | h
  . exact .inl (.inl (e _ _ h))
  . exact .inl (.inr ⟨o, e _ _ h⟩)
  . exact .inr h
theorem hu9 {k : Nat} {A : Around} (hr : Room k A) : A.units + 8 < cLine := by have := hr.units; omega
section
variable {K : PySem.W.Frag} {wi : TI} {cp : Caps} {g : TG} {tc : TT} {te : TE} {σ : St} {H : Hp} {Q : VK}
theorem r_cxK {CX : CXT} {P : Program} {w : World} {mg : Str -> Option Value} {base : Heap} {N : List Str} {qual : Str} {scope : Scope} {f : Addr} {cd : Value} {A : Around} {outer : List Env} {s : Shared} {E : XK} : (cxOf CX P w K mg base N qual scope f cd A outer s H E).K = K := rfl
def CompW (J : It) (cp : Caps) (g : TG) (tc : TT) (te : TE) (σ : St) (H1 : Hp) (Q : VK) : Prop := ∃ W : Nat -> Nat -> List V -> St -> Hp -> Prop, (∃ m, W 0 m [] (cp.st σ) H1) /\ ∀ i m ys σ' H', W i m ys σ' H' ->
  ys.length < sizeLine /\ ((J.stop i H' /\ ∀ D, H' D = none -> Q (.ref D) (upd H' D (.lst ys))) \/ (J.go i H' /\ ∃ N : List V -> St -> Hp -> Prop, (∀ zs σ2 H2, N zs σ2 H2 -> ∃ m', m' < m /\ W (i + 1) m' zs σ2 H2) /\ ∀ x H2, J.yld i H' x H2 -> g x σ' H2 fun σ2 H3 => tc σ2 H3 fun b H4 =>
    if b = true then te σ2 H4 fun v H5 => N (ys ++ [v]) σ2 H5 else N ys σ2 H4))
theorem r_comp : tComp wi cp g tc te σ H Q = wi σ H fun J H1 => CompW J cp g tc te σ H1 Q := rfl
def ForW (J : It) (g : TG) (tb : TS) (D : Ends) (σ : St) (H1 : Hp) : Prop := ∃ W : Nat -> Nat -> St -> Hp -> Prop, (∃ m, W 0 m σ H1) /\ ∀ i m σ H, W i m σ H ->
  (J.stop i H /\ D.nx σ H) \/ (J.go i H /\ ∃ N : St -> Hp -> Prop, (∀ σ' H', N σ' H' -> ∃ m', m' < m /\ W (i + 1) m' σ' H') /\ ∀ x H', J.yld i H x H' -> g x σ H' fun σ2 H2 => tb { D with nx := N, ct := N, bk := D.nx } σ2 H2)
theorem r_for {tb : TS} {D : Ends} : tFor wi g tb D σ H = wi σ H fun J H1 => ForW J g tb D σ H1 := rfl
theorem forL {a : Addr} {xs : List V} {g : TG} {tb : TS} {D : Ends} {σ : St} {H : Hp} (Pv : Nat -> St -> Hp -> Prop) (h0 : Pv 0 σ H) (hl : ∀ i σ H, i <= xs.length -> Pv i σ H -> SqL K H a xs)
    (hs : ∀ i x σ H, xs[i]? = some x -> Pv i σ H -> g x σ H fun σ2 H2 => tb { D with nx := Pv (i + 1), ct := Pv (i + 1), bk := D.nx } σ2 H2) (hd : ∀ σ H, Pv xs.length σ H -> D.nx σ H) : ForW (Itl K a) g tb D σ H := for_list Pv h0 hl hs hd
theorem forT {a : Addr} {xs : List V} {g : TG} {tb : TS} {D : Ends} {σ : St} {H : Hp} (Pv : Nat -> St -> Hp -> Prop) (h0 : Pv 0 σ H) (hl : ∀ i σ H, i <= xs.length -> Pv i σ H -> SqT K H a xs)
    (hs : ∀ i x σ H, xs[i]? = some x -> Pv i σ H -> g x σ H fun σ2 H2 => tb { D with nx := Pv (i + 1), ct := Pv (i + 1), bk := D.nx } σ2 H2) (hd : ∀ σ H, Pv xs.length σ H -> D.nx σ H) : ForW (Itt K a) g tb D σ H := for_tup Pv h0 hl hs hd
theorem forR {lo : Int} {n : Nat} {g : TG} {tb : TS} {D : Ends} {σ : St} {H : Hp} (Pv : Nat -> St -> Hp -> Prop) (h0 : Pv 0 σ H)
    (hs : ∀ i σ H, i < n -> Pv i σ H -> g (.int (lo + i)) σ H fun σ2 H2 => tb { D with nx := Pv (i + 1), ct := Pv (i + 1), bk := D.nx } σ2 H2) (hd : ∀ σ H, Pv n σ H -> D.nx σ H) : ForW (Itr lo n) g tb D σ H := for_range Pv h0 hs hd
theorem compL {a : Addr} {xs : List V} (Pv : Nat -> List V -> St -> Hp -> Prop) (h0 : Pv 0 [] (cp.st σ) H) (hz : xs.length < sizeLine)
    (hl : ∀ i ys σ H, i <= xs.length -> Pv i ys σ H -> SqL K H a xs /\ ys.length <= i)
    (hs : ∀ i x ys σ H, xs[i]? = some x -> Pv i ys σ H -> g x σ H fun σ2 H2 => tc σ2 H2 fun b H3 => if b = true then te σ2 H3 fun v H4 => Pv (i + 1) (ys ++ [v]) σ2 H4 else Pv (i + 1) ys σ2 H3)
    (hd : ∀ ys σ H, Pv xs.length ys σ H -> ∀ D, H D = none -> Q (.ref D) (upd H D (.lst ys))) : CompW (Itl K a) cp g tc te σ H Q := comp_list Pv h0 hz hl hs hd
theorem compT {a : Addr} {xs : List V} (Pv : Nat -> List V -> St -> Hp -> Prop) (h0 : Pv 0 [] (cp.st σ) H) (hz : xs.length < sizeLine)
    (hl : ∀ i ys σ H, i <= xs.length -> Pv i ys σ H -> SqT K H a xs /\ ys.length <= i)
    (hs : ∀ i x ys σ H, xs[i]? = some x -> Pv i ys σ H -> g x σ H fun σ2 H2 => tc σ2 H2 fun b H3 => if b = true then te σ2 H3 fun v H4 => Pv (i + 1) (ys ++ [v]) σ2 H4 else Pv (i + 1) ys σ2 H3)
    (hd : ∀ ys σ H, Pv xs.length ys σ H -> ∀ D, H D = none -> Q (.ref D) (upd H D (.lst ys))) : CompW (Itt K a) cp g tc te σ H Q := comp_tup Pv h0 hz hl hs hd
theorem compR {lo : Int} {n : Nat} (Pv : Nat -> List V -> St -> Hp -> Prop) (h0 : Pv 0 [] (cp.st σ) H) (hz : n < sizeLine)
    (hl : ∀ i ys σ H, i <= n -> Pv i ys σ H -> ys.length <= i)
    (hs : ∀ i ys σ H, i < n -> Pv i ys σ H -> g (.int (lo + i)) σ H fun σ2 H2 => tc σ2 H2 fun b H3 => if b = true then te σ2 H3 fun v H4 => Pv (i + 1) (ys ++ [v]) σ2 H4 else Pv (i + 1) ys σ2 H3)
    (hd : ∀ ys σ H, Pv n ys σ H -> ∀ D, H D = none -> Q (.ref D) (upd H D (.lst ys))) : CompW (Itr lo n) cp g tc te σ H Q := comp_range Pv h0 hz hl hs hd
theorem compMapT {a : Addr} {xs : List V} {σ' : St} (f : V -> V) (e : cp.st σ = none :: σ') (hl : SqT K H a xs) (hz : xs.length < sizeLine) (hs : ∀ x ∈ xs, ∀ R : VK, R (f x) H -> te (some x :: σ') H R) (hd : ∀ D, H D = none -> Q (.ref D) (upd H D (.lst (xs.map f)))) :
    CompW (Itt K a) cp (gName 0) tTrue te σ H Q := by
  refine compT (xs := xs) (fun i ys σ2 H2 => H2 = H /\ ys = (xs.take i).map f /\ ∃ o, σ2 = o :: σ') ⟨rfl, by simp, none, e⟩ hz (fun i ys σ2 H2 hi h => ?_) (fun i x ys σ2 H2 hx h => ?_) (fun ys σ2 H2 h => ?_)
  . obtain ⟨rfl, rfl, _⟩ := h
    exact ⟨hl, by rw [List.length_map, List.length_take]; omega⟩
  . obtain ⟨rfl, rfl, o, rfl⟩ := h
    refine hs x (List.mem_of_getElem? hx) _ ⟨rfl, ?_, some x, rfl⟩
    rw [List.take_add_one, hx]; simp
  . obtain ⟨rfl, rfl, _⟩ := h
    rw [List.take_length]
    exact hd
end
def tCut (t u : TS) : TS := fun D σ H => ∃ R : St -> Hp -> Prop, t { D with nx := R } σ H /\ ∀ σ' H', R σ' H' -> u D σ' H'
theorem pss_cut {X : Cx} {st : Stmt} {rest : List Stmt} {t u : TS} (h1 : PS X st t) (h2 : PSs X rest u) : PSs X (st :: rest) (tCut t u) := by
  intro pins s σ H D I h
  obtain ⟨R, ha, hb⟩ := h
  refine wpAny_execs_cons (thn (h1 pins s σ H { D with nx := R } I ha) fun f s1 q => ?_)
  cases f with
  | next =>
    obtain ⟨σ', H', I', q⟩ := q
    exact h2 pins s1 σ' H' D I' (hb σ' H' q)
  | ret v => exact q
  | brk => exact q
  | cont => exact q
theorem line1000 : 1000000 < sizeLine := by rw [sizeLine_eq]; decide
theorem mem_mapI {ns : List Int} {x : V} (h : x ∈ ns.map V.int) : ∃ n, n ∈ ns /\ x = .int n := by
  obtain ⟨n, hn, e⟩ := List.mem_map.mp h
  exact ⟨n, hn, e.symm⟩
theorem get_mapI {ns : List Int} {i : Nat} {x : V} (h : (ns.map V.int)[i]? = some x) : ∃ n, ns[i]? = some n /\ x = .int n := by
  rw [List.getElem?_map] at h
  cases e : ns[i]? with
  | none => rw [e] at h; cases h
  | some n => rw [e] at h; exact ⟨n, rfl, (Option.some.inj h).symm⟩
theorem atI_of {α : Type} {xs : List α} {i : Int} {v : α} (h0 : 0 <= i) (h : xs[i.toNat]? = some v) : atI xs i = some v := by
  have := atI_nat h
  rwa [show ((i.toNat : Nat) : Int) = i by omega] at this
theorem kit_self {K : PySem.W.Frag} {t : Value} : PySem.W.kitOne K t t = some true := by unfold PySem.W.kitOne; rw [if_pos (by simp)]
theorem kit_int_bool {K : PySem.W.Frag} : PySem.W.kitOne K (.type "int") (.type "bool") = some false := by
  first | rfl | decide +kernel | (unfold PySem.W.kitOne; kernel_rfl)
theorem rel_ty {n : String} : ∀ u, RelV (V.ty n) u -> u = .type n := fun _ h => h
theorem rel_ref {a : Addr} : ∀ u, RelV (V.ref a) u -> u = .ref a := fun _ h => h
end L2
set_option Elab.async false
set_option linter.all false
set_option maxRecDepth 100000
set_option maxHeartbeats 4000000
namespace L2
open PySem PySem.W PySem.Spec PySem.Calls PyProof.Rows
section
variable {prog : Program} {w : World} {A : Around} {E : Value -> Shared -> Prop} {s : Shared} {K : Frag} {x D : Addr} {ox : Obj}
structure ExcCls (K : Frag) (D : Addr) : Prop where
  ga : findIn K (.ref D) "__getattribute__" = some (some (.builtin "BaseException.__getattribute__"))
  hk : findIn K (.ref D) "__getattr__" = some none
  cl : (clsIn K D).isSome = true
  ca : findIn K (.ref D) "__class__" = some (some (.builtin "object.__class__"))
  gs : specialIn K (.builtin "object.__class__") "__get__" = some (some (.builtin "getset_descriptor.__get__"))
  tk : takesIn K (.builtin "object.__class__") = some true
  mo : mroIn K D (.type "object") = some true
  mb : mroIn K D (.type "BaseException") = some true
def ExcAt (x D : Addr) (h : Heap) : Prop := ∃ ox, h.get? x = some ox /\ ox.cls = .ref D
theorem ExcAt.type {M : Model} {h : Heap} (I : ExcAt x D h) : Looks M h (typeOf (.ref x)) (.ref D) := by
  obtain ⟨ox, h1, h2⟩ := I
  exact h2 ▸ (Looks.ld h1).andThen .now
theorem exc_find {M : Model} {h : Heap} (X : K.In h) (C : ExcCls K D) : Looks M h (Builtin.ObjectAttr.find (.ref x) (.ref D) "__class__") (.bind (.builtin "getset_descriptor.__get__") (.builtin "object.__class__")) :=
  (looks_findIn X C.ca).andThen ((show Looks M h (Builtin.ObjectAttr.getOf (some (.builtin "object.__class__"))) _ from looks_specialIn X C.gs).andThen
    ((show Looks M h (Builtin.ObjectAttr.dataDescriptor? (some (.builtin "object.__class__")) (some (.builtin "getset_descriptor.__get__"))) (some (.builtin "getset_descriptor.__get__", .builtin "object.__class__")) from (looks_takesIn X C.tk).andThen .now).andThen (Looks.tag .now)))
open Builtin Builtin.ObjectAttr Builtin.Getset_descriptor in
theorem exc_get {R : Result -> Shared -> Prop} {tp : Value} (X : K.In s.heap) (I : ExcAt x D s.heap) (hm : mroIn K D (.type "object") = some true) (h : R (.ok (.ret (.ref D))) s) : codeAny (model prog w) A (.call (.builtin "getset_descriptor.__get__") ⟨[.builtin "object.__class__", .ref x, tp], []⟩) R s := by
  have l0 := I.type (M := model prog w)
  have l1 := looks_mroIn (M := model prog w) X hm
  obtain ⟨_, _, _, _, _⟩ := s
  have sg := KF.slot_gs
  refine codeAny_call_builtin sg.plain KF.entry_gs (sg.check _ _ _ _ _ _ _ _ KF.type_class (KF.args_gs _ _ _) ?_)
  unfold Builtin.«getset_descriptor.__get__» descrGet
  rw [dga_obj]
  unfold descrGetter descrCheckInstance isInstance descrNameAndClass
  refine wpAny_bind (wpAny_pure ?_)
  simp only [KF.owner_class]
  repeat lk
  refine ⟨Code.quiet_builtin _ (by decide +kernel), codeAny_builtin KF.entry_class ?_⟩
  unfold Builtin.«object.__class__» shownTypeOf
  repeat lk
  exact h
theorem exc_check {M : Model} {nameV : Value} {Q : Unit -> Shared -> Prop} (X : K.In s.heap) (I : ExcAt x D s.heap) (C : ExcCls K D) (hq : Q () s) : wpAny M A (checkBuiltinCall "BaseException.__getattribute__" ⟨[.ref x, nameV], []⟩) Q E s := by
  have a1 := F.args_bexc_ga (.ref x) nameV
  have l0 := I.type (M := M)
  have l1 := looks_mroIn (M := M) X C.mb
  obtain ⟨_, _, _, _, _⟩ := s
  simp only [checkBuiltinCall, show builtinKind "BaseException.__getattribute__" = some .slot by decide +kernel, show splitId "BaseException.__getattribute__" = some ("BaseException", "__getattribute__") by decide +kernel, isInstance]
  repeat (first | lk | wp_step)
  exact hq
theorem exc_entry {tk : Tok} {Q : Fin -> Shared -> Prop} (X : K.In s.heap) (I : ExcAt x D s.heap) (C : ExcCls K D) (hq : Q (.done (.ret (.ref D))) s) : wpAny (model prog w) A (Builtin.«object.__getattribute__» ⟨[.ref x, .str "__class__" tk], []⟩) Q E s := by
  obtain ⟨hh, g, d, t, os⟩ := s
  have L0 := I.type (M := model prog w)
  have L1 := exc_find (M := model prog w) (x := x) X C
  unfold Builtin.«object.__getattribute__»
  refine wpAny_bind (wpAny_pure ?_)
  refine wpAny_bind (wpAny_pure ?_)
  refine wpAny_bind (L0.at ?_)
  refine wpAny_bind (L1.at ?_)
  show wpAny _ _ (Builtin.ObjectAttr.bindTo _ _ _ _) _ _ _
  unfold Builtin.ObjectAttr.bindTo
  dsimp only
  refine wpAny_bind (wpAny_holding (wpAny_call (exc_get (K := K) (s := ⟨hh, g, d, t, os⟩) X I C.mo ?_)))
  exact wpAny_pure hq
theorem exc_class {Q : Option Value -> Shared -> Prop} (X : K.In s.heap) (I : ExcAt x D s.heap) (C : ExcCls K D) (h : Q (some (.ref D)) { s with toks := s.toks + 1 }) : wpAny (model prog w) A (getAttr? (.ref x) "__class__") Q E s := by
  obtain ⟨hh, g, d, t, os⟩ := s
  have L0 := I.type (M := model prog w)
  have L1 := looks_findIn (M := model prog w) X C.ga
  have L2 := looks_findIn (M := model prog w) X C.hk
  unfold getAttr? getAttrBy? getAttrBy
  refine wpAny_bind (wpAny_mkText (wpAny_bind (wpAny_attempt (wpAny_holding (wpAny_bind (L0.at (wpAny_bind (L1.at ?_))))))))
  show wpAny _ _ (getAttrByItsOwn _ _ _ _ _ _) _ _ _
  unfold getAttrByItsOwn hookBefore
  refine wpAny_bind ?_
  rw [if_pos (by rfl)]
  refine L2.at (wpAny_bind (wpAny_attempt (wpAny_holding ?_)))
  unfold callGetattribute
  rw [if_neg (by decide)]
  unfold boundAndCalled
  have f3 := PySem.F.attr_ValueError.ga.bind (.ref x)
  refine wpAny_bind (wpAny_of_eq f3 ?_)
  refine wpAny_call (codeAny_call_builtin PySem.F.attr_ValueError.ga.plain F.entry_bexc_ga (exc_check (K := K) (s := ⟨hh, g, d, t + 1, os⟩) X I C (exc_entry (K := K) (s := ⟨hh, g, d, t + 1, os⟩) X I C ?_)))
  exact wpAny_pure (wpAny_pure h)
theorem kitx_exc (C : ExcCls K D) : KitX K (.ref x) (.ref D) (ExcAt x D) := by
  have cl := C.cl
  unfold clsIn at cl
  refine ⟨fun _ _ _ I => I.type, fun _ _ X _ => ?_, fun h tp dd its n sl X htp => ?_, fun X I k => exc_class X I C k⟩
  . split at cl
    . rename_i ho
      intro A' Q' E' s' k q
      exact wpAny_bind (wpAny_loadPart (k _ _ (X _ _ ho)) (wpAny_pure q))
    . cases cl
  . split at cl
    . rename_i ho
      cases hb : (Value.ref D == Value.ref tp) with
      | false => rfl
      | true =>
        obtain rfl : D = tp := Value.ref.inj (beq_iff_eq.mp hb)
        cases (X _ _ ho).symm.trans htp
    . cases cl
end
section
variable {P : Program} {w : World}
theorem ObjOk.there {H : Hp} {h : Heap} {a : Addr} {o : HO} (x : ObjOk P w H h a o) : ∃ ob, h.get? a = some ob := by
  induction o with
  | lst xs => obtain ⟨_, _, _, _, e⟩ := x; exact ⟨_, e⟩
  | tup xs => obtain ⟨_, _, _, ob, e, _⟩ := x; exact ⟨_, e⟩
  | dK kvs => obtain ⟨_, _, _, _, o, _, _, e, _⟩ := x; exact ⟨_, e⟩
  | dT kvs => obtain ⟨_, _, _, _, o, _, _, e, _⟩ := x; exact ⟨_, e⟩
  | set S n => obtain ⟨o, _, _, _, e, _⟩ := x; exact ⟨_, e⟩
  | ins C dx fs => obtain ⟨_, _, _, e, _⟩ := x; exact ⟨_, e⟩
  | own y => obtain ⟨_, e⟩ := x; exact ⟨_, e⟩
  | xd fs => obtain ⟨_, ⟨_, _, _, e, _⟩, _⟩ := x; exact ⟨_, e⟩
  | rng lo hi => obtain ⟨_, _, _, e⟩ := x; exact ⟨_, e⟩
  | frz ob u ih => obtain ⟨e, _⟩ := x; exact ⟨_, e⟩
  | tbl ps => exact ⟨_, (show h.get? a = some _ from x)⟩
  | met f y => exact ⟨_, (show h.get? a = some _ from x)⟩
  | ext φ => obtain ⟨_, ⟨_, e⟩, _⟩ := x; exact ⟨_, e⟩
structure Fly (P : Program) (w : World) (fs : List Addr) (H1 H' : Hp) (h1 g B : Heap) : Prop where
  un : Un fs [] H1 H' h1 g
  hok : HOk P w H' g
  cov : ∀ b o, g.get? b = some o -> (H' b ≠ none \/ ∃ o', h1.get? b = some o') -> b ∉ fs -> B.get? b = some o
theorem Fly.move {fs : List Addr} {H1 H' : Hp} {h1 g B h2 : Heap} (x : Fly P w fs H1 H' h1 g B) (frees : ∀ b ∈ fs, H' b = none) (st : B.StaysIn h2) (up : ∀ b ∈ fs, ∀ o, g.get? b = some o -> ∃ sl, h2.get? b = some { o with slots := sl }) : Fly P w fs H1 H' h1 h2 B := by
  have keep : ∀ b o, g.get? b = some o -> (H' b ≠ none \/ ∃ o', h1.get? b = some o') -> b ∉ fs -> h2.get? b = some o := fun b o e h n => st b o (x.cov b o e h n)
  have nfs : ∀ b u, H' b = some u -> b ∉ fs := fun b u e z => by rw [frees b z] at e; cases e
  refine ⟨⟨fun b o e n hb hx => ?_, fun b o e n hb hx => ?_, fun b o e n hx => x.un.free b o e n hx, fun b o e hx => ?_, x.un.tups, x.un.frzs, x.un.tbls⟩, fun b u e => ?_, fun b o e h n => ?_⟩
  . exact keep b o (x.un.keep b o e n hb hx) (.inr ⟨o, e⟩) hb
  . obtain ⟨sl, e1⟩ := x.un.slot b o e n hb hx
    obtain ⟨sl', e2⟩ := up b hb _ e1
    exact ⟨sl', e2⟩
  . obtain ⟨o', e1⟩ := x.un.there b o e hx
    by_cases hb : b ∈ fs
    . obtain ⟨sl', e2⟩ := up b hb _ e1
      exact ⟨_, e2⟩
    . exact ⟨o', keep b o' e1 (.inr ⟨o, e⟩) hb⟩
  . refine (x.hok b u e).stay (fun c v hc q => ?_) (fun _ q => q) fun _ _ q => q
    rcases hc with rfl | hc
    . exact keep c v q (.inl (by rw [e]; simp)) (nfs c u e)
    . exact keep c v q (.inl (by rw [hc]; simp)) (nfs c _ hc)
  . -- B has it still
    have ⟨o1, e1⟩ : ∃ o1, g.get? b = some o1 := by
      rcases h with h | ⟨o', h⟩
      . cases q : H' b with
        | none => exact absurd q h
        | some u => exact (x.hok b u q).there
      . exact x.un.there b o' h (by simp)
    have e2 := x.cov b o1 e1 h n
    have e3 := st b o1 e2
    rw [e] at e3
    cases e3
    exact e2
def CXe (P : Program) (w : World) : CXT := fun outer H s E e s' => ∃ (ea : Addr) (cls a0 : Value) (H' : Hp) (B : Heap), e = .ref ea /\ s'.os = s.os /\ AllBare s'.gens /\ Fly P w (frs outer) H H' s.heap s'.heap B /\ Heap.FlyingW B outer ea cls a0 s'.heap /\ E cls none H'
theorem fly_frees {X : Cx} {pins : List (Addr × Obj)} {σ : St} {H1 H' : Hp} {s1 : Shared} {g B : Heap} (I : Inv X pins σ H1 s1) (x : Fly P w (frs X.stack) H1 H' s1.heap g B) : ∀ b ∈ frs X.stack, H' b = none := fun b hb => by
  obtain ⟨_, o, ho, _⟩ := I.stack.mem hb
  exact x.un.free b o ho (I.stkFree b hb) (by simp)
theorem raiseE {K : PySem.W.Frag} {mg : Str -> Option Value} {base : Heap} {N : List Str} {qual : Str} {scope : Scope} {f : Addr} {cd : Value} {A : Around} {outer : List Env} {s : Shared} {H : Hp} {E : XK}
    {pins : List (Addr × Obj)} {σ : St} {H1 : Hp} {s1 : Shared} {h' : Heap} {ea : Addr} {cls : Value} {vs : List Value}
    (I : Inv (cxOf (CXe P w) P w K mg base N qual scope f cd A outer s H E) pins σ H1 s1) (hx : Heap.MadeExcOf s1.heap h' ea cls vs) (q : E cls none H1) :
    (cxOf (CXe P w) P w K mg base N qual scope f cd A outer s H E).xe (.ref ea) { s1 with heap := h' } := by
  have fr : (cxOf (CXe P w) P w K mg base N qual scope f cd A outer s H E).A.frames = some (envOfC qual scope s.heap.objs.size f cd :: outer) := I.ok.frames
  have hin : ∀ env ∈ (envOfC qual scope s.heap.objs.size f cd :: outer), ∀ b, env.frame = some b -> b ∈ frs (envOfC qual scope s.heap.objs.size f cd :: outer) := fun env he b hb => List.mem_filterMap.mpr ⟨env, he, hb⟩
  have stk := I.stack
  have fl : Fly P w (frs (envOfC qual scope s.heap.objs.size f cd :: outer)) H1 H1 s1.heap s1.heap (PySem.W.hideAll s1.heap (frs (envOfC qual scope s.heap.objs.size f cd :: outer))) := ⟨Un.refl, I.hok, fun b o e _ n => PySem.W.hideAll_get _ e n⟩
  refine wpAny_leaves_madeW (base := PySem.W.hideAll s1.heap (frs (envOfC qual scope s.heap.objs.size f cd :: outer))) (h := s1.heap) fr rfl (fun b o q => PySem.W.of_hideAll _ q) ?_ hx fun h'' t fw' ht hnt ups => ?_
  . exact PySem.W.funFrames_hide stk hin
  . have fl2 := fl.move (fly_frees (X := cxOf (CXe P w) P w K mg base N qual scope f cd A outer s H E) I fl) fw'.1 (fun b hb o e => by
      obtain ⟨_, o', ho', nf⟩ := stk.mem hb
      rw [e] at ho'; cases ho'
      exact ups b o (hx.keeps b o e) nf)
    have I2 : Inv (cxOf (CXe P w) P w K mg base N qual scope f cd A outer s H E) pins σ H1 { s1 with heap := h'' } := I.call' (s' := { s1 with heap := h'' }) rfl fl2.un fl2.hok I.bare (fun b hb => by cases hb)
    refine ⟨ea, cls, .ref t, H1, _, rfl, I2.os, I2.bare, ⟨I2.base, I2.hok, fun b o e h n => fl2.cov b o e ?_ (fun z => ?_)⟩, fw', q⟩
    . rcases h with h | ⟨o', h⟩
      . exact .inl h
      . obtain ⟨o2, e2⟩ := I.base.there b o' h (by show b ∉ ([] : List Addr); simp)
        exact .inr ⟨o2, e2⟩
    . rcases List.mem_cons.mp (I.stkSub b z) with e' | e'
      . rcases h with h | ⟨o', h⟩
        . exact h (by rw [e']; exact I2.free)
        . have := Heap.lt_size h
          rw [e'] at this
          exact absurd (Nat.lt_of_lt_of_le this I.ok.above) (Nat.lt_irrefl _)
      . exact n e'
end
theorem exc_obj {K : Frag} {h : Heap} {C : Addr} {bmB : List Value} {newId : String} (X : K.In h) (q : excIn K C bmB newId = true) :
    ∃ bm N nm q bs hdct sn sub ab col dd k0 k1 k2 k3 k5 mN, h.get? C = some (excClassObj nm q C N bs bm hdct sn sub ab col dd k0 k1 k2 k3 k5 newId) /\ h.Ns N mN /\ mN "__init__" = none /\ OwnTail h bmB bm := by
  unfold excIn at q
  split at q
  case h_2 => cases q
  rename_i d0 c0 s0 hl
  split at q
  case h_2 => cases q
  rename_i B tl a0 a1 a2 a3 id0 a5 em es
  have g := X C _ hl
  repeat rw [Bool.and_eq_true] at q
  rcases q with ⟨⟨⟨⟨⟨e1, e2⟩, e3⟩, e4⟩, e5⟩, e6⟩
  cases eq_of_beq e1
  cases eq_of_beq e2
  rcases s0 with ⟨l0⟩
  cases es
  rcases c0 with ⟨f0, f1, f2, f3, f4, f5, f6, f7, f8, f9, f10⟩
  cases em
  cases f10
  . exact ⟨tl, f3, f0, f4, f1, f5, f6, f7, f8, f9, d0, a0, a1, a2, a3, a5, h.nsMap f3, g, .of_isNs (isNs_of_in X e5), nsMap_none_of_in X e5 (eq_of_beq e6), tail_of_in X e4⟩
  . cases e3
def bmV : List Value := [.type "ValueError", .type "Exception", .type "BaseException", .type "object"]
section
variable {P : Program} {w : World} {K : PySem.W.Frag} {mg : Str -> Option Value} {base : Heap} {N : List Str} {qual : Str} {scope : Scope} {f : Addr} {cd : Value} {A : Around} {outer : List Env} {s : Shared} {H : Hp} {E : XK}
def tRaise (C : Addr) (E : XK) (ta : TA) : TS := fun _ σ H => ta σ H fun vs H1 => vs.length <= sizeLine /\ E (.ref C) none H1
theorem ps_raise {x : Str} {C : Addr} {newId : String} {np cpos pos : Pos} {e₀ : Expr} {rest : List Expr} {ta : TA} (hm : mg x = some (.ref C)) (hx : excIn K C bmV newId = true) (hg : Gl (cxOf (CXe P w) P w K mg base N qual scope f cd A outer s H E) x)
    (hn : newId = "ValueError.__new__") (ha : PA (cxOf (CXe P w) P w K mg base N qual scope f cd A outer s H E) (e₀ :: rest) ta)
    (he : starEach (e₀ :: rest) (cxOf (CXe P w) P w K mg base N qual scope f cd A outer s H E).env = (false, eval e₀ (cxOf (CXe P w) P w K mg base N qual scope f cd A outer s H E).env) :: starEach rest (cxOf (CXe P w) P w K mg base N qual scope f cd A outer s H E).env := by rfl)
    (hplain : (backTo cpos (starEach rest (cxOf (CXe P w) P w K mg base N qual scope f cd A outer s H E).env)).any (·.1) = false := by rfl) (hd : (x == ("__debug__" : Str)) = false := by decide) :
    PS (cxOf (CXe P w) P w K mg base N qual scope f cd A outer s H E) (.Raise (some (.Call (.Name x np) (e₀ :: rest) [] cpos)) none pos) (tRaise C E ta) := by
  intro pins s1 σ H1 D I h
  subst hn
  obtain ⟨bm, Nc, nm, q, bs, hdct, sn, sub, ab, col, dd, k0, k1, k2, k3, k5, mN, hC, hN, hni, T⟩ := exc_obj I.mod.kin hx
  refine wpAny_Raise_call_subU (C := C) (nm := nm) (q := q) (N := Nc) (bs := bs) (bm := bm) (hdct := hdct) (sn := sn) (sub := sub) (ab := ab) (col := col) (dd := dd) (k0 := k0) (k1 := k1) (k2 := k2) (k3 := k3) (k5 := k5)
    PySem.F.excBase_ValueError (bmB := bmV) (by decide +kernel) PySem.F.excBase_ValueError (mN := mN) (T.hasType PySem.F.excBase_ValueError.hasBase) (I.ok.hd rfl) (by rw [he]; show (false || (backTo cpos (starEach rest _)).any (·.1)) = false; rw [hplain]; rfl) hni (ld_glob I hg hm ⟨rfl, ?_⟩ hd)
  have hA := ha cpos pins s1 σ H1 _ I h
  rw [he] at hA ⊢
  refine Calls.evalArgs_plain (thn hA fun us s2 ⟨vs, H2, I2, r2, hz, q2⟩ => ⟨rfl, by rw [<- r2.length]; exact hz, I2.bk _ _ hC, hN.keeps I2.bk, T.keeps I2.bk, fun h' e hm => raiseE I2 hm q2⟩)
end
end L2
set_option Elab.async false
set_option linter.all false
set_option maxRecDepth 100000
set_option maxHeartbeats 4000000
namespace L2
open PySem PySem.Spec PyProof.Rows
abbrev Cx.body (X : Cx) (xe : Value -> Shared -> Prop) (pn : List (Addr × Obj)) : Cx := { X with xe := xe, pn := pn }
abbrev Cx.suite (X : Cx) (ea : Addr) (pn : List (Addr × Obj)) : Cx := { X with A := X.A.mark (some (.ref ea)), calm := false, xe := fun _ _ => False, pn := pn }
section
variable {X : Cx} {pins pins' : List (Addr × Obj)} {σ : St} {H : Hp} {s : Shared} {xe xe' : Value -> Shared -> Prop} {ea : Addr}
theorem Inv.toBody (I : Inv X pins σ H s) : Inv (X.body xe (X.pn ++ pins)) [] σ H s :=
  ⟨⟨I.ok.mod, I.ok.kind, I.ok.glob, I.ok.blt, I.ok.above, I.ok.inj, I.ok.has, I.ok.cab, I.ok.hd, I.ok.frames, I.ok.stk, I.ok.exf, I.ok.bs, I.ok.bsz, I.ok.noex, I.ok.exfs, I.ok.funs, I.ok.frf⟩, I.os, I.bare, I.base, I.loc, I.cell, I.free, I.freeC, fun p hp => I.pin p (by simpa using hp), I.hok, I.len⟩
theorem Inv.ofBody (I : Inv (X.body xe (X.pn ++ pins)) pins' σ H s) : Inv X pins σ H s :=
  ⟨⟨I.ok.mod, I.ok.kind, I.ok.glob, I.ok.blt, I.ok.above, I.ok.inj, I.ok.has, I.ok.cab, I.ok.hd, I.ok.frames, I.ok.stk, I.ok.exf, I.ok.bs, I.ok.bsz, I.ok.noex, I.ok.exfs, I.ok.funs, I.ok.frf⟩, I.os, I.bare, I.base, I.loc, I.cell, I.free, I.freeC, fun p hp => I.pin p (List.mem_append_left _ hp), I.hok, I.len⟩
theorem Inv.reBody {pn : List (Addr × Obj)} (I : Inv (X.body xe pn) pins' σ H s) : Inv (X.body xe' pn) pins' σ H s :=
  ⟨⟨I.ok.mod, I.ok.kind, I.ok.glob, I.ok.blt, I.ok.above, I.ok.inj, I.ok.has, I.ok.cab, I.ok.hd, I.ok.frames, I.ok.stk, I.ok.exf, I.ok.bs, I.ok.bsz, I.ok.noex, I.ok.exfs, I.ok.funs, I.ok.frf⟩, I.os, I.bare, I.base, I.loc, I.cell, I.free, I.freeC, I.pin, I.hok, I.len⟩
theorem Inv.toSuite (I : Inv X pins σ H s) : Inv (X.suite ea (X.pn ++ pins)) [] σ H s :=
  ⟨⟨I.ok.mod, I.ok.kind, I.ok.glob, I.ok.blt, I.ok.above, I.ok.inj, I.ok.has, I.ok.cab, fun z => absurd (show false = true from z) Bool.false_ne_true, I.ok.frames, I.ok.stk, I.ok.exf, I.ok.bs, I.ok.bsz, I.ok.noex, I.ok.exfs, I.ok.funs, I.ok.frf⟩, I.os, I.bare, I.base, I.loc, I.cell, I.free, I.freeC, fun p hp => I.pin p (by simpa using hp), I.hok, I.len⟩
theorem Inv.ofSuite (hd : X.calm = true -> X.A.handled = none) (I : Inv (X.suite ea (X.pn ++ pins)) pins' σ H s) : Inv X pins σ H s :=
  ⟨⟨I.ok.mod, I.ok.kind, I.ok.glob, I.ok.blt, I.ok.above, I.ok.inj, I.ok.has, I.ok.cab, hd, I.ok.frames, I.ok.stk, I.ok.exf, I.ok.bs, I.ok.bsz, I.ok.noex, I.ok.exfs, I.ok.funs, I.ok.frf⟩, I.os, I.bare, I.base, I.loc, I.cell, I.free, I.freeC, fun p hp => I.pin p (List.mem_append_left _ hp), I.hok, I.len⟩
theorem Inv.forget {i : Nat} {n : Str} {m : Str -> Option Value} {v : Option Value} {h' : Heap} {t' : Nat} (I : Inv X pins σ H s) (hN : X.N.Nodup) (hi : X.N[i]? = some n) (hx : X.env.scope.names.lookup n = some .local)
    (hl : ∀ (i : Nat) (x : Str) (v : V), X.N[i]? = some x -> σ[i]? = some (some v) -> Vis X.env.scope x -> ∃ u, RelV v u /\ Look X.env s.heap m x u) (hn : s.heap.Ns X.env.locals m)
    (hn' : h'.Ns X.env.locals (fun x => if x = n then v else m x)) (hs : Heap.SameBut X.env.locals s.heap h') : Inv X pins (σ.set i none) H { s with heap := h', toks := t' } := by
  have cne := I.cne
  obtain ⟨oL, _, _, hoL, _⟩ := id hn
  have tracked : HOk X.prog X.w H h' := fun b ob e => by
    refine (I.hok b ob e).stay (fun c w' hc q => (hs.2 c ?_).trans q) (fun _ q => q) fun _ _ q => q
    rintro rfl
    rcases hc with rfl | hc
    . rw [I.free] at e; cases e
    . rw [I.free] at hc; cases hc
  refine ⟨I.ok, I.os, I.bare, ⟨fun b o e n hb hx => ?_, fun b o e n hb hx => ?_, I.base.free, fun b o e hx => ?_, I.base.tups, I.base.frzs, I.base.tbls⟩, ⟨_, hn', fun j y v' e1 e2 e3 => ?_⟩, fun y c e => ?_, I.free, I.freeC, fun p hp => ?_, tracked, by simpa using I.len⟩
  . exact (hs.2 b (Nat.ne_of_lt (Nat.lt_of_lt_of_le (Heap.lt_size e) I.ok.above))).trans (I.base.keep b o e n hb hx)
  . obtain ⟨sl, e1⟩ := I.base.slot b o e n hb hx
    exact ⟨sl, (hs.2 b (Nat.ne_of_lt (Nat.lt_of_lt_of_le (Heap.lt_size e) I.ok.above))).trans e1⟩
  . obtain ⟨o', e1⟩ := I.base.there b o e hx
    exact ⟨o', (hs.2 b (Nat.ne_of_lt (Nat.lt_of_lt_of_le (Heap.lt_size e) I.ok.above))).trans e1⟩
  . by_cases hj : j = i
    . subst hj
      have hlt : j < σ.length := by
        have := (List.getElem?_eq_some_iff.mp e2).1
        simpa using this
      rw [List.getElem?_set_self hlt] at e2
      cases e2
    . rw [List.getElem?_set_ne (Ne.symm hj)] at e2
      obtain ⟨u', r', q⟩ := hl j y v' e1 e2 e3
      refine ⟨u', r', ?_⟩
      rcases q with ⟨k, e⟩ | ⟨k, c, e, z⟩
      . refine .inl ⟨k, ?_⟩
        have : y ≠ n := fun e => hj (nodup_ix hN e1 (e ▸ hi))
        simp [this, e]
      . exact .inr ⟨k, c, e, z.sameBut hs (cne y c e)⟩
  . obtain ⟨w', z⟩ := I.cell y c e
    exact ⟨w', z.sameBut hs (cne y c e)⟩
  . obtain ⟨e, n, ne, nf, d⟩ := I.pin p hp
    exact ⟨(hs.2 p.1 ne).trans e, n, ne, nf, d⟩
end
def PassesAt (CX : CXT) (X : Cx) (σ : St) (E : XK) : Prop := ∀ (pins : List (Addr × Obj)) (H : Hp) (s : Shared) (e : Value) (s' : Shared), Inv X pins σ H s -> CX X.stack H s E e s' -> X.xe e s'
def tCallE (sp : Sp) (dvs : List V) (E : St -> XK) (t : TA) : TE := fun σ H Q => t σ H fun vs H1 => sp (vs ++ dvs) H1 Q (E σ)
section
variable {X : Cx} {CX : CXT} {k : Nat} {f C : Addr} {fd : FuncData} {ps : List Str} {sp : Sp} {dvs : List V} {ds : List Value} {E : St -> XK} {x : Str} {p pos : Pos} {e : Expr} {es : List Expr} {t : TA}
theorem run_fnE {pins : List (Addr × Obj)} {σ : St} {H : Hp} {s : Shared} {Q : VK} {us : List Value} {vs : List V} {E : XK} (F : FnOk X.prog X.w X.K X.mg X.base CX k f fd ps sp) (hr : Room k X.A) (hb : Binds X.K fd ps ds) (hd : Vals dvs ds) (hx : PassesAt CX X σ E)
    (I : Inv X pins σ H s) (r : Vals vs us) (h : sp (vs ++ dvs) H Q E) : wpAny (model X.prog X.w) X.A (call (.ref f) us) (EP X pins σ Q) X.xe s := by
  have r2 : Vals (vs ++ dvs) (us ++ ds) := r.append hd
  have hl : (us ++ ds).length = ps.length := by rw [<- r2.length]; exact F.len _ _ _ _ h
  refine wpAny_call (codeAny_mono (F.run X.A X.stack s H ⟨us, []⟩ (us ++ ds) (vs ++ dvs) Q E hr I.env0 (hb s us I.kIn hl) r2 h) fun r s' hq => ?_)
  cases r with
  | error e => exact hx pins H s e s' I hq
  | ok fl =>
    cases fl with
    | ret u => exact I.after hq
    | next => exact False.elim hq
    | brk => exact False.elim hq
    | cont => exact False.elim hq
theorem pe_callE (F : FnOk X.prog X.w X.K X.mg X.base CX k f fd ps sp) (hr : Room k X.A) (hg : Gl X x) (hm : X.mg x = some (.ref f)) (hk : PySem.W.keepIn X.K (.ref f) = true) (hb : Binds X.K fd ps ds) (hd : Vals dvs ds) (hx : ∀ σ, PassesAt CX X σ (E σ))
    (ha : PA X (e :: es) t) (hdb : (x == ("__debug__" : Str)) = false := by decide) (he : starEach (e :: es) X.env = (false, eval e X.env) :: starEach es X.env := by rfl) (hpl : (backTo pos (starEach es X.env)).any (·.1) = false := by rfl) :
    PE X (.Call (.Name x p) (e :: es) [] pos) (tCallE sp dvs E t) := by
  intro pins s σ H Q I h
  refine wpAny_Call_Name_kw (ld_glob I hg hm ?_ hdb)
  refine PySem.W.callWith_K (h₀ := X.base) I.ok.mod.kin hk (thn (ha pos pins s σ H _ I h) fun us s1 ⟨vs, H1, I1, r, q⟩ => ⟨I1.kIn, ?_⟩) he hpl
  exact run_fnE F hr hb hd (hx σ) I1 r q
end
def excO (ea C : Addr) : HO := .ext (ExcAt ea C)
def Ends.un (D : Ends) (i : Nat) : Ends := { nx := fun σ H => D.nx (σ.set i none) H, rt := D.rt, bk := fun σ H => D.bk (σ.set i none) H, ct := fun σ H => D.ct (σ.set i none) H }
def tTry (K : PySem.W.Frag) (Ca : Addr) (i : Nat) (E : St -> XK) (tb ts : TS) : TS := fun D σ H => tb D σ H /\ ∀ σ' cls H', E σ' cls none H' ->
  ∃ C, cls = .ref C /\ PySem.W.exmOne K (.ref C) (.ref Ca) = some true /\ ∀ ea, H' ea = none -> ts (D.un i) (σ'.set i (some (.ref ea))) (upd H' ea (excO ea C))
theorem ps_try {X : Cx} {body : List Stmt} {c n : Str} {Ca : Addr} {np hpos pos : Pos} {b₀ : Stmt} {suite : List Stmt} {i : Nat} {E : St -> XK} {tb ts : TS} (hN : X.N.Nodup) (hi : X.N[i]? = some n) (hn : X.env.scope.names.lookup n = some .local)
    (hg : Gl X c) (hm : X.mg c = some (.ref Ca)) (hst : X.stack = X.env :: X.outer) (hL : X.env.frame = some X.env.locals) (hex : X.ex = [])
    (hb : ∀ xe pn, (∀ σ, PassesAt (CXe X.prog X.w) (X.body xe pn) σ (E σ)) -> PSs (X.body xe pn) body tb) (hs : ∀ ea pn, PSs (X.suite ea pn) (b₀ :: suite) ts) (hd : (c == ("__debug__" : Str)) = false := by decide) :
    PS X (.Try body [.ExceptHandler (some (.Name c np)) (some n) (b₀ :: suite) hpos] [] [] pos) (tTry X.K Ca i E tb ts) := by
  intro pins s σ H D I h
  obtain ⟨hbody, hhand⟩ := h
  have hB := hb (fun e s' => ∃ pins' σ' H1 s1, Inv (X.body (fun _ _ => True) (X.pn ++ pins)) pins' σ' H1 s1 /\ CXe X.prog X.w X.stack H1 s1 (E σ') e s') (X.pn ++ pins) (fun σ pins' H s e s' I' hcx => ⟨pins', σ, H, s, I'.reBody, hcx⟩) [] s σ H D I.toBody hbody
  refine wpAny_Try_except (wpAny_mono hB (fun f s1 q => ?_) fun e s1 q => ?_)
  . cases f with
    | next => obtain ⟨σ1, H1, I1, q1⟩ := q; exact wpAny_execs_nil ⟨σ1, H1, I1.ofBody, q1⟩
    | brk => obtain ⟨σ1, H1, I1, q1⟩ := q; exact ⟨σ1, H1, I1.ofBody, q1⟩
    | cont => obtain ⟨σ1, H1, I1, q1⟩ := q; exact ⟨σ1, H1, I1.ofBody, q1⟩
    | ret v => obtain ⟨x1, σ1, H1, I1, r1, q1⟩ := q; exact ⟨x1, σ1, H1, I1.ofBody, r1, q1⟩
  . obtain ⟨pins', σ', H1, s2, I2, ea, cls, a0, H', B, rfl, os, bare, fl, fw, hE⟩ := q
    obtain ⟨C, rfl, hexm, hts⟩ := hhand σ' cls H' hE
    have I2' : Inv X pins σ' H1 s2 := I2.ofBody
    have fr : X.A.frames = some (X.env :: X.outer) := by rw [I.ok.frames, hst]
    have frees := fly_frees I2' fl
    have fw0 := fw
    rw [hst] at fw
    have invAt : ∀ h', Heap.FlyingW B (X.env :: X.outer) ea (.ref C) a0 h' -> s1.heap.UpToSlots h' -> Inv X pins σ' H' { s1 with heap := h' } := fun h' fw' ups => by
      have fl2 := fl.move frees fw'.1 (fun b hb o e => by
        obtain ⟨_, o', ho', nf⟩ := fw0.2.2.1.mem hb
        rw [e] at ho'; cases ho'
        exact ups b o e nf)
      exact I2'.call' (s' := { s1 with heap := h' }) os fl2.un fl2.hok bare (fun b hb => by cases hb)
    refine wpAny_looks_onW fr hL fw fun h4 held4 up4 => ?_
    refine wpAny_landsW held4 fun h5 fw5 up5 => ?_
    have I5 := invAt h5 fw5 (up4.trans up5)
    have I5m : Inv (X.suite ea (X.pn ++ pins)) [] σ' H' { s1 with heap := h5 } := I5.toSuite
    refine wpAny_handleBy_cons (codeAny_handlers_test (ld_glob (X := X.suite ea (X.pn ++ pins)) I5m hg hm ?_ hd)) (by intro q; cases q)
    have LT : PySem.W.Looks (model X.prog X.w) h5 (typeOf (.ref ea)) (.ref C) := by
      obtain ⟨ob, hob, hoc⟩ := fw5.there
      exact hoc ▸ (PySem.W.Looks.ld hob).andThen .now
    refine (PySem.W.exm_one (K := X.K) (M := model X.prog X.w) I5.kIn LT hexm) _ _ _ _ (fun b o e => e) ?_
    refine codeAny_handlers_suite_as ?_
    refine lands_againW fw5 fun h6 fw6 up6 => ?_
    have I6 := invAt h6 fw6 ((up4.trans up5).trans up6)
    -- the exception's object is not tracked yet
    have hne : H' ea = none := by
      cases q : H' ea with
      | none => rfl
      | some u =>
        have nfs : ea ∉ frs X.stack := fun z => by rw [frees ea z] at q; cases q
        obtain ⟨o, ho⟩ := (fl.hok ea u q).there
        have := fl.cov ea o ho (.inl (by rw [q]; simp)) nfs
        rw [fw.2.1] at this
        cases this
    have new : ObjOk X.prog X.w (upd H' ea (excO ea C)) h6 ea (excO ea C) := by
      obtain ⟨ob, hob, hoc⟩ := fw6.there
      refine ⟨⟨ob, hob, hoc⟩, ⟨ob, hob⟩, fun g1 g2 ⟨o1, e1, c1⟩ k => ⟨o1, k o1 e1, c1⟩⟩
    have hsz : s2.heap.get? ea = none := by
      cases q : s2.heap.get? ea with
      | none => rfl
      | some o =>
        by_cases z : ea ∈ frs X.stack
        . obtain ⟨_, o', ho', nf⟩ := fw0.2.2.1.mem z
          obtain ⟨oe, vs, hoe, _, hdt, _⟩ := fw.first
          rw [ho'] at hoe; cases hoe
          exact absurd hdt (nf vs)
        . obtain ⟨o', e'⟩ := fl.un.there ea o q (by simp)
          have := fl.cov ea o' e' (.inr ⟨o, q⟩) z
          rw [fw.2.1] at this
          cases this
    have I6t : Inv X pins σ' (upd H' ea (excO ea C)) { s1 with heap := h6 } := by
      refine ⟨I6.ok, I6.os, I6.bare, ?_, I6.loc, I6.cell, ?_, fun x c e => ?_, fun p hp => ?_, I6.hok.track hne new, I6.len⟩
      . -- newer than the entry
        have h0 : X.s₀.heap.get? ea = none := by
          cases q : X.s₀.heap.get? ea with
          | none => rfl
          | some o =>
            obtain ⟨o', e'⟩ := I2'.base.there ea o q (by rw [hex]; simp)
            rw [hsz] at e'; cases e'
        refine ⟨I6.base.keep, I6.base.slot, fun b o e n hx => ?_, I6.base.there, fun b xs q => ?_, fun b ob xs q => ?_, fun b ps q => ?_⟩
        . rw [upd_ne (fun z => by rw [z, h0] at e; cases e)]; exact I6.base.free b o e n hx
        . have := I6.base.tups b xs q; rw [upd_ne (ne_of_none this hne)]; exact this
        . have := I6.base.frzs b ob xs q; rw [upd_ne (ne_of_none this hne)]; exact this
        . obtain ⟨more, e⟩ := I6.base.tbls b ps q
          exact ⟨more, by rw [upd_ne (ne_of_none e hne)]; exact e⟩
      . rw [upd_ne (fun z => ?_)]
        . exact I6.free
        . have := I2'.lt
          obtain ⟨m, ⟨o, _, _, ho, _⟩, _⟩ := I2'.loc
          rw [z, hsz] at ho; cases ho
      . rw [upd_ne (fun z => ?_)]
        . exact I6.freeC x c e
        . obtain ⟨v, o, ho, _⟩ := I2'.cell x c e
          rw [z, hsz] at ho; cases ho
      . obtain ⟨e, n, r⟩ := I6.pin p hp
        refine ⟨e, ?_, r⟩
        rw [upd_ne (fun z => ?_)]
        . exact n
        . have := (I2'.pin p hp).1
          rw [z, hsz] at this; cases this
    have I6m : Inv (X.suite ea (X.pn ++ pins)) [] σ' (upd H' ea (excO ea C)) { s1 with heap := h6 } := I6t.toSuite
    refine store_ok (X := X.suite ea (X.pn ++ pins)) I6m hN hi (.inl hn) (v := .ref ea) rfl (fun s7 I7 => ?_) (.inr hn)
    refine wpAny_mono (hs ea (X.pn ++ pins) [] s7 _ _ (D.un i) I7 (hts ea hne)) (fun f s8 q8 => ?_) (fun _ _ z => False.elim z)
    have hcl : (X.env.scope.kind == .class || (X.env.scope.kind == .module && X.env.locals != X.env.globals)) = false := by rw [I.ok.kind]; rfl
    have goes : ∀ {σ8 : St} {H8 : Hp}, Inv (X.suite ea (X.pn ++ pins)) [] σ8 H8 s8 -> ∀ (R : Unit -> Shared -> Prop), (∀ s9, Inv X pins (σ8.set i none) H8 s9 -> R () s9) ->
        wpAny (model X.prog X.w) X.A (do bindName X.env n .none; unbindBehindTheSuite X.env n hpos) R X.xe s8 := fun {σ8 H8} I8 R hR => by
      have I8' : Inv X pins σ8 H8 s8 := I8.ofSuite I.ok.hd
      obtain ⟨m, hns, hl⟩ := I8'.loc
      exact wpAny_nameGoes_keeps hn hns hcl fun h9 v hn9 sb => hR _ (I8'.forget hN hi hn hl hns hn9 sb)
    cases f with
    | next => obtain ⟨σ8, H8, I8, q⟩ := q8; exact goes I8 _ fun s9 I9 => ⟨_, H8, I9, q⟩
    | brk => obtain ⟨σ8, H8, I8, q⟩ := q8; exact goes I8 _ fun s9 I9 => ⟨_, H8, I9, q⟩
    | cont => obtain ⟨σ8, H8, I8, q⟩ := q8; exact goes I8 _ fun s9 I9 => ⟨_, H8, I9, q⟩
    | ret v => obtain ⟨x8, σ8, H8, I8, r8, q⟩ := q8; exact goes I8 _ fun s9 I9 => ⟨x8, _, H8, I9, r8, q⟩
theorem call_isinstE {X : Cx} : CallR X (.builtin "isinstance") (fun xs H Q => ∃ ea C c cv b, xs = [.ref ea, c] /\ H ea = some (excO ea C) /\ ExcCls X.K C /\ (∀ u, RelV c u -> u = cv) /\ PySem.W.kitOne X.K (.ref C) cv = some b /\ Q (.bl b) H) := by
  intro pins s σ H xs us Q I r h
  obtain ⟨ea, C, c, cv, b, rfl, hea, hC, hc, hk, q⟩ := h
  obtain ⟨u, w', rfl, rx, rc⟩ := vals2 r
  rw [hc _ rc]
  cases rx
  obtain ⟨p, _, _⟩ := (show ObjOk X.prog X.w H s.heap ea (.ext (ExcAt ea C)) from I.hok ea _ hea)
  exact PySem.W.kia_one (kitx_exc hC) I.kIn p hk (fun z => nomatch z) fun tk => ⟨.bl b, H, I.tok tk, rfl, q⟩
end L2
set_option Elab.async false
set_option linter.all false
set_option maxRecDepth 100000
set_option maxHeartbeats 4000000
namespace HT
open PySem PySem.Spec PyProof.Rows
open PySem.AutoSeq1 (wpAny_loadPart')
section
open PySem.SeqAt PySem.MeetsSeq PySem.MeetsSeq2 PySem.MeetsSeq3
end
end HT
namespace L2
open PySem PySem.Spec PyProof.Rows
section
variable {X : Cx}
end
theorem whileW {c : TT} {tb : TS} {D : Ends} {σ : St} {H : Hp} (Pv : Nat -> St -> Hp -> Prop) (h0 : ∃ m, Pv m σ H)
    (hs : ∀ m σ H, Pv m σ H -> c σ H fun b H1 => if b = true then ∃ N : St -> Hp -> Prop, (∀ σ' H', N σ' H' -> ∃ m', m' < m /\ Pv m' σ' H') /\ tb { D with nx := N, ct := N, bk := D.nx } σ H1 else D.nx σ H1) : tWhile c tb D σ H := ⟨Pv, h0, hs⟩
section
variable {K : PySem.W.Frag} {H : Hp} {Q : VK}
end
inductive TyW (K : PySem.W.Frag) (H : Hp) : V -> Value -> Prop where
  | non : TyW K H .non (.type "NoneType")
  | bl (x : Bool) : TyW K H (.bl x) (.type "bool")
  | int (i : Int) : TyW K H (.int i) (.type "int")
  | str (x : Str) : TyW K H (.str x) (.type "str")
  | lst {a : Addr} {xs : List V} (e : SqL K H a xs) : TyW K H (.ref a) (.type "list")
  | tup {a : Addr} {xs : List V} (e : SqT K H a xs) : TyW K H (.ref a) (.type "tuple")
  | exc {a C : Addr} (e : H a = some (excO a C)) (c : ExcCls K C) : TyW K H (.ref a) (.ref C)
theorem call_isinstW {X : Cx} : CallR X (.builtin "isinstance") (fun xs H Q => ∃ x c cv t b, xs = [x, c] /\ TyW X.K H x t /\ (∀ u, RelV c u -> u = cv) /\ PySem.W.kitOne X.K t cv = some b /\ Q (.bl b) H) := by
  intro pins s σ H xs us Q I r h
  obtain ⟨x, c, cv, t, b, rfl, ty, hc, hk, q⟩ := h
  cases ty with
  | non => exact call_isinst pins s σ H _ us Q I r ⟨_, c, cv, _, b, rfl, .non, hc, hk, q⟩
  | bl y => exact call_isinst pins s σ H _ us Q I r ⟨_, c, cv, _, b, rfl, .bl y, hc, hk, q⟩
  | int y => exact call_isinst pins s σ H _ us Q I r ⟨_, c, cv, _, b, rfl, .int y, hc, hk, q⟩
  | str y => exact call_isinst pins s σ H _ us Q I r ⟨_, c, cv, _, b, rfl, .str y, hc, hk, q⟩
  | exc e hC => exact call_isinstE pins s σ H _ us Q I r ⟨_, _, c, cv, b, rfl, e, hC, hc, hk, q⟩
  | @lst a xs e =>
    obtain ⟨u, w', rfl, rx, rc⟩ := vals2 r
    rw [hc _ rc]
    cases rx
    obtain ⟨its, _, pl, _⟩ := I.list e
    obtain ⟨o, ho, hcl, _⟩ := pl.isList
    exact PySem.W.kia_one PySem.W.kitx_list I.kIn ⟨o, ho, hcl⟩ hk (fun z => nomatch z) fun tk => ⟨.bl b, H, I.tok tk, rfl, q⟩
  | @tup a xs e =>
    obtain ⟨u, w', rfl, rx, rc⟩ := vals2 r
    rw [hc _ rc]
    cases rx
    obtain ⟨its, _, ⟨o, ho, hcl, _⟩, _⟩ := I.tuple e
    exact PySem.W.kia_one PySem.W.kitx_tuple I.kIn ⟨o, ho, hcl⟩ hk (fun z => nomatch z) fun tk => ⟨.bl b, H, I.tok tk, rfl, q⟩
end L2
set_option Elab.async false
set_option linter.all false
set_option maxRecDepth 100000
set_option maxHeartbeats 4000000
namespace GW
def placeR (L : Int) : List Int -> Int
  | [] => 0
  | x :: r => placeR L r * L + x + 1
def place (L : Int) (w : List Int) : Int := placeR L w.reverse
def inW (L x : Int) : Bool := decide (0 <= x) && decide (x < L)
def isW (L : Int) (ws : List Int) : Bool := ws.all (inW L)
theorem inW_iff {L x : Int} : inW L x = true ↔ 0 <= x /\ x < L := by simp [inW]
theorem isW_iff {L : Int} {ws : List Int} : isW L ws = true ↔ ∀ x ∈ ws, 0 <= x /\ x < L := by simp [isW, inW_iff]
def many (L : Int) : Nat -> Int
  | 0 => 0
  | k + 1 => many L k * L + 1
def val (L : Int) : List Int -> Int
  | [] => 0
  | x :: r => val L r * L + x
end GW
set_option Elab.async false
set_option linter.all false
set_option maxRecDepth 100000
set_option maxHeartbeats 4000000
namespace PySem
section
variable {prog : Program} {w : World} {A : Around} {E : Value -> Shared -> Prop} {s : Shared}
abbrev lsO (acc : Array Value) (c : Nat) : Obj := { cls := .type "list", dict := none, data := .seq acc c, slots := #[] }
def KP (wr : Addr -> Prop) (h h' : Heap) : Prop := ∀ b o, ¬ wr b -> h.get? b = some o -> h'.get? b = some o
structure Gat (prog : Program) (w : World) (s : Shared) (r I : Addr) (T : String) (n : Nat) (wr : Addr -> Prop) (J : Nat -> List Value -> Heap -> Prop) (Fn : List Value -> Heap -> Prop) : Prop where
  type : s.TypeIs (.ref r) T
  nl : (Value.type T == Value.type "list") = false
  nt : (Value.type T == Value.type "tuple") = false
  le : n <= sizeLine
  hint : ∀ (A : Around) (t : Shared) (Q : Bool -> Shared -> Prop) (E : Value -> Shared -> Prop), (∀ b o, s.heap.get? b = some o -> t.heap.get? b = some o) -> (∀ b tk, Q b { t with toks := tk }) -> wpAny (model prog w) A (Builtin.List.listLengthHint (.ref r)) Q E t
  iter : ∀ (A : Around) (h1 : Heap) (Q : Value -> Shared -> Prop) (E : Value -> Shared -> Prop), (∀ b o, s.heap.get? b = some o -> h1.get? b = some o) -> h1.objs.size = s.heap.objs.size + 1 -> (∀ h', J 0 [] h' -> (∀ b o, h1.get? b = some o -> h'.get? b = some o) -> Q (.ref I) { s with heap := h' }) -> wpAny (model prog w) A (pyIter (.ref r)) Q E { s with heap := h1 }
  next : ∀ (A : Around) i acc (t : Shared) (Q : Option Value -> Shared -> Prop) (E : Value -> Shared -> Prop), A.handled = none -> J i acc t.heap -> acc.length = i -> i <= n -> s.heap.objs.size < t.heap.objs.size ->
    (∀ v h' tk, i < n -> J (i + 1) (acc ++ [v]) h' -> KP wr t.heap h' -> Q (some v) { t with heap := h', toks := tk }) -> (∀ h' tk, i = n -> Fn acc h' -> KP wr t.heap h' -> Q none { t with heap := h', toks := tk }) -> wpAny (model prog w) A (pyNext (.ref I)) Q E t
  frame : ∀ i acc h h', J i acc h -> (∀ b o, b ≠ s.heap.objs.size -> h.get? b = some o -> h'.get? b = some o) -> J i acc h'
  nw : ¬ wr s.heap.objs.size
variable {I r : Addr} {T : String} {n : Nat} {wr : Addr -> Prop} {J : Nat -> List Value -> Heap -> Prop} {Fn : List Value -> Heap -> Prop} {R : Result -> Shared -> Prop} {res : Value}
theorem Gat.loop (G : Gat prog w s r I T n wr J Fn) (hh : A.handled = none)
    (hR : ∀ h' tk acc c, Fn acc h' -> acc.length = n -> h'.get? s.heap.objs.size = some (lsO acc.toArray c) -> KP wr s.heap h' -> R (.ok (.ret res)) { s with heap := h', toks := tk }) :
    ∀ (k : Nat) (h : Heap) (tk c : Nat) (acc : List Value), n - acc.length = k -> acc.length <= n -> J acc.length acc h -> h.get? s.heap.objs.size = some (lsO acc.toArray c) -> KP wr s.heap h -> codeAny (model prog w) A (.builtin "list.extend.loop" ⟨[.ref s.heap.objs.size, .ref I, res], []⟩) R { s with heap := h, toks := tk } := by
  intro k
  induction k with
  | zero =>
    intro h tk c acc hk hi j hS kp
    refine codeAny_builtin F.entry_extend_loop ?_
    rw [Around.under_plainId F.plain_extend_loop _]
    refine wpAny_bind (G.next A.in1 _ acc { s with heap := h, toks := tk } _ _ hh j rfl hi (Heap.lt_size hS) (fun v h' tk l => by omega) fun h' tk e j' kk => ?_)
    exact wpAny_pure (hR h' tk acc c j' (by omega) (kk _ _ G.nw hS) fun b o m q => kk b o m (kp b o m q))
  | succ k ih =>
    intro h tk c acc hk hi j hS kp
    refine codeAny_builtin F.entry_extend_loop ?_
    rw [Around.under_plainId F.plain_extend_loop _]
    refine wpAny_bind (G.next A.in1 _ acc { s with heap := h, toks := tk } _ _ hh j rfl hi (Heap.lt_size hS) (fun v h' tk l j' kk => ?_) fun h' tk e => by omega)
    have hS' := kk _ _ G.nw hS
    have up : ∀ b o, b ≠ s.heap.objs.size -> h'.get? b = some o -> (h'.update s.heap.objs.size (Obj.mapSeq (·.push v))).get? b = some o := fun b o m q => (Heap.get?_update_other _ _ (Ne.symm m)).trans q
    have hl : (acc ++ [v]).length = acc.length + 1 := by simp
    have := G.le
    obtain ⟨c', hS2⟩ : ∃ c', (h'.update s.heap.objs.size (Obj.mapSeq (·.push v))).get? s.heap.objs.size = some (lsO (acc ++ [v]).toArray c') := ⟨_, by rw [<- List.push_toArray]; exact Heap.get?_update_self _ hS' rfl⟩
    exact wpAny_bind (wpAny_updateSeq hS' rfl (wpAny_pure ⟨plainId_quiet F.plain_extend_loop _, ih _ tk c' (acc ++ [v]) (by omega) (by omega) (by rw [hl]; exact G.frame _ _ _ _ j' up) hS2 fun b o m q => up b o (Nat.ne_of_lt (Heap.lt_size q)) (kk b o m (kp b o m q))⟩) (by simp; omega))
theorem Gat.extend {Z : Fin -> Shared -> Prop} {c₀ : Nat} {h1 : Heap} (G : Gat prog w s r I T n wr J Fn) (hh : A.handled = none) (k1 : ∀ b o, s.heap.get? b = some o -> h1.get? b = some o) (hz : h1.objs.size = s.heap.objs.size + 1) (hS : h1.get? s.heap.objs.size = some (lsO #[] c₀))
    (hZ : ∀ c t, c.quiet = true -> codeAny (model prog w) A c R t -> Z (.again c) t)
    (hR : ∀ h' tk acc c, Fn acc h' -> acc.length = n -> h'.get? s.heap.objs.size = some (lsO acc.toArray c) -> KP wr s.heap h' -> R (.ok (.ret res)) { s with heap := h', toks := tk }) :
    wpAny (model prog w) A.in1 (Builtin.List.listExtendWith (.ref s.heap.objs.size) (.ref r) res) Z E { s with heap := h1 } := by
  have hr : r < s.heap.objs.size := let ⟨_, ho, _⟩ := G.type; Heap.lt_size ho
  have e1 : Builtin.List.listSameRef (.ref s.heap.objs.size) (.ref r) = false := by simp [Builtin.List.listSameRef, Nat.ne_of_gt hr]
  have hT : Shared.TypeIs { s with heap := h1 } (.ref r) T := let ⟨o, ho, x⟩ := G.type; ⟨o, k1 _ _ ho, x⟩
  have oth : ∀ (h : Heap) f b o, b ≠ s.heap.objs.size -> h.get? b = some o -> (h.update s.heap.objs.size f).get? b = some o := fun h f b o n q => (Heap.get?_update_other _ _ (Ne.symm n)).trans q
  have go : ∀ (h : Heap) c tk, J 0 [] h -> h.get? s.heap.objs.size = some (lsO #[] c) -> (∀ b o, b ≠ s.heap.objs.size -> h1.get? b = some o -> h.get? b = some o) -> Z (.again (.builtin "list.extend.loop" ⟨[.ref s.heap.objs.size, .ref I, res], []⟩)) { s with heap := h, toks := tk } := fun h c tk j q k =>
    hZ _ _ (plainId_quiet F.plain_extend_loop _) (G.loop hh hR n h tk c [] rfl (Nat.zero_le _) j q fun b o _ x => k b o (Nat.ne_of_lt (Heap.lt_size x)) (k1 b o x))
  unfold Builtin.List.listExtendWith
  refine wpAny_bind (wpAny_typeOf hT ?_)
  simp only [e1, G.nl, G.nt, Bool.or_false, Bool.false_eq_true, if_false]
  refine wpAny_bind (G.iter A.in1 h1 _ _ k1 hz fun h' j kk => wpAny_bind (wpAny_holding (G.hint A.in1 _ _ _ (fun b o q => kk b o (k1 b o q)) fun bb tk => ?_)))
  have hS' := kk _ _ hS
  refine wpAny_ite_split (fun _ => ?_) fun _ => wpAny_pure (go h' c₀ tk j hS' fun b o _ q => kk b o q)
  wp_walk
  exact go _ _ tk (G.frame _ _ _ _ (G.frame _ _ _ _ j fun b o m q => oth _ _ b o m q) fun b o m q => oth _ _ b o m q) (Heap.get?_update_self _ (Heap.get?_update_self _ hS' rfl) rfl) fun b o m q => oth _ _ b o m (oth _ _ b o m (kk b o q))
theorem Gat.list {Q : Value -> Shared -> Prop} (G : Gat prog w s r I T n wr J Fn) (hh : A.handled = none)
    (hQ : ∀ h' tk acc c, Fn acc h' -> acc.length = n -> h'.get? s.heap.objs.size = some (lsO acc.toArray c) -> KP wr s.heap h' -> Q (.ref s.heap.objs.size) { s with heap := h', toks := tk }) : wpAny (model prog w) A (call (.type "list") [.ref r]) Q E s := by
  have hS : (s.heap.push (lsO #[] 0)).get? s.heap.objs.size = some (lsO #[] 0) := Heap.get?_push_size _ rfl
  refine callType_codes (Q₁ := fun obj s₁ => obj = .ref s.heap.objs.size /\ s₁ = { s with heap := s.heap.push (lsO #[] 0) }) F.called_list (F.typeCall_list_1 _) F.entry_list_init (code_list_new _ ⟨rfl, rfl⟩) fun obj s₁ h₁ => ?_
  obtain ⟨rfl, rfl⟩ := h₁
  have oth : ∀ b o, s.heap.get? b = some o -> ((s.heap.push (lsO #[] 0)).update s.heap.objs.size (Obj.mapSeq fun _ => #[])).get? b = some o := fun b o q => (Heap.get?_update_other _ _ (Nat.ne_of_gt (Heap.lt_size q))).trans (Heap.get?_push_of_some _ q)
  obtain ⟨c2, hS2⟩ : ∃ c, ((s.heap.push (lsO #[] 0)).update s.heap.objs.size (Obj.mapSeq fun _ => #[])).get? s.heap.objs.size = some (lsO #[] c) := ⟨_, Heap.get?_update_self _ hS rfl⟩
  have hz : ((s.heap.push (lsO #[] 0)).update s.heap.objs.size (Obj.mapSeq fun _ => #[])).objs.size = s.heap.objs.size + 1 := by rw [Heap.size_after_update, Heap.size_push]
  refine ⟨⟨_, hS, rfl⟩, F.args_list_init_2 _ _, ?_⟩
  wp_walk using Gat.extend (A := A.in1) (R := wants (fun r s₂ => r = .none /\ Q (.ref s.heap.objs.size) s₂) E) (c₀ := c2) G hh oth hz hS2
  . exact fun _ _ a b => ⟨a, b⟩
  exact fun h' tk acc c k1 k2 k3 k4 => ⟨rfl, hQ h' tk acc c k1 k2 k3 k4⟩
end
end PySem
set_option Elab.async false
set_option linter.all false
set_option maxRecDepth 100000
set_option maxHeartbeats 4000000
namespace PySem
open Sem (wp)
open AutoSeq1 (wpAny_loadPart')
namespace F
end F
section
variable {prog : Program} {w : World} {A : Around} {E : Value -> Shared -> Prop} {s : Shared}
end
end PySem
namespace L2
open PySem PySem.Spec PyProof.Rows
theorem boot_ValueError : bootBuiltins "ValueError" = some (.type "ValueError") := by decide +kernel
section
variable {P : Program} {w : World} {K : PySem.W.Frag} {mg : Str -> Option Value} {base : Heap}
theorem Fun.okE {x qual : Str} {st : Stmt} {f : Addr} {fd : FuncData} {N ps : List Str} {k : Nat} {sp : Sp} (F : Fun K x qual st f fd) (S : FnScope N ps (defScope st)) (len : ∀ vs H Q E, sp vs H Q E -> vs.length = ps.length)
    (hbody : ∀ (cdv : Value) (A : Around) (outer : List Env) (s : Shared) (H : Hp) (vs : List V) (Q : VK) (E : XK), Room k (A.deeper (envOfC qual (defScope st) s.heap.objs.size f cdv)) -> sp vs H Q E ->
      ∃ t, PSs (cxOf (CXe P w) P w K mg base N qual (defScope st) f cdv A outer s H E) (defBody st) t /\ t { nx := fun _ H' => Q .non H', rt := Q } (start N vs) H) : FnOk P w K mg base (CXe P w) (k + 1) f fd ps sp := by
  obtain ⟨oc, od, kV, doc, pm, an, cdv, ct, osl, rfl, lk, hcd⟩ := F.ex
  exact fn_of lk hcd S len fun A outer s H vs Q E hr hsp => hbody cdv A outer s H vs Q E hr hsp
theorem passNev {X : Cx} : Passes (CXe P w) X E0 := fun _ _ _ _ _ _ _ h => by
  obtain ⟨_, _, _, _, _, _, _, _, _, _, q⟩ := h
  exact q.elim
end
section
variable {te ta tb : TE} {A : TA} {D : Ends} {σ : St} {H : Hp} {Q : VK} {K : PySem.W.Frag} {tbd ts : TS}
theorem r_raise {C : Addr} {E : XK} : tRaise C E A D σ H = A σ H fun vs H1 => vs.length <= sizeLine /\ E (.ref C) none H1 := rfl
theorem r_callE {sp : Sp} {dvs : List V} {E : St -> XK} : tCallE sp dvs E A σ H Q = A σ H fun vs H1 => sp (vs ++ dvs) H1 Q (E σ) := rfl
theorem r_try {Ca : Addr} {i : Nat} {E : St -> XK} : tTry K Ca i E tbd ts D σ H = (tbd D σ H /\ ∀ σ' cls H', E σ' cls none H' ->
  ∃ C, cls = .ref C /\ PySem.W.exmOne K (.ref C) (.ref Ca) = some true /\ ∀ ea, H' ea = none -> ts (D.un i) (σ'.set i (some (.ref ea))) (upd H' ea (excO ea C))) := rfl
theorem r_unnx {i : Nat} : (Ends.un D i).nx σ H = D.nx (σ.set i none) H := rfl
theorem r_unrt {i : Nat} {v : V} : (Ends.un D i).rt v H = D.rt v H := rfl
end
section
variable {X : Cx} {tg : Expr}
end
end L2
namespace L2
open PySem PySem.Spec PyProof.Rows
theorem eqV_int (x y : Int) : eqV (.int x) (.int y) = decide (V.int x = V.int y) := by
  by_cases h : x = y
  . subst h; simp [eqV]
  . rw [decide_eq_false (fun z => h (by injection z))]; simp [eqV, h]
theorem EqD.ints {K : PySem.W.Frag} {H : Hp} {a c : Addr} {xs ys : List Int} (hq : (SqL K H a (xs.map V.int) /\ SqL K H c (ys.map V.int)) \/ (SqT K H a (xs.map V.int) /\ SqT K H c (ys.map V.int))) (n : Nat) : EqD K H (n + 1) (.ref a) (.ref c) (decide (xs = ys)) := by
  have := EqD.flat hq (fun x hx => by obtain ⟨_, _, rfl⟩ := mem_mapI hx; rfl) (fun x hx => by obtain ⟨_, _, rfl⟩ := mem_mapI hx; rfl) (fun x hx y hy => by obtain ⟨_, _, rfl⟩ := mem_mapI hx; obtain ⟨_, _, rfl⟩ := mem_mapI hy; exact eqV_int _ _) n
  have e : decide (xs.map V.int = ys.map V.int) = decide (xs = ys) := by
    rw [Bool.eq_iff_iff]
    simp only [decide_eq_true_eq]
    constructor
    . intro h
      exact (List.map_inj_right (fun a b h => by injection h)).mp h
    . intro h; rw [h]
  rw [e] at this
  exact this
end L2
namespace GW
end GW
namespace GW
end GW
namespace L2
open PySem PySem.Spec PyProof.Rows
end L2
namespace GW
end GW
namespace L2
open PySem PySem.Spec PyProof.Rows
end L2
namespace L2
open PySem PySem.Spec PyProof.Rows
theorem call_isinstK {X : Cx} {K : PySem.W.Frag} (hK : X.K = K) : CallR X (.builtin "isinstance") (fun xs H Q => ∃ x c cv t b, xs = [x, c] /\ TyW K H x t /\ (∀ u, RelV c u -> u = cv) /\ PySem.W.kitOne K t cv = some b /\ Q (.bl b) H) := by
  subst hK
  exact call_isinstW
end L2
namespace L2
open PySem PySem.Spec PyProof.Rows
section
variable {X : Cx} {K : PySem.W.Frag}
theorem ix_tupK (h : X.K = K) : IxR X (rIxT K) := by subst h; exact ix_tup
theorem ix_listK (h : X.K = K) : IxR X (rIxL K) := by subst h; exact ix_list
end
end L2
set_option Elab.async false
set_option linter.all false
set_option maxRecDepth 100000
set_option maxHeartbeats 4000000
namespace GW
def stepW (ways : List (List Int)) (r x : Int) : Int := (ways.getD r.toNat []).getD x.toNat 0
def walkW (ways : List (List Int)) (ws : List Int) : Int := ws.foldl (stepW ways) 0
structure Wf (L : Int) (marks : List Int) (ways : List (List Int)) : Prop where
  l1 : 1 <= L
  l6 : L <= 6
  n1 : 1 <= marks.length
  n40 : marks.length <= 40
  len : ways.length = marks.length
  rows : ∀ row ∈ ways, (row.length : Int) = L /\ ∀ x ∈ row, 0 <= x /\ x < marks.length
  mks : ∀ m ∈ marks, 0 <= m /\ m <= 1000000000
theorem stepW_of {ways : List (List Int)} {r x : Int} {row : List Int} {g : Int} (h1 : ways[r.toNat]? = some row) (h2 : row[x.toNat]? = some g) : stepW ways r x = g := by
  unfold stepW
  have e : ways.getD r.toNat [] = row := by rw [List.getD_eq_getElem?_getD, h1]; rfl
  rw [e, List.getD_eq_getElem?_getD, h2]; rfl
theorem Wf.row {L : Int} {marks : List Int} {ways : List (List Int)} (wf : Wf L marks ways) {r : Int} (h0 : 0 <= r) (h1 : r < marks.length) : ∃ row, ways[r.toNat]? = some row /\ row ∈ ways /\ (row.length : Int) = L := by
  have hlt : r.toNat < ways.length := by rw [wf.len]; omega
  exact ⟨ways[r.toNat], by simp [hlt], List.getElem_mem hlt, (wf.rows _ (List.getElem_mem hlt)).1⟩
theorem Wf.step {L : Int} {marks : List Int} {ways : List (List Int)} (wf : Wf L marks ways) {r x : Int} (h0 : 0 <= r) (h1 : r < marks.length) (x0 : 0 <= x) (x1 : x < L) : ∃ row g, ways[r.toNat]? = some row /\ row[x.toNat]? = some g /\ stepW ways r x = g /\ 0 <= g /\ g < marks.length := by
  obtain ⟨row, hr, hm, hl⟩ := wf.row h0 h1
  have hlt : x.toNat < row.length := by omega
  have hg : row[x.toNat]? = some row[x.toNat] := by simp [hlt]
  exact ⟨row, row[x.toNat], hr, hg, stepW_of hr hg, (wf.rows row hm).2 _ (List.getElem_mem hlt)⟩
theorem walkW_snoc (ways : List (List Int)) (ws : List Int) (x : Int) : walkW ways (ws ++ [x]) = stepW ways (walkW ways ws) x := by
  unfold walkW
  rw [List.foldl_append]; rfl
theorem walkW_take {ways : List (List Int)} {ws : List Int} {i : Nat} {x : Int} (h : ws[i]? = some x) : walkW ways (ws.take (i + 1)) = stepW ways (walkW ways (ws.take i)) x := by
  rw [List.take_add_one, h]
  exact walkW_snoc _ _ _
theorem Wf.walk {L : Int} {marks : List Int} {ways : List (List Int)} (wf : Wf L marks ways) {ws : List Int} (hw : isW L ws = true) : ∀ i, 0 <= walkW ways (ws.take i) /\ walkW ways (ws.take i) < marks.length := by
  intro i
  induction i with
  | zero => have := wf.n1; simp [walkW]; omega
  | succ i ih =>
    cases e : ws[i]? with
    | none =>
      have hle := List.getElem?_eq_none_iff.mp e
      rw [List.take_of_length_le (by omega)]
      rw [List.take_of_length_le hle] at ih
      exact ih
    | some x =>
      rw [walkW_take e]
      have hx := isW_iff.mp hw x (List.mem_of_getElem? e)
      obtain ⟨_, g, _, _, h, h0, h1⟩ := wf.step ih.1 ih.2 hx.1 hx.2
      rw [h]; exact ⟨h0, h1⟩
end GW
namespace L2
open PySem PySem.Spec PyProof.Rows GW
def Rows (K : PySem.W.Frag) (H : Hp) (w : Addr) (ways : List (List Int)) : Prop := ∃ ts : List Addr, SqT K H w (ts.map V.ref) /\ ts.length = ways.length /\ ∀ (i : Nat) (t : Addr) (row : List Int), ts[i]? = some t -> ways[i]? = some row -> SqT K H t (row.map V.int)
def House (K : PySem.W.Frag) (H : Hp) (h : Addr) (L : Int) (marks : List Int) (ways : List (List Int)) : Prop := ∃ m w : Addr, SqT K H h [.int L, .ref m, .ref w] /\ SqT K H m (marks.map V.int) /\ Rows K H w ways
theorem Rows.mono {K : PySem.W.Frag} {H H' : Hp} {w : Addr} {ways : List (List Int)} (h : Rows K H w ways) (e : Same H H') : Rows K H' w ways := by
  obtain ⟨ts, h1, h2, h3⟩ := h
  exact ⟨ts, e.seqT h1, h2, fun i t r a b => e.seqT (h3 i t r a b)⟩
theorem House.mono {K : PySem.W.Frag} {H H' : Hp} {h : Addr} {L : Int} {marks : List Int} {ways : List (List Int)} (x : House K H h L marks ways) (e : Same H H') : House K H' h L marks ways := by
  obtain ⟨m, w, h1, h2, h3⟩ := x
  exact ⟨m, w, e.seqT h1, e.seqT h2, h3.mono e⟩
theorem Rows.at {K : PySem.W.Frag} {H : Hp} {w : Addr} {ways : List (List Int)} (h : Rows K H w ways) {i : Nat} {row : List Int} (hr : ways[i]? = some row) : ∃ xs t, SqT K H w xs /\ atI xs (i : Int) = some (V.ref t) /\ SqT K H t (row.map V.int) := by
  obtain ⟨ts, h1, h2, h3⟩ := h
  have hlt : i < ts.length := by rw [h2]; exact (List.getElem?_eq_some_iff.mp hr).1
  have ht : ts[i]? = some ts[i] := by simp [hlt]
  exact ⟨_, ts[i], h1, atI_nat (by rw [List.getElem?_map, ht]; rfl), h3 i _ _ ht hr⟩
theorem Rows.atZ {K : PySem.W.Frag} {H : Hp} {w : Addr} {ways : List (List Int)} (h : Rows K H w ways) {r : Int} {row : List Int} (h0 : 0 <= r) (hr : ways[r.toNat]? = some row) : ∃ xs t, SqT K H w xs /\ atI xs r = some (V.ref t) /\ SqT K H t (row.map V.int) := by
  obtain ⟨xs, t, a, b, c⟩ := h.at hr
  exact ⟨xs, t, a, by rw [<- b]; congr 1; omega, c⟩
theorem atI_int {ns : List Int} {i : Int} {v : Int} (h0 : 0 <= i) (h : ns[i.toNat]? = some v) : atI (ns.map V.int) i = some (V.int v) := atI_of h0 (by rw [List.getElem?_map, h]; rfl)
end L2
namespace L2
open PySem PySem.Spec PyProof.Rows GW
theorem seqT_off {K : PySem.W.Frag} {H : Hp} {p t : Addr} {xs ys zs : List V} (hp : H p = some (.lst zs)) (h : SqT K H t xs) : SqT K (upd H p (.lst ys)) t xs := by
  rcases h with (q | ⟨o, q⟩) | q
  . refine .inl (.inl ?_)
    rw [upd_ne (fun z => by rw [z, hp] at q; cases q)]; exact q
  . refine .inl (.inr ⟨o, ?_⟩)
    rw [upd_ne (fun z => by rw [z, hp] at q; cases q)]; exact q
  . exact .inr q
def TupsL (K : PySem.W.Frag) (H : Hp) (l : Addr) (ws : List (List Int)) : Prop := ∃ ts : List Addr, H l = some (.lst (ts.map V.ref)) /\ ts.length = ws.length /\ ∀ (i : Nat) (t : Addr) (w : List Int), ts[i]? = some t -> ws[i]? = some w -> SqT K H t (w.map V.int)
theorem TupsL.mono {K : PySem.W.Frag} {H H' : Hp} {l : Addr} {ws : List (List Int)} (h : TupsL K H l ws) (e : Same H H') : TupsL K H' l ws := by
  obtain ⟨ts, h1, h2, h3⟩ := h
  exact ⟨ts, e _ _ h1, h2, fun i t w a b => e.seqT (h3 i t w a b)⟩
theorem TupsL.off {K : PySem.W.Frag} {H : Hp} {l p : Addr} {ws : List (List Int)} {zs ys : List V} (h : TupsL K H l ws) (hp : H p = some (.lst zs)) (ne : l ≠ p) : TupsL K (upd H p (.lst ys)) l ws := by
  obtain ⟨ts, h1, h2, h3⟩ := h
  exact ⟨ts, by rw [upd_ne ne]; exact h1, h2, fun i t w a b => seqT_off hp (h3 i t w a b)⟩
theorem TupsL.push {K : PySem.W.Frag} {H : Hp} {l t : Addr} {ws : List (List Int)} {w : List Int} (h : TupsL K H l ws) (hw : SqT K H t (w.map V.int)) : ∃ xs, H l = some (.lst xs) /\ xs.length = ws.length /\ TupsL K (upd H l (.lst (xs ++ [V.ref t]))) l (ws ++ [w]) := by
  obtain ⟨ts, h1, h2, h3⟩ := h
  refine ⟨ts.map V.ref, h1, by rw [List.length_map, h2], ts ++ [t], by rw [upd_same, List.map_append]; rfl, by simp [h2], fun i t' w' a b => seqT_off h1 ?_⟩
  by_cases hi : i < ts.length
  . rw [List.getElem?_append_left hi] at a
    rw [List.getElem?_append_left (by omega)] at b
    exact h3 i t' w' a b
  . have ht := (List.getElem?_eq_some_iff.mp a).1
    rw [List.length_append, List.length_singleton] at ht
    have e : i = ts.length := by omega
    subst e
    rw [List.getElem?_append_right (Nat.le_refl _), Nat.sub_self] at a
    rw [List.getElem?_append_right (by omega), h2, Nat.sub_self] at b
    simp at a b
    subst a b
    exact hw
theorem TupsL.nil {K : PySem.W.Frag} {H : Hp} {l : Addr} (h : H l = some (.lst [])) : TupsL K H l [] := ⟨[], h, rfl, fun i t w a _ => by simp at a⟩
theorem TupsL.rows {K : PySem.W.Frag} {H : Hp} {l : Addr} {ws : List (List Int)} (h : TupsL K H l ws) : ∃ xs, H l = some (.lst xs) /\ ∀ t, H t = none -> Rows K (upd H t (.tup xs)) t ws := by
  obtain ⟨ts, h1, h2, h3⟩ := h
  exact ⟨_, h1, fun t ht => ⟨ts, SqT.of upd_same, h2, fun i t' w a b => (Same.new ht).seqT (h3 i t' w a b)⟩⟩
end L2
set_option Elab.async false
set_option linter.all false
set_option maxRecDepth 100000
set_option maxHeartbeats 4000000
namespace PySem
open Sem (wp)
open AutoSeq1 (wpAny_loadPart')
section
variable {prog : Program} {w : World} {A : Around} {E : Value -> Shared -> Prop} {s : Shared}
theorem newT {l : List Value} {Q : Value -> Shared -> Prop} (hl : l.length <= sizeLine) (h : ∀ h', s.heap.push { cls := .type "tuple", data := .seq l.toArray } = h' -> Q (.ref s.heap.objs.size) { s with heap := h' }) : wpAny (model prog w) A (newTuple l) Q E s := wpAny_newTuple (h _ rfl)
theorem psh {h h' : Heap} {o : Obj} (q : h.push o = h') (ho : o.isFreed = false) : (∀ c u, h.get? c = some u -> h'.get? c = some u) /\ h'.get? h.objs.size = some o /\ h'.objs.size = h.objs.size + 1 := by
  subst q
  exact ⟨fun c u x => Heap.get?_push_of_some _ x, Heap.get?_push_size _ ho, Heap.size_push ..⟩
theorem nextOf_tup {it l : Addr} {i : Nat} {items : Array Value} {Q : Value -> Shared -> Prop} (hit : s.heap.IsTupleIter it l i) (hl : s.heap.IsTuple l items)
    (hQ : ∀ x h', items[i]? = some x -> h'.IsTupleIter it l (i + 1) -> Heap.SameBut it s.heap h' -> Q x { s with heap := h' })
    (hE : items[i]? = none -> A.handled = none /\ ∀ h' e, Heap.ExtBut it s.heap h' -> (∃ o, h'.get? e = some o /\ o.cls = .type "StopIteration") -> E (.ref e) { s with heap := h' }) : wpAny (model prog w) A (Builtin.SmallTypes.nextOf (.ref it)) Q E s := by
  obtain ⟨⟨c, dc, da, sl⟩, ho, hc, hd⟩ := id hit
  obtain ⟨⟨c', dc', da', sl'⟩, hol, hc', nl, hdl⟩ := hl
  replace hc : c = _ := hc; replace hd : da = _ := hd; replace hc' : c' = _ := hc'; replace hdl : da' = _ := hdl
  subst hc hd hc' hdl
  have e1 := F.slot_tuple_iterator_next
  unfold Builtin.SmallTypes.nextOf
  refine wpAny_bind (wpAny_callSpecial?_slot hit.typeIs e1 (wpAny_call_entry e1 hit.typeIs F.entry_tuple_iterator_next ?_ (F.args_tuple_iterator_next_1 _)))
  wp_walk
  cases hx : items[i]? with
  | some x =>
    simp only [Int.toNat_natCast, hx]
    wp_walk
    exact ⟨x, rfl, wpAny_pure (hQ x _ hx ⟨_, Heap.get?_update_self _ ho (by simp [Obj.mapFields, Obj.isFreed]), rfl, by simp [Obj.mapFields, rawInt]⟩ (Heap.SameBut.update ..))⟩
  | none =>
    obtain ⟨hh, hE⟩ := hE hx
    have h1 : A.in1.handled = none := hh
    simp only [Int.toNat_natCast, hx]
    wp_walk
    unfold raiseNew
    wp_walk
    exact hE _ _ (((Heap.SameBut.update ..).extBut.push _).push _) ⟨_, Heap.get?_push_size _ rfl, rfl⟩
end
end PySem
namespace L2
open PySem PySem.Spec PyProof.Rows
section
variable {X : Cx} {pins : List (Addr × Obj)} {σ : St} {H : Hp} {s : Shared}
end
section
variable {td ty tv tx : TE} {D : Ends} {σ : St} {H : Hp} {Q : VK}
end
end L2
namespace HT
open PySem PySem.Spec PyProof.Rows
section
open PySem.SeqAt PySem.MeetsSeq PySem.MeetsSeq2 PySem.MeetsSeq3
open PySem.AutoSeq1 (wpAny_loadPart')
end
end HT
namespace L2
open PySem PySem.Spec PyProof.Rows
end L2
set_option Elab.async false
set_option linter.all false
set_option maxRecDepth 100000
set_option maxHeartbeats 4000000
namespace GW
def addRow (w : List Int) : List (Int × List Int) -> Nat -> List Int -> List (Int × List Int)
  | ents, _, [] => ents
  | ents, x, g :: r => addRow w (if g ∈ ents.map (·.1) then ents else ents ++ [(g, w ++ [(x : Int)])]) (x + 1) r
def bfs (ways : List (List Int)) : Nat -> List (Int × List Int) -> Nat -> List (Int × List Int)
  | 0, ents, _ => ents
  | f + 1, ents, i => match ents[i]? with
    | none => ents
    | some e => bfs ways f (addRow e.2 ents 0 (ways.getD e.1.toNat [])) (i + 1)
def wordsIn (ways : List (List Int)) : List (Int × List Int) := bfs ways (ways.length + 1) [(0, [])] 0
end GW
namespace L2
open PySem PySem.Spec PyProof.Rows GW
end L2
namespace L2
end L2
namespace L2
open PySem PySem.Spec PyProof.Rows
def ups (n : Nat) : List Int := (List.range n).map fun i : Nat => (i : Int)
end L2
namespace L2
open PySem PySem.Spec PyProof.Rows
end L2
namespace L2
open PySem PySem.Spec PyProof.Rows
end L2
namespace L2
open PySem PySem.Spec PyProof.Rows
end L2
namespace GW
end GW
namespace L2
end L2
namespace L2
open PySem GW
end L2
namespace GW
end GW
namespace L2
open PySem GW
end L2
namespace GW
end GW
set_option Elab.async false
set_option linter.all false
set_option maxRecDepth 100000
set_option maxHeartbeats 4000000
namespace L2
open PySem PySem.Spec PyProof.Rows
end L2
namespace HT
open PySem PyProof.Rows
section
open PySem.SeqAt
open PySem.AutoSeq1 (wpAny_loadPart')
open PySem.MeetsSeq PySem.MeetsSeq2 PySem.MeetsSeq3
end
end HT
namespace L2
open PySem PySem.Spec PyProof.Rows
end L2
namespace L2
end L2
namespace GW
end GW
set_option Elab.async false
set_option linter.all false
set_option maxRecDepth 100000
set_option maxHeartbeats 4000000
namespace L2
open PySem PySem.Spec PyProof.Rows
end L2
namespace L2
open PySem PySem.Spec PyProof.Rows
def rng (i j : Int) : List Int := (List.range (j - i).toNat).map fun k : Nat => i + (k : Int)
end L2
namespace GW
open L2
end GW
namespace GW
end GW
namespace GW
open L2
end GW
namespace L2
open PySem PySem.Spec PyProof.Rows GW
end L2
namespace L2
end L2
namespace L2
end L2
namespace L2
open PySem PySem.Spec PyProof.Rows GW
end L2
namespace GW
end GW
namespace GW
open L2
end GW
set_option Elab.async false
set_option linter.all false
set_option maxRecDepth 100000
set_option maxHeartbeats 4000000
namespace GW
open L2
end GW
set_option Elab.async false
set_option linter.all false
set_option maxRecDepth 100000
set_option maxHeartbeats 4000000
namespace PySem
open Sem (wp)
section
variable {prog : Program} {w : World} {A : Around} {E : Value -> Shared -> Prop} {s : Shared} {d it : Addr} {es : Array DictEntry} {i ep : Nat}
end
end PySem
namespace L2
open PySem PySem.Spec PyProof.Rows
section
variable {X : Cx} {pins : List (Addr × Obj)} {σ : St} {H : Hp} {s : Shared} {a : Addr}
end
end L2
namespace HT
open PySem PyProof.Rows
section
open PySem.SeqAt
open PySem.AutoSeq1 (wpAny_loadPart')
open PySem.MeetsSeq PySem.MeetsSeq2 PySem.MeetsSeq3
end
end HT
namespace L2
open PySem PySem.Spec PyProof.Rows
end L2
set_option Elab.async false
set_option linter.all false
set_option maxRecDepth 100000
set_option maxHeartbeats 4000000
namespace GB
open GW
variable {α : Type} [DecidableEq α]
def walkF (step : α -> Int -> α) (a : α) (ws : List Int) : α := ws.foldl step a
structure B (L : Int) (step : α -> Int -> α) (st : α) (ok : α -> Prop) (ents : List (α × List Int)) (i : Nat) (top : Int) : Prop where
  hd : ents[0]? = some (st, [])
  il : i <= ents.length
  sh : ∀ (j : Nat) (e : α × List Int), ents[j]? = some e -> e.2.length <= j
  nod : (ents.map (·.1)).Nodup
  rng : ∀ e ∈ ents, ok e.1
  wd : ∀ e ∈ ents, isW L e.2 = true /\ walkF step st e.2 = e.1
  inc : ∀ (j k : Nat) (a b : α × List Int), j < k -> ents[j]? = some a -> ents[k]? = some b -> place L a.2 < place L b.2
  bnd : ∀ e ∈ ents, place L e.2 < top
  don : ∀ j, j < i -> ∀ e, ents[j]? = some e -> ∀ x : Int, 0 <= x -> x < L -> ∃ e' ∈ ents, e'.1 = step e.1 x /\ place L e'.2 <= place L (e.2 ++ [x])
variable {L : Int} {step : α -> Int -> α} {st : α} {ok : α -> Prop} {ents : List (α × List Int)} {i : Nat} {top : Int}
def walkR (ways : List (List Int)) (r : Int) (ws : List Int) : Int := ws.foldl (stepW ways) r
end GB
namespace L2
open PySem PySem.Spec PyProof.Rows GW GB
def TK (H H' : Hp) : Prop := ∀ b xs, H b = some (.tup xs) -> H' b = some (.tup xs)
theorem TK.of {H H' : Hp} (s : Same H H') : TK H H' := fun b xs h => s b _ h
theorem TK.trans {H H' H'' : Hp} (a : TK H H') (b : TK H' H'') : TK H H'' := fun c xs h => b c xs (a c xs h)
theorem TK.lst {H : Hp} {p : Addr} {o : HO} {xs : List V} (h : H p = some (.lst xs)) : TK H (upd H p o) := fun b ys e => by rw [upd_ne (fun z => by rw [z, h] at e; cases e)]; exact e
theorem valV_at {κ : Type} [DecidableEq κ] {kvs : List (κ × V)} {i : Nat} {k : κ} {v : V} (hn : (kvs.map (·.1)).Nodup) (h : kvs[i]? = some (k, v)) : valV kvs k = some v := by
  induction kvs generalizing i with
  | nil => simp at h
  | cons p r ih =>
    rw [List.map_cons, List.nodup_cons] at hn
    cases i with
    | zero => simp at h; subst h; exact valV_pos rfl
    | succ i =>
      have h' : r[i]? = some (k, v) := by simpa using h
      rw [valV_neg (fun z => hn.1 (List.mem_map.mpr ⟨(k, v), List.mem_of_getElem? h', z.symm⟩))]
      exact ih hn.2 h'
end L2
namespace L2
end L2
namespace GB
open GW
end GB
set_option Elab.async false
set_option linter.all false
set_option maxRecDepth 100000
set_option maxHeartbeats 4000000
namespace GB
open GW
end GB
namespace L2
open GW
end L2
namespace L2
open PySem PySem.Spec PyProof.Rows GW
theorem Same.none {H H' : Hp} (s : Same H H') {p : Addr} (h : H' p = none) : H p = none := by
  cases e : H p with
  | none => rfl
  | some u => rw [s _ _ e] at h; cases h
end L2
namespace GW
end GW
namespace L2
open PySem GW
end L2
set_option Elab.async false
set_option linter.all false
set_option maxRecDepth 100000
set_option maxHeartbeats 4000000
namespace L2
open PySem PySem.Spec PyProof.Rows
section
variable {X : Cx} {pins : List (Addr × Obj)} {σ : St} {H : Hp} {s : Shared} {sc : Scope} {fp : List Addr}
end
section
variable {X : Cx} {tg iter elt : Expr} {ifs : List Expr} {sc : Scope} {pos : Pos} {wi : TI} {cp : Caps} {g : TG} {tc : TT} {te : TE}
end
end L2
namespace L2
open PySem PySem.Spec PyProof.Rows GW GB
end L2
namespace GB
open GW
end GB
set_option Elab.async false
set_option linter.all false
set_option maxRecDepth 100000
set_option maxHeartbeats 4000000
namespace L2
open PySem PySem.Spec PyProof.Rows GW
def WordsT (K : PySem.W.Frag) (H : Hp) (xs : List V) (ws : List (List Int)) : Prop := xs.length = ws.length /\ ∀ (i : Nat) (w : List Int), ws[i]? = some w -> ∃ t, xs[i]? = some (.ref t) /\ H t = some (.tup (w.map V.int))
theorem WordsT.nil {K : PySem.W.Frag} {H : Hp} : WordsT K H [] [] := ⟨rfl, fun i w h => by simp at h⟩
theorem WordsT.mono {K : PySem.W.Frag} {H H' : Hp} {xs : List V} {ws : List (List Int)} (h : WordsT K H xs ws) (k : TK H H') : WordsT K H' xs ws := by
  refine ⟨h.1, fun i w hw => ?_⟩
  obtain ⟨t, a, b⟩ := h.2 i w hw
  exact ⟨t, a, k _ _ b⟩
theorem WordsT.snoc {K : PySem.W.Frag} {H : Hp} {xs : List V} {ws : List (List Int)} (h : WordsT K H xs ws) {t : Addr} {w : List Int} (ht : H t = some (.tup (w.map V.int))) : WordsT K H (xs ++ [.ref t]) (ws ++ [w]) := by
  refine ⟨by rw [List.length_append, List.length_append, h.1]; rfl, fun i v hi => ?_⟩
  by_cases hil : i < ws.length
  . rw [List.getElem?_append_left hil] at hi
    rw [List.getElem?_append_left (by rw [h.1]; exact hil)]
    exact h.2 i v hi
  . have := (List.getElem?_eq_some_iff.mp hi).1
    rw [List.length_append, List.length_singleton] at this
    have ei : i = ws.length := by omega
    subst ei
    rw [List.getElem?_append_right (Nat.le_refl _), Nat.sub_self] at hi
    simp at hi
    subst hi
    refine ⟨t, ?_, ht⟩
    rw [List.getElem?_append_right (by rw [h.1]; exact Nat.le_refl _), h.1, Nat.sub_self]; rfl
theorem WordsT.at {K : PySem.W.Frag} {H : Hp} {xs : List V} {ws : List (List Int)} (h : WordsT K H xs ws) {i : Nat} {x : V} (hx : xs[i]? = some x) : ∃ t w, ws[i]? = some w /\ x = .ref t /\ H t = some (.tup (w.map V.int)) := by
  have hi : i < ws.length := by rw [<- h.1]; exact (List.getElem?_eq_some_iff.mp hx).1
  obtain ⟨t, a, b⟩ := h.2 i ws[i] (by simp [hi])
  rw [hx] at a
  exact ⟨t, ws[i], by simp [hi], Option.some.inj a, b⟩
def rInW (K : PySem.W.Frag) (neg : Bool) : R2 := fun x y H Q => ∃ p t xs w ws, y = .ref p /\ x = .ref t /\ SqL K H p xs /\ WordsT K H xs ws /\ SqT K H t (w.map V.int) /\ Q (.bl (if neg then !decide (w ∈ ws) else decide (w ∈ ws))) H
theorem r_inW {K : PySem.W.Frag} {neg : Bool} {x y : V} {H : Hp} {Q : VK} : rInW K neg x y H Q = ∃ p t xs w ws, y = .ref p /\ x = .ref t /\ SqL K H p xs /\ WordsT K H xs ws /\ SqT K H t (w.map V.int) /\ Q (.bl (if neg then !decide (w ∈ ws) else decide (w ∈ ws))) H := rfl
theorem inW_core {X : Cx} {pins : List (Addr × Obj)} {σ : St} {H : Hp} {s : Shared} {p t : Addr} {xs : List V} {w : List Int} {ws : List (List Int)} (hu : X.A.units + 8 < cLine) (I : Inv X pins σ H s) (hp : SqL X.K H p xs) (hw : WordsT X.K H xs ws) (ht : SqT X.K H t (w.map V.int)) :
    ∃ (its : Array Value) (e : Value -> Bool), s.heap.IsList p its /\ (∀ y, y ∈ its -> SeqAt.EqAt X.A.in1 s y (.ref t) (e y)) /\ its.any e = decide (w ∈ ws) := by
  obtain ⟨its, r, pl, _⟩ := I.list hp
  have hl := r.length
  let e : Value -> Bool := fun y => @decide (∃ (i : Nat) (a : Addr), y = .ref a /\ xs[i]? = some (.ref a) /\ ws[i]? = some w) (Classical.propDecidable _)
  have ee : ∀ (i : Nat) (a : Addr) (v : List Int), xs[i]? = some (.ref a) -> ws[i]? = some v -> e (.ref a) = decide (v = w) := fun i a v hx hv => by
    obtain ⟨a', a1, a2⟩ := hw.2 i v hv
    rw [hx] at a1
    cases a1
    rw [Bool.eq_iff_iff]
    show @decide _ (Classical.propDecidable _) = true ↔ _
    rw [@decide_eq_true_iff _ (Classical.propDecidable _), decide_eq_true_eq]
    constructor
    . rintro ⟨j, b, hb, hxj, hwj⟩
      cases hb
      obtain ⟨b', b1, b2⟩ := hw.2 j w hwj
      rw [hxj] at b1
      cases b1
      rw [a2] at b2
      have := Option.some.inj b2
      injection this with this
      exact (List.map_inj_right (fun x y z => V.int.inj z)).mp this
    . rintro rfl
      exact ⟨i, a, rfl, hx, hv⟩
  refine ⟨its.toArray, e, pl.isList, fun y hy => ?_, ?_⟩
  . have hy' : y ∈ its := by simpa using hy
    obtain ⟨i, hi, ei⟩ := List.getElem_of_mem hy'
    have hix : i < xs.length := by omega
    obtain ⟨u, hu', ru⟩ := r.get (i := i) (x := xs[i]) (by simp [hix])
    rw [List.getElem?_eq_getElem hi, ei] at hu'
    cases hu'
    obtain ⟨a, v, e1, e2, e3⟩ := hw.at (i := i) (x := xs[i]) (by simp [hix])
    rw [e2] at ru
    cases ru
    rw [ee i a v (by rw [List.getElem?_eq_getElem hix, e2]) e1]
    exact (EqD.at (x := V.ref a) (y := V.ref t) I 2 X.A.in1 (by rw [in1_units]; omega) rfl rfl (EqD.ints (xs := v) (ys := w) (.inr ⟨SqT.of e3, ht⟩) 1)).1
  . rw [Bool.eq_iff_iff, decide_eq_true_eq]
    rw [show its.toArray.any e = its.any e by simp, List.any_eq_true]
    constructor
    . rintro ⟨y, hy, hey⟩
      obtain ⟨j, b, _, _, hwj⟩ := (@decide_eq_true_iff _ (Classical.propDecidable _)).mp hey
      exact List.mem_of_getElem? hwj
    . intro hm
      obtain ⟨i, hi, ei⟩ := List.getElem_of_mem hm
      obtain ⟨a, a1, a2⟩ := hw.2 i w (by rw [List.getElem?_eq_getElem hi, ei])
      obtain ⟨u, hu', ru⟩ := r.get a1
      cases ru
      refine ⟨.ref a, List.mem_of_getElem? hu', ?_⟩
      rw [ee i a w a1 (by rw [List.getElem?_eq_getElem hi, ei])]
      simp
theorem op_notInW {X : Cx} (hu : X.A.units + 8 < cLine) : OpR X (compareOp .NotIn) (rInW X.K true) := by
  intro pins s σ H x y v u Q I rx ry h
  obtain ⟨p, t, xs, w, ws, rfl, rfl, hp, hw, ht, q⟩ := h
  cases ry
  cases rx
  obtain ⟨its, e, h1, h2, h3⟩ := inW_core hu I hp hw ht
  refine SeqAt.notIn_listAt e h1 h2 ⟨.bl _, H, I, rfl, ?_⟩
  rw [h3]
  exact q
end L2
namespace L2
open PySem PySem.Spec PyProof.Rows GW
end L2
namespace GW
def ins (s : List (List Int)) (w : List Int) : List (List Int) := if w ∈ s then s else s ++ [w]
end GW
namespace L2
open PySem PySem.Spec PyProof.Rows GW
def wkey (w : List Int) : List Key := w.map Sum.inl
end L2
set_option Elab.async false
set_option linter.all false
set_option maxRecDepth 100000
set_option maxHeartbeats 4000000
namespace L2
open PySem PySem.Spec PyProof.Rows
section
variable {M : Model} {A : Around} {E : Value -> Shared -> Prop} {s : Shared}
end
section
variable {X : Cx} {N : List Str} {sc : Scope} {C : Addr} {s₀ : Shared} {H₀ : Hp} {ex : List Addr} {xe : Value -> Shared -> Prop} {pins : List (Addr × Obj)} {σ : St} {H : Hp} {s : Shared}
end
section
variable {X : Cx} {tg iter elt : Expr} {ifs : List Expr} {sc : Scope} {pos : Pos} {wi : TI} {cp : Caps} {g : TG} {tc : TT} {te : TE}
end
end L2
set_option Elab.async false
set_option linter.all false
set_option maxRecDepth 100000
set_option maxHeartbeats 4000000
namespace PySem.W
open PySem PySem.Calls PyProof.Rows PyProof.V PySem.Spec
section
variable {prog : Program} {w : World} {A : Around} {E : Value -> Shared -> Prop} {s : Shared}
end
section
variable {prog : Program} {w : World} {A : Around} {E : Value -> Shared -> Prop} {s : Shared} {r d : Addr} {es : Array DictEntry} {ep : Nat} {od : Obj}
end
end PySem.W
set_option Elab.async false
set_option linter.all false
set_option maxRecDepth 100000
set_option maxHeartbeats 4000000
namespace L2
open PySem PySem.Spec PyProof.Rows
theorem lay_tups {P : Program} {w : World} {fs : List Addr} {H0 : Hp} {h0 h' : Heap} : ∀ (as : List (Addr × List V)), (as.map (·.1)).Nodup ->
    (∀ p ∈ as, h0.objs.size <= p.1 /\ p.2.length <= sizeLine /\ ∃ its : List Value, Vals p.2 its /\ IsTup h' p.1 its.toArray) -> ∀ H, Un fs [] H0 H h0 h' -> HOk P w H h' -> (∀ p ∈ as, H p.1 = none) ->
    ∃ H2, Un fs [] H0 H2 h0 h' /\ HOk P w H2 h' /\ Same H H2 /\ (∀ p ∈ as, H2 p.1 = some (.tup p.2)) /\ ∀ b, b ∉ as.map (·.1) -> H2 b = H b
  | [], _, _, H, u, k, _ => ⟨H, u, k, Same.refl _, (fun p hp => by simp at hp), fun b _ => rfl⟩
  | p :: r, nd, hp, H, u, k, hn => by
    rw [List.map_cons, List.nodup_cons] at nd
    obtain ⟨h1, h2, its, h3, h4⟩ := hp p List.mem_cons_self
    have hnp := hn p List.mem_cons_self
    have k2 : HOk P w (upd H p.1 (.tup p.2)) h' := k.track hnp ⟨h2, its, h3, h4⟩
    obtain ⟨H2, e1, e2, e3, e4, e5⟩ := lay_tups r nd.2 (fun q hq => hp q (List.mem_cons_of_mem _ hq)) (upd H p.1 (.tup p.2)) (u.track h1 hnp) k2 (fun q hq => by
      have hne : q.1 ≠ p.1 := fun z => nd.1 (by rw [<- z]; exact List.mem_map_of_mem hq)
      rw [upd_ne hne]
      exact hn q (List.mem_cons_of_mem _ hq))
    refine ⟨H2, e1, e2, (Same.new hnp).trans e3, fun q hq => ?_, fun b hb => ?_⟩
    . rcases List.mem_cons.mp hq with rfl | hq
      . exact e3 _ _ upd_same
      . exact e4 q hq
    . rw [List.map_cons, List.mem_cons, not_or] at hb
      rw [e5 b hb.2, upd_ne hb.1]
theorem Vals.two' {x y : V} {u v : Value} (h1 : RelV x u) (h2 : RelV y v) : Vals [x, y] [u, v] := .cons h1 (.cons h2 .nil)
theorem valsR : ∀ as : List Addr, Vals (as.map V.ref) (as.map Value.ref)
  | [] => .nil
  | _ :: r => .cons rfl (valsR r)
end L2
set_option Elab.async false
set_option linter.all false
set_option maxRecDepth 100000
set_option maxHeartbeats 4000000
namespace L2
open PySem PySem.Spec PyProof.Rows
theorem pe_gc {X : Cx} {x : Str} {n : Int} {pos : Pos} (hg : Gl X x) (hm : ∃ t, X.mg x = some (.int n t)) (hd : (x == ("__debug__" : Str)) = false := by decide) : PE X (.Name x pos) (tC (.int n)) := by
  obtain ⟨t, hm⟩ := hm
  exact pe_glob hg hm ⟨_, rfl⟩ hd
section
variable {K : PySem.W.Frag} {ta tv td ty tx : TE} {t : TA} {f m : Str} {σ : St} {H : Hp} {Q : VK} {D : Ends} {C : Addr} {sp : Sp} {dvs : List V} {E : XK}
end
def ents (es : List (List Int × Int)) : List (List Key × V) := es.map fun e => (wkey e.1, V.int e.2)
end L2
set_option Elab.async false
set_option linter.all false
set_option maxRecDepth 100000
set_option maxHeartbeats 4000000
namespace L2
open PySem PySem.Spec PyProof.Rows
end L2
set_option Elab.async false
set_option linter.all false
set_option maxRecDepth 100000
set_option maxHeartbeats 4000000
namespace L2
open PySem PySem.W PySem.Spec PySem.Calls PyProof.Rows
def tTryN (K : PySem.W.Frag) (Ca : Addr) (E : St -> XK) (tb ts : TS) : TS := fun D σ H => tb D σ H /\ ∀ σ' cls H', E σ' cls none H' -> ∃ C, cls = .ref C /\ PySem.W.exmOne K (.ref C) (.ref Ca) = some true /\ ts D σ' H'
theorem r_tryN {K : PySem.W.Frag} {Ca : Addr} {E : St -> XK} {tb ts : TS} {D : Ends} {σ : St} {H : Hp} : tTryN K Ca E tb ts D σ H = (tb D σ H /\ ∀ σ' cls H', E σ' cls none H' -> ∃ C, cls = .ref C /\ PySem.W.exmOne K (.ref C) (.ref Ca) = some true /\ ts D σ' H') := rfl
theorem ps_tryN {X : Cx} {body : List Stmt} {c : Str} {Ca : Addr} {np hpos pos : Pos} {b₀ : Stmt} {suite : List Stmt} {E : St -> XK} {tb ts : TS} (hg : Gl X c) (hm : X.mg c = some (.ref Ca)) (hst : X.stack = X.env :: X.outer) (hL : X.env.frame = some X.env.locals) (hex : X.ex = [])
    (hb : ∀ xe pn, (∀ σ, PassesAt (CXe X.prog X.w) (X.body xe pn) σ (E σ)) -> PSs (X.body xe pn) body tb) (hs : ∀ ea pn, PSs (X.suite ea pn) (b₀ :: suite) ts) (hd : (c == ("__debug__" : Str)) = false := by decide) :
    PS X (.Try body [.ExceptHandler (some (.Name c np)) none (b₀ :: suite) hpos] [] [] pos) (tTryN X.K Ca E tb ts) := by
  intro pins s σ H D I h
  obtain ⟨hbody, hhand⟩ := h
  have hB := hb (fun e s' => ∃ pins' σ' H1 s1, Inv (X.body (fun _ _ => True) (X.pn ++ pins)) pins' σ' H1 s1 /\ CXe X.prog X.w X.stack H1 s1 (E σ') e s') (X.pn ++ pins) (fun σ pins' H s e s' I' hcx => ⟨pins', σ, H, s, I'.reBody, hcx⟩) [] s σ H D I.toBody hbody
  refine wpAny_Try_except (wpAny_mono hB (fun f s1 q => ?_) fun e s1 q => ?_)
  . cases f with
    | next => obtain ⟨σ1, H1, I1, q1⟩ := q; exact wpAny_execs_nil ⟨σ1, H1, I1.ofBody, q1⟩
    | brk => obtain ⟨σ1, H1, I1, q1⟩ := q; exact ⟨σ1, H1, I1.ofBody, q1⟩
    | cont => obtain ⟨σ1, H1, I1, q1⟩ := q; exact ⟨σ1, H1, I1.ofBody, q1⟩
    | ret v => obtain ⟨x1, σ1, H1, I1, r1, q1⟩ := q; exact ⟨x1, σ1, H1, I1.ofBody, r1, q1⟩
  . obtain ⟨pins', σ', H1, s2, I2, ea, cls, a0, H', B, rfl, os, bare, fl, fw, hE⟩ := q
    obtain ⟨C, rfl, hexm, hts⟩ := hhand σ' cls H' hE
    have I2' : Inv X pins σ' H1 s2 := I2.ofBody
    have fr : X.A.frames = some (X.env :: X.outer) := by rw [I.ok.frames, hst]
    have frees := fly_frees I2' fl
    have fw0 := fw
    rw [hst] at fw
    have invAt : ∀ h', Heap.FlyingW B (X.env :: X.outer) ea (.ref C) a0 h' -> s1.heap.UpToSlots h' -> Inv X pins σ' H' { s1 with heap := h' } := fun h' fw' ups => by
      have fl2 := fl.move frees fw'.1 (fun b hb o e => by
        obtain ⟨_, o', ho', nf⟩ := fw0.2.2.1.mem hb
        rw [e] at ho'; cases ho'
        exact ups b o e nf)
      exact I2'.call' (s' := { s1 with heap := h' }) os fl2.un fl2.hok bare (fun b hb => by cases hb)
    refine wpAny_looks_onW fr hL fw fun h4 held4 up4 => ?_
    refine wpAny_landsW held4 fun h5 fw5 up5 => ?_
    have I5 := invAt h5 fw5 (up4.trans up5)
    have I5m : Inv (X.suite ea (X.pn ++ pins)) [] σ' H' { s1 with heap := h5 } := I5.toSuite
    refine wpAny_handleBy_cons (codeAny_handlers_test (ld_glob (X := X.suite ea (X.pn ++ pins)) I5m hg hm ?_ hd)) (by intro q; cases q)
    have LT : PySem.W.Looks (model X.prog X.w) h5 (typeOf (.ref ea)) (.ref C) := by
      obtain ⟨ob, hob, hoc⟩ := fw5.there
      exact hoc ▸ (PySem.W.Looks.ld hob).andThen .now
    refine (PySem.W.exm_one (K := X.K) (M := model X.prog X.w) I5.kIn LT hexm) _ _ _ _ (fun b o e => e) ?_
    refine codeAny_handlers_suite ?_
    refine lands_againW fw5 fun h6 fw6 up6 => ?_
    have I6 := invAt h6 fw6 ((up4.trans up5).trans up6)
    refine wpAny_mono (hs ea (X.pn ++ pins) [] _ _ _ D I6.toSuite hts) (fun f s8 q8 => ?_) (fun _ _ z => False.elim z)
    cases f with
    | next => obtain ⟨σ8, H8, I8, q⟩ := q8; exact ⟨σ8, H8, I8.ofSuite I.ok.hd, q⟩
    | brk => obtain ⟨σ8, H8, I8, q⟩ := q8; exact ⟨σ8, H8, I8.ofSuite I.ok.hd, q⟩
    | cont => obtain ⟨σ8, H8, I8, q⟩ := q8; exact ⟨σ8, H8, I8.ofSuite I.ok.hd, q⟩
    | ret v => obtain ⟨x8, σ8, H8, I8, r8, q⟩ := q8; exact ⟨x8, σ8, H8, I8.ofSuite I.ok.hd, r8, q⟩
end L2
set_option linter.all false
namespace PrimeO
end PrimeO
set_option Elab.async false
set_option linter.all false
set_option maxRecDepth 100000
set_option maxHeartbeats 4000000
namespace L2
open PySem PySem.Spec PyProof.Rows
section
variable {X : Cx} {CX CX' : CXT} {k k' : Nat} {f f' : Addr} {fd fd' : FuncData} {ps ps' : List Str} {sp sp' : Sp} {dvs dvs' : List V} {ds ds' : List Value} {x : Str} {p pos : Pos} {e : Expr} {es : List Expr} {t : TA}
end
end L2
set_option Elab.async false
set_option linter.all false
set_option maxRecDepth 100000
set_option maxHeartbeats 4000000
namespace PySem
open Sem (wp)
open PySem.F
def SqAny (t : Bool) (h : Heap) (l : Addr) (xs : Array Value) : Prop := match t with | false => h.IsList l xs | true => h.IsTuple l xs
def ItAny (t : Bool) (h : Heap) (i l : Addr) (k : Nat) : Prop := match t with | false => h.IsListIter i l k | true => h.IsTupleIter i l k
theorem SqAny.extBut {t : Bool} {h h' : Heap} {a b items} (x : SqAny t h a items) (hs : Heap.ExtBut b h h') (hab : a ≠ b) : SqAny t h' a items := by
  cases t
  . exact Heap.IsList.extBut x hs hab
  . exact Heap.IsTuple.extBut x hs hab
theorem SqAny.push {t : Bool} {h : Heap} {a items} (x : SqAny t h a items) (o : Obj) : SqAny t (h.push o) a items := by
  cases t
  . exact Heap.IsList.push x o
  . exact Heap.IsTuple.push x o
theorem SqAny.lt {t : Bool} {h : Heap} {a items} (x : SqAny t h a items) : a < h.objs.size := by
  cases t
  . obtain ⟨_, e, _⟩ := x; exact Heap.lt_size e
  . obtain ⟨_, e, _⟩ := x; exact Heap.lt_size e
theorem ItAny.extBut {t : Bool} {h h' : Heap} {a b l i} (x : ItAny t h a l i) (hs : Heap.ExtBut b h h') (hab : a ≠ b) : ItAny t h' a l i := by
  cases t
  . exact Heap.IsListIter.extBut x hs hab
  . exact Heap.IsTupleIter.extBut x hs hab
theorem ItAny.at {t : Bool} {h h' : Heap} {a l i} (x : ItAny t h a l i) (e : ∀ o, h.get? a = some o -> h'.get? a = some o) : ItAny t h' a l i := by
  cases t
  . exact Heap.IsListIter.at x e
  . exact Heap.IsTupleIter.at x e
theorem ItAny.ob {t : Bool} {h : Heap} {a l i} (x : ItAny t h a l i) : ∃ o, h.get? a = some o /\ o.data = .fields #[.ref l, .int i 0] := by
  cases t
  . obtain ⟨o, e, _, d⟩ := x; exact ⟨o, e, d⟩
  . obtain ⟨o, e, _, d⟩ := x; exact ⟨o, e, d⟩
theorem ItAny.lt {t : Bool} {h : Heap} {a l i} (x : ItAny t h a l i) : a < h.objs.size := by
  obtain ⟨_, e, _⟩ := x.ob; exact Heap.lt_size e
section
variable {prog : Program} {w : World} {A : Around} {E : Value -> Shared -> Prop} {s : Shared}
theorem nextAny {t : Bool} {it l : Addr} {i : Nat} {items : Array Value} {Q : Value -> Shared -> Prop} (hit : ItAny t s.heap it l i) (hl : SqAny t s.heap l items)
    (hQ : ∀ x h', items[i]? = some x -> ItAny t h' it l (i + 1) -> Heap.SameBut it s.heap h' -> Q x { s with heap := h' })
    (hE : items[i]? = none -> A.handled = none /\ ∀ h' e, Heap.ExtBut it s.heap h' -> (∃ o, h'.get? e = some o /\ o.cls = .type "StopIteration") -> E (.ref e) { s with heap := h' }) : wpAny (model prog w) A (Builtin.SmallTypes.nextOf (.ref it)) Q E s := by
  cases t
  . cases hx : items[i]? with
    | some x => exact wpAny_nextOf_list_item hit hl hx fun h' => hQ x h' hx
    | none => exact wpAny_nextOf_list_end (hE hx).1 hit hl hx (hE hx).2
  . exact nextOf_tup hit hl hQ hE
def itCls (t : Bool) : Value := match t with | false => .type "list_iterator" | true => .type "tuple_iterator"
theorem ItAny.mk {t : Bool} {h : Heap} {a l : Addr} (g : h.get? a = some { cls := itCls t, data := .fields #[.ref l, .int 0 0] }) : ItAny t h a l 0 := by
  cases t
  . exact ⟨_, g, rfl, rfl⟩
  . exact ⟨_, g, rfl, rfl⟩
theorem wpAny_pyIter_any {t : Bool} {l : Addr} {items} {Q : Value -> Shared -> Prop} (hl : SqAny t s.heap l items)
    (hQ : Q (.ref s.heap.objs.size) { s with heap := s.heap.push { cls := itCls t, data := .fields #[.ref l, .int 0 0] } }) : wpAny (model prog w) A (pyIter (.ref l)) Q E s := by
  cases t
  . exact wpAny_pyIter_list hl hQ
  . exact wpAny_pyIter_tuple hl hQ
end
section
variable {prog : Program} {w : World} {A : Around} {E : Value -> Shared -> Prop} {s : Shared}
theorem pyIterA {t : Bool} {l : Addr} {items} {Q : Value -> Shared -> Prop} (hl : SqAny t s.heap l items) (h : ∀ h', s.heap.push { cls := itCls t, data := .fields #[.ref l, .int 0 0] } = h' -> Q (.ref s.heap.objs.size) { s with heap := h' }) : wpAny (model prog w) A (pyIter (.ref l)) Q E s := wpAny_pyIter_any hl (h _ rfl)
theorem zipN {t1 t2 : Bool} {z TI TO i1 i2 l1 l2 : Addr} {k1 k2 : Nat} {xs ys : Array Value} {a b : Value} {Q : Option Value -> Shared -> Prop} (D : ZipApart z TI TO i1 i2 l1 l2) (hz : IsZip s.heap z TI TO .none) (hTI : IsPair s.heap TI (.ref i1) (.ref i2)) (hTO : IsPair s.heap TO a b)
    (h1 : ItAny t1 s.heap i1 l1 k1) (h2 : ItAny t2 s.heap i2 l2 k2) (hl1 : SqAny t1 s.heap l1 xs) (hl2 : SqAny t2 s.heap l2 ys)
    (hQ : ∀ x y h', xs[k1]? = some x -> ys[k2]? = some y -> IsZip h' z TI TO (rawInt s.heap.objs.size) -> IsPair h' TO x y -> ItAny t1 h' i1 l1 (k1 + 1) -> ItAny t2 h' i2 l2 (k2 + 1) -> IsPair h' s.heap.objs.size x y -> h'.objs.size = s.heap.objs.size + 1 -> (∀ c o, c ≠ z -> c ≠ TO -> c ≠ i1 -> c ≠ i2 -> s.heap.get? c = some o -> h'.get? c = some o) -> Q (some (.ref s.heap.objs.size)) { s with heap := h' })
    (hN : xs[k1]? = none \/ ys[k2]? = none -> A.handled = none /\ ∀ h', (∀ c o, c ≠ z -> c ≠ TO -> c ≠ i1 -> c ≠ i2 -> s.heap.get? c = some o -> h'.get? c = some o) -> Q none { s with heap := h' }) : wpAny (model prog w) A (pyNext (.ref z)) Q E s := by
  have hT : s.TypeIs (.ref z) "zip" := ⟨_, hz, rfl⟩
  have e1 := F.slot_zip_next
  unfold pyNext
  refine wpAny_bind (wpAny_attempt (wpAny_callSpecial?_slot hT e1 (wpAny_call_entry e1 hT F.entry_zip_next ?_ (F.args_zip_next_1 _))))
  wp_walk using wpAny_setField_rec hz
  . exact Nat.lt_of_sub_eq_succ rfl
  intro u0 g0 k0
  replace g0 : IsZip u0 z TI TO .ellipsis := g0
  have m1 : ItAny t1 u0 i1 l1 k1 := h1.extBut k0.extBut D.i1z
  have m2 : SqAny t1 u0 l1 xs := hl1.extBut k0.extBut D.l1z
  simp only [List.zipIdx_cons, List.zipIdx_nil, List.forIn_cons, List.forIn_nil]
  have stop : ∀ h' (e : Addr), (∀ c o, c ≠ z -> c ≠ TO -> c ≠ i1 -> c ≠ i2 -> s.heap.get? c = some o -> h'.get? c = some o) -> IsZip h' z TI TO .ellipsis -> (∃ o, h'.get? e = some o /\ o.cls = .type "StopIteration") -> xs[k1]? = none \/ ys[k2]? = none ->
      wpAny (model prog w) A.in1 (setField (.ref z) 0 .none) (fun _ s'' => wpAny (model prog w) A (do if <- isInstance (.ref e) (.type "StopIteration") then pure none else throw (.ref e)) Q E s'') (fun e s' => wpAny (model prog w) A (do if <- isInstance e (.type "StopIteration") then pure none else throw e) Q E s') { s with heap := h' } := fun h' e kk hz' he hx => by
    obtain ⟨o, e2, e3⟩ := he
    have n : e ≠ z := fun x => by subst x; rw [hz'] at e2; cases e2; simp at e3
    refine wpAny_setField_rec hz' (Nat.lt_of_sub_eq_succ rfl) fun h2 _ k2 => wpAny_bind (wpAny_isInstance (T := "StopIteration") (b := true) ⟨o, k2.extBut e o n e2, e3⟩ isSubtype_stop (wpAny_pure ((hN hx).2 h2 fun c o n1 n2 n3 n4 q => k2.extBut c o n1 (kk c o n1 n2 n3 n4 q))))
  wp_walk using wpAny_onRaise, nextAny (A := A.in1) (s := { s with heap := u0 }) m1 m2
  . intro x u1 hx m3 k3
    have y0 : IsPair u1 TO a b := k3.extBut TO _ D.TOi1 (k0.extBut TO _ D.TOz hTO)
    wp_walk using wpAny_updateSeq_pair y0
    intro u2 y2 k4
    replace y2 : IsPair u2 TO x b := y2
    have kk : ∀ c o, c ≠ z -> c ≠ TO -> c ≠ i1 -> s.heap.get? c = some o -> u2.get? c = some o := fun c o n1 n2 n3 q => k4.extBut c o n2 (k3.extBut c o n3 (k0.extBut c o n1 q))
    have g2 : IsZip u2 z TI TO .ellipsis := k4.extBut _ _ D.TOz.symm (k3.extBut _ _ D.i1z.symm g0)
    have m4 : ItAny t2 u2 i2 l2 k2 := h2.at fun o q => kk _ o D.i2z D.TOi2.symm D.i12.symm q
    have m5 : SqAny t2 u2 l2 ys := ((hl2.extBut k0.extBut D.l2z).extBut k3.extBut D.l2i1).extBut k4.extBut D.l2TO
    wp_walk using wpAny_onRaise, nextAny (A := A.in1) (s := { s with heap := u2 }) m4 m5
    . intro y u3 hy m6 k5
      have y3 : IsPair u3 TO x b := k5.extBut TO _ D.TOi2 y2
      wp_walk using wpAny_updateSeq_pair y3
      intro u4 y4 k6
      replace y4 : IsPair u4 TO x y := y4
      have g4 : IsZip u4 z TI TO .ellipsis := k6.extBut _ _ D.TOz.symm (k5.extBut _ _ D.i2z.symm g2)
      have zz : u4.objs.size = s.heap.objs.size := k6.1.trans (k5.1.trans (k4.1.trans (k3.1.trans k0.1)))
      wp_walk using newT
      . exact (show 2 <= sizeLine from by decide)
      intro u5 q5
      have kp : ∀ c o, u4.get? c = some o -> u5.get? c = some o := fun c o q => by rw [<- q5]; exact Heap.get?_push_of_some _ q
      have g5 := kp z _ g4
      have y5 : IsPair u5 u4.objs.size x y := by rw [<- q5]; exact Heap.get?_push_size _ rfl
      have z5 : u5.objs.size = u4.objs.size + 1 := by rw [<- q5]; exact Heap.size_push ..
      wp_walk using wpAny_setField_rec g5
      . exact Nat.lt_of_sub_eq_succ rfl
      intro u6 g6 k7
      replace g6 : IsZip u6 z TI TO (rawInt u4.objs.size) := g6
      wp_walk using wpAny_setField_rec g6
      . exact Nat.lt_of_sub_eq_succ rfl
      intro u7 g7 k8
      replace g7 : IsZip u7 z TI TO (rawInt u4.objs.size) := g7
      refine wpAny_pure ⟨_, rfl, wpAny_pure ?_⟩
      show Q (some (Value.ref u4.objs.size)) _
      have up : ∀ c o, c ≠ z -> u4.get? c = some o -> u7.get? c = some o := fun c o n q => k8.extBut c o n (k7.extBut c o n (kp c o q))
      have nz : u4.objs.size ≠ z := Nat.ne_of_gt (Heap.lt_size g4)
      have y7 := k8.extBut _ _ nz (k7.extBut _ _ nz y5)
      rw [zz] at g7 y7 z5 ⊢
      exact hQ x y u7 hx hy g7 (up _ _ D.TOz y4) ((m3.at fun o q => k6.extBut _ o D.TOi1.symm (k5.extBut _ o D.i12 (k4.extBut _ o D.TOi1.symm q))).at fun o q => up _ o D.i1z q) ((m6.at fun o q => k6.extBut _ o D.TOi2.symm q).at fun o q => up _ o D.i2z q) y7 ((k8.1.trans k7.1).trans z5)
        fun c o n1 n2 n3 n4 q => up c o n1 (k6.extBut c o n2 (k5.extBut c o n4 (kk c o n1 n2 n3 q)))
    . refine fun hy => ⟨(hN (.inr hy)).1, fun u3 e k5 he => ?_⟩
      exact stop u3 e (fun c o n1 n2 n3 n4 q => k5 c o n4 (kk c o n1 n2 n3 q)) (k5 z _ D.i2z.symm g2) he (.inr hy)
  . refine fun hx => ⟨(hN (.inl hx)).1, fun u1 e k3 he => ?_⟩
    exact stop u1 e (fun c o n1 n2 n3 n4 q => k3 c o n3 (k0.extBut c o n1 q)) (k3 z _ D.i1z.symm g0) he (.inl hx)
theorem call_zip_2G {t1 t2 : Bool} {l1 l2 : Addr} {xs ys : Array Value} {Q : Value -> Shared -> Prop} (hl1 : SqAny t1 s.heap l1 xs) (hl2 : SqAny t2 s.heap l2 ys)
    (h : ∀ h', IsZip h' (s.heap.objs.size + 4) (s.heap.objs.size + 2) (s.heap.objs.size + 3) .none -> IsPair h' (s.heap.objs.size + 2) (.ref s.heap.objs.size) (.ref (s.heap.objs.size + 1)) -> IsPair h' (s.heap.objs.size + 3) .none .none -> ItAny t1 h' s.heap.objs.size l1 0 -> ItAny t2 h' (s.heap.objs.size + 1) l2 0 -> h'.objs.size = s.heap.objs.size + 5 -> (∀ c o, s.heap.get? c = some o -> h'.get? c = some o) -> Q (.ref (s.heap.objs.size + 4)) { s with heap := h' }) :
    wpAny (model prog w) A (call (.type "zip") [.ref l1, .ref l2]) Q E s := by
  have M : Meets (Builtin.«zip.__new__» ⟨[.type "zip", .ref l1, .ref l2], []⟩) fun _ R t => t = s /\ ∀ h', IsZip h' (s.heap.objs.size + 4) (s.heap.objs.size + 2) (s.heap.objs.size + 3) .none -> IsPair h' (s.heap.objs.size + 2) (.ref s.heap.objs.size) (.ref (s.heap.objs.size + 1)) -> IsPair h' (s.heap.objs.size + 3) .none .none -> ItAny t1 h' s.heap.objs.size l1 0 -> ItAny t2 h' (s.heap.objs.size + 1) l2 0 -> h'.objs.size = s.heap.objs.size + 5 -> (∀ c o, s.heap.get? c = some o -> h'.get? c = some o) -> R (.ok (.ret (.ref (s.heap.objs.size + 4)))) { s with heap := h' } := .of_wp fun prog w A R t ⟨e, q⟩ => by
    subst e
    obtain ⟨hp, g, d, tk, os⟩ := t
    have hsub := sub_zip
    wp_walk using pyIterA hl1
    intro u1 q1
    obtain ⟨a1, b1, c1⟩ := psh q1 rfl
    have hl2' : SqAny t2 u1 l2 ys := by rw [<- q1]; exact SqAny.push hl2 _
    wp_walk using pyIterA (s := ⟨u1, g, d, tk, os⟩) hl2'
    intro u2 q2
    obtain ⟨a2, b2, c2⟩ := psh q2 rfl
    wp_walk using newT
    . exact (show 2 <= sizeLine from by decide)
    intro u3 q3
    obtain ⟨a3, b3, c3⟩ := psh q3 rfl
    wp_walk using newT
    . exact (show 2 <= sizeLine from by decide)
    intro u4 q4
    obtain ⟨a4, b4, c4⟩ := psh q4 rfl
    wp_walk
    refine ⟨_, rfl, ?_⟩
    have Z1 : u1.objs.size = hp.objs.size + 1 := c1
    have Z2 : u2.objs.size = hp.objs.size + 2 := (show u2.objs.size = u1.objs.size + 1 from c2).trans (by rw [Z1])
    have Z3 : u3.objs.size = hp.objs.size + 3 := (show u3.objs.size = u2.objs.size + 1 from c3).trans (by rw [Z2])
    have Z4 : u4.objs.size = hp.objs.size + 4 := (show u4.objs.size = u3.objs.size + 1 from c4).trans (by rw [Z3])
    obtain ⟨a5, b5, c5⟩ := psh (rfl : u4.push { cls := .type "zip", data := .fields #[.none, .bool false, .bool false, .ref u2.objs.size, .ref u3.objs.size] } = _) rfl
    replace b1 : u1.get? hp.objs.size = _ := b1
    replace b2 : u2.get? u1.objs.size = _ := b2
    replace b3 : IsPair u3 u2.objs.size (.ref hp.objs.size) (.ref u1.objs.size) := b3
    replace b4 : IsPair u4 u3.objs.size .none .none := b4
    show R (.ok (.ret (.ref u4.objs.size))) ⟨u4.push { cls := .type "zip", data := .fields #[.none, .bool false, .bool false, .ref u2.objs.size, .ref u3.objs.size] }, g, d, tk, os⟩
    rw [Z1, Z2] at b3
    rw [Z1] at b2
    rw [Z3] at b4
    rw [Z2, Z3, Z4] at b5
    rw [Z2, Z3] at a5 c5 ⊢
    rw [Z4] at c5 ⊢
    exact q _ b5 (a5 _ _ (a4 _ _ b3)) (a5 _ _ b4) (ItAny.mk (a5 _ _ (a4 _ _ (a3 _ _ (a2 _ _ b1))))) (ItAny.mk (a5 _ _ (a4 _ _ (a3 _ _ b2)))) c5 fun c o x => a5 _ _ (a4 _ _ (a3 _ _ (a2 _ _ (a1 _ _ x))))
  exact callType_new F.called_zip (by decide) (F.typeCall_zip_2 _ _) (F.newCall_zip_2 _ _) (fun obj => F.args_object_init_3 obj _ _) F.entry_zip_new M ⟨rfl, fun h' a b c d e f g => ⟨⟨_, a, rfl⟩, h h' a b c d e f g⟩⟩
end
end PySem
set_option Elab.async false
set_option linter.all false
set_option maxRecDepth 100000
set_option maxHeartbeats 4000000
namespace PySem
section
variable {prog : Program} {w : World} {A : Around} {E : Value -> Shared -> Prop} {s : Shared}
abbrev zpO (T TI TO : Addr) (f : Bool) : Obj := { cls := .type "zip", dict := none, data := .fields #[rawInt T, .bool f, .bool false, .ref TI, .ref TO], slots := #[] }
theorem zipH {t1 t2 : Bool} {z TI TO T i1 i2 l1 l2 : Addr} {k1 k2 : Nat} {f : Bool} {oT : Obj} {xs ys : Array Value} {Q : Option Value -> Shared -> Prop} (D : ZipApart z TI TO i1 i2 l1 l2) (hz : s.heap.get? z = some (zpO T TI TO f)) (hTo : s.heap.get? T = some oT) (hTI : IsPair s.heap TI (.ref i1) (.ref i2))
    (h1 : ItAny t1 s.heap i1 l1 k1) (h2 : ItAny t2 s.heap i2 l2 k2) (hl1 : SqAny t1 s.heap l1 xs) (hl2 : SqAny t2 s.heap l2 ys)
    (hQ : ∀ x y h', xs[k1]? = some x -> ys[k2]? = some y -> h'.get? z = some (zpO T TI TO true) -> ItAny t1 h' i1 l1 (k1 + 1) -> ItAny t2 h' i2 l2 (k2 + 1) -> IsPair h' s.heap.objs.size x y -> h'.objs.size = s.heap.objs.size + 1 -> (∀ c o, c ≠ z -> c ≠ i1 -> c ≠ i2 -> s.heap.get? c = some o -> h'.get? c = some o) -> Q (some (.ref s.heap.objs.size)) { s with heap := h' })
    (hN : xs[k1]? = none \/ ys[k2]? = none -> A.handled = none /\ ∀ h', (∀ c o, c ≠ z -> c ≠ i1 -> c ≠ i2 -> s.heap.get? c = some o -> h'.get? c = some o) -> Q none { s with heap := h' }) : wpAny (model prog w) A (pyNext (.ref z)) Q E s := by
  have hT : s.TypeIs (.ref z) "zip" := ⟨_, hz, rfl⟩
  have e1 := F.slot_zip_next
  have e : ((T : Int)).toNat = T := Int.toNat_natCast T
  have lz := Heap.lt_size hz
  unfold pyNext
  refine wpAny_bind (wpAny_attempt (wpAny_callSpecial?_slot hT e1 (wpAny_call_entry e1 hT F.entry_zip_next ?_ (F.args_zip_next_1 _))))
  wp_walk
  simp only [<- Array.forIn_toList, List.forIn_cons, List.forIn_nil]
  refine PySem.W.kdx_alive (a := (T : Int).toNat) (by rw [e]; exact hTo) ?_
  have stop : ∀ h' (e : Addr), (∀ c o, c ≠ z -> c ≠ i1 -> c ≠ i2 -> s.heap.get? c = some o -> h'.get? c = some o) -> (∃ o, h'.get? e = some o /\ o.cls = .type "StopIteration") -> xs[k1]? = none \/ ys[k2]? = none ->
      wpAny (model prog w) A (do if <- isInstance (.ref e) (.type "StopIteration") then pure none else throw (.ref e)) Q E { s with heap := h' } := fun h' e kk ⟨o, e2, e3⟩ hx => wpAny_bind (wpAny_isInstance (T := "StopIteration") (b := true) ⟨o, e2, e3⟩ isSubtype_stop (wpAny_pure ((hN hx).2 h' kk)))
  cases f
  . wp_walk using wpAny_setField_rec hz
    . exact Nat.lt_of_sub_eq_succ rfl
    intro u0 g0 k0
    have m1 := h1.extBut k0.extBut D.i1z
    have m2 := hl1.extBut k0.extBut D.l1z
    wp_walk using nextAny (A := A.in1) (s := { s with heap := u0 }) m1 m2
    . intro x u1 hx m3 k3
      have m4 := (h2.extBut k0.extBut D.i2z).extBut k3.extBut D.i12.symm
      have m5 := (hl2.extBut k0.extBut D.l2z).extBut k3.extBut D.l2i1
      wp_walk using nextAny (A := A.in1) (s := { s with heap := u1 }) m4 m5
      . intro y u2 hy m6 k4
        wp_walk using newT
        . exact (show 2 <= sizeLine from by decide)
        intro u3 q3
        obtain ⟨a3, b3, c3⟩ := psh q3 rfl
        wp_walk
        have zz : u2.objs.size = s.heap.objs.size := k4.1.trans (k3.1.trans k0.1)
        have b4 : IsPair u3 u2.objs.size x y := b3
        have c4 : u3.objs.size = u2.objs.size + 1 := c3
        have kk : ∀ c o, c ≠ z -> c ≠ i1 -> c ≠ i2 -> s.heap.get? c = some o -> u3.get? c = some o := fun c o n1 n2 n3 q => a3 _ _ (k4.extBut c o n3 (k3.extBut c o n2 (k0.extBut c o n1 q)))
        have g3 := a3 _ _ (k4.extBut z _ D.i2z.symm (k3.extBut z _ D.i1z.symm g0))
        refine ⟨_, rfl, wpAny_pure ?_⟩
        show Q (some (Value.ref u2.objs.size)) _
        rw [zz] at b4 c4 ⊢
        exact hQ x y u3 hx hy g3 ((m3.extBut k4.extBut D.i12).at fun o q => a3 _ _ q) (m6.at fun o q => a3 _ _ q) b4 c4 kk
      . exact fun hy => ⟨(hN (.inr hy)).1, fun u2 e k4 he => stop u2 e (fun c o n1 n2 n3 q => k4 c o n3 (k3.extBut c o n2 (k0.extBut c o n1 q))) he (.inr hy)⟩
    . exact fun hx => ⟨(hN (.inl hx)).1, fun u1 e k3 he => stop u1 e (fun c o n1 n2 n3 q => k3 c o n2 (k0.extBut c o n1 q)) he (.inl hx)⟩
  . have k0 := Heap.SameBut.refl z s.heap
    have m1 := h1.extBut k0.extBut D.i1z
    have m2 := hl1.extBut k0.extBut D.l1z
    wp_walk using nextAny (A := A.in1) (s := { s with heap := s.heap }) m1 m2
    . intro x u1 hx m3 k3
      have m4 := (h2.extBut k0.extBut D.i2z).extBut k3.extBut D.i12.symm
      have m5 := (hl2.extBut k0.extBut D.l2z).extBut k3.extBut D.l2i1
      wp_walk using nextAny (A := A.in1) (s := { s with heap := u1 }) m4 m5
      . intro y u2 hy m6 k4
        wp_walk using newT
        . exact (show 2 <= sizeLine from by decide)
        intro u3 q3
        obtain ⟨a3, b3, c3⟩ := psh q3 rfl
        wp_walk
        have zz : u2.objs.size = s.heap.objs.size := k4.1.trans (k3.1.trans k0.1)
        have b4 : IsPair u3 u2.objs.size x y := b3
        have c4 : u3.objs.size = u2.objs.size + 1 := c3
        have kk : ∀ c o, c ≠ z -> c ≠ i1 -> c ≠ i2 -> s.heap.get? c = some o -> u3.get? c = some o := fun c o n1 n2 n3 q => a3 _ _ (k4.extBut c o n3 (k3.extBut c o n2 (k0.extBut c o n1 q)))
        have g3 := a3 _ _ (k4.extBut z _ D.i2z.symm (k3.extBut z _ D.i1z.symm hz))
        refine ⟨_, rfl, wpAny_pure ?_⟩
        show Q (some (Value.ref u2.objs.size)) _
        rw [zz] at b4 c4 ⊢
        exact hQ x y u3 hx hy g3 ((m3.extBut k4.extBut D.i12).at fun o q => a3 _ _ q) (m6.at fun o q => a3 _ _ q) b4 c4 kk
      . exact fun hy => ⟨(hN (.inr hy)).1, fun u2 e k4 he => stop u2 e (fun c o n1 n2 n3 q => k4 c o n3 (k3.extBut c o n2 (k0.extBut c o n1 q))) he (.inr hy)⟩
    . exact fun hx => ⟨(hN (.inl hx)).1, fun u1 e k3 he => stop u1 e (fun c o n1 n2 n3 q => k3 c o n2 (k0.extBut c o n1 q)) he (.inl hx)⟩
end
def ZTp (xs ys : Array Value) (lo : Addr) (h : Heap) (as : List Addr) : Prop := as.Pairwise (· < ·) /\ ∀ (j : Nat) a, as[j]? = some a -> lo < a /\ ∃ x y, xs[j]? = some x /\ ys[j]? = some y /\ IsPair h a x y
theorem ZTp.keep {xs ys : Array Value} {lo : Addr} {h h' : Heap} {as : List Addr} (g : ZTp xs ys lo h as) (k : ∀ b o, lo < b -> h.get? b = some o -> h'.get? b = some o) : ZTp xs ys lo h' as := ⟨g.1, fun j a q => let ⟨l, x, y, e1, e2, e3⟩ := g.2 j a q; ⟨l, x, y, e1, e2, k a _ l e3⟩⟩
theorem ZTp.snoc {xs ys : Array Value} {lo b : Addr} {h : Heap} {as : List Addr} {x y : Value} (g : ZTp xs ys lo h as) (hl : lo < b) (hb : ∀ a o, h.get? a = some o -> a ∈ as -> a < b) (e1 : xs[as.length]? = some x) (e2 : ys[as.length]? = some y) (ht : IsPair h b x y) : ZTp xs ys lo h (as ++ [b]) := by
  refine ⟨List.pairwise_append.mpr ⟨g.1, List.pairwise_singleton _ _, fun a ha c hc => ?_⟩, fun j a q => ?_⟩
  . obtain ⟨j, hj⟩ := List.mem_iff_getElem?.mp ha
    obtain ⟨_, _, _, _, _, e⟩ := g.2 j a hj
    rw [List.mem_singleton.mp hc]
    exact hb a _ e ha
  . rcases Nat.lt_or_ge j as.length with l | l
    . rw [List.getElem?_append_left l] at q
      exact g.2 j a q
    . have := (List.getElem?_eq_some_iff.mp q).1
      obtain rfl : j = as.length := by simp at this; omega
      rw [List.getElem?_append_right l, Nat.sub_self] at q
      obtain rfl : b = a := by simpa using q
      exact ⟨hl, x, y, e1, e2, ht⟩
section
variable {prog : Program} {w : World} {s : Shared}
theorem zip_no_len : typeLookup (.type "zip") "__len__" = pure none := by rw [typeLookup_type, builtinLookup_eq_fast]; kernel_rfl
theorem zip_no_hint : typeLookup (.type "zip") "__length_hint__" = pure none := by rw [typeLookup_type, builtinLookup_eq_fast]; kernel_rfl
theorem zip_gat {t1 t2 : Bool} {z TI TO i1 i2 l1 l2 : Addr} {xs ys : Array Value} {a b : Value} (D : ZipApart z TI TO i1 i2 l1 l2) (hn : xs.size <= sizeLine) (hxy : xs.size = ys.size) (hz : IsZip s.heap z TI TO .none) (hTI : IsPair s.heap TI (.ref i1) (.ref i2)) (hTO : IsPair s.heap TO a b) (h1 : ItAny t1 s.heap i1 l1 0) (h2 : ItAny t2 s.heap i2 l2 0) (hl1 : SqAny t1 s.heap l1 xs) (hl2 : SqAny t2 s.heap l2 ys) :
    Gat prog w s z z "zip" xs.size (fun b => b = z \/ b = TO \/ b = i1 \/ b = i2) (fun i acc h => ∃ as, acc = as.map Value.ref /\ as.length = i /\ ZTp xs ys s.heap.objs.size h as /\ (IsPair h TI (.ref i1) (.ref i2) /\ ItAny t1 h i1 l1 i /\ ItAny t2 h i2 l2 i /\ SqAny t1 h l1 xs /\ SqAny t2 h l2 ys) /\ ((IsZip h z TI TO .none /\ ∃ a b, IsPair h TO a b) \/ ∃ T f oT, h.get? z = some (zpO T TI TO f) /\ h.get? T = some oT /\ s.heap.objs.size < T)) (fun acc h => ∃ as, acc = as.map Value.ref /\ as.length = xs.size /\ ZTp xs ys s.heap.objs.size h as) := by
  have lz := Heap.lt_size hz
  have lI := Heap.lt_size hTI
  have lO := Heap.lt_size hTO
  have a1 := h1.lt
  have a2 := h2.lt
  have b1 := hl1.lt
  have b2 := hl2.lt
  have sq : ∀ {t : Bool} {h h' : Heap} {l : Addr} {v : Array Value}, SqAny t h l v -> (∀ o, h.get? l = some o -> h'.get? l = some o) -> SqAny t h' l v := fun {t} {h h' l v} x k => by
    cases t
    . obtain ⟨o, e, r⟩ := x; exact ⟨o, k o e, r⟩
    . obtain ⟨o, e, r⟩ := x; exact ⟨o, k o e, r⟩
  refine ⟨⟨_, hz, rfl⟩, by decide, by decide, hn, fun A t Q E k q => ?_, fun A u Q E k zz q => ?_, fun A i acc t Q E hh j hl hi lt q1 q2 => ?_, fun i acc h h' j k => ?_, ?_⟩
  . have hT : t.TypeIs (.ref z) "zip" := ⟨_, k _ _ hz, rfl⟩
    unfold Builtin.List.listLengthHint
    wp_walk using wpAny_specialOf hT zip_no_len, wpAny_specialOf hT zip_no_hint
    exact q _ t.toks
  . exact wpAny_pyIter_zip (k _ _ hz) (q u ⟨[], rfl, rfl, ⟨.nil, fun j a e => by simp at e⟩, ⟨k _ _ hTI, h1.at fun o e => k _ o e, h2.at fun o e => k _ o e, sq hl1 fun o e => k _ o e, sq hl2 fun o e => k _ o e⟩, .inl ⟨k _ _ hz, _, _, k _ _ hTO⟩⟩ fun b o e => e)
  . obtain ⟨as, rfl, e2, e3, ⟨e4, e5, e6, e7, e8⟩, e9⟩ := j
    have old : ∀ {b : Addr}, s.heap.objs.size < b -> ¬ (b = z \/ b = TO \/ b = i1 \/ b = i2) := fun {b} l x => by
      rcases x with rfl | rfl | rfl | rfl
      . exact absurd lz (Nat.not_lt.mpr (Nat.le_of_lt l))
      . exact absurd lO (Nat.not_lt.mpr (Nat.le_of_lt l))
      . exact absurd a1 (Nat.not_lt.mpr (Nat.le_of_lt l))
      . exact absurd a2 (Nat.not_lt.mpr (Nat.le_of_lt l))
    have fin : ∀ h', (xs[i]? = none \/ ys[i]? = none) -> KP (fun b => b = z \/ b = TO \/ b = i1 \/ b = i2) t.heap h' -> Q none { t with heap := h' } := fun h' e k => by
      have : i = xs.size := by rcases e with e | e <;> rw [Array.getElem?_eq_none_iff] at e <;> omega
      exact q2 h' t.toks this ⟨as, rfl, by omega, e3.keep fun b o l q => k b o (old l) q⟩ k
    have one : ∀ x y h', xs[i]? = some x -> ys[i]? = some y -> ItAny t1 h' i1 l1 (i + 1) -> ItAny t2 h' i2 l2 (i + 1) -> IsPair h' t.heap.objs.size x y -> KP (fun b => b = z \/ b = TO \/ b = i1 \/ b = i2) t.heap h' -> (∃ T f oT, h'.get? z = some (zpO T TI TO f) /\ h'.get? T = some oT /\ s.heap.objs.size < T) -> Q (some (.ref t.heap.objs.size)) { t with heap := h' } := fun x y h' ex ey i1' i2' hp k st => by
      refine q1 _ h' t.toks (Array.getElem?_eq_some_iff.mp ex).1 ⟨as ++ [t.heap.objs.size], by simp, by simp [e2], (e3.keep fun b o l q => k b o (old l) q).snoc lt (fun a o _ m => ?_) (by rw [e2]; exact ex) (by rw [e2]; exact ey) hp, ⟨k _ _ (fun x => ?_) e4, i1', i2', sq e7 fun o q => k _ o (fun x => ?_) q, sq e8 fun o q => k _ o (fun x => ?_) q⟩, .inr st⟩ k
      . obtain ⟨j, hj⟩ := List.mem_iff_getElem?.mp m
        obtain ⟨_, _, _, _, _, e⟩ := e3.2 j a hj
        exact Heap.lt_size e
      . rcases x with x | x | x | x
        . exact D.TIz x
        . exact D.TITO x
        . exact D.TIi1 x
        . exact D.TIi2 x
      . rcases x with x | x | x | x
        . exact D.l1z x
        . exact D.l1TO x
        . exact D.l1i1 x
        . exact D.l1i2 x
      . rcases x with x | x | x | x
        . exact D.l2z x
        . exact D.l2TO x
        . exact D.l2i1 x
        . exact D.l2i2 x
    rcases e9 with ⟨c1, c, d, c2⟩ | ⟨T, f, oT, c1, c2, c3⟩
    . refine zipN D c1 e4 c2 e5 e6 e7 e8 (fun x y h' ex ey g1 g2 g3 g4 g5 gs gk => one x y h' ex ey g3 g4 g5 (fun b o n q => gk b o (fun z => n (.inl z)) (fun z => n (.inr (.inl z))) (fun z => n (.inr (.inr (.inl z)))) (fun z => n (.inr (.inr (.inr z)))) q) ⟨_, false, _, g1, g5, lt⟩) fun e => ⟨hh, fun h' gk => fin h' e fun b o n q => gk b o (fun z => n (.inl z)) (fun z => n (.inr (.inl z))) (fun z => n (.inr (.inr (.inl z)))) (fun z => n (.inr (.inr (.inr z)))) q⟩
    . refine zipH D c1 c2 e4 e5 e6 e7 e8 (fun x y h' ex ey g1 g3 g4 g5 gs gk => one x y h' ex ey g3 g4 g5 (fun b o n q => gk b o (fun z => n (.inl z)) (fun z => n (.inr (.inr (.inl z)))) (fun z => n (.inr (.inr (.inr z)))) q) ⟨T, true, oT, g1, gk T oT (fun z => old c3 (.inl z)) (fun z => old c3 (.inr (.inr (.inl z)))) (fun z => old c3 (.inr (.inr (.inr z)))) c2, c3⟩) fun e => ⟨hh, fun h' gk => fin h' e fun b o n q => gk b o (fun z => n (.inl z)) (fun z => n (.inr (.inr (.inl z)))) (fun z => n (.inr (.inr (.inr z)))) q⟩
  . obtain ⟨as, r1, r2, r3, ⟨r4, r5, r6, r7, r8⟩, r9⟩ := j
    refine ⟨as, r1, r2, r3.keep fun b o l q => k b o (Nat.ne_of_gt l) q, ⟨k _ _ (Nat.ne_of_lt lI) r4, r5.at fun o q => k _ o (Nat.ne_of_lt a1) q, r6.at fun o q => k _ o (Nat.ne_of_lt a2) q, sq r7 fun o q => k _ o (Nat.ne_of_lt b1) q, sq r8 fun o q => k _ o (Nat.ne_of_lt b2) q⟩, ?_⟩
    rcases r9 with ⟨c1, c, d, c2⟩ | ⟨T, f, oT, c1, c2, c3⟩
    . exact .inl ⟨k _ _ (Nat.ne_of_lt lz) c1, c, d, k _ _ (Nat.ne_of_lt lO) c2⟩
    . exact .inr ⟨T, f, oT, k _ _ (Nat.ne_of_lt lz) c1, k _ _ (Nat.ne_of_gt c3) c2, c3⟩
  . rintro (x | x | x | x)
    . exact absurd x (Nat.ne_of_gt lz)
    . exact absurd x (Nat.ne_of_gt lO)
    . exact absurd x (Nat.ne_of_gt a1)
    . exact absurd x (Nat.ne_of_gt a2)
end
end PySem
set_option Elab.async false
set_option linter.all false
set_option maxRecDepth 100000
set_option maxHeartbeats 4000000
namespace L2
open PySem PySem.Spec PyProof.Rows GW
def SqB (K : PySem.W.Frag) (H : Hp) (t : Bool) (a : Addr) (xs : List V) : Prop := match t with | false => SqL K H a xs | true => SqT K H a xs
theorem Inv.seqB {X : Cx} {pins : List (Addr × Obj)} {σ : St} {H : Hp} {s : Shared} {t : Bool} {a : Addr} {xs : List V} (I : Inv X pins σ H s) (h : SqB X.K H t a xs) : ∃ its : List Value, Vals xs its /\ SqAny t s.heap a its.toArray := by
  cases t
  . obtain ⟨its, r, p, _⟩ := I.list h
    exact ⟨its, r, p.isList⟩
  . obtain ⟨its, r, p, _⟩ := I.tuple h
    exact ⟨its, r, p⟩
end L2
set_option linter.all false
namespace Nest
def sl (row : List Int) (b i : Nat) : List Int := (row.take i).drop b
def outF (p e : Int) (s : List Int × Int) (x : Int) : List Int × Int := if x = e then (s.1, s.2 - 1) else (if s.2 = 0 then s.1 ++ [x] else s.1, if p <= x then s.2 + 1 else s.2)
def outS (p e : Int) (l : List Int) : List Int × Int := l.foldl (outF p e) ([], 0)
def outW (p e : Int) (l : List Int) : List Int := (outS p e l).1
def wd (p e : Int) (row : List Int) (i a : Nat) : List Int := outW p e (sl row (a + 1) i)
end Nest
set_option Elab.async false
set_option linter.all false
set_option maxRecDepth 100000
set_option maxHeartbeats 4000000
namespace L2
open PySem PySem.Spec PyProof.Rows GW
end L2
namespace HT
open PySem PySem.Spec PyProof.Rows L2
section
variable {prog : Program} {w : World} {A : Around} {E : Value -> Shared -> Prop} {s : Shared}
end
end HT
namespace L2
open PySem PySem.Spec PyProof.Rows GW
theorem pi_tupK {X : Cx} {K : PySem.W.Frag} {tg l : Expr} {tl : TE} (hK : X.K = K) (hl : PE X l tl) : PI X tg l (iTup K tl) := by subst hK; exact pi_tup hl
end L2
namespace Nest
end Nest
set_option linter.all false
namespace Nest
end Nest
namespace L2
open PySem PySem.Spec PyProof.Rows
end L2
set_option Elab.async false
set_option linter.all false
set_option maxRecDepth 100000
set_option maxHeartbeats 4000000
namespace L2
open PySem PySem.W PySem.Spec PySem.Calls PyProof.Rows
theorem idxOf_le : ∀ {ws : List (List Int)} {m : Nat} {w : List Int}, ws[m]? = some w -> ws.idxOf w <= m
  | [], m, w, h => by simp at h
  | v :: ws, m, w, h => by
    rw [List.idxOf_cons]
    cases m with
    | zero =>
      have : v = w := by simpa using h
      simp [this]
    | succ m =>
      have := idxOf_le (ws := ws) (m := m) (w := w) (by simpa using h)
      cases e : (v == w) with
      | true => exact Nat.zero_le _
      | false => exact Nat.succ_le_succ this
end L2
set_option Elab.async false
set_option linter.all false
set_option maxRecDepth 100000
set_option maxHeartbeats 1000000
namespace L2
open PySem PySem.Spec PyProof.Rows
section
variable {K : PySem.W.Frag} {x : V} {xs : List V} {lo hi : Option Int} {H : Hp} {Q : VK}
end
end L2
set_option Elab.async false
set_option linter.all false
set_option maxRecDepth 100000
set_option maxHeartbeats 4000000
namespace L2
open PySem PySem.W PySem.Spec PySem.Calls PyProof.Rows
theorem list_zip {X : Cx} {pins : List (Addr × Obj)} {σ : St} {H : Hp} {s : Shared} {t1 t2 : Bool} {a b : Addr} {xs ys : List V} {us vs : List Value} {Q : VK} (I : Inv X pins σ H s) (hc : X.calm = true) (rv : Vals xs us) (rw2 : Vals ys vs) (pl : SqAny t1 s.heap a us.toArray) (pl2 : SqAny t2 s.heap b vs.toArray) (hlen : xs.length = ys.length) (hz : xs.length <= sizeLine)
    (q : ∀ l rs H', Same H H' -> H' l = none -> rs.length = xs.length -> (∀ (i : Nat) (x y : V), xs[i]? = some x -> ys[i]? = some y -> ∃ t, rs[i]? = some (V.ref t) /\ H' t = some (.tup [x, y])) -> Q (.ref l) (upd H' l (.lst rs))) :
    wpAny (model X.prog X.w) X.A (call (.type "zip") [.ref a, .ref b]) (fun v s2 => wpAny (model X.prog X.w) X.A (call (.type "list") [v]) (EP X pins σ Q) X.xe s2) X.xe s := by
  have l1 := rv.length
  have l2 := rw2.length
  refine call_zip_2G pl pl2 fun h1 z1 z2 z3 z4 z5 z6 z7 => ?_
  have sq : ∀ {t : Bool} {l : Addr} {v : Array Value}, SqAny t s.heap l v -> SqAny t h1 l v := fun {t} {l v} x => by
    cases t
    . obtain ⟨o, e, r⟩ := x; exact ⟨o, z7 _ o e, r⟩
    . obtain ⟨o, e, r⟩ := x; exact ⟨o, z7 _ o e, r⟩
  have G : Gat X.prog X.w { s with heap := h1 } (s.heap.objs.size + 4) _ "zip" us.toArray.size _ _ _ := zip_gat (s := { s with heap := h1 }) (zipApart_new pl.lt pl2.lt) (by rw [List.size_toArray, <- l1]; exact hz) (by simp; omega) z1 z2 z3 z4 z5 (sq pl) (sq pl2)
  refine G.list (I.ok.hd hc) fun h' tk acc c ⟨as, f1, f2, f3⟩ _ hS k4 => ?_
  have hle : s.heap.objs.size <= h1.objs.size := by omega
  have hk : ∀ b o, s.heap.get? b = some o -> h'.get? b = some o := fun b o e => by
    have := Heap.lt_size e
    refine k4 b o (fun x => ?_) (z7 b o e)
    rcases x with x | x | x | x
    . exact absurd x (Nat.ne_of_lt (Nat.lt_of_lt_of_le this (Nat.le_add_right _ 4)))
    . exact absurd x (Nat.ne_of_lt (Nat.lt_of_lt_of_le this (Nat.le_add_right _ 3)))
    . exact absurd x (Nat.ne_of_lt this)
    . exact absurd x (Nat.ne_of_lt (Nat.lt_of_lt_of_le this (Nat.le_add_right _ 1)))
  have hal : as.length = xs.length := by simp at f2; omega
  let cs : List (List V) := (xs.zip ys).map fun p => [p.1, p.2]
  have hcl : cs.length = xs.length := by simp [cs, hlen]
  have hci : ∀ (i : Nat) (x y : V), xs[i]? = some x -> ys[i]? = some y -> cs[i]? = some [x, y] := fun i x y h1 h2 => by
    simp only [cs]
    rw [List.getElem?_map, show (xs.zip ys)[i]? = some (x, y) from List.getElem?_zip_eq_some.mpr ⟨h1, h2⟩]; rfl
  have hzz : (as.zip cs).map (·.1) = as := List.map_fst_zip (by rw [hal, hcl]; exact Nat.le_refl _)
  have hmem : ∀ p ∈ as.zip cs, ∃ (i : Nat) (x y : V), as[i]? = some p.1 /\ xs[i]? = some x /\ ys[i]? = some y /\ p.2 = [x, y] := fun p hp => by
    obtain ⟨i, hi⟩ := List.mem_iff_getElem?.mp hp
    obtain ⟨e1, e2⟩ := List.getElem?_zip_eq_some.mp hi
    have l : i < xs.length := by rw [<- hal]; exact (List.getElem?_eq_some_iff.mp e1).1
    have ex : xs[i]? = some xs[i] := by simp
    have ey : ys[i]? = some (ys[i]'(by omega)) := by simp
    rw [hci i _ _ ex ey] at e2
    exact ⟨i, _, _, e1, ex, ey, (Option.some.inj e2).symm⟩
  have ab : ∀ x ∈ as, h1.objs.size < x := fun x hx => by
    obtain ⟨j, hj⟩ := List.mem_iff_getElem?.mp hx
    exact (f3.2 j x hj).1
  have fr : ∀ p ∈ as.zip cs, h1.objs.size < p.1 := fun p hp => by
    obtain ⟨i, _, _, e, _⟩ := hmem p hp
    exact ab _ (List.mem_of_getElem? e)
  obtain ⟨H2, e1, e2, e3, e4, e5⟩ := lay_tups (as.zip cs) (by rw [hzz]; exact f3.1.imp fun a => Nat.ne_of_lt a) (fun p hp => by
    obtain ⟨i, x, y, g1, g2, g3, g4⟩ := hmem p hp
    obtain ⟨u, hu, ru⟩ := rv.get g2
    obtain ⟨v, hv, rv'⟩ := rw2.get g3
    obtain ⟨_, x', y', b1, b2, b3⟩ := f3.2 i p.1 g1
    obtain rfl : u = x' := by simpa [hu] using b1
    obtain rfl : v = y' := by simpa [hv] using b2
    refine ⟨Nat.le_of_lt (Nat.lt_of_le_of_lt hle (fr p hp)), by rw [g4]; have := line1000; simp; omega, [u, v], ?_, ⟨_, b3, rfl, 0, rfl⟩⟩
    rw [g4]
    exact Vals.two' ru rv') H (Un.kept hk) (I.hok.kept hk) (fun p hp => I.hok.fresh (Nat.le_of_lt (Nat.lt_of_le_of_lt hle (fr p hp))))
  have hD : H2 h1.objs.size = none := by
    rw [e5 _ (by rw [hzz]; exact fun z => absurd (ab _ z) (Nat.lt_irrefl _))]
    exact I.hok.fresh hle
  have new : ObjOk X.prog X.w (upd H2 h1.objs.size (.lst (as.map V.ref))) h' h1.objs.size (.lst (as.map V.ref)) := ⟨by rw [List.length_map, hal]; exact hz, as.map Value.ref, c, valsR as, by rw [<- f1]; exact hS⟩
  refine ⟨.ref h1.objs.size, _, I.un (t' := tk) (e1.track hle hD) (e2.track hD new), rfl, q _ _ H2 e3 hD (by rw [List.length_map, hal]) fun i x y hx hy => ?_⟩
  have hi : i < as.length := by rw [hal]; exact (List.getElem?_eq_some_iff.mp hx).1
  have hai : as[i]? = some as[i] := by simp [hi]
  exact ⟨as[i], by rw [List.getElem?_map, hai]; rfl, e4 (as[i], [x, y]) (List.mem_iff_getElem?.mpr ⟨i, List.getElem?_zip_eq_some.mpr ⟨hai, hci i x y hx hy⟩⟩)⟩
end L2
namespace L2
open PySem PySem.W PySem.Spec PySem.Calls PyProof.Rows
end L2
namespace L2
open PySem
section
variable {prog : Program} {w : World} {κ : Type} [DecidableEq κ] {knd : HeapKind prog w κ} {A : Around} {E : Value -> Shared -> Prop} {s : Shared}
end
end L2
namespace L2
open PySem PySem.W PySem.Spec PySem.Calls PyProof.Rows
end L2
set_option Elab.async false
set_option linter.all false
set_option maxRecDepth 100000
namespace L2
section
variable {α : Type} [DecidableEq α]
def ins1 (acc : List α) (x : α) : List α := if x ∈ acc then acc else acc ++ [x]
def firstsA (acc row : List α) : List α := row.foldl ins1 acc
def firsts (row : List α) : List α := firstsA [] row
theorem mem_ins1 {acc : List α} {x y : α} : y ∈ ins1 acc x ↔ y ∈ acc \/ y = x := by
  unfold ins1
  split
  . rename_i h
    constructor
    . exact .inl
    . rintro (h' | rfl)
      . exact h'
      . exact h
  . simp
theorem mem_firstsA : ∀ {row acc : List α} {y : α}, y ∈ firstsA acc row ↔ y ∈ acc \/ y ∈ row
  | [], acc, y => by simp [firstsA]
  | x :: row, acc, y => by
    show y ∈ firstsA (ins1 acc x) row ↔ _
    rw [mem_firstsA, mem_ins1, List.mem_cons, or_assoc]
theorem nodup_ins1 {acc : List α} {x : α} (h : acc.Nodup) : (ins1 acc x).Nodup := by
  unfold ins1
  split
  . exact h
  . rename_i hx
    exact List.nodup_append.mpr ⟨h, by simp, fun a ha b hb z => by simp at hb; subst z hb; exact hx ha⟩
theorem nodup_firstsA : ∀ {row acc : List α}, acc.Nodup -> (firstsA acc row).Nodup
  | [], acc, h => h
  | x :: row, acc, h => nodup_firstsA (row := row) (nodup_ins1 h)
def num (row : List α) : List Int := row.map fun x => ((firsts row).idxOf x : Int)
def ncl (row : List α) : Nat := (firsts row).length
end
theorem nod_sub' {α : Type} [DecidableEq α] : ∀ {l m : List α}, l.Nodup -> (∀ x ∈ l, x ∈ m) -> l.length <= m.length
  | [], m, _, _ => Nat.zero_le _
  | x :: l, m, hn, h => by
    have hx := h x (List.mem_cons_self ..)
    have h1 := List.nodup_cons.mp hn
    have := nod_sub' (m := m.erase x) h1.2 fun y hy => by
      have hne : y ≠ x := fun z => h1.1 (z ▸ hy)
      exact (List.mem_erase_of_ne hne).mpr (h y (List.mem_cons_of_mem _ hy))
    rw [List.length_erase_of_mem hx] at this
    have hp : 0 < m.length := List.length_pos_of_mem hx
    rw [List.length_cons]; omega
def rowB (n : Nat) (b : List Int -> Nat -> Int) (w : List Int) : List Int := (List.range n).map (b w)
section
variable {L : Int} {n : Nat} {b : List Int -> Nat -> Int} {words : List (List Int)} {c : List Int} {w : List Int} {x : Int}
end
theorem idx_map {α β : Type} [DecidableEq α] [DecidableEq β] (f : α -> β) : ∀ (l : List α) (x : α), (∀ y ∈ l, f y = f x -> y = x) -> (l.map f).idxOf (f x) = l.idxOf x
  | [], x, _ => rfl
  | a :: l, x, h => by
    rw [List.map_cons, List.idxOf_cons, List.idxOf_cons, idx_map f l x fun y hy => h y (List.mem_cons_of_mem _ hy)]
    by_cases e : a = x
    . subst e; simp
    . have : ¬ f a = f x := fun z => e (h a (List.mem_cons_self ..) z)
      rw [show (a == x) = false by simpa using e, show (f a == f x) = false by simpa using this]
theorem idx_snoc {α : Type} [DecidableEq α] {l : List α} {x y : α} (hy : y ∈ l) : (l ++ [x]).idxOf y = l.idxOf y := by
  rw [List.idxOf_append, if_pos hy]
theorem idx_new {α : Type} [DecidableEq α] {l : List α} {x : α} (hx : x ∉ l) : (l ++ [x]).idxOf x = l.length := by
  rw [List.idxOf_append, if_neg hx]; simp
abbrev StC := List (List Int) × List Int
def stepC (n : Nat) (b : List Int -> Nat -> Int) (w : List Int) (st : StC) (x : Nat) : StC := if ncl st.2 < ncl (st.2.zip (rowB n b ((x : Int) :: w))) then (st.1 ++ [(x : Int) :: w], num (st.2.zip (rowB n b ((x : Int) :: w)))) else st
def innerC (n : Nat) (b : List Int -> Nat -> Int) (w : List Int) (L : Nat) (st : StC) : StC := (List.range L).foldl (stepC n b w) st
def outerC (n : Nat) (b : List Int -> Nat -> Int) (L : Nat) : Nat -> Nat -> StC -> StC
  | 0, _, st => st
  | f + 1, k, st => if k < st.1.length then outerC n b L f (k + 1) (innerC n b (st.1.getD k []) L st) else st
section
variable {n L : Nat} {b : List Int -> Nat -> Int} {w : List Int} {st : StC}
def wcOf (n L : Nat) (b : List Int -> Nat -> Int) : StC := outerC n b L 41 0 ([[]], num (rowB n b []))
end
end L2
set_option Elab.async false
set_option linter.all false
set_option maxRecDepth 100000
set_option maxHeartbeats 4000000
namespace L2
open PySem PySem.W PySem.Spec PySem.Calls PyProof.Rows
end L2
set_option Elab.async false
set_option linter.all false
set_option maxRecDepth 100000
namespace L2
open GW GB
def bW (marks : List Int) (ways : List (List Int)) (w : List Int) (r : Nat) : Int := marks.getD (walkR ways (r : Int) w).toNat 0
def cf (c : List Int) (r : Int) : Int := c.getD r.toNat 0
def hm (c R : List Int) (r : Int) : Int := (((firsts (R.map (cf c))).idxOf (cf c r) : Nat) : Int)
def hrow (c R : List Int) (ways : List (List Int)) (r : Int) : List Int := (ways.getD r.toNat []).map (hm c R)
section
variable {L : Nat} {marks : List Int} {ways : List (List Int)}
end
def cOf (L : Nat) (marks : List Int) (ways : List (List Int)) : List Int := (wcOf marks.length L (bW marks ways)).2
def rOf (ways : List (List Int)) : List Int := (wordsIn ways).map (·.1)
def hO (L : Nat) (marks : List Int) (ways : List (List Int)) (r : Int) : Int := hm (cOf L marks ways) (rOf ways) r
section
variable {L : Nat} {marks : List Int} {ways : List (List Int)}
def wi (ways : List (List Int)) (r : Int) : List Int := (((wordsIn ways).find? fun e => decide (e.1 = r)).map (·.2)).getD []
end
section
variable {L : Nat} {m1 m2 : List Int} {w1 w2 : List (List Int)}
end
end L2
set_option Elab.async false
set_option linter.all false
set_option maxRecDepth 100000
set_option maxHeartbeats 4000000
namespace L2
open PySem PySem.Spec PyProof.Rows GW GB
end L2
set_option Elab.async false
set_option linter.all false
set_option maxRecDepth 100000
set_option maxHeartbeats 1000000
namespace L2
open PySem PySem.Spec PyProof.Rows
def nt (n : Int) : Str := Str.ofString (toString n)
end L2
set_option Elab.async false
set_option linter.all false
set_option maxRecDepth 100000
set_option maxHeartbeats 1000000
namespace L2
open PySem PySem.Spec PyProof.Rows
end L2
set_option Elab.async false
set_option linter.all false
set_option maxRecDepth 100000
set_option maxHeartbeats 4000000
namespace PySem
open Sem (wp)
namespace F
end F
section
variable {prog : Program} {w : World} {A : Around} {E : Value -> Shared -> Prop} {s : Shared}
end
section
open PyProof.Rows
variable {prog : Program} {w : World} {A : Around} {E : Value -> Shared -> Prop} {s : Shared}
end
end PySem
namespace L2
open PySem PySem.Spec PyProof.Rows
section
variable {X : Cx}
end
end L2
set_option Elab.async false
set_option linter.all false
set_option maxRecDepth 100000
set_option maxHeartbeats 4000000
namespace PySem
section
variable {prog : Program} {w : World} {A : Around} {R : Result -> Shared -> Prop} {I : Addr} {fp wr : List Addr} {n : Nat} {P : Nat -> Value -> Prop} {St : Nat -> Heap -> Prop} {d : Int} {td : Tok}
end
end PySem
set_option Elab.async false
set_option linter.all false
set_option maxRecDepth 100000
set_option maxHeartbeats 4000000
namespace L2
open PySem PySem.Spec PyProof.Rows
section
variable {X : Cx} {pins : List (Addr × Obj)} {σ : St} {H : Hp} {s : Shared} {a : Addr}
end
theorem call_tuple_L {X : Cx} : CallR X (.type "tuple") (fun xs H Q => ∃ p ys, xs = [.ref p] /\ ((SqL X.K H p ys /\ ∀ l, H l = none -> Q (.ref l) (upd H l (.tup ys))) \/ False)) := fun pins s σ H xs us Q I r h => by
  obtain ⟨p, ys, e, h | h⟩ := h
  . exact call_tuple_of pins s σ H xs us Q I r ⟨p, ys, e, .inl h⟩
  . exact h.elim
theorem call_tuple_LK {X : Cx} {K : PySem.W.Frag} (h : X.K = K) : CallR X (.type "tuple") (fun xs H Q => ∃ p ys, xs = [.ref p] /\ ((SqL K H p ys /\ ∀ l, H l = none -> Q (.ref l) (upd H l (.tup ys))) \/ False)) := by subst h; exact call_tuple_L
theorem len1 {α : Type} {us : List α} (h : us.length = 1) : ∃ a, us = [a] := by match us, h with | [a], _ => exact ⟨a, rfl⟩
theorem len2 {α : Type} {us : List α} (h : us.length = 2) : ∃ a b, us = [a, b] := by match us, h with | [a, b], _ => exact ⟨a, b, rfl⟩
theorem len4 {α : Type} {us : List α} (h : us.length = 4) : ∃ a b c d, us = [a, b, c, d] := by match us, h with | [a, b, c, d], _ => exact ⟨a, b, c, d, rfl⟩
section
variable {σ : St} {H : Hp} {Q : VK} {K : PySem.W.Frag}
end
section
variable {a : Addr} {n : Int} {b : Bool}
end
def tLater (u : TS) (D : Ends) : St -> Hp -> Prop := u D
def tLazy (t u : TS) : TS := fun D σ H => t { D with nx := tLater u D } σ H
theorem r_lazy {t u : TS} {D : Ends} {σ : St} {H : Hp} : tLazy t u D σ H = t { D with nx := tLater u D } σ H := rfl
theorem later_of {u : TS} {D : Ends} {σ : St} {H : Hp} (h : u D σ H) : tLater u D σ H := h
theorem pss_lazy {X : Cx} {st : Stmt} {rest : List Stmt} {t u : TS} (h1 : PS X st t) (h2 : PSs X rest u) : PSs X (st :: rest) (tLazy t u) := pss_cons h1 h2
end L2
set_option Elab.async false
set_option linter.all false
set_option maxRecDepth 100000
set_option maxHeartbeats 4000000
namespace L2
open PySem PySem.Spec PyProof.Rows
end L2
set_option Elab.async false
set_option linter.all false
set_option maxRecDepth 100000
set_option maxHeartbeats 1000000
namespace L2
open PySem PySem.W PySem.Spec PySem.Calls PyProof.Rows
section
variable {X : Cx} {es : List Expr} {t : TA}
end
end L2
set_option Elab.async false
set_option linter.all false
set_option maxRecDepth 100000
set_option maxHeartbeats 4000000
namespace PySem.W
open PySem PySem.Calls PyProof.Rows PyProof.V PySem.Spec
section
variable {prog : Program} {w : World} {A : Around} {E : Value -> Shared -> Prop} {s : Shared} {r d : Addr} {es : Array DictEntry} {ep : Nat} {od : Obj}
end
section
variable {prog : Program} {w : World} {r d : Addr} {es : Array DictEntry} {ep : Nat} {od : Obj}
end
end PySem.W
set_option Elab.async false
set_option linter.all false
set_option maxRecDepth 100000
set_option maxHeartbeats 4000000
namespace L2
open PySem PySem.Spec PyProof.Rows
end L2
set_option Elab.async false
set_option linter.all false
set_option maxRecDepth 100000
set_option maxHeartbeats 4000000
namespace L2
open PySem PySem.Spec PyProof.Rows
end L2
set_option Elab.async false
set_option linter.all false
namespace L2
open PySem PySem.Spec PyProof.Rows
end L2
set_option Elab.async false
set_option linter.all false
set_option maxRecDepth 100000
set_option maxHeartbeats 4000000
namespace PySem
open Sem (wp)
namespace Heap
section
variable {h base : Heap} {l : List Env} {e L : Addr} {cls a0 cx fl : Value}
end
end Heap
section
variable {M : Model} {A : Around} {E : Value -> Shared -> Prop} {s : Shared} {base : Heap} {env : Env} {outer l : List Env} {L e : Addr} {cls a0 cx fl : Value}
end
end PySem
set_option Elab.async false
set_option linter.all false
set_option maxRecDepth 100000
set_option maxHeartbeats 4000000
namespace L2
open PySem PySem.W PySem.Spec PySem.Calls PyProof.Rows
section
variable {P : Program} {w : World}
end
section
variable {P : Program} {w : World} {K : PySem.W.Frag} {mg : Str -> Option Value} {base : Heap} {N : List Str} {qual : Str} {scope : Scope} {f : Addr} {cd : Value} {A : Around} {outer : List Env} {s : Shared} {H : Hp} {E : XK}
end
section
variable {P : Program} {w : World} {K : PySem.W.Frag} {mg : Str -> Option Value} {base : Heap}
end
end L2
set_option Elab.async false
set_option linter.all false
set_option maxRecDepth 100000
set_option maxHeartbeats 4000000
namespace PySem
open Sem (wp)
section
variable {M : Model} {A : Around} {E : Value -> Shared -> Prop} {env : Env}
variable {nm q : Str} {C N : Addr} {bs bm : List Value} {hdct : Bool} {sn : List Str} {sub : List Value} {ab : Bool} {col : Option Bool} {dd : Option Addr} {k0 k1 k2 k3 k5 : Option Value} {newId : String}
end
section
variable {prog : Program} {w : World} {A : Around} {E : Value -> Shared -> Prop} {s : Shared} {env : Env}
variable {nm q : Str} {C N : Addr} {bs bm bmB : List Value} {hdct : Bool} {sn : List Str} {sub : List Value} {ab : Bool} {col : Option Bool} {dd : Option Addr} {k0 k1 k2 k3 k5 : Option Value} {B Bn newId nid initId inN : String} {bmN : List Value}
end
end PySem
set_option Elab.async false
set_option linter.all false
set_option maxRecDepth 100000
set_option maxHeartbeats 4000000
namespace L2
open PySem PySem.W PySem.Spec PySem.Calls PyProof.Rows
section
variable {P : Program} {w : World} {K : PySem.W.Frag} {mg : Str -> Option Value} {base : Heap} {N : List Str} {qual : Str} {scope : Scope} {f : Addr} {cd : Value} {A : Around} {outer : List Env} {s : Shared} {H : Hp} {Eo : XK}
end
end L2
set_option Elab.async false
set_option linter.all false
set_option maxRecDepth 100000
set_option maxHeartbeats 4000000
namespace L2
open PySem PySem.W PySem.Spec PySem.Calls PyProof.Rows
section
variable {X : Cx} {pins : List (Addr × Obj)} {σ : St} {H : Hp} {s : Shared} {cp : Caps} {sc : Scope} {tg : Expr} {iter elt : Expr} {ifs : List Expr} {pos : Pos} {wi : TI} {g : TG} {tc : TT} {te : TE}
end
end L2
set_option Elab.async false
set_option linter.all false
set_option maxRecDepth 100000
set_option maxHeartbeats 4000000
namespace L2
open PySem PySem.W PySem.Spec PySem.Calls PyProof.Rows
section
variable {X : Cx} {CX : CXT} {k : Nat} {f C : Addr} {fd : FuncData} {ps : List Str} {sp : Sp} {dvs : List V} {ds : List Value} {E : XK} {x m : Str} {np apos pos : Pos} {e : Expr} {es : List Expr} {t : TA}
end
end L2
set_option Elab.async false
set_option linter.all false
set_option maxRecDepth 100000
set_option maxHeartbeats 4000000
namespace L2
open PySem PySem.Spec PyProof.Rows
end L2
set_option Elab.async false
set_option linter.all false
set_option maxRecDepth 100000
namespace L2
open PySem
end L2
set_option Elab.async false
set_option linter.all false
set_option maxRecDepth 100000
set_option maxHeartbeats 4000000
namespace L2
open PySem PySem.W PySem.Spec PySem.Calls PyProof.Rows
end L2
set_option Elab.async false
set_option linter.all false
set_option maxRecDepth 100000
set_option maxHeartbeats 4000000
namespace L2
open PySem PySem.W PySem.Spec PySem.Calls PyProof.Rows
def vD : Option (Option V) -> (V -> Prop) -> Prop
  | some (some v), q => q v
  | _, _ => False
theorem vD_some {v : V} {q : V -> Prop} : vD (some (some v)) q = q v := rfl
theorem vD_ex {o : Option (Option V)} {q : V -> Prop} (h : vD o q) : ∃ v, o = some (some v) /\ q v := by
  match o, h with
  | some (some v), h => exact ⟨v, rfl, h⟩
def tVarD (i : Nat) : TE := fun σ H Q => vD σ[i]? fun v => Q v H
theorem r_varD {i : Nat} {σ : St} {H : Hp} {Q : VK} : tVarD i σ H Q = vD σ[i]? fun v => Q v H := rfl
theorem pvD {X : Cx} (i : Nat) {x : Str} {pos : Pos} (hN : X.N[i]? = some x := by rfl) (hv : Vis X.env.scope x := by first | exact Or.inl rfl | exact Or.inr (Or.inl rfl) | exact Or.inr (Or.inr rfl)) (hd : (x == ("__debug__" : Str)) = false := by decide)
    (hcd : (x == ("__classdict__" : Str)) = false := by decide) : PE X (.Name x pos) (tVarD i) := fun pins s σ H Q I h => pv i hN hv hd hcd pins s σ H Q I (vD_ex h)
def iD : V -> V -> (Int -> Int -> Prop) -> Prop
  | .int i, .int j, q => q i j
  | x, y, q => ∃ i j, x = .int i /\ y = .int j /\ q i j
theorem iD_int {i j : Int} {q : Int -> Int -> Prop} : iD (.int i) (.int j) q = q i j := rfl
theorem iD_ex {x y : V} {q : Int -> Int -> Prop} : iD x y q = ∃ i j, x = .int i /\ y = .int j /\ q i j := by
  cases x <;> cases y <;> first | rfl | (simp [iD])
def rID (C : Int -> Int -> Prop) (g : Int -> Int -> V) : R2 := fun x y H Q => iD x y fun i j => C i j /\ Q (g i j) H
def rI0D (g : Int -> Int -> V) : R2 := fun x y H Q => iD x y fun i j => Q (g i j) H
theorem r_ID {C : Int -> Int -> Prop} {f : Int -> Int -> V} {x y : V} {H : Hp} {Q : VK} : rID C f x y H Q = iD x y fun i j => C i j /\ Q (f i j) H := rfl
theorem r_I0D {f : Int -> Int -> V} {x y : V} {H : Hp} {Q : VK} : rI0D f x y H Q = iD x y fun i j => Q (f i j) H := rfl
theorem rID_eq {C : Int -> Int -> Prop} {g : Int -> Int -> V} : rID C g = rI C g := by
  funext x y H Q; exact iD_ex
theorem rI0D_eq {g : Int -> Int -> V} : rI0D g = rI0 g := by
  funext x y H Q; exact iD_ex
theorem opD {X : Cx} {f : Value -> Value -> Sem Value} {C : Int -> Int -> Prop} {g : Int -> Int -> V} (h : OpR X f (rI C g)) : OpR X f (rID C g) := by rw [rID_eq]; exact h
theorem opD0 {X : Cx} {f : Value -> Value -> Sem Value} {g : Int -> Int -> V} (h : OpR X f (rI0 g)) : OpR X f (rI0D g) := by rw [rI0D_eq]; exact h
def bD : V -> (Bool -> Prop) -> Prop
  | .bl c, q => q c
  | x, q => ∃ c, x = .bl c /\ q c
theorem bD_bl {c : Bool} {q : Bool -> Prop} : bD (.bl c) q = q c := rfl
theorem bD_ex {x : V} {q : Bool -> Prop} : bD x q = ∃ c, x = .bl c /\ q c := by
  cases x <;> first | rfl | (simp [bD])
def tBD (t : TE) : TT := fun σ H Q => t σ H fun x H1 => bD x fun c => Q c H1
theorem r_BD {te : TE} {σ : St} {H : Hp} {R : Bool -> Hp -> Prop} : tBD te σ H R = te σ H fun x H1 => bD x fun c => R c H1 := rfl
theorem tBD_eq {t : TE} : tBD t = tB t := by
  funext σ H Q
  show t σ H _ = t σ H _
  congr 1
  funext x H1; exact bD_ex
theorem tBD_eqT {t : TE} : tBD t = tTest t := tBD_eq
theorem ptB {X : Cx} {e : Expr} {t : TE} (h : PT X e (tB t)) : PT X e (tBD t) := by rw [tBD_eq]; exact h
theorem ptT {X : Cx} {e : Expr} {t : TE} (h : PT X e (tTest t)) : PT X e (tBD t) := by rw [tBD_eqT]; exact h
def eD : V -> V -> Prop -> Prop
  | .int _, .int _, q => q
  | .str _, .str _, q => q
  | .non, .non, q => q
  | .bl _, .bl _, q => q
  | x, y, q => scal x y = true /\ q
theorem eD_int {i j : Int} {q : Prop} : eD (.int i) (.int j) q = q := rfl
theorem eD_str {i j : Str} {q : Prop} : eD (.str i) (.str j) q = q := rfl
theorem eD_non {q : Prop} : eD .non .non q = q := rfl
theorem eD_bl {i j : Bool} {q : Prop} : eD (.bl i) (.bl j) q = q := rfl
theorem eD_ex {x y : V} {q : Prop} : eD x y q = (scal x y = true /\ q) := by
  cases x <;> cases y <;> first | rfl | (simp [eD, scal])
def rEqF : R2 := fun x y H Q => eD x y (Q (.bl (decide (x = y))) H)
def rNeF : R2 := fun x y H Q => eD x y (Q (.bl (!decide (x = y))) H)
theorem r_EqF {x y : V} {H : Hp} {Q : VK} : rEqF x y H Q = eD x y (Q (.bl (decide (x = y))) H) := rfl
theorem r_NeF {x y : V} {H : Hp} {Q : VK} : rNeF x y H Q = eD x y (Q (.bl (!decide (x = y))) H) := rfl
theorem rEqF_eq : rEqF = rEq := by funext x y H Q; exact eD_ex
theorem rNeF_eq : rNeF = rNe := by funext x y H Q; exact eD_ex
theorem opE {X : Cx} {f : Value -> Value -> Sem Value} (h : OpR X f rEq) : OpR X f rEqF := by rw [rEqF_eq]; exact h
theorem opN {X : Cx} {f : Value -> Value -> Sem Value} (h : OpR X f rNe) : OpR X f rNeF := by rw [rNeF_eq]; exact h
def aD : V -> (Addr -> Prop) -> Prop
  | .ref a, q => q a
  | x, q => ∃ a, x = .ref a /\ q a
theorem aD_ref {a : Addr} {q : Addr -> Prop} : aD (.ref a) q = q a := rfl
theorem aD_ex {x : V} {q : Addr -> Prop} : aD x q = ∃ a, x = .ref a /\ q a := by
  cases x <;> first | rfl | (simp [aD])
def nD : V -> (Int -> Prop) -> Prop
  | .int a, q => q a
  | x, q => ∃ a, x = .int a /\ q a
theorem nD_int {a : Int} {q : Int -> Prop} : nD (.int a) q = q a := rfl
theorem nD_ex {x : V} {q : Int -> Prop} : nD x q = ∃ a, x = .int a /\ q a := by
  cases x <;> first | rfl | (simp [nD])
def rIxTD (K : PySem.W.Frag) : R2 := fun x y H Q => aD x fun p => ∃ xs, nD y fun i => SqT K H p xs /\ ∃ v, atI xs i = some v /\ Q v H
def rIxLD (K : PySem.W.Frag) : R2 := fun x y H Q => aD x fun p => ∃ xs, nD y fun i => SqL K H p xs /\ ∃ v, atI xs i = some v /\ Q v H
theorem r_ixTD {K : PySem.W.Frag} {x y : V} {H : Hp} {Q : VK} : rIxTD K x y H Q = aD x fun p => ∃ xs, nD y fun i => SqT K H p xs /\ ∃ v, atI xs i = some v /\ Q v H := rfl
theorem r_ixLD {K : PySem.W.Frag} {x y : V} {H : Hp} {Q : VK} : rIxLD K x y H Q = aD x fun p => ∃ xs, nD y fun i => SqL K H p xs /\ ∃ v, atI xs i = some v /\ Q v H := rfl
theorem rIxTD_eq {K : PySem.W.Frag} : rIxTD K = rIxT K := by
  funext x y H Q
  show aD x _ = ∃ p xs i v, _
  rw [aD_ex]
  refine propext ⟨fun ⟨p, e, h⟩ => ?_, fun ⟨p, xs, i, v, e1, e2, e3, e4, e5⟩ => ⟨p, e1, ?_⟩⟩
  . obtain ⟨xs, h⟩ := h
    rw [nD_ex] at h
    obtain ⟨i, e2, e3, v, e4, e5⟩ := h
    exact ⟨p, xs, i, v, e, e2, e3, e4, e5⟩
  . refine ⟨xs, ?_⟩
    rw [nD_ex]
    exact ⟨i, e2, e3, v, e4, e5⟩
theorem rIxLD_eq {K : PySem.W.Frag} : rIxLD K = rIxL K := by
  funext x y H Q
  show aD x _ = ∃ p xs i v, _
  rw [aD_ex]
  refine propext ⟨fun ⟨p, e, h⟩ => ?_, fun ⟨p, xs, i, v, e1, e2, e3, e4, e5⟩ => ⟨p, e1, ?_⟩⟩
  . obtain ⟨xs, h⟩ := h
    rw [nD_ex] at h
    obtain ⟨i, e2, e3, v, e4, e5⟩ := h
    exact ⟨p, xs, i, v, e, e2, e3, e4, e5⟩
  . refine ⟨xs, ?_⟩
    rw [nD_ex]
    exact ⟨i, e2, e3, v, e4, e5⟩
theorem ixTD {X : Cx} {K : PySem.W.Frag} (h : IxR X (rIxT K)) : IxR X (rIxTD K) := by rw [rIxTD_eq]; exact h
theorem ixLD {X : Cx} {K : PySem.W.Frag} (h : IxR X (rIxL K)) : IxR X (rIxLD K) := by rw [rIxLD_eq]; exact h
def lD1 : List V -> (V -> Prop) -> Prop
  | [x], q => q x
  | xs, q => ∃ x, xs = [x] /\ q x
theorem lD1_one {x : V} {q : V -> Prop} : lD1 [x] q = q x := rfl
theorem lD1_ex {xs : List V} {q : V -> Prop} : lD1 xs q = ∃ x, xs = [x] /\ q x := by
  match xs with
  | [] => rfl
  | [x] => simp [lD1]
  | x :: y :: r => rfl
def rLenD (K : PySem.W.Frag) : List V -> Hp -> VK -> Prop := fun xs H Q => lD1 xs fun x => aD x fun p => ∃ ys, (SqL K H p ys \/ SqT K H p ys) /\ Q (.int ys.length) H
theorem r_lenD {K : PySem.W.Frag} {xs : List V} {H : Hp} {Q : VK} : rLenD K xs H Q = lD1 xs fun x => aD x fun p => ∃ ys, (SqL K H p ys \/ SqT K H p ys) /\ Q (.int ys.length) H := rfl
theorem lenD {X : Cx} {K : PySem.W.Frag} {f : Value} (h : CallR X f (fun xs H Q => ∃ p ys, xs = [.ref p] /\ (SqL K H p ys \/ SqT K H p ys) /\ Q (.int ys.length) H)) : CallR X f (rLenD K) := by
  have e : rLenD K = fun xs H Q => ∃ p ys, xs = [.ref p] /\ (SqL K H p ys \/ SqT K H p ys) /\ Q (.int ys.length) H := by
    funext xs H Q
    show lD1 xs _ = _
    rw [lD1_ex]
    refine propext ⟨fun ⟨x, e, h⟩ => ?_, fun ⟨p, ys, e, h1, h2⟩ => ⟨_, e, ys, h1, h2⟩⟩
    rw [aD_ex] at h
    obtain ⟨p, rfl, ys, h1, h2⟩ := h
    exact ⟨p, ys, e, h1, h2⟩
  rw [e]; exact h
theorem ps_setL {X : Cx} {i : Nat} {x : Str} {e : Expr} {te : TE} {pos pos' : Pos} (hN : X.N.Nodup) (he : PE X e te) (hi : X.N[i]? = some x := by rfl) (hx : Loc X.env.scope x := by exact Or.inl rfl) (hs : swapsWith e (some (.Name x pos')) pos.line X.env = pure false := by rfl) (hf : X.fn x = true \/ X.env.scope.names.lookup x = some .local := by first | exact .inl rfl | exact .inr rfl | assumption) : PS X (.Assign [.Name x pos'] e pos) (tAsg te (gName i)) := ps_set hN hi hx he hs hf
theorem pe_ixA {X : Cx} {r : R2} {a b : Expr} {ta tb : TE} {pos : Pos} (hr : IxR X r) (ha : PE X a ta) (hb : PE X b tb) (hs : PlainIx b := by exact fun _ _ => rfl) : PE X (.Subscript a b pos) (tOp r ta tb) := pe_ix hr ha hb hs
end L2
set_option Elab.async false
set_option linter.all false
set_option maxRecDepth 100000
set_option maxHeartbeats 4000000
namespace PySem
open Sem (wp)
structure VKind (prog : Program) (w : World) (K : Type) [DecidableEq K] where
  is : Heap -> K -> Value -> Prop
  hash : K -> Int
  draws : K -> Nat
  room : Around -> Prop
  inj : ∀ {h : Heap} {a : Value} {x y : K}, is h x a -> is h y a -> x = y
  keeps : ∀ {h h' : Heap} {k : K} {a : Value} {d : Addr} {o : Obj} {es ep}, is h k a -> h.get? d = some o -> o.data = .dict es ep -> Heap.SameBut d h h' -> is h' k a
  pyHash : ∀ {A : Around} {E : Value -> Shared -> Prop} {s : Shared} {k : K} {a : Addr} {Q : Int -> Shared -> Prop}, room A -> is s.heap k (.ref a) -> Q (hash k) { s with toks := s.toks + draws k } -> wpAny (model prog w) A (PySem.pyHash (.ref a)) Q E s
  eqBool : ∀ {A : Around} {E : Value -> Shared -> Prop} {s : Shared} {x y : K} {u : Value} {b : Addr} {Q : Bool -> Shared -> Prop}, room A -> is s.heap x u -> is s.heap y (.ref b) -> Q (decide (x = y)) s -> wpAny (model prog w) A (PySem.eqBool u (.ref b)) Q E s
  quiet : ∀ {A : Around} {E : Value -> Shared -> Prop} {s : Shared} {k : K} {a : Value} {Q : Bool -> Shared -> Prop}, room A -> is s.heap k a -> Q true s -> wpAny (model prog w) A (eqIsQuiet 8 a) Q E s
section
variable {K : Type} [DecidableEq K] {xs : List (K × Value × Value)} {k : K}
def atKeyV (xs : List (K × Value × Value)) (k : K) : Option (Value × Value) := (xs.find? fun x => decide (x.1 = k)).map (·.2)
def putAtV (k : K) (v : Value) (x : K × Value × Value) : K × Value × Value := if x.1 = k then (x.1, x.2.1, v) else x
def storedHV (xs : List (K × Value × Value)) (k : K) (a v : Value) : List (K × Value × Value) := if (atKeyV xs k).isSome then xs.map (putAtV k v) else xs ++ [(k, a, v)]
theorem once (nd : (xs.map (·.1)).Nodup) {i j : Nat} {p q : Value × Value} (a : xs[i]? = some (k, p)) (b : xs[j]? = some (k, q)) : i = j := by
  obtain ⟨l, e⟩ := List.getElem?_eq_some_iff.mp a
  obtain ⟨m, f⟩ := List.getElem?_eq_some_iff.mp b
  exact (List.getElem_inj (xs := xs.map (·.1)) (h₀ := by rwa [List.length_map]) (h₁ := by rwa [List.length_map]) nd).mp (by rw [List.getElem_map, List.getElem_map, e, f])
theorem found (nd : (xs.map (·.1)).Nodup) {j : Nat} {p : Value × Value} (a : xs[j]? = some (k, p)) : atKeyV xs k = some p := by
  unfold atKeyV
  cases h : xs.find? fun x => decide (x.1 = k) with
  | none => exact absurd (decide_eq_true rfl) (List.find?_eq_none.mp h _ (List.mem_of_getElem? a))
  | some y =>
    obtain ⟨i, b⟩ := List.mem_iff_getElem?.mp (List.mem_of_find?_eq_some h)
    obtain ⟨k', q⟩ := y
    have e : decide (k' = k) = true := List.find?_some (p := fun x : K × Value × Value => decide (x.1 = k)) h
    cases of_decide_eq_true e
    cases once nd a b
    cases a.symm.trans b
    rfl
theorem missed (h : ∀ (j : Nat) (p : Value × Value), xs[j]? ≠ some (k, p)) : atKeyV xs k = none /\ k ∉ xs.map (·.1) := by
  have no : ∀ x ∈ xs, x.1 ≠ k := fun x m e => by
    obtain ⟨j, g⟩ := List.mem_iff_getElem?.mp m
    exact h j x.2 (e ▸ g)
  refine ⟨?_, fun m => ?_⟩
  . rw [atKeyV, List.find?_eq_none.mpr fun x m => by simpa using no x m]; rfl
  . obtain ⟨x, m, e⟩ := List.mem_map.mp m
    exact no x m e
theorem put_at (nd : (xs.map (·.1)).Nodup) {j : Nat} {p : Value × Value} (a : xs[j]? = some (k, p)) (v : Value) (i : Nat) : (xs.map (putAtV k v))[i]? = if i = j then some (k, p.1, v) else xs[i]? := by
  rw [List.getElem?_map]
  by_cases e : i = j
  . rw [if_pos e, e, a, Option.map_some, putAtV, if_pos rfl]
  . rw [if_neg e]
    cases g : xs[i]? with
    | none => rfl
    | some x => rw [Option.map_some, putAtV, if_neg fun f => e (once nd (k := k) (p := x.2) (by rw [g, <- f]) a)]
theorem put_keys (v : Value) : (xs.map (putAtV k v)).map (·.1) = xs.map (·.1) := by
  rw [List.map_map]
  exact List.map_congr_left fun x _ => by unfold Function.comp putAtV; split <;> rfl
end
section
variable {prog : Program} {w : World} {K : Type} [DecidableEq K] (knd : VKind prog w K)
def entryOfKeyV (x : K × Value × Value) : DictEntry := ⟨knd.hash x.1, x.2.1, x.2.2⟩
def Heap.DictOfV (h : Heap) (d : Addr) (xs : List (K × Value × Value)) : Prop :=
  ∃ o es ep, h.get? d = some o /\ o.ExactDict /\ o.data = .dict es ep /\ es.toList = xs.map (entryOfKeyV knd) /\ (∀ x ∈ xs, knd.is h x.1 x.2.1) /\ (xs.map (·.1)).Nodup
variable {knd} {A : Around} {E : Value -> Shared -> Prop} {s : Shared} {d a : Addr} {k : K} {xs : List (K × Value × Value)} {es : Array DictEntry}
theorem entry_atV (he : es.toList = xs.map (entryOfKeyV knd)) (j : Nat) : es[j]? = (xs[j]?).map (entryOfKeyV knd) := by rw [<- List.getElem?_map, <- he, Array.getElem?_toList]
theorem size_of_entriesV (he : es.toList = xs.map (entryOfKeyV knd)) : es.size = xs.length := by rw [<- List.length_map (as := xs) (entryOfKeyV knd), <- he, Array.length_toList]
theorem Heap.DictOfV.typeIs (hm : s.heap.DictOfV knd d xs) : s.TypeIs (.ref d) "dict" := by obtain ⟨o, _, _, g, c, _⟩ := hm; exact ⟨o, g, c.1⟩
theorem mute {st : List Value} {Q : Bool -> Shared -> Prop} (hu : knd.room A) (hk : knd.is s.heap k (.ref a)) (all : ∀ v ∈ st, ∃ k', knd.is s.heap k' v) (h : Q false s) : wpAny (model prog w) A (tableMayTell (.ref a) st) Q E s := by
  unfold tableMayTell
  split
  . exact wpAny_pure h
  refine wpAny_bind (knd.quiet hu hk (wpAny_bind ?_))
  refine wpAny_forIn_list _ (fun l r t => t = s /\ r.1 = none /\ ∀ v ∈ l, ∃ k', knd.is s.heap k' v) _ (fun v l r t x => ?_) (fun r t x => ?_) _ _ ⟨rfl, rfl, all⟩
  . obtain ⟨rfl, _, y⟩ := x
    obtain ⟨k', g⟩ := y v List.mem_cons_self
    exact wpAny_bind (knd.quiet hu g (wpAny_pure ⟨rfl, rfl, fun v m => y v (List.mem_cons_of_mem _ m)⟩))
  . obtain ⟨rfl, y, _⟩ := x
    obtain ⟨r1, r2⟩ := r
    cases y
    exact wpAny_pure h
theorem find_V {o : Obj} {ep : Nat} {Q : Option Nat -> Shared -> Prop} (hu : knd.room A) (hk : knd.is s.heap k (.ref a)) (ho : s.heap.get? d = some o) (hd : o.data = .dict es ep) (he : es.toList = xs.map (entryOfKeyV knd)) (his : ∀ x ∈ xs, knd.is s.heap x.1 x.2.1) (nd : (xs.map (·.1)).Nodup)
    (q0 : (∀ (j : Nat) (p : Value × Value), xs[j]? ≠ some (k, p)) -> Q none s) (q1 : ∀ (j : Nat) (p : Value × Value), xs[j]? = some (k, p) -> Q (some j) s) : wpAny (model prog w) A (dictFind d (.ref a) (knd.hash k)) Q E s := by
  -- what is known of a place
  have ent : ∀ {i e}, es[i]? = some e -> ∃ x, xs[i]? = some x /\ e = entryOfKeyV knd x /\ knd.is s.heap x.1 e.key := fun {i e} g => by
    rw [entry_atV he] at g
    cases h : xs[i]? with
    | none => rw [h] at g; cases g
    | some x => rw [h] at g; cases g; exact ⟨x, h, rfl, his x (List.mem_of_getElem? h)⟩
  generalize hpl : placesWithHash es.size (fun i => es[i]?.map (·.hash)) (knd.hash k) = pl
  have mem : ∀ {j p}, xs[j]? = some (k, p) -> j ∈ pl := fun {j p} g => by
    rw [<- hpl, placesWithHash, List.mem_filter, List.mem_range, size_of_entriesV he, entry_atV he, g]
    exact ⟨(List.getElem?_eq_some_iff.mp g).1, by simp [entryOfKeyV]⟩
  have nodup : pl.Nodup := hpl ▸ List.nodup_range.filter _
  have st : ∀ v ∈ pl.filterMap fun i => es[i]?.map (·.key), ∃ k', knd.is s.heap k' v := fun v m => by
    obtain ⟨i, _, g⟩ := List.mem_filterMap.mp m
    obtain ⟨e, g', rfl⟩ := Option.map_eq_some_iff.mp g
    obtain ⟨x, _, _, y⟩ := ent g'
    exact ⟨_, y⟩
  have other : (es.any fun e => e.key == Value.ref a && e.hash != knd.hash k) = false := by
    rw [Array.any_eq_false]
    intro i lt y
    obtain ⟨x, _, e, z⟩ := ent (Array.getElem?_eq_getElem lt)
    rw [Bool.and_eq_true] at y
    rw [eq_of_beq y.1] at z
    rw [e, entryOfKeyV, knd.inj z hk] at y
    simp at y
  unfold dictFind
  refine wpAny_holding (wpAny_bind (wpAny_dictEntries ho hd ?_))
  dsimp only
  rw [hpl, other]
  rw [if_neg (by simp [carriedByValue]), if_neg Bool.false_ne_true]
  split
  all_goals
    first | refine wpAny_bind (wpAny_pure ?_) | refine wpAny_bind (mute hu hk st ?_)
    rw [if_neg (by simp)]
    refine wpAny_bind (wpAny_forIn_list _ (fun l r t => t = s /\ ∃ pre, pl = pre ++ l /\ r.1 = none /\ ((r.2 = none /\ ∀ i ∈ pre, ∀ p, xs[i]? ≠ some (k, p)) \/ ∃ j p, r.2 = some j /\ j ∈ pre /\ xs[j]? = some (k, p))) _ (fun i l r t x => ?_) (fun r t x => ?_) _ _ ⟨rfl, [], rfl, rfl, .inl ⟨rfl, nofun⟩⟩)
    . obtain ⟨rfl, pre, hp, hr, hx⟩ := x
      obtain ⟨r1, hit⟩ := r
      cases hr
      have new : i ∉ pre := fun m => (List.nodup_append.mp (hp ▸ nodup)).2.2 i m i List.mem_cons_self rfl
      have m : i ∈ pl := hp ▸ List.mem_append_right _ List.mem_cons_self
      rw [<- hpl, placesWithHash, List.mem_filter] at m
      obtain ⟨e, g, z⟩ := Option.map_eq_some_iff.mp (eq_of_beq m.2)
      obtain ⟨x, gx, _, ix⟩ := ent g
      rw [g]
      dsimp only
      rw [if_pos (by rw [z]; exact beq_self_eq_true _)]
      refine wpAny_bind (wpAny_dictEpoch ho hd (wpAny_bind (knd.eqBool hu ix hk (wpAny_bind (wpAny_dictEpoch ho hd ?_)))))
      rw [if_neg (by simp)]
      have hp' : pl = pre ++ [i] ++ l := by rw [List.append_assoc]; exact hp
      by_cases c : x.1 = k
      . have gk : xs[i]? = some (k, x.2) := by rw [gx, <- c]
        rw [decide_eq_true c, if_pos rfl]
        rcases hx with ⟨e, _⟩ | ⟨j, p, _, mj, gj⟩
        . cases e
          rw [if_neg (by decide)]
          refine wpAny_bind (wpAny_rule ?_)
          split
          . exact wpAny_pure (wpAny_pure (q1 i _ gk))
          . exact wpAny_pure ⟨rfl, _, hp', rfl, .inr ⟨i, _, rfl, List.mem_append_right _ List.mem_cons_self, gk⟩⟩
        . exact absurd (once nd gj gk ▸ mj) new
      . rw [decide_eq_false c, if_neg Bool.false_ne_true]
        refine wpAny_bind (wpAny_rule ?_)
        rw [if_neg (by simp)]
        refine wpAny_pure ⟨rfl, _, hp', rfl, hx.imp (fun ⟨e, n⟩ => ⟨e, fun j m p g => (List.mem_append.mp m).elim (fun m => n j m p g) fun m => c ?_⟩) fun ⟨j, p, e, m, g⟩ => ⟨j, p, e, List.mem_append_left _ m, g⟩⟩
        cases List.mem_singleton.mp m
        cases gx.symm.trans g
        rfl
    . obtain ⟨rfl, pre, hp, hr, hx⟩ := x
      obtain ⟨r1, hit⟩ := r
      cases hr
      rw [List.append_nil] at hp
      rcases hx with ⟨e, n⟩ | ⟨j, p, e, _, g⟩
      . cases e
        exact wpAny_pure (q0 fun j p g => n j (hp ▸ mem g) p g)
      . cases e
        exact wpAny_pure (q1 j p g)
theorem get_V {Q : Option Value -> Shared -> Prop} (hu : knd.room A) (hk : knd.is s.heap k (.ref a)) (hm : s.heap.DictOfV knd d xs) (h : Q ((atKeyV xs k).map (·.2)) { s with toks := s.toks + knd.draws k }) : wpAny (model prog w) A (dictGet d (.ref a)) Q E s := by
  obtain ⟨o, es, ep, g, _, e, f, y, nd⟩ := hm
  refine wpAny_holding (wpAny_bind (knd.pyHash hu hk (wpAny_bind (find_V (s := ⟨s.heap, s.gens, s.drawn, s.toks + knd.draws k, s.os⟩) hu hk g e f y nd (fun n => wpAny_pure ?_) fun j p q => wpAny_bind (wpAny_dictEntries g e ?_)))))
  . rw [(missed n).1] at h; exact h
  . rw [found nd q] at h
    rw [entry_atV f, q]
    exact wpAny_pure h
theorem set_V {v : Value} {Q : Unit -> Shared -> Prop} (hu : knd.room A) (hk : knd.is s.heap k (.ref a)) (hm : s.heap.DictOfV knd d xs)
    (hQ : ∀ h', h'.DictOfV knd d (storedHV xs k (.ref a) v) -> Heap.SameBut d s.heap h' -> Q () { s with heap := h', toks := s.toks + knd.draws k }) (hsz : xs.length <= sizeLine) : wpAny (model prog w) A (dictSet d (.ref a) v) Q E s := by
  obtain ⟨o, es, ep, g, c, e, f, y, nd⟩ := hm
  have z : es.size <= sizeLine := size_of_entriesV f ▸ hsz
  unfold dictSet dictSetHashed
  refine wpAny_holding (wpAny_bind (knd.pyHash hu hk (wpAny_holding (wpAny_bind (find_V (s := ⟨s.heap, s.gens, s.drawn, s.toks + knd.draws k, s.os⟩) hu hk g e f y nd (fun n => ?_) fun j p q => ?_)))))
  . have dd := Obj.data_mapDictKeys e (·.push ⟨knd.hash k, .ref a, v⟩)
    have same := Heap.SameBut.update (h := s.heap) (a := d) (f := Obj.mapDictKeys (·.push ⟨knd.hash k, .ref a, v⟩))
    have new : storedHV xs k (.ref a) v = xs ++ [(k, .ref a, v)] := by rw [storedHV, (missed n).1]; rfl
    refine wpAny_bind (wpAny_rule (wpAny_updateDictKeys (hz := z) g e (hQ _ ?_ same)))
    rw [new]
    refine ⟨_, _, _, Heap.get?_update_self _ g (Obj.isFreed_of_dict dd), c.mapDictKeys _, dd, ?_, List.forall_mem_append.mpr ⟨fun x m => knd.keeps (y x m) g e same, by simpa using knd.keeps hk g e same⟩, ?_⟩
    . rw [Array.toList_push, f, List.map_append]; rfl
    . rw [List.map_append]
      exact List.nodup_append.mpr ⟨nd, List.nodup_cons.mpr ⟨nofun, .nil⟩, fun x m x' m' r => (missed n).2 ((List.mem_singleton.mp m' : x' = k) ▸ r ▸ m)⟩
  . have dd := Obj.data_mapDict e (·.modify j fun u => { u with val := v })
    have same := Heap.SameBut.update (h := s.heap) (a := d) (f := Obj.mapDict (·.modify j fun u => { u with val := v }))
    have new : storedHV xs k (.ref a) v = xs.map (putAtV k v) := by rw [storedHV, found nd q]; rfl
    refine wpAny_bind (wpAny_rule (wpAny_bind (wpAny_updateDict g e (wpAny_point (hQ _ ?_ same)))))
    rw [new]
    refine ⟨_, _, _, Heap.get?_update_self _ g (Obj.isFreed_of_dict dd), c.mapDict _, dd, ?_, fun x m => ?_, by rw [put_keys]; exact nd⟩
    . refine List.ext_getElem? fun i => ?_
      rw [List.getElem?_map, put_at nd q, Array.getElem?_toList, Array.getElem?_modify, entry_atV f]
      by_cases r : i = j
      . rw [if_pos r.symm, if_pos r, r, q]; rfl
      . rw [if_neg fun z => r z.symm, if_neg r]
    . obtain ⟨x', m', rfl⟩ := List.mem_map.mp m
      have := knd.keeps (y x' m') g e same
      unfold putAtV
      split <;> exact this
theorem has_V {Q : Bool -> Shared -> Prop} (hu : knd.room A.in1) (hk : knd.is s.heap k (.ref a)) (hd : (d == sysModules) = false) (hm : s.heap.DictOfV knd d xs) (h : Q (atKeyV xs k).isSome { s with toks := s.toks + knd.draws k }) : wpAny (model prog w) A (contains (.ref d) (.ref a)) Q E s := by
  have T := hm.typeIs
  unfold contains
  refine wpAny_holding (wpAny_bind (wpAny_specialOf T slot_dict_contains.lookup ?_))
  rw [if_neg (by decide)]
  refine wpAny_bind (wpAny_callSpecialUnlessNone?_slot T slot_dict_contains (wpAny_call_entry slot_dict_contains T entry_dict_contains (wpAny_bind (wpAny_of_eq (a := (d, .ref a)) rfl (wpAny_bind (get_V hu hk hm ?_)))) (args_dict_contains _ _)))
  cases q : atKeyV xs k <;> rw [q] at h
  . exact wpAny_bind (wpAny_pendingKey_other hd (wpAny_pure ⟨_, rfl, wpAny_truthy_bool h⟩))
  . exact wpAny_pure ⟨_, rfl, wpAny_truthy_bool h⟩
theorem wpAny_notIn_heapV {Q : Value -> Shared -> Prop} (hu : knd.room A.in1) (hkey : knd.is s.heap k (.ref a)) (hd : (d == sysModules) = false) (hm : s.heap.DictOfV knd d xs)
    (h : Q (.bool (!(atKeyV xs k).isSome)) { s with toks := s.toks + knd.draws k }) : wpAny (model prog w) A (compareOp .NotIn (.ref a) (.ref d)) Q E s := wpAny_bind (has_V hu hkey hd hm (wpAny_pure h))
theorem wpAny_getItem_heapV {p : Value × Value} {Q : Value -> Shared -> Prop} (hu : knd.room A.in1) (hkey : knd.is s.heap k (.ref a)) (hm : s.heap.DictOfV knd d xs) (hp : atKeyV xs k = some p)
    (h : Q p.2 { s with toks := s.toks + knd.draws k }) : wpAny (model prog w) A (getItem (.ref d) (.ref a)) Q E s := by
  have T := hm.typeIs
  unfold getItem
  refine wpAny_holding (wpAny_bind (wpAny_sequenceKey T (by decide) (wpAny_bind (wpAny_callSpecial?_slot T slot_dict_getitem (wpAny_call_entry slot_dict_getitem T entry_dict_getitem (wpAny_bind (wpAny_of_eq (a := (d, .ref a)) rfl (wpAny_bind (get_V hu hkey hm ?_)))) (args_dict_getitem _ _))))))
  rw [hp]
  exact wpAny_pure ⟨p.2, rfl, wpAny_pure h⟩
theorem wpAny_setItem_heapV {v : Value} {Q : Unit -> Shared -> Prop} (hu : knd.room A.in1) (hkey : knd.is s.heap k (.ref a)) (hm : s.heap.DictOfV knd d xs)
    (hQ : ∀ h', h'.DictOfV knd d (storedHV xs k (.ref a) v) -> Heap.SameBut d s.heap h' -> Q () { s with heap := h', toks := s.toks + knd.draws k })
    (hsz : xs.length <= sizeLine := by size_fits) : wpAny (model prog w) A (setItem (.ref d) (.ref a) v) Q E s := by
  have T := hm.typeIs
  unfold setItem
  refine wpAny_holding (wpAny_bind (wpAny_sequenceKey T (by decide) (wpAny_bind (wpAny_callSpecial?_slot T slot_dict_setitem (wpAny_call_entry slot_dict_setitem T entry_dict_setitem (wpAny_bind (wpAny_notOrdered_dict T (wpAny_bind (wpAny_of_eq (a := (.ref d, [.ref a, v])) rfl (wpAny_bind (wpAny_of_eq (a := d) rfl (wpAny_bind (set_V hu hkey hm (fun h' m' s' => ?_) hsz)))))))) (args_dict_setitem _ _ _))))))
  exact wpAny_pure ⟨.none, rfl, wpAny_pure (hQ h' m' s')⟩
end
end PySem
set_option Elab.async false
set_option linter.all false
set_option maxRecDepth 100000
set_option maxHeartbeats 4000000
namespace PySem
open Sem (wp)
abbrev NI := Int ⊕ List Int
abbrev NK := Option (List NI)
section
variable {prog : Program} {w : World}
def NItem (prog : Program) (w : World) (h : Heap) : NI -> Value -> Prop
  | .inl i, v => (intKind prog w).is i v = true
  | .inr ks, v => ∃ b, v = .ref b /\ IsTupleKey (intKind prog w) h ks b
inductive NItems (prog : Program) (w : World) (h : Heap) : List NI -> List Value -> Prop
  | nil : NItems prog w h [] []
  | cons {k : NI} {v : Value} {ks : List NI} {vs : List Value} : NItem prog w h k v -> NItems prog w h ks vs -> NItems prog w h (k :: ks) (v :: vs)
def NTup (prog : Program) (w : World) (h : Heap) (l : List NI) (a : Addr) : Prop := ∃ o items n, h.get? a = some o /\ o.cls = .type "tuple" /\ o.data = .seq items n /\ NItems prog w h l items.toList
def NIs (prog : Program) (w : World) (h : Heap) : NK -> Value -> Prop
  | none, v => v = .none
  | some l, v => ∃ a, v = .ref a /\ NTup prog w h l a
theorem NItem.inj {h : Heap} {x y : NI} {v : Value} (hx : NItem prog w h x v) (hy : NItem prog w h y v) : x = y := by
  cases x with
  | inl i => cases y with
    | inl j => exact congrArg _ ((intKind prog w).inj _ _ _ hx hy)
    | inr q => obtain ⟨b, rfl, _⟩ := hy; exact absurd ((intKind prog w).byValue _ _ hx) (by simp [carriedByValue])
  | inr p => cases y with
    | inl j => obtain ⟨b, rfl, _⟩ := hx; exact absurd ((intKind prog w).byValue _ _ hy) (by simp [carriedByValue])
    | inr q =>
      obtain ⟨b, rfl, h1⟩ := hx
      obtain ⟨c, e, h2⟩ := hy
      cases e
      rw [h1.inj h2]
theorem NItems.inj {h : Heap} {x y : List NI} {vs : List Value} (hx : NItems prog w h x vs) (hy : NItems prog w h y vs) : x = y := by
  induction hx generalizing y with
  | nil => cases hy; rfl
  | cons h1 _ ih => cases hy with
    | cons h2 t2 => rw [h1.inj h2, ih t2]
theorem NTup.typeIs {s : Shared} {l : List NI} {a : Addr} (x : NTup prog w s.heap l a) : s.TypeIs (.ref a) "tuple" := let ⟨o, _, _, ho, hc, _⟩ := x; ⟨o, ho, hc⟩
theorem NTup.inj {h : Heap} {a : Addr} {x y : List NI} (hx : NTup prog w h x a) (hy : NTup prog w h y a) : x = y := by
  obtain ⟨o, items, n, ho, _, hd, hi⟩ := hx
  obtain ⟨o', items', n', ho', _, hd', hi'⟩ := hy
  obtain rfl : o = o' := Option.some.inj (ho.symm.trans ho')
  rw [hd] at hd'
  injection hd' with h1 _
  subst h1
  exact hi.inj hi'
theorem NIs.inj {h : Heap} {v : Value} {x y : NK} (hx : NIs prog w h x v) (hy : NIs prog w h y v) : x = y := by
  cases x with
  | none => cases y with
    | none => rfl
    | some l => cases (show v = .none from hx); obtain ⟨a, e, _⟩ := hy; cases e
  | some l => cases y with
    | none => cases (show v = .none from hy); obtain ⟨a, e, _⟩ := hx; cases e
    | some m =>
      obtain ⟨a, rfl, h1⟩ := hx
      obtain ⟨b, e, h2⟩ := hy
      cases e
      rw [h1.inj h2]
theorem NItems.keeps {h h' : Heap} {l : List NI} {vs : List Value} {d : Addr} {o : Obj} {es ep} (x : NItems prog w h l vs) (ho : h.get? d = some o) (hd : o.data = .dict es ep) (hs : Heap.SameBut d h h') : NItems prog w h' l vs := by
  induction x with
  | nil => exact .nil
  | @cons k v ks vs h1 _ ih =>
    refine .cons ?_ ih
    cases k with
    | inl i => exact h1
    | inr p => obtain ⟨b, e, q⟩ := h1; exact ⟨b, e, q.keeps ho hd hs⟩
theorem NIs.keeps {h h' : Heap} {k : NK} {v : Value} {d : Addr} {o : Obj} {es ep} (x : NIs prog w h k v) (ho : h.get? d = some o) (hd : o.data = .dict es ep) (hs : Heap.SameBut d h h') : NIs prog w h' k v := by
  cases k with
  | none => exact x
  | some l =>
    obtain ⟨a, rfl, o', items, n, ho', hc, hd', hi⟩ := x
    have hne : a ≠ d := by
      rintro rfl
      obtain rfl : o' = o := Option.some.inj (ho'.symm.trans ho)
      rw [hd] at hd'; exact nomatch hd'
    exact ⟨a, rfl, o', items, n, (hs.2 a hne).trans ho', hc, hd', hi.keeps ho hd hs⟩
def nHashI (prog : Program) (w : World) : NI -> Int
  | .inl i => (intKind prog w).hash i
  | .inr ks => tupleKeyHash (intKind prog w) ks
def nDrawI : NI -> Nat
  | .inl _ => 1
  | .inr ks => ks.length + 1
def nHash (prog : Program) (w : World) : NK -> Int
  | none => 0xFCA86420
  | some l => reduceHash (Builtin.Tuple.tupleHashOf (l.map (nHashI prog w)))
def nDraws : NK -> Nat
  | none => 1
  | some l => (l.map nDrawI).sum + 1
variable {A : Around} {E : Value -> Shared -> Prop} {s : Shared}
theorem wpAny_pyHash_NI {k : NI} {v : Value} {Q : Int -> Shared -> Prop} (hu : A.units < cLine) (h1 : NItem prog w s.heap k v) (h : Q (nHashI prog w k) { s with toks := s.toks + nDrawI k }) : wpAny (model prog w) A (pyHash v) Q E s := by
  cases k with
  | inl i => exact (intKind prog w).pyHash h1 h
  | inr ks => obtain ⟨b, rfl, hb⟩ := h1; exact wpAny_pyHash_tuple hu hb h
theorem NItems.each {β : Type} {f : Value -> β -> Sem (ForInStep β)} {Q : β -> Shared -> Prop} (I : List NI -> β -> Shared -> Prop) (step : ∀ {k v ks b t}, NItem prog w s.heap k v -> I (k :: ks) b t -> wpAny (model prog w) A (f v b) (fun r t' => ∃ b', r = .yield b' /\ I ks b' t') E t) (fin : ∀ b t, I [] b t -> Q b t) :
    ∀ {l vs b t}, NItems prog w s.heap l vs -> I l b t -> wpAny (model prog w) A (forIn vs b f) Q E t := by
  intro l vs b t h i
  induction h generalizing b t with
  | nil => exact wpAny_pure (fin b t i)
  | cons a _ ih =>
    rw [List.forIn_cons]
    refine wpAny_bind (wpAny_mono (step a i) (fun r t' x => ?_) fun _ _ y => y)
    obtain ⟨b', rfl, x⟩ := x
    exact ih x
theorem wpAny_pyHash_NT {l : List NI} {a : Addr} {Q : Int -> Shared -> Prop} (hu : A.units + 1 < cLine) (hk : NTup prog w s.heap l a) (h : Q (nHash prog w (some l)) { s with toks := s.toks + nDraws (some l) }) : wpAny (model prog w) A (pyHash (.ref a)) Q E s := by
  have T := hk.typeIs
  have look := F.slot_tuple_hash.lookup
  obtain ⟨o, items, n, g, _, d, i⟩ := hk
  have fin : wpAny (model prog w) A.in1 (Builtin.«tuple.__hash__» ⟨[.ref a], []⟩) (fun r t => r = .done (.ret (.int (Builtin.Tuple.tupleHashOf (l.map (nHashI prog w))) (s.toks + (l.map nDrawI).sum))) /\ t = { s with toks := s.toks + (l.map nDrawI).sum + 1 }) E s := by
    refine wpAny_bind (wpAny_of_eq (a := (Value.ref a, [])) rfl (wpAny_bind (wpAny_tupleItemsOf g d (wpAny_bind ?_))))
    rw [<- Array.forIn_toList]
    refine NItems.each (fun ks (b : Array Int) t => ∃ pre, l = pre ++ ks /\ b.toList = pre.map (nHashI prog w) /\ t = { s with toks := s.toks + (pre.map nDrawI).sum }) (fun {k v ks b t} a x => ?_) (fun b t x => ?_) i ⟨[], rfl, rfl, rfl⟩
    . obtain ⟨pre, e1, e2, rfl⟩ := x
      refine wpAny_bind (wpAny_pyHash_NI (s := { s with toks := s.toks + (pre.map nDrawI).sum }) hu a (wpAny_pure ⟨_, rfl, pre ++ [k], by rw [List.append_assoc]; exact e1, by rw [Array.toList_push, e2, List.map_append]; rfl, ?_⟩))
      rw [List.map_append, List.sum_append, <- Nat.add_assoc]; rfl
    . obtain ⟨pre, e1, e2, rfl⟩ := x
      rw [List.append_nil] at e1
      subst e1
      refine (?_ : wpAny _ _ (retInt (Builtin.Tuple.tupleHashOf b.toList)) _ _ _)
      rw [e2]
      exact wpAny_bind (wpAny_mkInt (wpAny_pure ⟨rfl, rfl⟩))
  unfold pyHash pyHashByItsType
  refine wpAny_bind (wpAny_cRoomFor_or (.inr (by omega)) (wpAny_bind (wpAny_specialOf T look ?_)))
  rw [if_neg (by decide)]
  refine wpAny_bind (wpAny_specialOf T look (wpAny_bind (wpAny_callSpecialIfBoundUnlessNone?_slot T F.slot_tuple_hash (wpAny_call_entry F.slot_tuple_hash T F.entry_tuple_hash (wpAny_mono fin (fun r t x => ?_) fun _ _ y => y) (F.args_tuple_hash_1 _)))))
  obtain ⟨rfl, rfl⟩ := x
  refine ⟨_, rfl, ?_⟩
  change Q (reduceHash _) _ at h
  unfold reduceHash at h
  rw [nDraws, <- Nat.add_assoc] at h
  refine (?_ : wpAny _ _ (pyHashByItsType.reduced _) _ _ _)
  unfold pyHashByItsType.reduced
  split at h
  . rename_i c; rw [if_pos c]; exact wpAny_pure h
  . rename_i c; rw [if_neg c]; exact wpAny_bind (wpAny_rule (wpAny_pure h))
theorem ints_any {prog' : Program} {w' : World} {h : Heap} {ks : List Int} {b : Addr} (x : IsTupleKey (intKind prog w) h ks b) : IsTupleKey (intKind prog' w') h ks b := by
  obtain ⟨o, items, n, g, c, d, i⟩ := x
  refine ⟨o, items, n, g, c, d, ?_⟩
  generalize items.toList = vs at i
  induction i with
  | nil => exact .nil
  | cons a _ ih => exact .cons a ih
open SeqAt in
theorem NItem.eqAt {x y : NI} {u v : Value} (hu : A.units < cLine) (hx : NItem prog w s.heap x u) (hy : NItem prog w s.heap y v) : EqAt A s u v (decide (x = y)) := by
  rcases x with i | p <;> rcases y with j | q
  . obtain ⟨t, rfl⟩ := Value.isInt_shape hx
    obtain ⟨t', rfl⟩ := Value.isInt_shape hy
    have e := EqAt.int_int (A := A) (s := s) i t j t'
    rwa [show (i == j) = decide ((Sum.inl i : NI) = .inl j) by by_cases c : i = j <;> simp [c]] at e
  . obtain ⟨t, rfl⟩ := Value.isInt_shape hx
    obtain ⟨b, rfl, o, items, n, ho, hc, hd, _⟩ := hy
    rw [decide_eq_false (by simp)]
    exact EqAt.int_tuple i t ⟨o, ho, hc, n, hd⟩ hu
  . obtain ⟨t, rfl⟩ := Value.isInt_shape hy
    obtain ⟨b, rfl, o, items, n, ho, hc, hd, _⟩ := hx
    rw [decide_eq_false (by simp)]
    exact EqAt.tuple_int j t ⟨o, ho, hc, n, hd⟩ hu
  . obtain ⟨b, rfl, hb⟩ := hx
    obtain ⟨c, rfl, hc⟩ := hy
    intro prog' w' E Q h
    exact wpAny_eqBool_tuple (knd := intKind prog' w') hu (ints_any hb) (ints_any hc) (by simpa using h)
theorem NItems.at {h : Heap} {l : List NI} {vs : List Value} (x : NItems prog w h l vs) : l.length = vs.length /\ ∀ {j : Nat} {v : Value}, vs[j]? = some v -> ∃ k, l[j]? = some k /\ NItem prog w h k v := by
  induction x with
  | nil => exact ⟨rfl, fun e => by cases e⟩
  | cons a _ ih =>
    refine ⟨congrArg Nat.succ ih.1, fun {j v} e => ?_⟩
    cases j with
    | zero => cases e; exact ⟨_, rfl, a⟩
    | succ j => exact ih.2 e
open SeqAt in
theorem wpAny_eqBool_NT {x y : List NI} {a b : Addr} {Q : Bool -> Shared -> Prop} (hu : A.units + 1 < cLine) (hx : NTup prog w s.heap x a) (hy : NTup prog w s.heap y b) (h : Q (decide (x = y)) s) : wpAny (model prog w) A (eqBool (.ref a) (.ref b)) Q E s := by
  by_cases c : a = b
  . cases c
    cases hx.inj hy
    exact EqAt.same _ prog w E Q (by simpa using h)
  obtain ⟨oa, xs, na, g1, c1, d1, i1⟩ := hx
  obtain ⟨ob, ys, nb, g2, c2, d2, i2⟩ := hy
  have l1 : x.length = xs.size := i1.at.1
  have l2 : y.length = ys.size := i2.at.1
  refine EqAt.of_refs c (RcAt.tuples (e := fun j => decide (x[j]? = y[j]?)) ⟨oa, g1, c1, na, d1⟩ ⟨ob, g2, c2, nb, d2⟩ (by omega) fun j h1 h2 => ?_) prog w E Q ?_
  . obtain ⟨k1, e1, n1⟩ := i1.at.2 (j := j) (v := xs[j]) (by rw [Array.getElem?_toList, Array.getElem?_eq_getElem h1])
    obtain ⟨k2, e2, n2⟩ := i2.at.2 (j := j) (v := ys[j]) (by rw [Array.getElem?_toList, Array.getElem?_eq_getElem h2])
    rw [e1, e2, show decide (some k1 = some k2) = decide (k1 = k2) by simp]
    exact NItem.eqAt (A := A.in1) (show A.units + 1 < cLine from hu) n1 n2
  . have e : ((List.range (min xs.size ys.size)).all (fun j => decide (x[j]? = y[j]?)) && xs.size == ys.size) = decide (x = y) := by
      rw [Bool.eq_iff_iff, Bool.and_eq_true, List.all_eq_true, beq_iff_eq, decide_eq_true_eq, <- l1, <- l2]
      refine ⟨fun z => List.ext_getElem? fun j => ?_, fun z => ⟨fun j _ => by rw [z]; exact decide_eq_true rfl, by rw [z]⟩⟩
      rcases Nat.lt_or_ge j (min x.length y.length) with o | o
      . exact of_decide_eq_true (z.1 j (List.mem_range.mpr o))
      . rw [List.getElem?_eq_none (by omega), List.getElem?_eq_none (by omega)]
    rw [e]; exact h
theorem quiet_tup {a : Addr} {o : Obj} {items : Array Value} {n m : Nat} {Q : Bool -> Shared -> Prop} (g : s.heap.get? a = some o) (c : o.cls = .type "tuple") (d : o.data = .seq items n) (all : ∀ v ∈ items.toList, ∀ R : Bool -> Shared -> Prop, R true s -> wpAny (model prog w) A (eqIsQuiet m v) R E s) (h : Q true s) :
    wpAny (model prog w) A (eqIsQuiet (m + 1) (.ref a)) Q E s := by
  have T : s.TypeIs (.ref a) "tuple" := ⟨o, g, c⟩
  have run : ∀ l : List Value, (∀ v ∈ l, v ∈ items.toList) -> ∀ {f : Value -> Option Bool × PUnit -> Sem (ForInStep (Option Bool × PUnit))} {R : Option Bool × PUnit -> Shared -> Prop}, (∀ v ∈ items.toList, ∀ R' : ForInStep (Option Bool × PUnit) -> Shared -> Prop, R' (.yield (none, ⟨⟩)) s -> wpAny (model prog w) A (f v (none, ⟨⟩)) R' E s) -> R (none, ⟨⟩) s -> wpAny (model prog w) A (forIn l (none, ⟨⟩) f) R E s := by
    intro l
    induction l with
    | nil => exact fun _ _ _ _ r => wpAny_pure r
    | cons v l ih =>
      intro m f R st r
      rw [List.forIn_cons]
      exact wpAny_bind (st v (m v List.mem_cons_self) _ (ih (fun u k => m u (List.mem_cons_of_mem _ k)) st r))
  unfold eqIsQuiet
  refine wpAny_bind (wpAny_specialOf T F.slot_tuple_eq.lookup (wpAny_bind (wpAny_isInstance T isSubtype_tuple_tuple (wpAny_bind (wpAny_seqItems g d (wpAny_bind ?_))))))
  refine (?_ : wpAny _ _ (forIn items _ _) _ _ s)
  rw [<- Array.forIn_toList]
  exact run _ (fun _ k => k) (fun v k R' r => wpAny_bind (all v k _ (wpAny_pure r))) (wpAny_pure h)
theorem wpAny_eqIsQuiet_NT {l : List NI} {a : Addr} {Q : Bool -> Shared -> Prop} (hk : NTup prog w s.heap l a) (h : Q true s) : wpAny (model prog w) A (eqIsQuiet 8 (.ref a)) Q E s := by
  obtain ⟨o, items, n, g, c, d, i⟩ := hk
  refine quiet_tup g c d (fun v m R r => ?_) h
  obtain ⟨j, e⟩ := List.mem_iff_getElem?.mp m
  obtain ⟨k, _, x⟩ := i.at.2 e
  rcases k with z | ks
  . rw [eqIsQuiet_byValue _ ((intKind prog w).byValue _ _ x)]; exact wpAny_pure r
  . obtain ⟨b, rfl, o', its, n', g', c', d', i'⟩ := x
    exact quiet_tup g' c' d' (fun u m' R' r' => by rw [eqIsQuiet_byValue _ (i'.byValue u m')]; exact wpAny_pure r') r
end
def nkKind (prog : Program) (w : World) : VKind prog w NK where
  is := NIs prog w
  hash := nHash prog w
  draws := nDraws
  room := fun A => A.units + 1 < cLine
  inj := fun hx hy => hx.inj hy
  keeps := fun x ho hd hs => x.keeps ho hd hs
  pyHash := fun {A E s k a Q} hu hk h => by
    cases k with
    | none => exact nomatch (show Value.ref a = .none from hk)
    | some l => obtain ⟨b, e, hb⟩ := hk; cases e; exact wpAny_pyHash_NT hu hb h
  eqBool := fun {A E s x y u b Q} hu hx hy h => by
    cases y with
    | none => exact nomatch (show Value.ref b = .none from hy)
    | some l =>
      obtain ⟨c, e, hc⟩ := hy
      cases e
      cases x with
      | none =>
        cases (show u = .none from hx)
        obtain ⟨o, items, n, ho, hcl, hd, _⟩ := hc
        exact SeqAt.EqAt.none_tuple ⟨o, ho, hcl, n, hd⟩ (by omega) prog w E Q (by simpa using h)
      | some m => obtain ⟨d, rfl, hd⟩ := hx; exact wpAny_eqBool_NT hu hd hc (by simpa using h)
  quiet := fun {A E s k a Q} _ hk h => by
    cases k with
    | none => cases (show a = .none from hk); rw [eqIsQuiet_byValue _ rfl]; exact wpAny_pure h
    | some l => obtain ⟨b, rfl, hb⟩ := hk; exact wpAny_eqIsQuiet_NT hb h
end PySem
set_option Elab.async false
set_option linter.all false
set_option maxRecDepth 100000
set_option maxHeartbeats 4000000
namespace PySem
open Sem (wp)
def isNon : Value -> Bool
  | .none => true
  | _ => false
theorem isNon_shape {v : Value} (h : isNon v = true) : v = .none := by
  cases v <;> first | rfl | exact nomatch h
theorem wpAny_pyHash_none {prog : Program} {w : World} {A : Around} {E : Value -> Shared -> Prop} {s : Shared} {Q : Int -> Shared -> Prop} (h : Q 0xFCA86420 { s with toks := s.toks + 1 }) : wpAny (model prog w) A (pyHash .none) Q E s := by
  have hT : s.TypeIs .none "NoneType" := rfl
  unfold pyHash
  first | unfold pyHashByItsType | skip
  have hv : [Value.none].any Value.onHeap = false := rfl
  refine wpAny_bind ?_
  rw [cRoomFor, if_neg (by rw [hv]; exact Bool.false_ne_true)]; refine wpAny_pure ?_
  refine wpAny_bind (wpAny_specialOf hT F.slot_NoneType_hash.lookup ?_)
  show wpAny _ _ (if (some (Value.builtin "NoneType.__hash__") == some Value.none) = true then _ else _) Q E s
  rw [if_neg (by rw [beq_builtin_none]; exact Bool.false_ne_true)]
  refine wpAny_bind (wpAny_specialOf hT F.slot_NoneType_hash.lookup ?_)
  show wpAny _ _ (callSpecialIfBoundUnlessNone? .none "__hash__" _ >>= _) Q E s
  refine wpAny_bind (wpAny_callSpecialIfBoundUnlessNone?_slot hT F.slot_NoneType_hash
    (wpAny_call_entry F.slot_NoneType_hash hT F.entry_NoneType_hash
      (show wpAny _ _ (do ret ( <- mkInt 0xFCA86420)) _ _ s from wpAny_ret_mkInt ?_) (F.args_NoneType_hash_1 _)))
  show wpAny _ _ (if (decide (-(2 : Int) ^ 63 <= 0xFCA86420) && decide ((0xFCA86420 : Int) < 2 ^ 63)) = true then _ else _) Q E _
  rw [if_pos (by decide)]
  exact wpAny_pure h
def noneKind (prog : Program) (w : World) : KeyKind prog w Unit where
  is := fun _ v => isNon v
  hash := fun _ => 0xFCA86420
  inj := fun _ _ _ _ _ => rfl
  byValue := fun k v h => by cases isNon_shape h; rfl
  pyHash := fun hv h => by cases isNon_shape hv; exact wpAny_pyHash_none h
  eqBool := fun {A E s a b u v Q} hu hv h => by
    cases isNon_shape hu
    cases isNon_shape hv
    unfold eqBool
    try with_reducible refine wpAny_holding ?_
    show wpAny _ _ (if (Value.none == Value.none) = true then _ else _) Q E s
    rw [if_pos (show (Value.none == Value.none) = true from rfl)]
    exact wpAny_bind (wpAny_rule (wpAny_pure (by simpa using h)))
  «strs» := fun k x t v h => (nomatch h)
end PySem
namespace L2
open PySem PySem.W PySem.Spec PySem.Calls PyProof.Rows
def NIt (H : Hp) : NI -> V -> Prop
  | .inl i, v => v = .int i
  | .inr ks, v => ∃ c, v = .ref c /\ H c = some (.tup (ks.map V.int))
def NKey (H : Hp) : NK -> V -> Prop
  | none, v => v = .non
  | some l, v => ∃ b xs, v = .ref b /\ H b = some (.tup xs) /\ Paired (NIt H) l xs
theorem NIt.keep {H H' : Hp} (ht : ∀ b ys, H b = some (.tup ys) -> H' b = some (.tup ys)) {k : NI} {v : V} (h : NIt H k v) : NIt H' k v := by
  cases k with
  | inl i => exact h
  | inr ks => obtain ⟨c, e, q⟩ := h; exact ⟨c, e, ht _ _ q⟩
theorem NKey.keep {H H' : Hp} (ht : ∀ b ys, H b = some (.tup ys) -> H' b = some (.tup ys)) {k : NK} {v : V} (h : NKey H k v) : NKey H' k v := by
  cases k with
  | none => exact h
  | some l => obtain ⟨b, xs, e, q, r⟩ := h; exact ⟨b, xs, e, ht _ _ q, Paired.mapP r fun _ _ z => z.keep ht⟩
section
variable {P : Program} {w : World} {H : Hp} {h : Heap}
theorem items_areI : ∀ {ks : List Int} {us : List Value}, Vals (ks.map V.int) us -> ItemsAre (intKind P w) ks us
  | [], _, r => by rw [List.map_nil] at r; cases r; exact .nil
  | k :: ks, _, r => by
    rw [List.map_cons] at r
    cases r with
    | cons h t => obtain ⟨t', e⟩ := (show ∃ t', _ = Value.int k t' from h); subst e; exact .cons (intKind_is P w k t') (items_areI t)
theorem nit_of (ok : HOk P w H h) {k : NI} {v : V} {u : Value} (x : NIt H k v) (r : RelV v u) : NItem P w h k u := by
  cases k with
  | inl i =>
    cases (show v = .int i from x)
    obtain ⟨t, e⟩ := (show ∃ t, u = Value.int i t from r)
    subst e
    exact intKind_is P w i t
  | inr ks =>
    obtain ⟨c, rfl, e⟩ := x
    refine ⟨c, r, ?_⟩
    obtain ⟨_, its, rr, o, h1, h2, n, h3⟩ := (show ObjOk P w H h c (.tup (ks.map V.int)) from ok c _ e)
    exact ⟨o, its.toArray, n, h1, h2, h3, by simpa using items_areI rr⟩
theorem nits_of (ok : HOk P w H h) {l : List NI} {xs : List V} (x : Paired (NIt H) l xs) : ∀ {us : List Value}, Vals xs us -> NItems P w h l us := by
  induction x with
  | nil => intro us r; cases r; exact .nil
  | cons a t ih => intro us r; cases r with
    | cons b q => exact .cons (nit_of ok a b) (ih q)
theorem nkey_of (ok : HOk P w H h) {k : NK} {v : V} {u : Value} (x : NKey H k v) (r : RelV v u) : NIs P w h k u := by
  cases k with
  | none => cases (show v = .non from x); exact r
  | some l =>
    obtain ⟨b, xs, rfl, e, q⟩ := x
    refine ⟨b, r, ?_⟩
    obtain ⟨_, its, rr, o, h1, h2, n, h3⟩ := (show ObjOk P w H h b (.tup xs) from ok b _ e)
    exact ⟨o, its.toArray, n, h1, h2, h3, by simpa using nits_of ok q rr⟩
end
def NObj (P : Program) (w : World) (a : Addr) (xs : List (NK × Value × Value)) (h : Heap) : Prop := (a == sysModules) = false /\ ∃ o es ep, h.get? a = some o /\ o.ExactDict /\ o.data = .dict es ep /\ es.toList = xs.map (entryOfKeyV (nkKind P w)) /\ (xs.map (·.1)).Nodup
def NPair (H : Hp) (p : NK × V) (q : NK × Value × Value) : Prop := p.1 = q.1 /\ (∃ y, NKey H p.1 y /\ RelV y q.2.1) /\ RelV p.2 q.2.2
def DN (P : Program) (w : World) (H : Hp) (a : Addr) (kvs : List (NK × V)) : Prop := ∃ xs, H a = some (.ext (NObj P w a xs)) /\ kvs.length <= sizeLine /\ Paired (NPair H) kvs xs
theorem nobj_ok {P : Program} {w : World} {H : Hp} {a : Addr} {xs : List (NK × Value × Value)} {h : Heap} (x : NObj P w a xs h) : ObjOk P w H h a (.ext (NObj P w a xs)) := by
  refine ⟨x, ?_, fun h1 h2 y k => ?_⟩
  . obtain ⟨_, o, _, _, e, _⟩ := x; exact ⟨o, e⟩
  . obtain ⟨y0, o, es, ep, e, c⟩ := y; exact ⟨y0, o, es, ep, k _ e, c⟩
theorem NPair.keep {H H' : Hp} (ht : ∀ b ys, H b = some (.tup ys) -> H' b = some (.tup ys)) {kvs : List (NK × V)} {xs : List (NK × Value × Value)} (h : Paired (NPair H) kvs xs) : Paired (NPair H') kvs xs := Paired.mapP h fun p q z => ⟨z.1, let ⟨y, y1, y2⟩ := z.2.1; ⟨y, y1.keep ht, y2⟩, z.2.2⟩
theorem DN.keep {P : Program} {w : World} {H H' : Hp} {a : Addr} {kvs : List (NK × V)} (h : DN P w H a kvs) (ht : ∀ b ys, H b = some (.tup ys) -> H' b = some (.tup ys)) (e : H' a = H a) : DN P w H' a kvs := by
  obtain ⟨xs, h1, h2, h3⟩ := h
  exact ⟨xs, e.trans h1, h2, NPair.keep ht h3⟩
theorem DN.same {P : Program} {w : World} {H H' : Hp} {a : Addr} {kvs : List (NK × V)} (h : DN P w H a kvs) (s : ∀ b o, H b = some o -> H' b = some o) : DN P w H' a kvs := by
  obtain ⟨xs, h1, h2, h3⟩ := h
  exact ⟨xs, s _ _ h1, h2, NPair.keep (fun b ys e => s _ _ e) h3⟩
theorem DN.is {P : Program} {w : World} {H : Hp} {a : Addr} {kvs : List (NK × V)} (h : DN P w H a kvs) : ∃ φ, H a = some (.ext φ) := let ⟨xs, h1, _⟩ := h; ⟨_, h1⟩
theorem NP.val {H : Hp} {kvs : List (NK × V)} {xs : List (NK × Value × Value)} (r : Paired (NPair H) kvs xs) (k : NK) : RelO (valV kvs k) ((atKeyV xs k).map (·.2)) := by
  induction r with
  | nil => exact True.intro
  | @cons p q ps qs h t ih =>
    obtain ⟨h1, _, h2⟩ := h
    by_cases e : p.1 = k
    . have e' : q.1 = k := h1.symm.trans e
      have b : atKeyV (q :: qs) k = some q.2 := by simp [atKeyV, List.find?_cons, e']
      rw [valV_pos e, b]; exact h2
    . have e' : ¬ q.1 = k := fun z => e (h1.trans z)
      have b : atKeyV (q :: qs) k = atKeyV qs k := by simp [atKeyV, List.find?_cons, e']
      rw [valV_neg e, b]; exact ih
theorem NP.repl {H : Hp} {kvs : List (NK × V)} {xs : List (NK × Value × Value)} (r : Paired (NPair H) kvs xs) (k : NK) {y : V} {u : Value} (ry : RelV y u) :
    Paired (NPair H) (kvs.map fun kv => if kv.1 = k then (kv.1, y) else kv) (xs.map (putAtV k u)) := by
  induction r with
  | nil => exact .nil
  | @cons p q ps qs h t ih =>
    rw [List.map_cons, List.map_cons]
    refine .cons ?_ ih
    obtain ⟨h1, h2, h3⟩ := h
    unfold putAtV
    by_cases e : p.1 = k
    . rw [if_pos e, if_pos (h1.symm.trans e)]; exact ⟨h1, h2, ry⟩
    . rw [if_neg e, if_neg (fun z => e (h1.trans z))]; exact ⟨h1, h2, h3⟩
theorem NP.put {H : Hp} {kvs : List (NK × V)} {xs : List (NK × Value × Value)} (r : Paired (NPair H) kvs xs) (k : NK) {kv y : V} {b u : Value} (hb : NKey H k kv) (rb : RelV kv b) (ry : RelV y u) :
    Paired (NPair H) (putK kvs k y) (storedHV xs k b u) := by
  have e : (kvs.any fun kv => decide (kv.1 = k)) = (atKeyV xs k).isSome := by
    rw [valV_any, (NP.val r k).isSome_eq, Option.isSome_map]
  unfold putK storedHV
  rw [e]
  by_cases q : (atKeyV xs k).isSome = true
  . rw [if_pos q, if_pos q]; exact NP.repl r k ry
  . rw [if_neg q, if_neg q]; exact Paired.snoc r ⟨rfl, ⟨kv, hb, rb⟩, ry⟩
section
variable {X : Cx} {pins : List (Addr × Obj)} {σ : St} {H : Hp} {s : Shared} {a : Addr} {kvs : List (NK × V)}
theorem dn_of (I : Inv X pins σ H s) (d : DN X.prog X.w H a kvs) : (a == sysModules) = false /\ ∃ xs, kvs.length <= sizeLine /\ Paired (NPair H) kvs xs /\ s.heap.DictOfV (nkKind X.prog X.w) a xs := by
  obtain ⟨xs, e, z, r⟩ := d
  obtain ⟨⟨hd, o, es, ep, h1, h2, h3, h4, h5⟩, _⟩ := (show ObjOk X.prog X.w H s.heap a (.ext (NObj X.prog X.w a xs)) from I.hok a _ e)
  refine ⟨hd, xs, z, r, o, es, ep, h1, h2, h3, h4, fun x hx => ?_, h5⟩
  have all : ∀ {l : List (NK × V)} {m : List (NK × Value × Value)}, Paired (NPair H) l m -> ∀ x ∈ m, (nkKind X.prog X.w).is s.heap x.1 x.2.1 := by
    intro l m q
    induction q with
    | nil => intro x hx; exact nomatch hx
    | @cons p q ps qs hq t ih =>
      intro x hx
      rcases List.mem_cons.mp hx with e | hx
      . subst e
        obtain ⟨q1, ⟨y, y1, y2⟩, _⟩ := hq
        rw [<- q1]
        exact nkey_of I.hok y1 y2
      . exact ih x hx
  exact all r x hx
end
def DGetN (P : Program) (w : World) (H : Hp) (a : Addr) (y : V) (r : Option V) : Prop := DGet H a y r \/ ∃ kvs k, DN P w H a kvs /\ NKey H k y /\ k ≠ none /\ r = valV kvs k
def tNGet (P : Program) (w : World) (td ty : TE) : TE := fun σ H Q => td σ H fun x H1 => ty σ H1 fun y H2 => ∃ a v, x = .ref a /\ DGetN P w H2 a y (some v) /\ Q v H2
def tNNotIn (P : Program) (w : World) (ty td : TE) : TE := fun σ H Q => ty σ H fun y H1 => td σ H1 fun x H2 => ∃ a o, x = .ref a /\ DGetN P w H2 a y o /\ Q (.bl (!o.isSome)) H2
def sNPut (P : Program) (w : World) (td ty tv : TE) : TS := fun D σ H => tv σ H fun v H1 => td σ H1 fun x H2 => ty σ H2 fun y H3 => ∃ a, x = .ref a /\ ((∃ H4, DPut H3 a y v H4 /\ D.nx σ H4) \/ ∃ kvs k, DN P w H3 a kvs /\ NKey H3 k y /\ k ≠ none /\ kvs.length < sizeLine /\ ∀ φ, DN P w (upd H3 a (.ext φ)) a (putK kvs k v) -> D.nx σ (upd H3 a (.ext φ)))
theorem r_nget {P : Program} {w : World} {td ty : TE} {σ : St} {H : Hp} {Q : VK} : tNGet P w td ty σ H Q = td σ H fun x H1 => ty σ H1 fun y H2 => ∃ a v, x = .ref a /\ DGetN P w H2 a y (some v) /\ Q v H2 := rfl
theorem r_nnotin {P : Program} {w : World} {td ty : TE} {σ : St} {H : Hp} {Q : VK} : tNNotIn P w ty td σ H Q = ty σ H fun y H1 => td σ H1 fun x H2 => ∃ a o, x = .ref a /\ DGetN P w H2 a y o /\ Q (.bl (!o.isSome)) H2 := rfl
theorem r_nput {P : Program} {w : World} {td ty tv : TE} {D : _} {σ : St} {H : Hp} : sNPut P w td ty tv D σ H = tv σ H fun v H1 => td σ H1 fun x H2 => ty σ H2 fun y H3 => ∃ a, x = .ref a /\ ((∃ H4, DPut H3 a y v H4 /\ D.nx σ H4) \/ ∃ kvs k, DN P w H3 a kvs /\ NKey H3 k y /\ k ≠ none /\ kvs.length < sizeLine /\ ∀ φ, DN P w (upd H3 a (.ext φ)) a (putK kvs k v) -> D.nx σ (upd H3 a (.ext φ))) := rfl
section
variable {X : Cx} {pins : List (Addr × Obj)} {σ : St} {H : Hp} {s : Shared} {a : Addr} {y v : V} {u r : Value} {o : Option V} {A : Around} {E : Value -> Shared -> Prop}
theorem nk_ref {k : NK} (hk : NKey H k y) (hn : k ≠ none) (ry : RelV y u) : ∃ b, u = .ref b /\ y = .ref b := by
  cases k with
  | none => exact absurd rfl hn
  | some l => obtain ⟨b, xs, rfl, _⟩ := hk; exact ⟨b, ry, rfl⟩
theorem n_getItem {Q : Value -> Shared -> Prop} (hu : A.units + 2 < cLine) (I : Inv X pins σ H s) (g : DGetN X.prog X.w H a y (some v)) (ry : RelV y u) (h : ∀ w' s', Inv X pins σ H s' -> RelV v w' -> Q w' s') :
    wpAny (model X.prog X.w) A (getItem (.ref a) u) Q E s := by
  rcases g with g | ⟨kvs, k, d, hk, hn, l⟩
  . exact d_getItem (by omega) I g ry h
  . obtain ⟨b, rfl, rfl⟩ := nk_ref hk hn ry
    obtain ⟨hd, xs, z, rel, dd⟩ := dn_of I d
    obtain ⟨w', hw, rw'⟩ := RelO.some_of (v := v) (o := (atKeyV xs k).map (·.2)) (by rw [l]; exact NP.val rel k)
    obtain ⟨p, hp, hp2⟩ := Option.map_eq_some_iff.mp hw
    refine wpAny_getItem_heapV (knd := nkKind X.prog X.w) (show A.units + 1 + 1 < cLine by omega) (nkey_of I.hok hk ry) dd hp ?_
    rw [hp2]
    exact h w' _ (I.tok _) rw'
theorem n_notIn {Q : Value -> Shared -> Prop} (hu : A.units + 2 < cLine) (I : Inv X pins σ H s) (g : DGetN X.prog X.w H a y o) (ry : RelV y u) (h : ∀ s', Inv X pins σ H s' -> Q (.bool (!o.isSome)) s') :
    wpAny (model X.prog X.w) A (compareOp .NotIn u (.ref a)) Q E s := by
  rcases g with g | ⟨kvs, k, d, hk, hn, l⟩
  . exact d_notIn (by omega) I g ry h
  . obtain ⟨b, rfl, rfl⟩ := nk_ref hk hn ry
    obtain ⟨hd, xs, z, rel, dd⟩ := dn_of I d
    refine wpAny_notIn_heapV (knd := nkKind X.prog X.w) (show A.units + 1 + 1 < cLine by omega) (nkey_of I.hok hk ry) hd dd ?_
    have q := (NP.val rel k).isSome_eq
    rw [Option.isSome_map] at q
    rw [<- q, <- l]
    exact h _ (I.tok _)
theorem n_setItem {kvs : List (NK × V)} {k : NK} {Q : Unit -> Shared -> Prop} (hu : A.units + 2 < cLine) (I : Inv X pins σ H s) (d : DN X.prog X.w H a kvs) (hk : NKey H k y) (hn : k ≠ none) (hl : kvs.length < sizeLine) (ry : RelV y u) (rv : RelV v r)
    (h : ∀ φ s', DN X.prog X.w (upd H a (.ext φ)) a (putK kvs k v) -> Inv X pins σ (upd H a (.ext φ)) s' -> Q () s') : wpAny (model X.prog X.w) A (setItem (.ref a) u r) Q E s := by
  obtain ⟨b, rfl, rfl⟩ := nk_ref hk hn ry
  obtain ⟨φ0, hφ⟩ := d.is
  obtain ⟨hd, xs, z, rel, dd⟩ := dn_of I d
  have hz : xs.length <= sizeLine := by rw [<- Paired.length rel]; exact z
  have hl2 : (putK kvs k v).length <= sizeLine := by have := length_putK kvs k v; omega
  refine wpAny_setItem_heapV (knd := nkKind X.prog X.w) (hsz := hz) (show A.units + 1 + 1 < cLine by omega) (nkey_of I.hok hk ry) dd fun h' dd' hs => ?_
  obtain ⟨q, es, ep, hq, h2, h3, h4, _, h5⟩ := dd'
  have kt : ∀ c ys, H c = some (.tup ys) -> upd H a (.ext (NObj X.prog X.w a (storedHV xs k (.ref b) r))) c = some (.tup ys) := fun c ys ec => by
    rw [upd_ne (ne_of ec hφ (fun z => nomatch z))]; exact ec
  exact h _ _ ⟨_, upd_same, hl2, NPair.keep kt (NP.put rel k hk rfl rv)⟩ (d_write I (by rw [hφ]; exact True.intro) hs ⟨q, hq⟩ (nobj_ok ⟨hd, q, es, ep, hq, h2, h3, h4, h5⟩))
end
section
variable {X : Cx} {o i value : Expr} {pos pos' : Pos} {td ty tv : TE} {P : Program} {w : World}
theorem dgn_typeIs {pins : List (Addr × Obj)} {σ : St} {H : Hp} {s : Shared} {a : Addr} {y : V} {o : Option V} (I : Inv X pins σ H s) (g : DGetN X.prog X.w H a y o) : s.TypeIs (.ref a) "dict" := by
  rcases g with g | ⟨kvs, k, d, _⟩
  . exact dict_typeIs I g
  . obtain ⟨_, xs, _, _, dd⟩ := dn_of I d
    exact dd.typeIs
theorem pe_nget (hP : X.prog = P) (hw : X.w = w) (hu : X.A.units + 8 < cLine) (ho : PE X o td) (hi : PE X i ty) (hs : NoSl i) : PE X (.Subscript o i pos) (tNGet P w td ty) := by
  subst hP hw
  intro pins s σ H Q I h
  refine subD_of PySem.F.slot_dict_getitem.lookup hs (thn (ho pins s σ H _ I h) fun u s1 ⟨x, H1, I1, rx, q1⟩ => thn (hi pins s1 σ H1 _ I1 q1) fun iv s2 ⟨y, H2, I2, ry, a, v, ex, g, q2⟩ => ?_)
  subst ex
  obtain rfl : u = Value.ref a := rx
  exact ⟨dgn_typeIs I2 g, n_getItem (by omega) I2 g ry fun w' s3 I3 rw' => ⟨v, H2, I3, rw', q2⟩⟩
theorem pc_nnotin (hP : X.prog = P) (hw : X.w = w) (hu : X.A.units + 8 < cLine) (hi : PE X i ty) (ho : PE X o td) : PC X .NotIn i o (tNNotIn P w ty td) := by
  subst hP hw
  intro pins s σ H Q I h
  refine thn (hi pins s σ H _ I h) fun iv s1 ⟨y, H1, I1, ry, q1⟩ => thn (ho pins s1 σ H1 _ I1 q1) fun u s2 ⟨x, H2, I2, rx, a, ov, ex, g, q2⟩ => ?_
  subst ex
  obtain rfl : u = Value.ref a := rx
  exact n_notIn (by omega) I2 g ry fun s3 I3 => ⟨.bl (!ov.isSome), H2, I3, rfl, q2⟩
theorem ps_nput (hP : X.prog = P) (hw : X.w = w) (hu : X.A.units + 8 < cLine) (ho : PE X o td) (hi : PE X i ty) (hv : PE X value tv) (hs : swapsWith value (some (.Subscript o i pos')) pos.line X.env = pure false) :
    PS X (.Assign [.Subscript o i pos'] value pos) (sNPut P w td ty tv) := by
  subst hP hw
  intro pins s σ H D I h
  refine wpAny_Assign_Subscript (thn (hv pins s σ H _ I h) fun r s1 ⟨v, H1, I1, rv, q1⟩ => thn (ho pins s1 σ H1 _ I1 q1) fun u s2 ⟨x, H2, I2, rx, q2⟩ => thn (hi pins s2 σ H2 _ I2 q2) fun iv s3 ⟨y, H3, I3, ry, a, ex, g⟩ => ?_) hs
  subst ex
  obtain rfl : u = Value.ref a := rx
  rcases g with ⟨H4, g, q3⟩ | ⟨kvs, k, d, hk, hn, hl, q3⟩
  . exact d_setItem (by omega) I3 g ry rv fun s4 I4 => ⟨σ, H4, I4, q3⟩
  . exact n_setItem (by omega) I3 d hk hn hl ry rv fun φ s4 d4 I4 => ⟨σ, _, I4, q3 φ d4⟩
end
def tDispN (P : Program) (w : World) (tk tv : TE) : TE := fun σ H Q => ∀ p, H p = none -> tk σ (upd H p (.dK [])) fun x H1 => tv σ H1 fun y H2 => x = .non /\ H2 p = some (.dK []) /\ ∀ φ, DN P w (upd H2 p (.ext φ)) p [(none, y)] -> Q (.ref p) (upd H2 p (.ext φ))
theorem r_dispN {P : Program} {w : World} {tk tv : TE} {σ : St} {H : Hp} {Q : VK} : tDispN P w tk tv σ H Q = ∀ p, H p = none -> tk σ (upd H p (.dK [])) fun x H1 => tv σ H1 fun y H2 => x = .non /\ H2 p = some (.dK []) /\ ∀ φ, DN P w (upd H2 p (.ext φ)) p [(none, y)] -> Q (.ref p) (upd H2 p (.ext φ)) := rfl
theorem pe_dispN {X : Cx} {P : Program} {w : World} {pos : Pos} {k v : Expr} {tk tv : TE} (hP : X.prog = P) (hw : X.w = w) (hk : PE X k tk) (hv : PE X v tv) : PE X (.Dict [some k] [v] pos) (tDispN P w tk tv) := by
  subst hP hw
  intro pins s σ H Q I q
  have hn := I.hok.fresh (Nat.le_refl s.heap.objs.size)
  have I1 := I.laid (a := s.heap.objs.size) (o := .dK []) (h' := s.heap.push { cls := .type "dict", data := .dict #[] }) (t' := s.toks) (fun _ _ q => Heap.get?_push_of_some _ q) (Nat.le_refl _) (dk_empty s.heap I.big)
  refine wpAny_Dict_walk (knd := noneKind X.prog X.w) rfl rfl (by intro z; cases z) (by show 1 <= 15; decide) (pairTrees_cons_walk (thn (hk pins _ σ _ _ I1 (q _ hn)) fun u s1 ⟨x, H1, J1, rx, q1⟩ => thn (hv pins s1 σ H1 _ J1 q1) fun r s2 ⟨y, H2, J2, ry, ex, e, q2⟩ => pairTrees_nil_walk ?_))
  subst ex
  cases (show u = Value.none from rx)
  obtain ⟨z, hd, vs0, r0, dd⟩ := dk_of J2.hok e
  cases r0
  obtain ⟨o, es, ep, h1, h2, h3, h4, h5, h6⟩ := dd
  have he : es.toList = [] := by cases h5' : es.toList with
    | nil => rfl
    | cons e t => rw [h5'] at h5; cases h5
  have hes : es = #[] := by apply Array.ext'; simpa using he
  refine ⟨[((), r)], ⟨rfl, rfl, True.intro⟩, ⟨o, es, ep, h1, h2, h3, fun e hi => by rw [hes] at hi; simp at hi, by rw [he]; exact .nil, List.nodup_nil⟩, fun h' dd' hs => ?_⟩
  obtain ⟨o', es', ep', g1, g2, g3, g4, g5, g6⟩ := dd'
  have hm : merged ([] : List (Unit × Value)) [((), r)] = [((), r)] := rfl
  rw [hm] at g5
  cases h7 : es'.toList with
  | nil => rw [h7] at g5; cases g5
  | cons e1 t1 =>
    rw [h7] at g5
    cases g5 with
    | cons k1 k2 k3 =>
      cases k3
      obtain ⟨_, m1, m2⟩ := g4 e1 (by rw [<- Array.mem_toList_iff, h7]; exact List.mem_cons_self)
      have new : NObj X.prog X.w s.heap.objs.size [(none, .none, r)] h' := ⟨hd, o', es', ep', g1, g2, g3, by
        rw [h7]
        obtain ⟨eh, ek, ev⟩ := e1
        have a1 : ek = .none := isNon_shape m1
        have a2 : eh = 0xFCA86420 := m2
        have a3 : ev = r := k2
        subst a1 a2 a3
        rfl, by simp⟩
      exact ⟨.ref s.heap.objs.size, _, d_write J2 (by rw [e]; exact True.intro) hs ⟨o', g1⟩ (nobj_ok new), rfl, q2 _ ⟨_, upd_same, by rw [sizeLine_eq]; simp, .cons ⟨rfl, ⟨.non, rfl, rfl⟩, ry⟩ .nil⟩⟩
theorem ps_setDN {X : Cx} {i : Nat} {x : Str} {P : Program} {w : World} {k v : Expr} {tk tv : TE} {pos pos' dpos : Pos} (hP : X.prog = P) (hw : X.w = w) (hN : X.N.Nodup) (hi : X.N[i]? = some x) (hx : Loc X.env.scope x) (hk : PE X k tk) (hv : PE X v tv) (hs : swapsWith (.Dict [some k] [v] dpos) (some (.Name x pos')) pos.line X.env = pure false)
    (hf : X.fn x = true \/ X.env.scope.names.lookup x = some .local) : PS X (.Assign [.Name x pos'] (.Dict [some k] [v] dpos) pos) (tAsg (tDispN P w tk tv) (gName i)) := ps_set hN hi hx (pe_dispN hP hw hk hv) hs hf
end L2
set_option Elab.async false
set_option linter.all false
set_option maxRecDepth 100000
set_option maxHeartbeats 4000000
namespace L2
open PySem PySem.W PySem.Spec PySem.Calls PyProof.Rows
def tListZipB (K : PySem.W.Frag) (ta : TA) : TE := fun σ H Q => ta σ H fun vs H1 => ∃ a b xs ys t1 t2, vs = [.ref a, .ref b] /\ SqB K H1 t1 a xs /\ SqB K H1 t2 b ys /\ xs.length = ys.length /\ xs.length <= 1000 /\ ∀ l rs H', Same H1 H' -> H' l = none -> rs.length = xs.length ->
  (∀ (i : Nat) (x y : V), xs[i]? = some x -> ys[i]? = some y -> ∃ t, rs[i]? = some (V.ref t) /\ H' t = some (.tup [x, y])) -> Q (.ref l) (upd H' l (.lst rs))
theorem r_listZipB {K : PySem.W.Frag} {ta : TA} {σ : St} {H : Hp} {Q : VK} : tListZipB K ta σ H Q = ta σ H fun vs H1 => ∃ a b xs ys t1 t2, vs = [.ref a, .ref b] /\ SqB K H1 t1 a xs /\ SqB K H1 t2 b ys /\ xs.length = ys.length /\ xs.length <= 1000 /\ ∀ l rs H', Same H1 H' -> H' l = none -> rs.length = xs.length ->
  (∀ (i : Nat) (x y : V), xs[i]? = some x -> ys[i]? = some y -> ∃ t, rs[i]? = some (V.ref t) /\ H' t = some (.tup [x, y])) -> Q (.ref l) (upd H' l (.lst rs)) := rfl
theorem pe_listZipB {X : Cx} {e f : Expr} {ta : TA} {p p2 pos pos2 : Pos} {K : PySem.W.Frag} (hK : X.K = K) (hc : X.calm = true) (hg : Gl X "list") (hm : X.mg "list" = none) (hg2 : Gl X "zip") (hm2 : X.mg "zip" = none) (ha : PA X [e, f] ta)
    (hs1 : starEach [.Call (.Name "zip" p2) [e, f] [] pos2] X.env = [(false, eval (.Call (.Name "zip" p2) [e, f] [] pos2) X.env)] := by rfl) (hs : starEach [e, f] X.env = [(false, eval e X.env), (false, eval f X.env)] := by rfl) (hs2 : starEach [f] X.env = [(false, eval f X.env)] := by rfl) :
    PE X (.Call (.Name "list" p) [.Call (.Name "zip" p2) [e, f] [] pos2] [] pos) (tListZipB K ta) := by
  subst hK
  intro pins s σ H Q I h
  refine wpAny_Call_Name_kw (ld_blt I hg hm boot_list ?_)
  refine PyProof.Rows.callWith_type1 ?_ hs1 rfl
  rw [hs1]
  refine Calls.spliced_cons ?_
  refine Call_ (ld_blt I hg2 hm2 boot_zip (PyProof.Rows.callWith_type1 (thn (ha pos2 pins s σ H _ I h) fun us s1 ⟨vs, H1, I1, r1, q1⟩ => ?_) (by rw [hs, hs2]) (by rw [hs2]; rfl)))
  obtain ⟨a, b, xs, ys, t1, t2, ev, hq, hq2, hlen, hz0, q⟩ := q1
  subst ev
  cases r1 with
  | cons r rr => cases rr with
    | cons r' rr =>
      cases rr
      cases r
      cases r'
      obtain ⟨its, rv, pl⟩ := I1.seqB hq
      obtain ⟨its2, rv2, pl2⟩ := I1.seqB hq2
      exact wpAny_mono (list_zip I1 hc rv rv2 pl pl2 hlen (Nat.le_trans hz0 (by decide)) q) (fun v s2 h => Calls.spliced_nil h) fun _ _ e => e
def rLIndexT (K : PySem.W.Frag) : V -> List V -> Hp -> VK -> Prop := fun x vs H Q => ∃ l xs t w ws, x = .ref l /\ vs = [.ref t] /\ H l = some (.lst xs) /\ WordsT K H xs ws /\ SqT K H t (w.map V.int) /\ w ∈ ws /\ xs.length < 1000000 /\ Q (.int (ws.idxOf w : Nat)) H
theorem r_lindexT {K : PySem.W.Frag} {x : V} {vs : List V} {H : Hp} {Q : VK} : rLIndexT K x vs H Q = ∃ l xs t w ws, x = .ref l /\ vs = [.ref t] /\ H l = some (.lst xs) /\ WordsT K H xs ws /\ SqT K H t (w.map V.int) /\ w ∈ ws /\ xs.length < 1000000 /\ Q (.int (ws.idxOf w : Nat)) H := rfl
theorem mt_lindexT {X : Cx} (hu : X.A.units + 8 < cLine) : MtM X "list.index" (rLIndexT X.K) := by
  intro pins s σ H x vs v us Q I rx rv h
  obtain ⟨l, xs, t, w, ws, rfl, rfl, hH, hw, ht, hmem, hlt, q⟩ := h
  cases rx
  obtain ⟨u, rfl, ry⟩ := vals1 rv
  cases ry
  obtain ⟨zz, its, n, r, hl, e⟩ := I.lstM hH
  let ev : Value -> Bool := fun y => @decide (∃ (i : Nat) (a : Addr), y = .ref a /\ xs[i]? = some (.ref a) /\ ws[i]? = some w) (Classical.propDecidable _)
  have ee : ∀ (i : Nat) (a : Addr) (v : List Int), xs[i]? = some (.ref a) -> ws[i]? = some v -> ev (.ref a) = decide (v = w) := fun i a v hx hv => by
    obtain ⟨a', a1, a2⟩ := hw.2 i v hv
    rw [hx] at a1
    cases a1
    rw [Bool.eq_iff_iff]
    show @decide _ (Classical.propDecidable _) = true ↔ _
    rw [@decide_eq_true_iff _ (Classical.propDecidable _), decide_eq_true_eq]
    constructor
    . rintro ⟨j, b, hb, hxj, hwj⟩
      cases hb
      obtain ⟨b', b1, b2⟩ := hw.2 j w hwj
      rw [hxj] at b1
      cases b1
      rw [a2] at b2
      have := Option.some.inj b2
      injection this with this
      exact (List.map_inj_right (fun x y z => V.int.inj z)).mp this
    . rintro rfl
      exact ⟨i, a, rfl, hx, hv⟩
  have hlen : xs.length = ws.length := hw.1
  have hrl : xs.length = its.length := r.length
  have get : ∀ (m : Nat) (hm : m < its.toArray.size), ∃ (a : Addr) (v : List Int), its.toArray[m] = .ref a /\ xs[m]? = some (.ref a) /\ ws[m]? = some v /\ H a = some (.tup (v.map V.int)) := fun m hm => by
    have hm' : m < xs.length := by rw [List.size_toArray] at hm; omega
    obtain ⟨a, v, e1, e2, e3⟩ := hw.at (i := m) (x := xs[m]) (by simp [hm'])
    have hx : xs[m]? = some (.ref a) := by rw [List.getElem?_eq_getElem hm', e2]
    obtain ⟨w', f1, f2⟩ := r.get hx
    have e4 : its.toArray[m] = w' := by
      have : its[m]? = some its.toArray[m] := by simp at hm; simp [hm]
      rw [f1] at this
      exact (Option.some.inj this).symm
    cases f2
    exact ⟨a, v, e4, hx, e1, e3⟩
  have hj : ws.idxOf w < ws.length := List.idxOf_lt_length_of_mem hmem
  have hjs : ws.idxOf w < its.toArray.size := by rw [List.size_toArray]; omega
  refine call_meets F.slot_list_index ⟨_, e, rfl⟩ F.entry_list_index (F.args_list_index_2 _ _) (SeqAt.list_indexAt l its.toArray n none #[] (.ref t) ev (ws.idxOf w) hjs (by omega) ?_ fun m hm hmj => ?_) ⟨e, fun y hy => ?_, ?_⟩
  . obtain ⟨a, v, e1, e2, e3, e4⟩ := get _ hjs
    rw [e1, ee _ a v e2 e3]
    have : ws[ws.idxOf w]? = some w := by rw [List.getElem?_eq_getElem hj, List.getElem_idxOf]
    rw [this] at e3
    cases e3
    simp
  . obtain ⟨a, v, e1, e2, e3, e4⟩ := get m hm
    rw [e1, ee _ a v e2 e3, decide_eq_false_iff_not]
    intro z
    have hm' : m < ws.length := by omega
    have : ws[m] = w := by rw [List.getElem?_eq_getElem hm'] at e3; rw [Option.some.inj e3]; exact z
    have h2 := idxOf_le (ws := ws) (m := m) (w := w) (by rw [List.getElem?_eq_getElem hm', this])
    omega
  . obtain ⟨m, hm, em⟩ := List.getElem_of_mem (show y ∈ its by simpa using hy)
    obtain ⟨a, v, e1, e2, e3, e4⟩ := get m (by rw [List.size_toArray]; exact hm)
    have : y = .ref a := by rw [<- em, <- e1]; simp
    rw [this, ee m a v e2 e3]
    exact (EqD.at (x := V.ref a) (y := V.ref t) I 2 _ (by rw [in1_units]; omega) rfl rfl (EqD.ints (xs := v) (ys := w) (.inr ⟨SqT.of e4, ht⟩) 1)).1
  . exact ⟨.int (ws.idxOf w : Nat), H, I.tok _, ⟨_, rfl⟩, q⟩
end L2
set_option Elab.async false
set_option linter.all false
set_option maxRecDepth 100000
set_option maxHeartbeats 4000000
namespace Mine
open PySem L2 GW GB
local macro_rules | `(tactic| walk_at "rd") => `(tactic| (try dsimp only [↓r_varD, vD_some, ↓r_ID, ↓r_I0D, iD_int, ↓r_BD, bD_bl, ↓r_EqF, ↓r_NeF, eD_int, eD_str, eD_non, eD_bl, ↓r_ixTD, ↓r_ixLD, aD_ref, nD_int, ↓r_lenD, lD1_one, ↓r_seq, ↓r_next, ↓r_asg, ↓r_gname, ↓r_var, ↓r_c, ↓r_op, ↓r_un, ↓r_I, ↓r_I0, ↓r_U, ↓r_call, ↓r_cons, ↓r_nil, ↓r_ret, ↓r_drop, ↓r_if, ↓r_B, ↓r_test, ↓r_or, ↓r_not, ↓r_andV, ↓r_orV, ↓r_notV, ↓r_ifE, ↓r_CB, ↓r_lst, ↓r_tup, ↓r_ixL, ↓r_ixT, ↓r_sl, ↓r_part, ↓r_nopart, ↓r_slL, ↓r_BM, ↓r_append, ↓r_Eq, ↓r_Ne, ↓r_iList, ↓r_iTup, ↓r_iRng1, ↓r_true, ↓r_comp, ↓r_for, ↓r_raise, ↓r_callE, ↓r_try, ↓r_unnx, ↓r_unrt, ↓r_listZipB, ↓r_nget, ↓r_nnotin, ↓r_nput, ↓r_dispN, ↓r_lazy, ↓r_inW, r_lindexT, ↓r_tryN, r_cxK, L2.start, List.map_cons, List.map_nil, List.length_cons, List.length_nil, List.cons_append, List.nil_append, List.replicate, List.getElem?_cons_zero, List.getElem?_cons_succ, List.set_cons_zero, List.set_cons_succ, scal]) <;> (try simp only [↓r_varD, vD_some, ↓r_ID, ↓r_I0D, iD_int, ↓r_BD, bD_bl, ↓r_EqF, ↓r_NeF, eD_int, eD_str, eD_non, eD_bl, ↓r_ixTD, ↓r_ixLD, aD_ref, nD_int, ↓r_lenD, lD1_one, iD_ex, bD_ex, eD_ex, aD_ex, nD_ex, ↓r_seq, ↓r_next, ↓r_asg, ↓r_gname, ↓r_var, ↓r_c, ↓r_op, ↓r_un, ↓r_I, ↓r_I0, ↓r_U, ↓r_call, ↓r_cons, ↓r_nil, ↓r_ret, ↓r_drop, ↓r_if, ↓r_B, ↓r_test, ↓r_or, ↓r_not, ↓r_andV, ↓r_orV, ↓r_notV, ↓r_ifE, ↓r_CB, ↓r_lst, ↓r_tup, ↓r_ixL, ↓r_ixT, ↓r_sl, ↓r_part, ↓r_nopart, ↓r_slL, ↓r_BM, ↓r_append, ↓r_Eq, ↓r_Ne, ↓r_iList, ↓r_iTup, ↓r_iRng1, ↓r_true, ↓r_comp, ↓r_for, ↓r_raise, ↓r_callE, ↓r_try, ↓r_unnx, ↓r_unrt, ↓r_listZipB, ↓r_nget, ↓r_nnotin, ↓r_nput, ↓r_dispN, ↓r_lazy, ↓r_inW, r_lindexT, ↓r_tryN, r_cxK, L2.start, List.map_cons, List.map_nil, List.length_cons, List.length_nil, List.cons_append, List.nil_append, List.append_nil, List.replicate, List.getElem?_cons_zero, List.getElem?_cons_succ, List.set_cons_zero, List.set_cons_succ, Option.some.injEq, V.int.injEq, V.str.injEq, V.ref.injEq, V.bl.injEq, List.cons.injEq, and_true, true_and, and_assoc, exists_and_left, exists_eq_left', exists_eq_left, exists_eq_right, exists_eq, if_true, if_false, Bool.false_eq_true, decide_eq_true_eq, scal, Nat.reduceAdd, Nat.reduceSub, reduceCtorEq, Bool.not_true, Bool.not_false]))
local macro_rules | `(tactic| walk_at "sc") => `(tactic| exact ⟨rfl, rfl, rfl, by decide +kernel, rfl, by decide +kernel, by decide +kernel⟩)
def top (i : Nat) : Stmt := PySem.Challenge.pw_guessroom_k54_marks_and_says.main.body.getD i (.Pass ⟨0, 0, 0, 0⟩)
abbrev s_goals_of : Stmt := top 6
theorem sc_goals_of : FnScope ["house", "pair", "room"] ["house", "pair"] (defScope s_goals_of) := by walk_at "sc"
abbrev s_marks_from : Stmt := top 7
theorem sc_marks_from : FnScope ["house", "mark", "found", "walks", "marks", "ways", "goals", "goal"] ["house", "mark"] (defScope s_marks_from) := by walk_at "sc"
abbrev s_says_from : Stmt := top 8
theorem sc_says_from : FnScope ["house", "says"] ["house"] (defScope s_says_from) := by walk_at "sc"
abbrev s__law_cell : Stmt := top 10
theorem sc__law_cell : FnScope ["script", "k"] ["script", "k"] (defScope s__law_cell) := by walk_at "sc"
abbrev s__law_whole : Stmt := top 11
theorem sc__law_whole : FnScope ["found"] ["found"] (defScope s__law_whole) := by walk_at "sc"
abbrev s__law_big : Stmt := top 12
theorem sc__law_big : FnScope ["script", "k", "many"] ["script", "k"] (defScope s__law_big) := by walk_at "sc"
abbrev s__law_mark : Stmt := top 13
theorem sc__law_mark : FnScope ["cell"] ["cell"] (defScope s__law_mark) := by walk_at "sc"
abbrev s__law_says : Stmt := top 14
theorem sc__law_says : FnScope ["script", "at", "letters", "rooms", "says", "ways", "room", "base"] ["script", "at", "letters", "rooms"] (defScope s__law_says) := by walk_at "sc"
abbrev s__law_rows_are : Stmt := top 15
theorem sc__law_rows_are : FnScope ["found", "due", "k", "c"] ["found", "due"] (defScope s__law_rows_are) := by walk_at "sc"
abbrev s__law_house_is : Stmt := top 16
theorem sc__law_house_is : FnScope ["found", "due"] ["found", "due"] (defScope s__law_house_is) := by walk_at "sc"
abbrev s__law_talk : Stmt := top 17
theorem sc__law_talk : FnScope ["house", "word", "room", "told", "letter"] ["house", "word"] (defScope s__law_talk) := by walk_at "sc"
abbrev s__law_row_is : Stmt := top 18
theorem sc__law_row_is : FnScope ["found", "due", "k"] ["found", "due"] (defScope s__law_row_is) := by walk_at "sc"
abbrev s__law_own_marks : Stmt := top 19
theorem sc__law_own_marks : FnScope ["house", "says", "room"] ["house"] (defScope s__law_own_marks) := by walk_at "sc"
abbrev s__law_spread : Stmt := top 20
theorem sc__law_spread : FnScope ["house", "mark", "rooms", "ways", "k", "row", "letter", "pair"] ["house", "mark"] (defScope s__law_spread) := by walk_at "sc"
abbrev s__law_refused : Stmt := top 21
theorem sc__law_refused : FnScope ["house", "mark", "refused"] ["house", "mark"] (defScope s__law_refused) := by walk_at "sc"
abbrev s__law_refused_by_any : Stmt := top 22
theorem sc__law_refused_by_any : FnScope ["house", "mark", "told", "e"] ["house", "mark"] (defScope s__law_refused_by_any) := by walk_at "sc"
abbrev s__law_back : Stmt := top 23
theorem sc__law_back : FnScope ["house", "marks", "found", "says", "row"] ["house", "marks"] (defScope s__law_back) := by walk_at "sc"
abbrev s_law : Stmt := top 24
theorem sc_law : FnScope ["script", "letters", "rooms", "house", "mark", "marks", "due", "found", "word", "room", "letter"] ["script"] (defScope s_law) := by walk_at "sc"
def c_marks_from_3 : Caps := [("goal", none), ("found", some 2)]
theorem nd_c_marks_from_3 : (Caps.names c_marks_from_3).Nodup := by decide +kernel
def c_says_from_18 : Caps := [("goals", none), ("house", some 0)]
theorem nd_c_says_from_18 : (Caps.names c_says_from_18).Nodup := by decide +kernel
def c_says_from_22 : Caps := [("goal", none), ("house", some 1)]
theorem nd_c_says_from_22 : (Caps.names c_says_from_22).Nodup := by decide +kernel
def c__law_says_3 : Caps := [("k", none), ("script", some 0), ("base", some 7)]
theorem nd_c__law_says_3 : (Caps.names c__law_says_3).Nodup := by decide +kernel
def c__law_says_8 : Caps := [("k", none), ("rooms", some 3), ("script", some 0), ("base", some 7), ("letters", some 2)]
theorem nd_c__law_says_8 : (Caps.names c__law_says_8).Nodup := by decide +kernel
def c__law_own_marks_3 : Caps := [("letter", none), ("room", some 2)]
theorem nd_c__law_own_marks_3 : (Caps.names c__law_own_marks_3).Nodup := by decide +kernel
def c__law_spread_3 : Caps := [("pair", none)]
theorem nd_c__law_spread_3 : (Caps.names c__law_spread_3).Nodup := by decide +kernel
def c__law_back_3 : Caps := [("room", none), ("marks", some 1)]
theorem nd_c__law_back_3 : (Caps.names c__law_back_3).Nodup := by decide +kernel
def c_law_3 : Caps := [("k", none), ("script", some 0)]
theorem nd_c_law_3 : (Caps.names c_law_3).Nodup := by decide +kernel
def c_law_8 : Caps := [("k", none), ("letters", some 1), ("script", some 0)]
theorem nd_c_law_8 : (Caps.names c_law_8).Nodup := by decide +kernel
structure Txt (mg : Str -> Option Value) : Prop where
  ValueError : mg "ValueError" = none
  bool : mg "bool" = none
  int : mg "int" = none
  isinstance : mg "isinstance" = none
  len : mg "len" = none
  list : mg "list" = none
  max : mg "max" = none
  min : mg "min" = none
  range : mg "range" = none
  tuple : mg "tuple" = none
  zip : mg "zip" = none
structure Own (K : PySem.W.Frag) (mg : Str -> Option Value) : Prop where
  q_MOST_ROOMS : ∃ t, mg "MOST_ROOMS" = some (.int 40 t)
structure Exs (K : PySem.W.Frag) (mg : Str -> Option Value) (C_AskError C_BadHouse C_BadMark : Addr) : Prop where
  m_AskError : mg "AskError" = some (.ref C_AskError)
  m_BadHouse : mg "BadHouse" = some (.ref C_BadHouse)
  m_BadMark : mg "BadMark" = some (.ref C_BadMark)
  x_BadHouse : PySem.W.excIn K C_BadHouse bmV "ValueError.__new__" = true
  c_BadHouse : ExcCls K C_BadHouse
  e_BadHouse : PySem.W.exmOne K (.ref C_BadHouse) (.ref C_AskError) = some true
  v_BadHouse : PySem.W.kitOne K (.ref C_BadHouse) (.type "ValueError") = some true
  ee_BadHouse : PySem.W.exmOne K (.ref C_BadHouse) (.ref C_BadHouse) = some true
  k_BadHouse_AskError : PySem.W.kitOne K (.ref C_BadHouse) (.ref C_AskError) = some true
  k_BadHouse_BadHouse : PySem.W.kitOne K (.ref C_BadHouse) (.ref C_BadHouse) = some true
  k_BadHouse_BadMark : PySem.W.kitOne K (.ref C_BadHouse) (.ref C_BadMark) = some false
section
variable {P : Program} {w : World} {K : PySem.W.Frag} {mg : Str -> Option Value} {base : Heap}
variable {C_AskError C_BadHouse C_BadMark : Addr}
set_option pp.deepTerms true
set_option pp.maxSteps 100000
def SaysH (K : PySem.W.Frag) (H : Hp) (h : Addr) (L : Int) (says ways : List (List Int)) : Prop := ∃ m wv : Addr, SqT K H h [.int L, .ref m, .ref wv] /\ Rows K H m says /\ Rows K H wv ways
theorem SaysH.mono {K : PySem.W.Frag} {H H' : Hp} {h : Addr} {L : Int} {says ways : List (List Int)} (x : SaysH K H h L says ways) (e : Same H H') : SaysH K H' h L says ways := by
  obtain ⟨m, wv, h1, h2, h3⟩ := x
  exact ⟨m, wv, e.seqT h1, h2.mono e, h3.mono e⟩
structure WfS (L : Int) (says ways : List (List Int)) : Prop where
  wf : Wf L (List.replicate says.length 0) ways
  sr : ∀ row ∈ says, (row.length : Int) = L
def sayW (says ways : List (List Int)) (ws : List Int) : List Int := (List.range ws.length).map fun j => stepW says (walkW ways (ws.take j)) (ws.getD j 0)
theorem WfS.at {L : Int} {says ways : List (List Int)} (h : WfS L says ways) {r x : Int} (r0 : 0 <= r) (r1 : r < says.length) (x0 : 0 <= x) (x1 : x < L) : ∃ row, says[r.toNat]? = some row /\ row[x.toNat]? = some (stepW says r x) := by
  have hr : r.toNat < says.length := by omega
  refine ⟨says[r.toNat], by simp [hr], ?_⟩
  have hl := h.sr _ (List.getElem_mem hr)
  have hx : x.toNat < (says[r.toNat]).length := by omega
  have e : says.getD r.toNat [] = says[r.toNat] := by rw [List.getD_eq_getElem?_getD, List.getElem?_eq_getElem hr]; rfl
  unfold stepW
  rw [e, List.getD_eq_getElem?_getD, List.getElem?_eq_getElem hx]; rfl
theorem WfS.walk {L : Int} {says ways : List (List Int)} (h : WfS L says ways) {ws : List Int} (hw : isW L ws = true) (i : Nat) : 0 <= walkW ways (ws.take i) /\ walkW ways (ws.take i) < says.length := by
  have := h.wf.walk hw i
  rw [List.length_replicate] at this
  exact this
def RowsT (K : PySem.W.Frag) (H : Hp) (zs : List V) (ws : List (List Int)) : Prop := zs.length = ws.length /\ ∀ (i : Nat) (r : List Int), ws[i]? = some r -> ∃ c, zs[i]? = some (.ref c) /\ SqT K H c (r.map V.int)
theorem WordsT.toRows54 {K : PySem.W.Frag} {H : Hp} {w : Addr} {zs : List V} {ws : List (List Int)} (h : WordsT K H zs ws) (hw : SqT K H w zs) : Rows K H w ws := by
  refine ⟨zs.map (fun v => match v with | .ref t => t | _ => 0), ?_, by rw [List.length_map]; exact h.1, fun i t r hi hr => ?_⟩
  . have e : (zs.map (fun v => match v with | .ref t => t | _ => 0)).map V.ref = zs := by
      rw [List.map_map]
      refine List.ext_getElem? fun i => ?_
      rw [List.getElem?_map]
      by_cases hi : i < ws.length
      . obtain ⟨t, a, _⟩ := h.2 i ws[i] (by simp [hi])
        rw [a]; rfl
      . rw [List.getElem?_eq_none (by rw [h.1]; omega)]; rfl
    rw [e]; exact hw
  . obtain ⟨t', a, b⟩ := h.2 i r hr
    rw [List.getElem?_map, a] at hi
    cases hi
    exact SqT.of b
def cell (ns : List Int) (k : Nat) : Int := ns.getD k 0
def sp_cell (K : PySem.W.Frag) : Sp := fun vs H Q _ => ∃ (a : Addr) (ns : List Int) (k : Nat), vs = [.ref a, .int k] /\ SqL K H a (ns.map V.int) /\ Q (.int (cell ns k)) H
theorem ok__law_cell {f : Addr} {fd : FuncData} (F : Fun K "_law_cell" "_law_cell" s__law_cell f fd) (T : Txt mg)
    (W : Own K mg)
    (Z : Exs K mg C_AskError C_BadHouse C_BadMark)
    : FnOk P w K mg base CX0 1 f fd ["script", "k"] (sp_cell K) := by
  refine F.ok sc__law_cell (fun vs H Q E h => ?_) (fun cdv A outer s H vs Q E hr h => ?_)
  . obtain ⟨a, ns, k, rfl, _⟩ := h; rfl
  . obtain ⟨a, ns, k, rfl, hs, q⟩ := h
    refine ⟨_, (pss_cons (ps_if (ptT (pt_cmpR (opD0 op_lt) (pvD 1) (pe_callB (lenD call_len_seq) (by rfl) T.len PySem.boot_len (pa_cons (pvD 0) pa_nil)) (nomark _)))
      (pss_one (ps_ret (pe_ixA (ixLD ix_list) (pvD 0) (pvD 1))))
      pss_nil)
      (pss_one (ps_ret pe_int))), ?_⟩
    walk_at "rd"
    refine ⟨_, .inl hs, ?_⟩
    rw [List.length_map]
    refine ite2 (fun hk => ?_) (fun hk => ?_)
    . have hk' : k < ns.length := by simpa using hk
      refine ⟨_, hs, V.int (cell ns k), ?_, q⟩
      refine atI_nat ?_
      rw [List.getElem?_map]
      unfold cell
      rw [List.getD_eq_getElem?_getD]
      simp [hk']
    . have hk' : ¬ k < ns.length := by simpa using hk
      have : cell ns k = 0 := by
        unfold cell
        rw [List.getD_eq_getElem?_getD, List.getElem?_eq_none (by omega)]; rfl
      rw [<- this]
      exact q
def sp_whole : Sp := fun vs H Q _ => ∃ n : Int, vs = [.int n] /\ Q (.bl true) H
theorem ok__law_whole {f : Addr} {fd : FuncData} (F : Fun K "_law_whole" "_law_whole" s__law_whole f fd) (T : Txt mg)
    (W : Own K mg)
    (Z : Exs K mg C_AskError C_BadHouse C_BadMark)
    : FnOk P w K mg base CX0 1 f fd ["found"] (sp_whole) := by
  refine F.ok sc__law_whole (fun vs H Q E h => ?_) (fun cdv A outer s H vs Q E hr h => ?_)
  . obtain ⟨n, rfl, _⟩ := h; rfl
  . obtain ⟨n, rfl, q⟩ := h
    refine ⟨_, (pss_one (ps_ret (pe_and (pe_callB call_isinstW rfl T.isinstance PyProof.Rows.boot_isinstance (pa_cons (pvD 0) (pa_cons (pe_bltn (v := .ty "int") rfl T.int PyProof.Rows.boot_int rfl) pa_nil))) (pe_one (pe_not (pe_callB call_isinstW rfl T.isinstance PyProof.Rows.boot_isinstance (pa_cons (pvD 0) (pa_cons (pe_bltn (v := .ty "bool") rfl T.bool PyProof.Rows.boot_bool rfl) pa_nil)))))))), ?_⟩
    walk_at "rd"
    refine ⟨_, _, .int _, rel_ty, _, kit_self, ?_⟩
    rw [if_pos rfl]
    refine ⟨_, _, .int _, rel_ty, _, kit_int_bool, ?_⟩
    exact q
def sp_big (K : PySem.W.Frag) : Sp := fun vs H Q _ => ∃ (a : Addr) (ns : List Int) (k : Int), vs = [.ref a, .int k] /\ SqL K H a (ns.map V.int) /\ ns.length <= 63 /\ 0 <= k /\ k <= 100000 /\ ∀ x, Q (.int x) H
theorem ok__law_big {f : Addr} {fd : FuncData} (F : Fun K "_law_big" "_law_big" s__law_big f fd) (T : Txt mg)
    (W : Own K mg)
    (Z : Exs K mg C_AskError C_BadHouse C_BadMark)
    {f__law_cell : Addr} {fd__law_cell : FuncData} (g__law_cell : FnOk P w K mg base CX0 1 f__law_cell fd__law_cell ["script", "k"] (sp_cell K)) (F__law_cell : Fun K "_law_cell" "_law_cell" s__law_cell f__law_cell fd__law_cell) (b__law_cell : Binds K fd__law_cell ["script", "k"] []) (m__law_cell : mg "_law_cell" = some (.ref f__law_cell))
    : FnOk P w K mg base CX0 2 f fd ["script", "k"] (sp_big K) := by
  refine F.ok sc__law_big (fun vs H Q E h => ?_) (fun cdv A outer s H vs Q E hr h => ?_)
  . obtain ⟨a, ns, k, rfl, _⟩ := h; rfl
  . obtain ⟨a, ns, k, rfl, hs, hz, k0, k1, q⟩ := h
    refine ⟨_, (pss_cons (ps_if (ptT (pt_cmpR (opD0 op_lt) (pvD 1) (pe_callB (lenD call_len_seq) (by rfl) T.len PySem.boot_len (pa_cons (pvD 0) pa_nil)) (nomark _)))
      (pss_one (ps_ret (pe_ixA (ixLD ix_list) (pvD 0) (pvD 1))))
      pss_nil)
      (pss_cons (ps_setL (i := 2) sc__law_big.nd (pe_callB (call_max2 rfl) rfl T.max PyProof.Rows.boot_max (pa_cons pe_int (pa_cons (pe_callB (lenD call_len_seq) (by rfl) T.len PySem.boot_len (pa_cons (pvD 0) pa_nil)) pa_nil))))
      (pss_one (ps_ret (pe_op (opD op_mod) (pe_op (opD0 op_add) (pe_op (opD0 op_add) (pe_op (opD op_mul) (pe_op (opD op_mod) (pe_call g__law_cell (hr.mono (by decide)) rfl m__law_cell F__law_cell.kp b__law_cell .nil pass0 (pa_cons (pvD 0) (pa_cons (pe_op (opD op_mod) (pvD 1) (pvD 2)) pa_nil))) pe_int) pe_int) (pe_op (opD op_mul) (pe_op (opD op_mul) (pvD 1) (pvD 1)) pe_int)) (pe_op (opD op_mul) pe_int (pvD 1))) pe_int))))), ?_⟩
    walk_at "rd"
    refine ⟨_, .inl hs, ?_⟩
    rw [List.length_map]
    refine ite2 (fun hk => ?_) (fun hk => ?_)
    . have hk' : k.toNat < ns.length := by omega
      exact ⟨_, hs, _, atI_int k0 (v := ns[k.toNat]) (by simp [hk']), q _⟩
    . have hm : (0 : Int) < if ((ns.map V.int).length : Int) > 1 then ((ns.map V.int).length : Int) else 1 := by split <;> omega
      have r0 := Int.emod_nonneg k (show (if ((ns.map V.int).length : Int) > 1 then ((ns.map V.int).length : Int) else 1) ≠ 0 by omega)
      refine ⟨_, .inl hs, hm, a, ns, (k % if ((ns.map V.int).length : Int) > 1 then ((ns.map V.int).length : Int) else 1).toNat, by rw [Int.toNat_of_nonneg r0], hs, _, rfl, by decide, .inr ⟨by decide, by decide⟩, .inl ⟨by omega, by omega⟩, .inr ⟨by decide, by decide⟩, .inl ⟨by decide, by decide⟩, by decide, q _⟩
def sp_mark53 : Sp := fun vs H Q _ => ∃ c : Int, vs = [.int c] /\ ∀ x, 0 <= x -> x <= 1000000000 -> Q (.int x) H
theorem ok__law_mark {f : Addr} {fd : FuncData} (F : Fun K "_law_mark" "_law_mark" s__law_mark f fd) (T : Txt mg)
    (W : Own K mg)
    (Z : Exs K mg C_AskError C_BadHouse C_BadMark)
    : FnOk P w K mg base CX0 1 f fd ["cell"] (sp_mark53) := by
  refine F.ok sc__law_mark (fun vs H Q E h => ?_) (fun cdv A outer s H vs Q E hr h => ?_)
  . obtain ⟨c, rfl, _⟩ := h; rfl
  . obtain ⟨c, rfl, k⟩ := h
    refine ⟨_, (pss_cons (ps_if (ptT (pt_cmpR (opE op_eq) (pe_op (opD op_mod) (pvD 0) pe_int) pe_int (nomark _)))
      (pss_one (ps_ret pe_int))
      pss_nil)
      (pss_cons (ps_if (ptT (pt_cmpR (opE op_eq) (pe_op (opD op_mod) (pvD 0) pe_int) pe_int (nomark _)))
      (pss_one (ps_ret (pe_op (opD op_mod) (pe_op (opD op_fdiv) (pvD 0) pe_int) pe_int)))
      pss_nil)
      (pss_one (ps_ret (pe_op (opD op_mod) (pe_op (opD op_fdiv) (pvD 0) pe_int) pe_int))))), ?_⟩
    walk_at "rd"
    have a0 := Int.emod_nonneg (c / 4) (show (1000000001 : Int) ≠ 0 by decide)
    have a1 := Int.emod_lt_of_pos (c / 4) (show (0 : Int) < 1000000001 by decide)
    have b0 := Int.emod_nonneg (c / 4) (show (2 : Int) ≠ 0 by decide)
    have b1 := Int.emod_lt_of_pos (c / 4) (show (0 : Int) < 2 by decide)
    exact ⟨by decide, ite2 (fun _ => k _ (by omega) (by omega)) (fun _ => ⟨by decide, ite2 (fun _ => ⟨⟨by decide, by decide⟩, by decide, k _ a0 (by omega)⟩) (fun _ => ⟨⟨by decide, by decide⟩, by decide, k _ b0 (by omega)⟩)⟩)⟩
def sp_says53 (K : PySem.W.Frag) : Sp := fun vs H Q _ => ∃ (a : Addr) (ns : List Int) (c : Int) (L n : Nat), vs = [.ref a, .int c, .int L, .int n] /\ SqL K H a (ns.map V.int) /\ ns.length <= 63 /\ 0 <= c /\ c <= 1000 /\ 1 <= L /\ L <= 6 /\ 1 <= n /\ n <= 40 /\ ∀ h says ways H', Same H H' -> SaysH K H' h L says ways -> WfS L says ways -> says.length = n -> (∀ row ∈ says, ∀ x ∈ row, 0 <= x /\ x <= 1000000000) -> Q (.ref h) H'
theorem ok__law_says {f : Addr} {fd : FuncData} (F : Fun K "_law_says" "_law_says" s__law_says f fd) (T : Txt mg)
    (W : Own K mg)
    (Z : Exs K mg C_AskError C_BadHouse C_BadMark)
    {f__law_big : Addr} {fd__law_big : FuncData} (g__law_big : FnOk P w K mg base CX0 2 f__law_big fd__law_big ["script", "k"] (sp_big K)) (F__law_big : Fun K "_law_big" "_law_big" s__law_big f__law_big fd__law_big) (b__law_big : Binds K fd__law_big ["script", "k"] []) (m__law_big : mg "_law_big" = some (.ref f__law_big))
    {f__law_mark : Addr} {fd__law_mark : FuncData} (g__law_mark : FnOk P w K mg base CX0 1 f__law_mark fd__law_mark ["cell"] (sp_mark53)) (F__law_mark : Fun K "_law_mark" "_law_mark" s__law_mark f__law_mark fd__law_mark) (b__law_mark : Binds K fd__law_mark ["cell"] []) (m__law_mark : mg "_law_mark" = some (.ref f__law_mark))
    : FnOk P w K mg base CX0 3 f fd ["script", "at", "letters", "rooms"] (sp_says53 K) := by
  refine F.ok sc__law_says (fun vs H Q E h => ?_) (fun cdv A outer s H vs Q E hr h => ?_)
  . obtain ⟨a, ns, c, L, n, rfl, _⟩ := h; rfl
  . obtain ⟨a, ns, c, L, n, rfl, hs, hz, c0, c1, hL1, hL6, hn1, hn40, k⟩ := h
    have hl := line1000
    refine ⟨_, (pss_cons (ps_setL (i := 4) sc__law_says.nd (pe_lst pa_nil))
      (pss_cons (ps_setL (i := 5) sc__law_says.nd (pe_lst pa_nil))
      (pss_cons (ps_for PassesOwn.never rfl (pi_range1 rfl T.range (pa_cons (pvD 3) pa_nil)) (pg_name (i := 6) sc__law_says.nd rfl (Or.inl rfl))
      (pss_cons (ps_set (i := 7) sc__law_says.nd rfl (Or.inr rfl) (pe_op (opD0 op_add) (pvD 1) (pe_op (opD op_mul) (pe_op (opD op_mul) pe_int (pvD 2)) (pvD 6))))
      (pss_cons (ps_expr (pe_bm PySem.F.plainAttrs_list PySem.F.slot_list_append PySem.F.type_list_append mt_append (pvD 4) (pa_cons (pe_callTy call_tuple_L rfl T.tuple PyProof.Rows.boot_tuple (pa_cons (pe_comp rfl (blk_mk rfl) (cp := c__law_says_3) ⟨⟨rfl, rfl⟩, ⟨⟨rfl, rfl⟩, True.intro⟩⟩ (pi_range1 rfl T.range (pa_cons (pvD 2) pa_nil)) (fun _ _ _ _ => (pg_name (i := 0) nd_c__law_says_3 rfl (Or.inl rfl))) (fun _ _ _ _ => pf_nil) (fun _ _ _ _ => (pe_call g__law_mark (hr.mono (by decide)) rfl m__law_mark F__law_mark.kp b__law_mark .nil pass0 (pa_cons (pe_call g__law_big (hr.mono (by decide)) rfl m__law_big F__law_big.kp b__law_big .nil pass0 (pa_cons (pvD 1) (pa_cons (pe_op (opD0 op_add) (pvD 2) (pvD 0)) pa_nil))) pa_nil)))) pa_nil)) pa_nil)))
      (pss_one (ps_expr (pe_bm PySem.F.plainAttrs_list PySem.F.slot_list_append PySem.F.type_list_append mt_append (pvD 5) (pa_cons (pe_callTy call_tuple_L rfl T.tuple PyProof.Rows.boot_tuple (pa_cons (pe_comp rfl (blk_mk rfl) (cp := c__law_says_8) ⟨⟨rfl, rfl⟩, ⟨⟨rfl, rfl⟩, ⟨⟨rfl, rfl⟩, ⟨⟨rfl, rfl⟩, True.intro⟩⟩⟩⟩ (pi_range1 rfl T.range (pa_cons (pvD 2) pa_nil)) (fun _ _ _ _ => (pg_name (i := 0) nd_c__law_says_8 rfl (Or.inl rfl))) (fun _ _ _ _ => pf_nil) (fun _ _ _ _ => (pe_op (opD op_mod) (pe_call g__law_big (hr.mono (by decide)) rfl m__law_big F__law_big.kp b__law_big .nil pass0 (pa_cons (pvD 2) (pa_cons (pe_op (opD0 op_add) (pe_op (opD0 op_add) (pvD 3) (pvD 4)) (pvD 0)) pa_nil))) (pvD 1)))) pa_nil)) pa_nil)))))))
      (pss_one (ps_ret (pe_tup (pa_cons (pvD 2) (pa_cons (pe_callTy call_tuple_L rfl T.tuple PyProof.Rows.boot_tuple (pa_cons (pvD 4) pa_nil)) (pa_cons (pe_callTy call_tuple_L rfl T.tuple PyProof.Rows.boot_tuple (pa_cons (pvD 5) pa_nil)) pa_nil))))))))), ?_⟩
    walk_at "rd"
    refine ⟨by omega, fun ps hps => ⟨by omega, fun pw hpw => ⟨by omega, by omega, ?_⟩⟩⟩
    rw [Int.toNat_natCast]
    have hpp : pw ≠ ps := (none_of_upd hpw).2
    have hpw0 : H pw = none := (none_of_upd hpw).1
    obtain ⟨Pv, hPv⟩ : ∃ Pv : Nat -> St -> Hp -> Prop, ∀ i σ' H', Pv i σ' H' ↔ (∃ (says ways : List (List Int)) (o o' : Option V), Same H H' /\ TupsL K H' ps says /\ TupsL K H' pw ways /\ says.length = i /\ ways.length = i /\ (∀ row ∈ says, row.length = L /\ ∀ x ∈ row, 0 <= x /\ x <= 1000000000) /\ (∀ row ∈ ways, row.length = L /\ ∀ x ∈ row, 0 <= x /\ x < (n : Int)) /\ σ' = [some (.ref a), some (.int c), some (.int L), some (.int n), some (.ref ps), some (.ref pw), o, o']) := ⟨_, fun _ _ _ => Iff.rfl⟩
    refine forR Pv ((hPv _ _ _).mpr ⟨[], [], none, none, (Same.new hps).newT hpw, TupsL.nil ((Same.new hpw) _ _ upd_same), TupsL.nil upd_same, rfl, rfl, by simp, by simp, rfl⟩) (fun i σ2 H2 hi h2 => ?_) (fun σ2 H2 h2 => ?_)
    . obtain ⟨says, ways, o, o', s2, hS, hW, hsl, hwl, hsr, hwr, rfl⟩ := (hPv _ _ _).mp h2
      obtain ⟨ts, ht1, _⟩ := id hS
      obtain ⟨us, hu1, _⟩ := id hW
      rw [Int.zero_add]
      walk_at "rd"
      have hb : 0 <= (L : Int) * (i : Int) /\ (L : Int) * (i : Int) <= 240 := by
        have h1 : L * i <= 6 * 40 := Nat.mul_le_mul (by omega) (by omega)
        have h2 : (L : Int) * (i : Int) = ((L * i : Nat) : Int) := by rw [Int.natCast_mul]
        omega
      have hcc : 0 <= c + 2 * (L : Int) * (i : Int) /\ c + 2 * (L : Int) * (i : Int) <= 2000 := by
        rw [Int.mul_assoc]; omega
      refine ⟨.inl ⟨by decide, by decide⟩, .inr ⟨by omega, by omega⟩, .inl ⟨rfl, _, SqL.of ht1⟩, by omega, by omega, ?_⟩
      generalize c + 2 * (L : Int) * (i : Int) = bs at hcc ⊢
      rw [Int.toNat_natCast]
      obtain ⟨Pm, hPm⟩ : ∃ Pc : Nat -> List V -> St -> Hp -> Prop, ∀ j ys σ4 H4, Pc j ys σ4 H4 ↔ (H4 = H2 /\ ∃ (row : List Int) (o : Option V), ys = row.map V.int /\ row.length = j /\ (∀ x ∈ row, 0 <= x /\ x <= 1000000000) /\ σ4 = [o, some (.ref a), some (.int bs)]) := ⟨_, fun _ _ _ _ => Iff.rfl⟩
      refine compR Pm ((hPm _ _ _ _).mpr ⟨rfl, [], none, rfl, rfl, (fun x hx => by cases hx), rfl⟩) (by omega) (fun j ys σ4 H4 _ h4 => ?_) (fun j ys σ4 H4 hj h4 => ?_) (fun ys σ4 H4 h4 D hD => ?_)
      . obtain ⟨_, row, o, rfl, hrl, _⟩ := (hPm _ _ _ _).mp h4
        rw [List.length_map]; omega
      . obtain ⟨rfl, row, o, rfl, hrl, hrr, rfl⟩ := (hPm _ _ _ _).mp h4
        rw [Int.zero_add]
        walk_at "rd"
        refine ⟨a, ns, bs + j, rfl, s2.seq hs, hz, by omega, by omega, fun x => ⟨x, rfl, fun y y0 y1 => (hPm _ _ _ _).mpr ⟨rfl, row ++ [y], _, by simp, by simp [hrl], fun z hz' => ?_, rfl⟩⟩⟩
        rcases List.mem_append.mp hz' with h | h
        . exact hrr z h
        . rw [List.mem_singleton.mp h]; exact ⟨y0, y1⟩
      obtain ⟨rfl, srow, o1, rfl, hsrl, hsrr, rfl⟩ := (hPm _ _ _ _).mp h4
      refine ⟨D, rfl, _, .inl ⟨SqL.of upd_same, fun t ht => ?_⟩⟩
      have sDt := (Same.new hD (o := .lst (srow.map V.int))).newT ht (o := .tup (srow.map V.int))
      obtain ⟨xs, e1, e2, e3⟩ := (hS.mono sDt).push (w := srow) (t := t) (SqT.of upd_same)
      have hWt := (hW.mono sDt).off e1 (ys := xs ++ [V.ref t]) hpp
      have s5 : Same H (upd (upd (upd H4 D (.lst (srow.map V.int))) t (.tup (srow.map V.int))) ps (.lst (xs ++ [V.ref t]))) := (s2.trans sDt).over hps
      refine ⟨xs, e1, by omega, ?_⟩
      generalize upd (upd (upd H4 D (.lst (srow.map V.int))) t (.tup (srow.map V.int))) ps (.lst (xs ++ [V.ref t])) = H5 at e3 hWt s5 ⊢
      obtain ⟨us, hu1, _⟩ := id hWt
      refine ⟨.inl ⟨rfl, _, SqL.of hu1⟩, by omega, by omega, ?_⟩
      obtain ⟨Pc, hPc⟩ : ∃ Pc : Nat -> List V -> St -> Hp -> Prop, ∀ j ys σ4 H6, Pc j ys σ4 H6 ↔ (H6 = H5 /\ ∃ (row : List Int) (o : Option V), ys = row.map V.int /\ row.length = j /\ (∀ x ∈ row, 0 <= x /\ x < (n : Int)) /\ σ4 = [o, some (.int n), some (.ref a), some (.int bs), some (.int L)]) := ⟨_, fun _ _ _ _ => Iff.rfl⟩
      refine compR Pc ((hPc _ _ _ _).mpr ⟨rfl, [], none, rfl, rfl, (fun x hx => by cases hx), rfl⟩) (by omega) (fun j ys σ4 H6 _ h6 => ?_) (fun j ys σ4 H6 hj h6 => ?_) (fun ys σ4 H6 h6 D2 hD2 => ?_)
      . obtain ⟨_, row, o, rfl, hrl, _⟩ := (hPc _ _ _ _).mp h6
        rw [List.length_map]; omega
      . obtain ⟨rfl, row, o, rfl, hrl, hrr, rfl⟩ := (hPc _ _ _ _).mp h6
        rw [Int.zero_add]
        walk_at "rd"
        refine ⟨a, ns, bs + L + j, rfl, s5.seq hs, hz, by omega, by omega, fun x => ⟨x, rfl, by omega, (hPc _ _ _ _).mpr ⟨rfl, row ++ [x % n], _, by simp, by simp [hrl], fun z hz' => ?_, rfl⟩⟩⟩
        rcases List.mem_append.mp hz' with h | h
        . exact hrr z h
        . rw [List.mem_singleton.mp h]; exact ⟨Int.emod_nonneg _ (by omega), Int.emod_lt_of_pos _ (by omega)⟩
      obtain ⟨rfl, wrow, o2, rfl, hwrl, hwrr, rfl⟩ := (hPc _ _ _ _).mp h6
      refine ⟨D2, rfl, _, .inl ⟨SqL.of upd_same, fun t2 ht2 => ?_⟩⟩
      have sDt2 := (Same.new hD2 (o := .lst (wrow.map V.int))).newT ht2 (o := .tup (wrow.map V.int))
      obtain ⟨ys2, f1, f2, f3⟩ := (hWt.mono sDt2).push (w := wrow) (t := t2) (SqT.of upd_same)
      have hSt := (e3.mono sDt2).off f1 (ys := ys2 ++ [V.ref t2]) (Ne.symm hpp)
      refine ⟨ys2, f1, by omega, (hPv _ _ _).mpr ⟨says ++ [srow], ways ++ [wrow], _, _, (s5.trans sDt2).over hpw0, hSt, f3, by simp [hsl], by simp [hwl], fun r hr => ?_, fun r hr => ?_, rfl⟩⟩
      . rcases List.mem_append.mp hr with h | h
        . exact hsr r h
        . rw [List.mem_singleton.mp h]; exact ⟨hsrl, hsrr⟩
      . rcases List.mem_append.mp hr with h | h
        . exact hwr r h
        . rw [List.mem_singleton.mp h]; exact ⟨hwrl, hwrr⟩
    . obtain ⟨says, ways, o, o', s2, hS, hW, hsl, hwl, hsr, hwr, rfl⟩ := (hPv _ _ _).mp h2
      walk_at "rd"
      obtain ⟨xs, hx1, hrs⟩ := hS.rows
      refine ⟨xs, .inl ⟨SqL.of hx1, fun t1 ht1 => ?_⟩⟩
      obtain ⟨ys, hy1, hrw⟩ := (hW.mono (Same.new ht1 (o := .tup xs))).rows
      refine ⟨ys, .inl ⟨SqL.of hy1, fun t2 ht2 => ⟨by omega, fun hh hhh => ?_⟩⟩⟩
      exact k hh says ways _ (((s2.newT ht1).newT ht2).newT hhh) ⟨t1, t2, SqT.of upd_same, (hrs t1 ht1).mono ((Same.new ht2).newT hhh), (hrw t2 ht2).mono (Same.new hhh)⟩
        ⟨⟨by omega, by omega, by rw [List.length_replicate]; omega, by rw [List.length_replicate]; omega, by rw [List.length_replicate]; omega, fun row hr => ⟨by have := (hwr row hr).1; omega, fun x hx => by rw [List.length_replicate]; have := (hwr row hr).2 x hx; omega⟩, fun m hm => by rw [List.eq_of_mem_replicate hm]; omega⟩, fun row hr => by have := (hsr row hr).1; omega⟩ hsl fun row hr => (hsr row hr).2
theorem Rows.T {K : PySem.W.Frag} {H : Hp} {w : Addr} {ws : List (List Int)} (h : Rows K H w ws) : ∃ zs, SqT K H w zs /\ RowsT K H zs ws := by
  obtain ⟨ts, a, b, c⟩ := h
  refine ⟨_, a, by rw [List.length_map]; exact b, fun i r hi => ?_⟩
  have hl : i < ts.length := by rw [b]; exact (List.getElem?_eq_some_iff.mp hi).1
  exact ⟨ts[i], by simp [hl], c i _ r (by simp [hl]) hi⟩
def sp_rare (K : PySem.W.Frag) : Sp := fun vs H Q _ => ∃ (a b : Addr) (us zs : List V) (ws : List (List Int)), vs = [.ref a, .ref b] /\ SqT K H a us /\ RowsT K H us ws /\ SqT K H b zs /\ RowsT K H zs ws /\ ws.length <= 900 /\ (∀ r ∈ ws, r.length <= 900) /\ Q (.bl true) H
theorem ok__law_rows_are {f : Addr} {fd : FuncData} (F : Fun K "_law_rows_are" "_law_rows_are" s__law_rows_are f fd) (T : Txt mg)
    (W : Own K mg)
    (Z : Exs K mg C_AskError C_BadHouse C_BadMark)
    {f__law_whole : Addr} {fd__law_whole : FuncData} (g__law_whole : FnOk P w K mg base CX0 1 f__law_whole fd__law_whole ["found"] (sp_whole)) (F__law_whole : Fun K "_law_whole" "_law_whole" s__law_whole f__law_whole fd__law_whole) (b__law_whole : Binds K fd__law_whole ["found"] []) (m__law_whole : mg "_law_whole" = some (.ref f__law_whole))
    : FnOk P w K mg base CX0 2 f fd ["found", "due"] (sp_rare K) := by
  refine F.ok sc__law_rows_are (fun vs H Q E h => ?_) (fun cdv A outer s H vs Q E hr h => ?_)
  . obtain ⟨a, b, us, zs, ws, rfl, _⟩ := h; rfl
  . obtain ⟨a, b, us, zs, ws, rfl, ha, hU, hb, hZ, hz1, hz2, k⟩ := h
    have hl := line1000
    refine ⟨_, (pss_cons (ps_if (PW.pt (pw_or (pt_not (ptB (pt_val (pe_callB call_isinstW rfl T.isinstance PyProof.Rows.boot_isinstance (pa_cons (pvD 0) (pa_cons (pe_bltn (v := .ty "tuple") rfl T.tuple PyProof.Rows.boot_tuple rfl) pa_nil)))))) (pw_or1 (ptT (pt_cmpR (opN op_ne) (pe_callB (lenD call_len_seq) (by rfl) T.len PySem.boot_len (pa_cons (pvD 0) pa_nil)) (pe_callB (lenD call_len_seq) (by rfl) T.len PySem.boot_len (pa_cons (pvD 1) pa_nil)) (nomark _))))))
      (pss_one (ps_ret pe_bl))
      pss_nil)
      (pss_cons (ps_for PassesOwn.never rfl (pi_range1 rfl T.range (pa_cons (pe_callB (lenD call_len_seq) (by rfl) T.len PySem.boot_len (pa_cons (pvD 1) pa_nil)) pa_nil)) (pg_name (i := 2) sc__law_rows_are.nd rfl (Or.inl rfl))
      (pss_cons (ps_if (PW.pt (pw_or (pt_not (ptB (pt_val (pe_callB call_isinstW rfl T.isinstance PyProof.Rows.boot_isinstance (pa_cons (pe_ixA (ixTD ix_tup) (pvD 0) (pvD 2)) (pa_cons (pe_bltn (v := .ty "tuple") rfl T.tuple PyProof.Rows.boot_tuple rfl) pa_nil)))))) (pw_or1 (ptT (pt_cmpR (opN op_ne) (pe_callB (lenD call_len_seq) (by rfl) T.len PySem.boot_len (pa_cons (pe_ixA (ixTD ix_tup) (pvD 0) (pvD 2)) pa_nil)) (pe_callB (lenD call_len_seq) (by rfl) T.len PySem.boot_len (pa_cons (pe_ixA (ixTD ix_tup) (pvD 1) (pvD 2)) pa_nil)) (nomark _))))))
      (pss_one (ps_ret pe_bl))
      pss_nil)
      (pss_one (ps_for PassesOwn.never rfl (pi_range1 rfl T.range (pa_cons (pe_callB (lenD call_len_seq) (by rfl) T.len PySem.boot_len (pa_cons (pe_ixA (ixTD ix_tup) (pvD 1) (pvD 2)) pa_nil)) pa_nil)) (pg_name (i := 3) sc__law_rows_are.nd rfl (Or.inl rfl))
      (pss_one (ps_if (PW.pt (pw_or (pt_not (ptB (pt_val (pe_call g__law_whole (hr.mono (by decide)) rfl m__law_whole F__law_whole.kp b__law_whole .nil pass0 (pa_cons (pe_ixA (ixTD ix_tup) (pe_ixA (ixTD ix_tup) (pvD 0) (pvD 2)) (pvD 3)) pa_nil))))) (pw_or1 (ptT (pt_cmpR (opN op_ne) (pe_ixA (ixTD ix_tup) (pe_ixA (ixTD ix_tup) (pvD 0) (pvD 2)) (pvD 3)) (pe_ixA (ixTD ix_tup) (pe_ixA (ixTD ix_tup) (pvD 1) (pvD 2)) (pvD 3)) (nomark _))))))
      (pss_one (ps_ret pe_bl))
      pss_nil))))))
      (pss_one (ps_ret pe_bl)))), ?_⟩
    walk_at "rd"
    refine ⟨_, _, .tup ha, rel_ty, _, kit_self, ?_⟩
    rw [if_neg (by decide)]
    refine ⟨_, .inr ha, _, .inr hb, ?_⟩
    rw [hU.1, hZ.1, if_neg (by simp)]
    refine ⟨_, .inr hb, by rw [hZ.1]; omega, by rw [hZ.1]; omega, ?_⟩
    rw [Int.toNat_natCast, hZ.1]
    obtain ⟨Pv, hPv⟩ : ∃ Pv : Nat -> St -> Hp -> Prop, ∀ i σ' H', Pv i σ' H' ↔ (H' = H /\ ∃ o1 o2, σ' = [some (.ref a), some (.ref b), o1, o2]) := ⟨_, fun _ _ _ => Iff.rfl⟩
    refine forR Pv ((hPv _ _ _).mpr ⟨rfl, none, none, rfl⟩) (fun i σ' H' hi h' => ?_) (fun σ' H' h' => ?_)
    . obtain ⟨rfl, o1, o2, rfl⟩ := (hPv _ _ _).mp h'
      rw [Int.zero_add]
      have hri : ws[i]? = some ws[i] := by simp [hi]
      obtain ⟨c, hc1, hc2⟩ := hU.2 i _ hri
      obtain ⟨d, hd1, hd2⟩ := hZ.2 i _ hri
      have hzi := hz2 _ (List.mem_of_getElem? hri)
      generalize ws[i] = r at hc2 hd2 hzi
      walk_at "rd"
      refine ⟨_, ha, _, atI_nat hc1, _, _, .tup hc2, rel_ty, _, kit_self, ?_⟩
      rw [if_neg (by decide)]
      refine ⟨_, ha, _, atI_nat hc1, c, rfl, _, .inr hc2, _, hb, _, atI_nat hd1, d, rfl, _, .inr hd2, ?_⟩
      rw [if_neg (by simp)]
      refine ⟨_, hb, _, atI_nat hd1, d, rfl, _, .inr hd2, by rw [List.length_map]; omega, by rw [List.length_map]; omega, ?_⟩
      rw [Int.toNat_natCast, List.length_map]
      obtain ⟨Pw, hPw⟩ : ∃ Pv : Nat -> St -> Hp -> Prop, ∀ j σ2 H2, Pv j σ2 H2 ↔ (H2 = H' /\ ∃ o2, σ2 = [some (.ref a), some (.ref b), some (.int i), o2]) := ⟨_, fun _ _ _ => Iff.rfl⟩
      refine forR Pw ((hPw _ _ _).mpr ⟨rfl, _, rfl⟩) (fun j σ2 H2 hj h2 => ?_) (fun σ2 H2 h2 => ?_)
      . obtain ⟨rfl, o2, rfl⟩ := (hPw _ _ _).mp h2
        rw [Int.zero_add]
        have hx : (r.map V.int)[j]? = some (V.int r[j]) := by simp [hj]
        walk_at "rd"
        refine ⟨_, ha, _, atI_nat hc1, c, rfl, _, hc2, _, atI_nat hx, r[j], rfl, _, rfl, ?_⟩
        rw [if_neg (by decide)]
        refine ⟨_, ha, _, atI_nat hc1, c, rfl, _, hc2, _, atI_nat hx, _, hb, _, atI_nat hd1, d, rfl, _, hd2, _, atI_nat hx, rfl, ?_⟩
        rw [if_neg (by simp)]
        exact (hPw _ _ _).mpr ⟨rfl, _, rfl⟩
      . obtain ⟨rfl, o2, rfl⟩ := (hPw _ _ _).mp h2
        exact (hPv _ _ _).mpr ⟨rfl, _, _, rfl⟩
    . obtain ⟨rfl, o1, o2, rfl⟩ := (hPv _ _ _).mp h'
      exact k
def sp_his (K : PySem.W.Frag) : Sp := fun vs H Q _ => ∃ (a b : Addr) (L : Int) (ss ws : List (List Int)), vs = [.ref a, .ref b] /\ SaysH K H a L ss ws /\ SaysH K H b L ss ws /\ ss.length <= 900 /\ ws.length <= 900 /\ (∀ r ∈ ss, r.length <= 900) /\ (∀ r ∈ ws, r.length <= 900) /\ Q (.bl true) H
theorem ok__law_house_is {f : Addr} {fd : FuncData} (F : Fun K "_law_house_is" "_law_house_is" s__law_house_is f fd) (T : Txt mg)
    (W : Own K mg)
    (Z : Exs K mg C_AskError C_BadHouse C_BadMark)
    {f__law_whole : Addr} {fd__law_whole : FuncData} (g__law_whole : FnOk P w K mg base CX0 1 f__law_whole fd__law_whole ["found"] (sp_whole)) (F__law_whole : Fun K "_law_whole" "_law_whole" s__law_whole f__law_whole fd__law_whole) (b__law_whole : Binds K fd__law_whole ["found"] []) (m__law_whole : mg "_law_whole" = some (.ref f__law_whole))
    {f__law_rows_are : Addr} {fd__law_rows_are : FuncData} (g__law_rows_are : FnOk P w K mg base CX0 2 f__law_rows_are fd__law_rows_are ["found", "due"] (sp_rare K)) (F__law_rows_are : Fun K "_law_rows_are" "_law_rows_are" s__law_rows_are f__law_rows_are fd__law_rows_are) (b__law_rows_are : Binds K fd__law_rows_are ["found", "due"] []) (m__law_rows_are : mg "_law_rows_are" = some (.ref f__law_rows_are))
    : FnOk P w K mg base CX0 3 f fd ["found", "due"] (sp_his K) := by
  refine F.ok sc__law_house_is (fun vs H Q E h => ?_) (fun cdv A outer s H vs Q E hr h => ?_)
  . obtain ⟨a, b, L, ss, ws, rfl, _⟩ := h; rfl
  . obtain ⟨a, b, L, ss, ws, rfl, ⟨m1, y1, h1, hm1, hy1⟩, ⟨m2, y2, h2, hm2, hy2⟩, hz1, hz2, hz3, hz4, k⟩ := h
    obtain ⟨us1, e1, t1⟩ := Rows.T hm1
    obtain ⟨us2, e2, t2⟩ := Rows.T hm2
    obtain ⟨vs1, e3, t3⟩ := Rows.T hy1
    obtain ⟨vs2, e4, t4⟩ := Rows.T hy2
    refine ⟨_, (pss_cons (ps_if (PW.pt (pw_or (pt_not (ptB (pt_val (pe_callB call_isinstW rfl T.isinstance PyProof.Rows.boot_isinstance (pa_cons (pvD 0) (pa_cons (pe_bltn (v := .ty "tuple") rfl T.tuple PyProof.Rows.boot_tuple rfl) pa_nil)))))) (pw_or1 (ptT (pt_cmpR (opN op_ne) (pe_callB (lenD call_len_seq) (by rfl) T.len PySem.boot_len (pa_cons (pvD 0) pa_nil)) pe_int (nomark _))))))
      (pss_one (ps_ret pe_bl))
      pss_nil)
      (pss_cons (ps_if (PW.pt (pw_or (pt_not (ptB (pt_val (pe_call g__law_whole (hr.mono (by decide)) rfl m__law_whole F__law_whole.kp b__law_whole .nil pass0 (pa_cons (pe_ixA (ixTD ix_tup) (pvD 0) pe_int) pa_nil))))) (pw_or1 (ptT (pt_cmpR (opN op_ne) (pe_ixA (ixTD ix_tup) (pvD 0) pe_int) (pe_ixA (ixTD ix_tup) (pvD 1) pe_int) (nomark _))))))
      (pss_one (ps_ret pe_bl))
      pss_nil)
      (pss_one (ps_ret (pe_and (pe_call g__law_rows_are (hr.mono (by decide)) rfl m__law_rows_are F__law_rows_are.kp b__law_rows_are .nil pass0 (pa_cons (pe_ixA (ixTD ix_tup) (pvD 0) pe_int) (pa_cons (pe_ixA (ixTD ix_tup) (pvD 1) pe_int) pa_nil))) (pe_one (pe_call g__law_rows_are (hr.mono (by decide)) rfl m__law_rows_are F__law_rows_are.kp b__law_rows_are .nil pass0 (pa_cons (pe_ixA (ixTD ix_tup) (pvD 0) pe_int) (pa_cons (pe_ixA (ixTD ix_tup) (pvD 1) pe_int) pa_nil))))))))), ?_⟩
    walk_at "rd"
    refine ⟨_, _, .tup h1, rel_ty, _, kit_self, ?_⟩
    rw [if_neg (by decide)]
    refine ⟨_, .inr h1, ?_⟩
    rw [if_neg (by simp)]
    refine ⟨_, h1, _, rfl, L, rfl, _, rfl, ?_⟩
    rw [if_neg (by decide)]
    refine ⟨_, h1, _, rfl, _, h2, _, rfl, rfl, ?_⟩
    rw [if_neg (by simp)]
    refine ⟨_, h1, _, rfl, _, h2, _, rfl, m1, m2, us1, us2, ss, rfl, e1, t1, e2, t2, hz1, hz3, ?_⟩
    refine ⟨true, rfl, ?_⟩
    rw [if_pos rfl]
    exact ⟨_, h1, _, rfl, _, h2, _, rfl, y1, y2, vs1, vs2, ws, rfl, e3, t3, e4, t4, hz2, hz4, k⟩
def sp_talk (K : PySem.W.Frag) : Sp := fun vs H Q _ => ∃ (h a : Addr) (L : Int) (says ways : List (List Int)) (ws : List Int), vs = [.ref h, .ref a] /\ SaysH K H h L says ways /\ WfS L says ways /\ SqT K H a (ws.map V.int) /\ ws.length <= 600 /\ isW L ws = true /\ ∀ p H', Same H H' -> H' p = some (.lst ((sayW says ways ws).map V.int)) -> Q (.ref p) H'
theorem ok__law_talk {f : Addr} {fd : FuncData} (F : Fun K "_law_talk" "_law_talk" s__law_talk f fd) (T : Txt mg)
    (W : Own K mg)
    (Z : Exs K mg C_AskError C_BadHouse C_BadMark)
    : FnOk P w K mg base CX0 1 f fd ["house", "word"] (sp_talk K) := by
  refine F.ok sc__law_talk (fun vs H Q E h => ?_) (fun cdv A outer s H vs Q E hr h => ?_)
  . obtain ⟨h, a, L, says, ways, ws, rfl, _⟩ := h; rfl
  . obtain ⟨h, a, L, says, ways, ws, rfl, hh, wf, hw, hz, hv, k⟩ := h
    have hl := line1000
    refine ⟨_, (pss_cons (ps_setL (i := 2) sc__law_talk.nd pe_int)
      (pss_cons (ps_setL (i := 3) sc__law_talk.nd (pe_lst pa_nil))
      (pss_cons (ps_for PassesOwn.never rfl (pi_tup (pvD 1)) (pg_name (i := 4) sc__law_talk.nd rfl (Or.inl rfl))
      (pss_cons (ps_expr (pe_bm PySem.F.plainAttrs_list PySem.F.slot_list_append PySem.F.type_list_append mt_append (pvD 3) (pa_cons (pe_ixA (ixTD ix_tup) (pe_ixA (ixTD ix_tup) (pe_ixA (ixTD ix_tup) (pvD 0) pe_int) (pvD 2)) (pvD 4)) pa_nil)))
      (pss_one (ps_setL (i := 2) sc__law_talk.nd (pe_ixA (ixTD ix_tup) (pe_ixA (ixTD ix_tup) (pe_ixA (ixTD ix_tup) (pvD 0) pe_int) (pvD 2)) (pvD 4))))))
      (pss_one (ps_ret (pvD 3)))))), ?_⟩
    walk_at "rd"
    refine ⟨by omega, fun p hp => ?_⟩
    have s0 := Same.new hp (o := .lst [])
    obtain ⟨Pv, hPv⟩ : ∃ Pv : Nat -> St -> Hp -> Prop, ∀ i σ2 H2, Pv i σ2 H2 ↔ (Same H H2 /\ H2 p = some (.lst (((List.range i).map fun j => stepW says (walkW ways (ws.take j)) (ws.getD j 0)).map V.int)) /\ ∃ o, σ2 = [some (.ref h), some (.ref a), some (.int (walkW ways (ws.take i))), some (.ref p), o]) := ⟨_, fun _ _ _ => Iff.rfl⟩
    refine ⟨⟨_, s0.seqT hw⟩, forT (xs := ws.map V.int) Pv ((hPv _ _ _).mpr ⟨s0, by rw [upd_same]; rfl, none, rfl⟩) (fun i σ2 H2 _ h => ((hPv _ _ _).mp h).1.seqT hw) (fun i x σ2 H2 hx h => ?_) (fun σ2 H2 h => ?_)⟩
    . obtain ⟨s3, hp3, o, rfl⟩ := (hPv _ _ _).mp h
      obtain ⟨n, hn, rfl⟩ := get_mapI hx
      have hi := (List.getElem?_eq_some_iff.mp hn).1
      have hx := isW_iff.mp hv n (List.mem_of_getElem? hn)
      have hwk := wf.walk hv i
      obtain ⟨row, g, r1, r2, r3, r4, r5⟩ := wf.wf.step hwk.1 (by rw [List.length_replicate]; exact hwk.2) hx.1 hx.2
      obtain ⟨srow, s1, s2⟩ := wf.at hwk.1 hwk.2 hx.1 hx.2
      obtain ⟨m, wv, h1, h2, h3⟩ := hh.mono s3
      obtain ⟨xs, t, q1, q2, q3⟩ := h2.atZ hwk.1 s1
      walk_at "rd"
      refine ⟨.inl ⟨rfl, _, SqL.of hp3⟩, _, h1, _, rfl, ?_⟩
      walk_at "rd"
      refine ⟨_, q1, _, q2, ?_⟩
      walk_at "rd"
      refine ⟨_, q3, _, atI_int hx.1 s2, _, hp3, by simp; omega, ?_⟩
      have s4 : Same H (upd H2 p (.lst ((((List.range i).map fun j => stepW says (walkW ways (ws.take j)) (ws.getD j 0)).map V.int) ++ [V.int (stepW says (walkW ways (ws.take i)) n)]))) := s3.over hp
      obtain ⟨m, wv, h1, h2, h3⟩ := hh.mono s4
      obtain ⟨xs, t, q1, q2, q3⟩ := h3.atZ hwk.1 r1
      refine ⟨_, h1, _, rfl, ?_⟩
      walk_at "rd"
      refine ⟨_, q1, _, q2, ?_⟩
      walk_at "rd"
      refine ⟨_, q3, _, atI_int hx.1 r2, (hPv _ _ _).mpr ⟨s4, ?_, some (.int n), ?_⟩⟩
      . rw [upd_same, List.range_succ, List.map_append, List.map_append, List.map_singleton, List.map_singleton, show ws.getD i 0 = n from by rw [List.getD_eq_getElem?_getD, hn]; rfl]
      . rw [<- r3, <- walkW_take hn]
    . obtain ⟨s3, hp3, o, rfl⟩ := (hPv _ _ _).mp h
      walk_at "rd"
      rw [List.length_map] at hp3
      exact k p H2 s3 hp3
def sp_row_is64 (K : PySem.W.Frag) : Sp := fun vs H Q _ => ∃ (a b : Addr) (xs : List Int), vs = [.ref a, .ref b] /\ SqT K H a (xs.map V.int) /\ SqT K H b (xs.map V.int) /\ xs.length <= 900 /\ Q (.bl true) H
theorem ok__law_row_is {f : Addr} {fd : FuncData} (F : Fun K "_law_row_is" "_law_row_is" s__law_row_is f fd) (T : Txt mg)
    (W : Own K mg)
    (Z : Exs K mg C_AskError C_BadHouse C_BadMark)
    {f__law_whole : Addr} {fd__law_whole : FuncData} (g__law_whole : FnOk P w K mg base CX0 1 f__law_whole fd__law_whole ["found"] (sp_whole)) (F__law_whole : Fun K "_law_whole" "_law_whole" s__law_whole f__law_whole fd__law_whole) (b__law_whole : Binds K fd__law_whole ["found"] []) (m__law_whole : mg "_law_whole" = some (.ref f__law_whole))
    : FnOk P w K mg base CX0 2 f fd ["found", "due"] (sp_row_is64 K) := by
  refine F.ok sc__law_row_is (fun vs H Q E h => ?_) (fun cdv A outer s H vs Q E hr h => ?_)
  . obtain ⟨a, b, xs, rfl, _⟩ := h; rfl
  . obtain ⟨a, b, xs, rfl, ha, hb, hz, k⟩ := h
    refine ⟨_, (pss_cons (ps_if (PW.pt (pw_or (pt_not (ptB (pt_val (pe_callB call_isinstW rfl T.isinstance PyProof.Rows.boot_isinstance (pa_cons (pvD 0) (pa_cons (pe_bltn (v := .ty "tuple") rfl T.tuple PyProof.Rows.boot_tuple rfl) pa_nil)))))) (pw_or1 (ptT (pt_cmpR (opN op_ne) (pe_callB (lenD call_len_seq) (by rfl) T.len PySem.boot_len (pa_cons (pvD 0) pa_nil)) (pe_callB (lenD call_len_seq) (by rfl) T.len PySem.boot_len (pa_cons (pvD 1) pa_nil)) (nomark _))))))
      (pss_one (ps_ret pe_bl))
      pss_nil)
      (pss_cons (ps_for PassesOwn.never rfl (pi_range1 rfl T.range (pa_cons (pe_callB (lenD call_len_seq) (by rfl) T.len PySem.boot_len (pa_cons (pvD 1) pa_nil)) pa_nil)) (pg_name (i := 2) sc__law_row_is.nd rfl (Or.inl rfl))
      (pss_one (ps_if (PW.pt (pw_or (pt_not (ptB (pt_val (pe_call g__law_whole (hr.mono (by decide)) rfl m__law_whole F__law_whole.kp b__law_whole .nil pass0 (pa_cons (pe_ixA (ixTD ix_tup) (pvD 0) (pvD 2)) pa_nil))))) (pw_or1 (ptT (pt_cmpR (opN op_ne) (pe_ixA (ixTD ix_tup) (pvD 0) (pvD 2)) (pe_ixA (ixTD ix_tup) (pvD 1) (pvD 2)) (nomark _))))))
      (pss_one (ps_ret pe_bl))
      pss_nil)))
      (pss_one (ps_ret pe_bl)))), ?_⟩
    walk_at "rd"
    refine ⟨_, _, .tup ha, rel_ty, _, kit_self, ?_⟩
    rw [if_neg (by decide)]
    refine ⟨_, .inr ha, _, .inr hb, ?_⟩
    rw [if_neg (by simp)]
    refine ⟨_, .inr hb, ?_⟩
    rw [List.length_map]
    refine ⟨by omega, by omega, ?_⟩
    rw [Int.toNat_natCast]
    refine forR (fun i σ3 H3 => H3 = H /\ ∃ o2, σ3 = [some (.ref a), some (.ref b), o2]) ⟨rfl, _, rfl⟩ (fun i σ3 H3 hi h3 => ?_) (fun σ3 H3 h3 => ?_)
    . obtain ⟨rfl, o2, rfl⟩ := h3
      rw [Int.zero_add]
      have hx : xs[(i : Int).toNat]? = some xs[i] := by simp [hi]
      walk_at "rd"
      refine ⟨_, ha, _, atI_int (by omega) hx, xs[i], rfl, _, rfl, ?_⟩
      rw [if_neg (by decide)]
      refine ⟨_, ha, _, atI_int (by omega) hx, _, hb, _, atI_int (by omega) hx, rfl, ?_⟩
      rw [if_neg (by simp)]
      exact ⟨rfl, _, rfl⟩
    . obtain ⟨rfl, o2, rfl⟩ := h3
      walk_at "rd"
      exact k
def glS (says ways : List (List Int)) (r : Nat) : List (List Int) := List.zipWith (fun a b => [a, b]) (ways.getD r []) (says.getD r [])
def sp_goals54 (K : PySem.W.Frag) : Sp := fun vs H Q _ => ∃ (h : Addr) (L : Nat) (says ways : List (List Int)) (x : V) (r : Nat), vs = [.ref h, x] /\ SaysH K H h L says ways /\ WfS L says ways /\ r < says.length /\ ((x = .non /\ r = 0) \/ ∃ p m, x = .ref p /\ SqT K H p [.int r, .int m]) /\ ∀ l rs H', Same H H' -> H l = none -> H' l = some (.lst rs) -> WordsT K H' rs (glS says ways r) -> Q (.ref l) H'
theorem glS_at {says ways : List (List Int)} {r i : Nat} {a b : Int} {r1 r2 : List Int} (h1 : ways[r]? = some r1) (h2 : says[r]? = some r2) (ha : r1[i]? = some a) (hb : r2[i]? = some b) : (glS says ways r)[i]? = some [a, b] := by
  unfold glS
  rw [List.getD_eq_getElem?_getD, List.getD_eq_getElem?_getD, h1, h2, List.getElem?_zipWith]
  simp only [Option.getD_some, ha, hb]
theorem ok_goals_of {f : Addr} {fd : FuncData} (F : Fun K "goals_of" "goals_of" s_goals_of f fd) (T : Txt mg)
    (W : Own K mg)
    (Z : Exs K mg C_AskError C_BadHouse C_BadMark)
    : FnOk P w K mg base CX0 1 f fd ["house", "pair"] (sp_goals54 K) := by
  refine F.ok sc_goals_of (fun vs H Q E h => ?_) (fun cdv A outer s H vs Q E hr h => ?_)
  . obtain ⟨h, L, says, ways, x, r, rfl, _⟩ := h; rfl
  . obtain ⟨h, L, says, ways, x, r, rfl, hh, wf, hr', hx, k⟩ := h
    have hl := line1000
    refine ⟨_, (pss_cons (ps_setL (i := 2) sc_goals_of.nd (pe_ifExp (ptT (pt_cmpR op_isN (pvD 1) pe_non (nomark _))) pe_int (pe_ixA (ixTD ix_tup) (pvD 1) pe_int)))
      (pss_one (ps_ret (pe_listZipB rfl rfl rfl T.list rfl T.zip (pa_cons (pe_ixA (ixTD ix_tup) (pe_ixA (ixTD ix_tup) (pvD 0) pe_int) (pvD 2)) (pa_cons (pe_ixA (ixTD ix_tup) (pe_ixA (ixTD ix_tup) (pvD 0) pe_int) (pvD 2)) pa_nil)))))), ?_⟩
    obtain ⟨mm, wv, q1, q2, q3⟩ := id hh
    have hwl : ways.length = says.length := by have := wf.wf.len; rw [List.length_replicate] at this; exact this
    have e1 : ways[r]? = some ways[r] := by simp [show r < ways.length by omega]
    have e2 : says[r]? = some says[r] := by simp [hr']
    have l1 := (wf.wf.rows ways[r] (List.getElem_mem _)).1
    have l2 := wf.sr says[r] (List.getElem_mem _)
    have hL6 := wf.wf.l6
    generalize ways[r] = r1 at e1 l1
    generalize says[r] = r2 at e2 l2
    obtain ⟨xs2, t2, a1, a2, a3⟩ := q2.at e2
    obtain ⟨xs3, t3, b1, b2, b3⟩ := q3.at e1
    have fin : ∀ (l : Addr) (rs : List V) (H' : Hp), Same H H' -> H' l = none -> rs.length = (r1.map V.int).length -> (∀ (i : Nat) (x y : V), (r1.map V.int)[i]? = some x -> (r2.map V.int)[i]? = some y -> ∃ t, rs[i]? = some (V.ref t) /\ H' t = some (HO.tup [x, y])) -> Q (V.ref l) (upd H' l (HO.lst rs)) := by
      intro l rs H' s' hl' hrl hrs
      refine k l rs _ (s'.newT hl') (s'.none hl') upd_same ⟨?_, fun i w hi => ?_⟩
      . unfold glS
        rw [List.getD_eq_getElem?_getD, List.getD_eq_getElem?_getD, e1, e2, List.length_zipWith, hrl, List.length_map]
        show r1.length = min r1.length r2.length
        omega
      . have hi1 : i < (glS says ways r).length := (List.getElem?_eq_some_iff.mp hi).1
        have hi2 : i < r1.length := by
          unfold glS at hi1
          rw [List.getD_eq_getElem?_getD, List.getD_eq_getElem?_getD, e1, e2, List.length_zipWith] at hi1
          have : i < min r1.length r2.length := hi1
          omega
        have hi3 : i < r2.length := by omega
        have g := glS_at e1 e2 (List.getElem?_eq_getElem hi2) (List.getElem?_eq_getElem hi3)
        rw [hi] at g
        cases g
        obtain ⟨t, t1, t4⟩ := hrs i (.int r1[i]) (.int r2[i]) (by rw [List.getElem?_map, List.getElem?_eq_getElem hi2]; rfl) (by rw [List.getElem?_map, List.getElem?_eq_getElem hi3]; rfl)
        exact ⟨t, t1, Same.new hl' _ _ t4⟩
    have hlen : (r1.map V.int).length = (r2.map V.int).length := by rw [List.length_map, List.length_map]; omega
    have h1000 : (r1.map V.int).length <= 1000 := by rw [List.length_map]; omega
    walk_at "rd"
    rcases hx with ⟨rfl, rfl⟩ | ⟨p, m, rfl, hp⟩
    . refine ite2 (fun _ => ?_) (fun z => absurd rfl z)
      exact ⟨_, q1, _, rfl, wv, rfl, _, b1, _, b2, _, q1, _, rfl, mm, rfl, _, a1, _, a2, t3, rfl, t2, rfl, _, _, true, b3, true, a3, hlen, h1000, fin⟩
    . refine ite2 (fun z => nomatch z) (fun _ => ?_)
      exact ⟨p, rfl, _, hp, _, rfl, _, q1, _, rfl, wv, rfl, _, _, rfl, b1, _, b2, _, q1, _, rfl, mm, rfl, _, _, rfl, a1, _, a2, t3, rfl, t2, rfl, _, _, true, b3, true, a3, hlen, h1000, fin⟩
theorem firstsA_pre {α : Type} [DecidableEq α] : ∀ (row acc : List α), acc <+: firstsA acc row
  | [], acc => List.prefix_refl _
  | x :: row, acc => by
    refine List.IsPrefix.trans ?_ (firstsA_pre row (ins1 acc x))
    unfold ins1
    split
    . exact List.prefix_refl _
    . exact List.prefix_append _ _
theorem firstsA_take {α : Type} [DecidableEq α] {acc row : List α} {i : Nat} {x : α} (h : row[i]? = some x) : firstsA acc (row.take (i + 1)) = ins1 (firstsA acc (row.take i)) x := by
  rw [List.take_add_one, h]
  unfold firstsA
  rw [List.foldl_append]; rfl
def ixOf {α : Type} [DecidableEq α] (l : List α) (x : α) : Nat := l.idxOf x
theorem ixW (ws : List (List Int)) (v : List Int) : ws.idxOf v = ixOf ws v := by
  unfold ixOf List.idxOf
  congr 1
  funext x
  by_cases e : x = v
  . subst e
    simp
  . rw [beq_eq_false_iff_ne.mpr e]
    exact (decide_eq_false e).symm
theorem pre_idx {α : Type} [DecidableEq α] {l m : List α} {x : α} (h : l <+: m) (hx : x ∈ l) : ixOf m x = ixOf l x := by
  obtain ⟨t, rfl⟩ := h
  unfold ixOf
  rw [List.idxOf_append, if_pos hx]
theorem pre_get {α : Type} {l m : List α} {i : Nat} {x : α} (h : l <+: m) (hi : l[i]? = some x) : m[i]? = some x := by
  obtain ⟨t, rfl⟩ := h
  rw [List.getElem?_append_left (List.getElem?_eq_some_iff.mp hi).1]; exact hi
theorem getD_of {l : List (List Int)} {i : Nat} (h : i < l.length) : l.getD i [] = l[i] := by rw [List.getD_eq_getElem?_getD, List.getElem?_eq_getElem h]; rfl
def roomP (ps : List (List Int)) (i : Nat) : Nat := if i = 0 then 0 else ((ps.getD (i - 1) []).getD 0 0).toNat
def runP (says ways : List (List Int)) : Nat -> List (List Int)
  | 0 => []
  | i + 1 => if i < 1 + (runP says ways i).length then firstsA (runP says ways i) (glS says ways (roomP (runP says ways i) i)) else runP says ways i
theorem runP_go {says ways : List (List Int)} {i : Nat} (h : i < 1 + (runP says ways i).length) : runP says ways (i + 1) = firstsA (runP says ways i) (glS says ways (roomP (runP says ways i) i)) := by
  show (if _ then _ else _) = _
  rw [if_pos h]
theorem runP_pre1 (says ways : List (List Int)) (i : Nat) : runP says ways i <+: runP says ways (i + 1) := by
  show _ <+: (if _ then _ else _)
  split
  . exact firstsA_pre _ _
  . exact List.prefix_refl _
theorem runP_pre {says ways : List (List Int)} {i j : Nat} (h : i <= j) : runP says ways i <+: runP says ways j := by
  induction j with
  | zero => rw [show i = 0 by omega]; exact List.prefix_refl _
  | succ j ih =>
    by_cases e : i = j + 1
    . rw [e]; exact List.prefix_refl _
    . exact (ih (by omega)).trans (runP_pre1 _ _ _)
theorem runP_nodup (says ways : List (List Int)) : ∀ i, (runP says ways i).Nodup
  | 0 => List.nodup_nil
  | i + 1 => by
    show (if _ then _ else _ : List (List Int)).Nodup
    split
    . exact nodup_firstsA (runP_nodup says ways i)
    . exact runP_nodup says ways i
structure InG (L : Int) (n : Nat) (says ways : List (List Int)) (g : List Int) : Prop where
  ex : ∃ r x : Nat, r < n /\ (x : Int) < L /\ g = [stepW ways r x, stepW says r x]
theorem glS_len {L : Int} {says ways : List (List Int)} (wf : WfS L says ways) {r : Nat} (h : r < says.length) : ((glS says ways r).length : Int) = L := by
  have hwl : ways.length = says.length := by have := wf.wf.len; rw [List.length_replicate] at this; exact this
  have e1 : ways[r]? = some ways[r] := by simp [show r < ways.length by omega]
  have e2 : says[r]? = some says[r] := by simp [h]
  have l1 := (wf.wf.rows ways[r] (List.getElem_mem _)).1
  have l2 := wf.sr says[r] (List.getElem_mem _)
  unfold glS
  rw [List.getD_eq_getElem?_getD, List.getD_eq_getElem?_getD, e1, e2, List.length_zipWith]
  show ((min ways[r].length says[r].length : Nat) : Int) = L
  omega
theorem glS_get {L : Int} {says ways : List (List Int)} (wf : WfS L says ways) {r x : Nat} (h : r < says.length) (hx : (x : Int) < L) : (glS says ways r)[x]? = some [stepW ways r x, stepW says r x] := by
  have hwl : (List.replicate says.length (0 : Int)).length = says.length := List.length_replicate
  obtain ⟨row, g, a1, a2, a3, _⟩ := wf.wf.step (r := (r : Int)) (x := (x : Int)) (by omega) (by rw [hwl]; omega) (by omega) hx
  obtain ⟨row2, b1, b2⟩ := wf.at (r := (r : Int)) (x := (x : Int)) (by omega) (by omega) (by omega) hx
  rw [Int.toNat_natCast] at a1 a2 b1 b2
  rw [glS_at a1 b1 a2 b2, <- a3]
theorem glS_in {L : Int} {says ways : List (List Int)} (wf : WfS L says ways) {r : Nat} (h : r < says.length) {g : List Int} (hg : g ∈ glS says ways r) : InG L says.length says ways g := by
  obtain ⟨i, hi⟩ := List.mem_iff_getElem?.mp hg
  have hl := glS_len wf h
  have hi' := (List.getElem?_eq_some_iff.mp hi).1
  have e := glS_get wf h (x := i) (by omega)
  rw [hi] at e
  exact ⟨r, i, h, by omega, Option.some.inj e⟩
theorem InG.room {L : Int} {says ways : List (List Int)} (wf : WfS L says ways) {g : List Int} (h : InG L says.length says ways g) : ∃ (r : Nat) (m : Int), r < says.length /\ g = [(r : Int), m] := by
  obtain ⟨r, x, hr, hx, rfl⟩ := h.ex
  obtain ⟨row, g, a1, a2, a3, a4, a5⟩ := wf.wf.step (r := (r : Int)) (x := (x : Int)) (by omega) (by rw [List.length_replicate]; omega) (by omega) hx
  rw [List.length_replicate] at a5
  exact ⟨(stepW ways r x).toNat, stepW says r x, by omega, by rw [Int.toNat_of_nonneg (by omega)]⟩
theorem runP_in {L : Int} {says ways : List (List Int)} (wf : WfS L says ways) : ∀ i, ∀ g ∈ runP says ways i, InG L says.length says ways g
  | 0, g, h => by simp [runP] at h
  | i + 1, g, h => by
    have ih := runP_in wf i
    by_cases c : i < 1 + (runP says ways i).length
    . rw [runP_go c] at h
      rcases mem_firstsA.mp h with h | h
      . exact ih g h
      . refine glS_in wf ?_ h
        have hn1 := wf.wf.n1
        rw [List.length_replicate] at hn1
        unfold roomP
        split
        . omega
        . have hi : i - 1 < (runP says ways i).length := by omega
          obtain ⟨r, m, hr, e⟩ := (ih _ (List.getElem_mem hi)).room wf
          rw [getD_of hi, e]
          exact hr
    . have e : runP says ways (i + 1) = runP says ways i := by show (if _ then _ else _) = _; rw [if_neg c]
      rw [e] at h
      exact ih g h
theorem roomP_lt {L : Int} {says ways : List (List Int)} (wf : WfS L says ways) {i j : Nat} (c : i < 1 + (runP says ways j).length) : roomP (runP says ways j) i < says.length := by
  have hn1 := wf.wf.n1
  rw [List.length_replicate] at hn1
  unfold roomP
  split
  . omega
  . have hi : i - 1 < (runP says ways j).length := by omega
    obtain ⟨r, m, hr, e⟩ := (runP_in wf j _ (List.getElem_mem hi)).room wf
    rw [getD_of hi, e]
    exact hr
theorem runP_len {L : Nat} {says ways : List (List Int)} (wf : WfS L says ways) (i : Nat) : (runP says ways i).length <= says.length * L := by
  have h1 : ∀ g ∈ runP says ways i, g ∈ (List.range says.length).flatMap (glS says ways) := fun g hg => by
    obtain ⟨r, x, hr, hx, e⟩ := (runP_in wf i g hg).ex
    refine List.mem_flatMap.mpr ⟨r, List.mem_range.mpr hr, ?_⟩
    rw [e]
    exact List.mem_of_getElem? (glS_get wf hr hx)
  have h2 := nod_sub' (runP_nodup says ways i) h1
  have h3 : ∀ n, n <= says.length -> ((List.range n).flatMap (glS says ways)).length = n * L := by
    intro n
    induction n with
    | zero => intro _; simp
    | succ n ih =>
      intro hn
      have := glS_len wf (r := n) (by omega)
      rw [List.range_succ, List.flatMap_append, List.length_append, ih (by omega), List.flatMap_singleton, Nat.succ_mul]
      omega
  rw [h3 _ (Nat.le_refl _)] at h2
  exact h2
def allP (L : Nat) (says ways : List (List Int)) : List (List Int) := runP says ways (1 + says.length * L)
theorem runP_stop {says ways : List (List Int)} {i : Nat} (h : ¬ i < 1 + (runP says ways i).length) : ∀ j, i <= j -> runP says ways j = runP says ways i := by
  intro j
  induction j with
  | zero => intro hj; rw [show i = 0 by omega]
  | succ j ih =>
    intro hj
    by_cases e : i = j + 1
    . rw [e]
    . have := ih (by omega)
      show (if _ then _ else _) = _
      rw [if_neg (by rw [this]; omega)]
      exact this
theorem allP_of {L : Nat} {says ways : List (List Int)} (wf : WfS L says ways) {i : Nat} (h : ¬ i < 1 + (runP says ways i).length) (hi : i <= 1 + (runP says ways i).length) : runP says ways i = allP L says ways /\ i = 1 + (allP L says ways).length := by
  have h1 := runP_len wf i
  have e := runP_stop h (1 + says.length * L) (by omega)
  unfold allP
  rw [e]
  exact ⟨rfl, by omega⟩
def rowP (says ways : List (List Int)) (N : List (List Int)) (i : Nat) : List Int := (glS says ways (roomP N i)).map fun g => 1 + ((ixOf N g : Nat) : Int)
theorem roomP_pre {l m : List (List Int)} (h : l <+: m) {i : Nat} (hi : i < 1 + l.length) : roomP m i = roomP l i := by
  unfold roomP
  split
  . rfl
  . have hi' : i - 1 < l.length := by omega
    have e := pre_get h (List.getElem?_eq_getElem hi')
    have e2 : m.getD (i - 1) [] = l[i - 1] := by rw [List.getD_eq_getElem?_getD, e]; rfl
    rw [e2, getD_of hi']
theorem rowP_pre {L : Nat} {says ways : List (List Int)} (wf : WfS L says ways) {i : Nat} (hi : i < 1 + (runP says ways i).length) : rowP says ways (allP L says ways) i = (glS says ways (roomP (runP says ways i) i)).map fun g => 1 + ((ixOf (runP says ways (i + 1)) g : Nat) : Int) := by
  have h1 := runP_len wf i
  have p1 : runP says ways i <+: allP L says ways := runP_pre (by omega)
  have p2 : runP says ways (i + 1) <+: allP L says ways := runP_pre (by omega)
  unfold rowP
  rw [roomP_pre p1 hi]
  refine List.map_congr_left fun g hg => ?_
  have hm : g ∈ runP says ways (i + 1) := by rw [runP_go hi]; exact mem_firstsA.mpr (.inr hg)
  rw [pre_idx p2 hm]
def mksP (mk : Int) (N : List (List Int)) : List Int := mk :: N.map fun g => g.getD 1 0
def rowsP (says ways : List (List Int)) (N : List (List Int)) : List (List Int) := (List.range (1 + N.length)).map (rowP says ways N)
def numD {α κ : Type} [DecidableEq α] (k : α -> κ) (ks : List α) : List (κ × V) := ks.map fun x => (k x, V.int ((ks.idxOf x : Nat) : Int))
theorem numD_len {α κ : Type} [DecidableEq α] {k : α -> κ} {ks : List α} : (numD k ks).length = ks.length := by unfold numD; rw [List.length_map]
theorem numD_some {α κ : Type} [DecidableEq α] [DecidableEq κ] {k : α -> κ} (hk : ∀ x y, k x = k y -> x = y) {ks : List α} (nd : ks.Nodup) {x : α} (hx : x ∈ ks) : valV (numD k ks) (k x) = some (V.int ((ks.idxOf x : Nat) : Int)) := by
  have hi := List.idxOf_lt_length_of_mem hx
  refine valV_at (i := ks.idxOf x) ?_ ?_
  . unfold numD
    rw [List.map_map]
    exact List.Pairwise.map _ (fun a b hab z => hab (hk a b z)) nd
  . unfold numD
    rw [List.getElem?_map, List.getElem?_eq_getElem hi, List.getElem_idxOf]; rfl
theorem numD_none {α κ : Type} [DecidableEq α] [DecidableEq κ] {k : α -> κ} (hk : ∀ x y, k x = k y -> x = y) {ks : List α} {x : α} (hx : x ∉ ks) : valV (numD k ks) (k x) = none := by
  have h1 := valV_any (k x) (numD k ks)
  have h2 : ((numD k ks).any fun kv => decide (kv.1 = k x)) = false := by
    rw [List.any_eq_false]
    intro p hp
    unfold numD at hp
    obtain ⟨y, hy, rfl⟩ := List.mem_map.mp hp
    simp only [decide_eq_true_eq]
    intro z
    exact hx (hk _ _ z ▸ hy)
  rw [h2] at h1
  cases q : valV (numD k ks) (k x) with
  | none => rfl
  | some v => rw [q] at h1; cases h1
theorem numD_put {α κ : Type} [DecidableEq α] [DecidableEq κ] {k : α -> κ} (hk : ∀ x y, k x = k y -> x = y) {ks : List α} {x : α} (hx : x ∉ ks) : putK (numD k ks) (k x) (V.int ((ks.length : Nat) : Int)) = numD k (ks ++ [x]) := by
  rw [putK_new _ (numD_none hk hx)]
  unfold numD
  rw [List.map_append, List.map_singleton, idx_new hx]
  congr 1
  exact List.map_congr_left fun y hy => by rw [idx_snoc hy]
def kN : Option (List Int) -> NK := Option.map (List.map Sum.inl)
theorem kN_inj (x y : Option (List Int)) (h : kN x = kN y) : x = y := by
  cases x with
  | none => cases y with
    | none => rfl
    | some b => cases h
  | some a => cases y with
    | none => cases h
    | some b =>
      have e : a.map Sum.inl = b.map (Sum.inl : Int -> NI) := Option.some.inj h
      rw [(List.map_inj_right (fun x y z => Sum.inl.inj z)).mp e]
def wkP (ps : List (List Int)) : List (Option (List Int)) := none :: ps.map some
def fdP (ps : List (List Int)) : List (NK × V) := numD kN (wkP ps)
theorem some_mem {ps : List (List Int)} {g : List Int} : (some g ∈ wkP ps) ↔ g ∈ ps := by
  unfold wkP
  simp
theorem ixOf_cons {α : Type} [DecidableEq α] (y : α) (l : List α) (x : α) : ixOf (y :: l) x = if y = x then 0 else ixOf l x + 1 := by
  unfold ixOf
  rw [List.idxOf_cons]
  by_cases e : y = x
  . subst e; simp
  . rw [beq_eq_false_iff_ne.mpr e, if_neg e]; rfl
theorem idx_map {α β : Type} [DecidableEq α] [DecidableEq β] (f : α -> β) (hf : ∀ x y, f x = f y -> x = y) : ∀ (l : List α) (x : α), ixOf (l.map f) (f x) = ixOf l x
  | [], x => rfl
  | y :: l, x => by
    have ih := idx_map f hf l x
    unfold ixOf at ih ⊢
    rw [List.map_cons, List.idxOf_cons, List.idxOf_cons, ih]
    by_cases e : y = x
    . subst e; simp
    . rw [beq_eq_false_iff_ne.mpr e, beq_eq_false_iff_ne.mpr (fun z => e (hf _ _ z))]
theorem wk_idx (ps : List (List Int)) (g : List Int) : ixOf (wkP ps) (some g) = 1 + ixOf ps g := by
  rw [<- idx_map some (fun x y z => Option.some.inj z) ps g]
  unfold wkP
  rw [ixOf_cons, if_neg (fun z => nomatch z)]
  omega
theorem wk_nodup {ps : List (List Int)} (h : ps.Nodup) : (wkP ps).Nodup := by
  unfold wkP
  refine List.nodup_cons.mpr ⟨by simp, ?_⟩
  exact List.Pairwise.map _ (fun a b hab z => hab (Option.some.inj z)) h
theorem fd_some {ps : List (List Int)} (nd : ps.Nodup) {g : List Int} (hg : g ∈ ps) : valV (fdP ps) (kN (some g)) = some (V.int (1 + (ixOf ps g : Nat))) := by
  unfold fdP
  rw [numD_some kN_inj (wk_nodup nd) (some_mem.mpr hg)]
  show some (V.int ((ixOf (wkP ps) (some g) : Nat) : Int)) = _
  rw [wk_idx]
  simp
theorem fd_none {ps : List (List Int)} {g : List Int} (hg : g ∉ ps) : valV (fdP ps) (kN (some g)) = none := numD_none kN_inj fun z => hg (some_mem.mp z)
theorem fd_put {ps : List (List Int)} {g : List Int} (hg : g ∉ ps) : putK (fdP ps) (kN (some g)) (V.int (1 + (ps.length : Nat))) = fdP (ps ++ [g]) := by
  unfold fdP
  have h := numD_put (k := kN) kN_inj (ks := wkP ps) (x := some g) (fun z => hg (some_mem.mp z))
  have e1 : ((wkP ps).length : Int) = 1 + (ps.length : Nat) := by unfold wkP; simp; omega
  have e2 : wkP ps ++ [some g] = wkP (ps ++ [g]) := by unfold wkP; simp
  rw [e1, e2] at h
  exact h
theorem fd_len (ps : List (List Int)) : (fdP ps).length = 1 + ps.length := by unfold fdP wkP; rw [numD_len]; simp; omega
theorem key_word {H : Hp} {t : Addr} {g : List Int} (h : H t = some (.tup (g.map V.int))) : NKey H (kN (some g)) (.ref t) := by
  refine ⟨t, _, rfl, h, ?_⟩
  induction g with
  | nil => exact .nil
  | cons a g ih => exact .cons rfl (by
      clear h ih
      induction g with
      | nil => exact .nil
      | cons b g ih => exact .cons rfl ih)
def sp_marks54 (K : PySem.W.Frag) (BH : Addr) : Sp := fun vs H Q E => ∃ (h : Addr) (L : Nat) (says ways : List (List Int)) (mk : Int), vs = [.ref h, .int mk] /\ SaysH K H h L says ways /\ WfS L says ways /\ says.length <= 40 /\ (1 + (allP L says ways).length <= 40 -> ∀ p H', Same H H' -> House K H' p L (mksP mk (allP L says ways)) (rowsP says ways (allP L says ways)) -> Q (.ref p) H') /\ (40 < 1 + (allP L says ways).length -> ∀ H', Same H H' -> E (.ref BH) none H')
theorem ok_marks_from {f : Addr} {fd : FuncData} (F : Fun K "marks_from" "marks_from" s_marks_from f fd) (T : Txt mg)
    (W : Own K mg)
    (Z : Exs K mg C_AskError C_BadHouse C_BadMark)
    {f_goals_of : Addr} {fd_goals_of : FuncData} (g_goals_of : FnOk P w K mg base CX0 1 f_goals_of fd_goals_of ["house", "pair"] (sp_goals54 K)) (F_goals_of : Fun K "goals_of" "goals_of" s_goals_of f_goals_of fd_goals_of) (b_goals_of : Binds K fd_goals_of ["house", "pair"] []) (m_goals_of : mg "goals_of" = some (.ref f_goals_of))
    : FnOk P w K mg base (CXe P w) 2 f fd ["house", "mark"] (sp_marks54 K C_BadHouse) := by
  refine F.okE sc_marks_from (fun vs H Q E h => ?_) (fun cdv A outer s H vs Q E hr h => ?_)
  . obtain ⟨h, L, says, ways, mk, rfl, _⟩ := h; rfl
  . obtain ⟨h, L, says, ways, mk, rfl, hh, wf, hn40, k, kE⟩ := h
    have hl := line1000
    refine ⟨_, (@pss_cons _ _ _ _ _ (@ps_setDN _ 2 _ P w _ _ _ _ _ _ _ rfl rfl sc_marks_from.nd rfl (Or.inr rfl) pe_non pe_int rfl (Or.inl rfl))
      (pss_cons (ps_setL (i := 3) sc_marks_from.nd (pe_lst (pa_cons pe_non pa_nil)))
      (pss_cons (ps_setL (i := 4) sc_marks_from.nd (pe_lst (pa_cons (pvD 1) pa_nil)))
      (pss_cons (ps_setL (i := 5) sc_marks_from.nd (pe_lst pa_nil))
      (pss_cons (ps_while PassesOwn.leaving (ptT (pt_cmpR (opD0 op_lt) (pe_callB (lenD call_len_seq) (by rfl) T.len PySem.boot_len (pa_cons (pvD 5) pa_nil)) (pe_callB (lenD call_len_seq) (by rfl) T.len PySem.boot_len (pa_cons (pvD 3) pa_nil)) (nomark _)))
      (pss_cons (ps_setL (i := 6) sc_marks_from.nd (pe_call g_goals_of (hr.mono (by decide)) rfl m_goals_of F_goals_of.kp b_goals_of .nil pass0 (pa_cons (pvD 0) (pa_cons (pe_ixA (ixLD ix_list) (pvD 3) (pe_callB (lenD call_len_seq) (by rfl) T.len PySem.boot_len (pa_cons (pvD 5) pa_nil))) pa_nil))))
      (pss_cons (ps_for PassesOwn.leaving rfl (pi_list (pvD 6)) (pg_name (i := 7) sc_marks_from.nd rfl (Or.inl rfl))
      (pss_one (ps_if (pt_cmp (pc_nnotin (P := P) (w := w) rfl rfl (hu9 hr) (pvD 7) (pvD 2)))
      (pss_cons (ps_nput (P := P) (w := w) rfl rfl (hu9 hr) (pvD 2) (pvD 7) (pe_callB (lenD call_len_seq) (by rfl) T.len PySem.boot_len (pa_cons (pvD 3) pa_nil)) rfl)
      (pss_cons (ps_expr (pe_bm PySem.F.plainAttrs_list PySem.F.slot_list_append PySem.F.type_list_append mt_append (pvD 3) (pa_cons (pvD 7) pa_nil)))
      (pss_one (ps_expr (pe_bm PySem.F.plainAttrs_list PySem.F.slot_list_append PySem.F.type_list_append mt_append (pvD 4) (pa_cons (pe_ixA (ixTD ix_tup) (pvD 7) pe_int) pa_nil))))))
      pss_nil)))
      (pss_one (ps_expr (pe_bm PySem.F.plainAttrs_list PySem.F.slot_list_append PySem.F.type_list_append mt_append (pvD 5) (pa_cons (pe_callTy call_tuple_L rfl T.tuple PyProof.Rows.boot_tuple (pa_cons (pe_comp rfl (blk_mk rfl) (cp := c_marks_from_3) ⟨⟨rfl, rfl⟩, True.intro⟩ (pi_list (pvD 6)) (fun _ _ _ _ => (pg_name (i := 0) nd_c_marks_from_3 rfl (Or.inl rfl))) (fun _ _ _ _ => pf_nil) (fun _ _ _ _ => (pe_nget (P := P) (w := w) rfl rfl (hu9 hr) (pvD 1) (pvD 0) (fun _ _ => rfl)))) pa_nil)) pa_nil)))))))
      (pss_cons (ps_if (ptT (pt_cmpR (opD0 op_gt) (pe_callB (lenD call_len_seq) (by rfl) T.len PySem.boot_len (pa_cons (pvD 5) pa_nil)) (pe_gc rfl W.q_MOST_ROOMS) (nomark _)))
      (pss_one (ps_raise Z.m_BadHouse Z.x_BadHouse rfl rfl (pa_cons pe_str pa_nil)))
      pss_nil)
      (pss_one (ps_ret (pe_tup (pa_cons (pe_ixA (ixTD ix_tup) (pvD 0) pe_int) (pa_cons (pe_callTy call_tuple_L rfl T.tuple PyProof.Rows.boot_tuple (pa_cons (pvD 4) pa_nil)) (pa_cons (pe_callTy call_tuple_L rfl T.tuple PyProof.Rows.boot_tuple (pa_cons (pvD 5) pa_nil)) pa_nil)))))))))))), ?_⟩
    walk_at "rd"
    refine fun d hd => ⟨upd_same, fun φ hdn => ⟨by omega, fun pw hpw => ⟨by omega, fun pm hpm => ⟨by omega, fun py hpy => ?_⟩⟩⟩⟩
    rw [upd_upd] at hdn hpw hpm hpy ⊢
    have s1 : Same H (upd H d (.ext φ)) := Same.new hd
    have s2 := s1.newT hpw (o := .lst [V.non])
    have s3 := s2.newT hpm (o := .lst [V.int mk])
    have s4 := s3.newT hpy (o := .lst [])
    have ndw : pw ≠ d := (none_of_upd hpw).2
    have nmd : pm ≠ d := (none_of_upd (none_of_upd hpm).1).2
    have nmw : pm ≠ pw := (none_of_upd hpm).2
    have nyd : py ≠ d := (none_of_upd (none_of_upd (none_of_upd hpy).1).1).2
    have nyw : py ≠ pw := (none_of_upd (none_of_upd hpy).1).2
    have nym : py ≠ pm := (none_of_upd hpy).2
    have hpwH : H pw = none := s1.none hpw
    have hpmH : H pm = none := s2.none hpm
    have hpyH : H py = none := s3.none hpy
    have a1 : upd (upd (upd (upd H d (.ext φ)) pw (.lst [V.non])) pm (.lst [V.int mk])) py (.lst []) pw = some (.lst [V.non]) := by rw [upd_ne (Ne.symm nyw), upd_ne (Ne.symm nmw), upd_same]
    have a2 : upd (upd (upd (upd H d (.ext φ)) pw (.lst [V.non])) pm (.lst [V.int mk])) py (.lst []) pm = some (.lst [V.int mk]) := by rw [upd_ne (Ne.symm nym), upd_same]
    have a3 : upd (upd (upd (upd H d (.ext φ)) pw (.lst [V.non])) pm (.lst [V.int mk])) py (.lst []) py = some (.lst []) := upd_same
    have a4 : DN P w (upd (upd (upd (upd H d (.ext φ)) pw (.lst [V.non])) pm (.lst [V.int mk])) py (.lst [])) d (fdP []) := hdn.same ((Same.new hpw).trans ((Same.new hpm).trans (Same.new hpy)))
    generalize upd (upd (upd (upd H d (.ext φ)) pw (.lst [V.non])) pm (.lst [V.int mk])) py (.lst []) = H0 at s4 a1 a2 a3 a4 ⊢
    obtain ⟨Pv, hPv⟩ : ∃ Pv : Nat -> St -> Hp -> Prop, ∀ m σ' H', Pv m σ' H' ↔ (∃ (i : Nat) (xs ys : List V) (o6 o7 : Option V), m = 2 + says.length * L - i /\ i <= 1 + (runP says ways i).length /\ Same H H' /\ DN P w H' d (fdP (runP says ways i)) /\ H' pw = some (.lst (.non :: xs)) /\ WordsT K H' xs (runP says ways i) /\ H' pm = some (.lst ((mksP mk (runP says ways i)).map V.int)) /\ H' py = some (.lst ys) /\ WordsT K H' ys ((List.range i).map (rowP says ways (allP L says ways))) /\ σ' = [some (.ref h), some (.int mk), some (.ref d), some (.ref pw), some (.ref pm), some (.ref py), o6, o7]) := ⟨_, fun _ _ _ => Iff.rfl⟩
    refine whileW Pv ⟨_, (hPv _ _ _).mpr ⟨0, [], [], none, none, rfl, Nat.zero_le _, s4, a4, a1, WordsT.nil, a2, a3, WordsT.nil, rfl⟩⟩ ?_
    intro m σ4 H4 h4
    obtain ⟨i, xs, ys, o6, o7, rfl, hi, sa, hD, hw4, hW4, hm4, hy4, hY4, rfl⟩ := (hPv _ _ _).mp h4
    have hlen := runP_len wf i
    have hxl := hW4.1
    have hyl := hY4.1
    rw [List.length_map, List.length_range] at hyl
    walk_at "rd"
    refine ⟨_, .inl (SqL.of hy4), _, .inl (SqL.of hw4), ite2 (fun hlt => ?_) (fun hge => ?_)⟩
    . rw [List.length_cons] at hlt
      have hlt' : i < 1 + (runP says ways i).length := by omega
      refine ⟨Pv (2 + says.length * L - (i + 1)), fun σ' H' h => ⟨_, by omega, h⟩, _, .inl (SqL.of hy4), _, SqL.of hw4, ?_⟩
      obtain ⟨x, hx, hxr⟩ : ∃ x, atI (V.non :: xs) (ys.length : Int) = some x /\ ((x = .non /\ roomP (runP says ways i) i = 0) \/ ∃ p m, x = .ref p /\ SqT K H4 p [.int (roomP (runP says ways i) i : Nat), .int m]) := by
        rw [hyl]
        cases i with
        | zero => exact ⟨.non, atI_nat (j := 0) rfl, .inl ⟨rfl, rfl⟩⟩
        | succ i =>
          have hi2 : i < (runP says ways (i + 1)).length := by omega
          obtain ⟨t, t1, t2⟩ := hW4.2 i _ (List.getElem?_eq_getElem hi2)
          refine ⟨.ref t, atI_nat (j := i + 1) t1, .inr ⟨t, ?_⟩⟩
          obtain ⟨r, m, _, e⟩ := (runP_in wf (i + 1) _ (List.getElem_mem hi2)).room wf
          rw [e] at t2
          refine ⟨m, rfl, ?_⟩
          unfold roomP
          rw [if_neg (by omega), show i + 1 - 1 = i by omega, getD_of hi2, e]
          exact SqT.of t2
      have hroom := roomP_lt wf hlt'
      refine ⟨x, hx, h, L, says, ways, x, _, rfl, hh.mono sa, wf, hroom, hxr, fun l rs H5 s5 hl5 hl6 hW5 => ⟨l, rfl, ⟨_, SqL.of hl6⟩, ?_⟩⟩
      have hgo := runP_go hlt'
      have hgl := glS_len wf hroom
      have hL6 := wf.wf.l6
      have hL6' : L <= 6 := by omega
      have hrl := hW5.1
      have hnL : says.length * L <= 240 := Nat.mul_le_mul hn40 hL6'
      have nlw : l ≠ pw := fun z => by rw [z, hw4] at hl5; cases hl5
      have nlm : l ≠ pm := fun z => by rw [z, hm4] at hl5; cases hl5
      have nly : l ≠ py := fun z => by rw [z, hy4] at hl5; cases hl5
      have nld : l ≠ d := fun z => by obtain ⟨φ', e⟩ := hD.is; rw [z, e] at hl5; cases hl5
      have hin : ∀ g ∈ glS says ways (roomP (runP says ways i) i), ∃ (r : Nat) (m : Int), r < says.length /\ g = [(r : Int), m] := fun g hg => (glS_in wf hroom hg).room wf
      have hsub : ∀ j, (firstsA (runP says ways i) ((glS says ways (roomP (runP says ways i) i)).take j)).length <= 246 := by
        intro j
        have h1 : ∀ (row acc : List (List Int)), (firstsA acc row).length <= acc.length + row.length := by
          intro row
          induction row with
          | nil => intro acc; exact Nat.le_refl _
          | cons g row ih =>
            intro acc
            have h2 := ih (ins1 acc g)
            have h3 : (ins1 acc g).length <= acc.length + 1 := by unfold ins1; split <;> simp
            show (firstsA (ins1 acc g) row).length <= _
            rw [List.length_cons]; omega
        have h4 := h1 ((glS says ways (roomP (runP says ways i) i)).take j) (runP says ways i)
        rw [List.length_take] at h4
        omega
      generalize hG : glS says ways (roomP (runP says ways i) i) = G at hgo hgl hrl hW5 hin hsub
      obtain ⟨Pz, hPz⟩ : ∃ Pz : Nat -> St -> Hp -> Prop, ∀ j σ' H', Pz j σ' H' ↔ (∃ (xs' : List V) (o7 : Option V), Same H H' /\ DN P w H' d (fdP (firstsA (runP says ways i) (G.take j))) /\ H' pw = some (.lst (.non :: xs')) /\ WordsT K H' xs' (firstsA (runP says ways i) (G.take j)) /\ H' pm = some (.lst ((mksP mk (firstsA (runP says ways i) (G.take j))).map V.int)) /\ H' py = some (.lst ys) /\ WordsT K H' ys ((List.range i).map (rowP says ways (allP L says ways))) /\ H' l = some (.lst rs) /\ WordsT K H' rs G /\ σ' = [some (.ref h), some (.int mk), some (.ref d), some (.ref pw), some (.ref pm), some (.ref py), some (.ref l), o7]) := ⟨_, fun _ _ _ => Iff.rfl⟩
      refine forL (xs := rs) Pz ((hPz _ _ _).mpr ⟨xs, o7, sa.trans s5, hD.same s5, s5 _ _ hw4, hW4.mono (TK.of s5), s5 _ _ hm4, s5 _ _ hy4, hY4.mono (TK.of s5), hl6, hW5, rfl⟩) (fun j σ' H' _ h' => by obtain ⟨_, _, _, _, _, _, _, _, _, e, _⟩ := (hPz _ _ _).mp h'; exact SqL.of e) (fun j x σ6 H6 hx6 h6 => ?_) (fun σ6 H6 h6 => ?_)
      . obtain ⟨xs6, o76, s6, hD6, hw6, hW6, hm6, hy6, hY6, hl66, hR6, rfl⟩ := (hPz _ _ _).mp h6
        obtain ⟨t, g, hgj, rfl, ht⟩ := hR6.at hx6
        have et := firstsA_take (acc := runP says ways i) hgj
        have hsz := hsub j
        have nd := nodup_firstsA (row := G.take j) (runP_nodup says ways i)
        obtain ⟨r, mm, hrr, eg⟩ := hin g (List.mem_of_getElem? hgj)
        have hg1 : g.getD 1 0 = mm := by rw [eg]; rfl
        have hxl6 := hW6.1
        walk_at "rd"
        have htk : NKey H6 (kN (some g)) (.ref t) := key_word ht
        refine ⟨_, .inr ⟨_, _, hD6, htk, (fun z => nomatch z), rfl⟩, ?_⟩
        by_cases hm : g ∈ firstsA (runP says ways i) (G.take j)
        . rw [fd_some nd hm]
          simp only [Option.isSome_some, Bool.not_true, Bool.false_eq_true, if_false]
          refine (hPz _ _ _).mpr ⟨xs6, some (.ref t), s6, ?_⟩
          rw [et, ins1, if_pos hm]
          exact ⟨hD6, hw6, hW6, hm6, hy6, hY6, hl66, hR6, rfl⟩
        . rw [fd_none hm]
          simp only [Option.isSome_none, Bool.not_false, if_true]
          refine ⟨_, .inl (SqL.of hw6), .inr ⟨_, hD6, _, htk, (fun z => nomatch z), by rw [fd_len]; omega, fun φ' hD7 => ?_⟩⟩
          have e1 : ((V.non :: xs6).length : Int) = 1 + ((firstsA (runP says ways i) (G.take j)).length : Nat) := by rw [List.length_cons, hxl6]; omega
          rw [e1, fd_put hm] at hD7
          obtain ⟨φ6, hφ6⟩ := hD6.is
          have tk7 : TK H6 (upd H6 d (.ext φ')) := fun b zs e => by rw [upd_ne (fun z => by rw [z, hφ6] at e; cases e)]; exact e
          have hw7 : upd H6 d (.ext φ') pw = some (.lst (.non :: xs6)) := by rw [upd_ne ndw]; exact hw6
          have tk8 : TK (upd H6 d (.ext φ')) (upd (upd H6 d (.ext φ')) pw (.lst (.non :: xs6 ++ [V.ref t]))) := TK.lst hw7
          have hm8 : upd (upd H6 d (.ext φ')) pw (.lst (.non :: xs6 ++ [V.ref t])) pm = some (.lst ((mksP mk (firstsA (runP says ways i) (G.take j))).map V.int)) := by rw [upd_ne nmw, upd_ne nmd]; exact hm6
          have hml : (mksP mk (firstsA (runP says ways i) (G.take j))).length = 1 + (firstsA (runP says ways i) (G.take j)).length := by unfold mksP; simp; omega
          have ht8 := tk8 _ _ (tk7 _ _ ht)
          have tk9 := TK.lst hm8 (o := .lst ((mksP mk (firstsA (runP says ways i) (G.take j))).map V.int ++ [V.int mm]))
          have tkA := (tk7.trans tk8).trans tk9
          have hx1 : atI (g.map V.int) 1 = some (V.int mm) := by rw [eg]; rfl
          refine ⟨.inl ⟨rfl, _, SqL.of hw7⟩, _, hw7, by rw [List.length_cons]; omega, .inl ⟨rfl, _, SqL.of hm8⟩, _, SqT.of ht8, _, hx1, _, hm8, by rw [List.length_map, hml]; omega, (hPz _ _ _).mpr ⟨xs6 ++ [V.ref t], some (.ref t), ((s6.over hd).over hpwH).over hpmH, ?_⟩⟩
          rw [et, ins1, if_neg hm]
          refine ⟨hD7.keep (tk8.trans tk9) (by rw [upd_ne (Ne.symm nmd), upd_ne (Ne.symm ndw)]), by rw [upd_ne (Ne.symm nmw), upd_same]; rfl, (hW6.snoc ht).mono tkA, ?_, by rw [upd_ne nym, upd_ne nyw, upd_ne nyd]; exact hy6, hY6.mono tkA, by rw [upd_ne nlm, upd_ne nlw, upd_ne nld]; exact hl66, hR6.mono tkA, rfl⟩
          rw [upd_same]
          unfold mksP
          rw [List.map_append, List.map_cons, List.map_cons, List.map_append]
          show _ = some (HO.lst (V.int mk :: (_ ++ [V.int (g.getD 1 0)])))
          rw [hg1]; rfl
      . obtain ⟨xs6, o76, s6, hD6, hw6, hW6, hm6, hy6, hY6, hl66, hR6, rfl⟩ := (hPz _ _ _).mp h6
        rw [hrl, List.take_length, <- hgo] at hD6 hW6 hm6
        have nd := runP_nodup says ways (i + 1)
        have erow := rowP_pre wf hlt'
        rw [hG] at erow
        have hmem : ∀ g ∈ G, g ∈ runP says ways (i + 1) := fun g hg => by rw [hgo]; exact mem_firstsA.mpr (.inr hg)
        obtain ⟨R, hR⟩ : ∃ R, R = rowP says ways (allP L says ways) i := ⟨_, rfl⟩
        rw [<- hR] at erow
        have hRl : R.length = G.length := by rw [erow, List.length_map]
        walk_at "rd"
        refine ⟨.inl ⟨rfl, _, SqL.of hy6⟩, ⟨_, SqL.of hl66⟩, compL (xs := rs) (fun j zs σ2 H2 => H2 = H6 /\ zs = (R.take j).map V.int /\ ∃ o, σ2 = [o, some (.ref d)]) ⟨rfl, rfl, none, rfl⟩ (by omega) (fun j zs σ2 H2 hj h2 => ⟨by rw [h2.1]; exact SqL.of hl66, by rw [h2.2.1, List.length_map, List.length_take]; omega⟩) (fun j x zs σ2 H2 hx h2 => ?_) (fun zs σ2 H2 h2 D hDn => ?_)⟩
        . obtain ⟨rfl, rfl, o, rfl⟩ := h2
          obtain ⟨t, g, hgj, rfl, ht⟩ := hR6.at hx
          have hv := fd_some nd (hmem g (List.mem_of_getElem? hgj))
          have hRj : R[j]? = some (1 + (ixOf (runP says ways (i + 1)) g : Nat)) := by rw [erow, List.getElem?_map, hgj]; rfl
          walk_at "rd"
          refine ⟨_, .inr ⟨_, _, hD6, key_word ht, (fun z => nomatch z), hv.symm⟩, ?_⟩
          first
            | (refine ⟨rfl, ?_, _, rfl⟩; rw [List.take_add_one, hRj, List.map_append]; rfl)
            | (refine ⟨?_, _, rfl⟩; rw [List.take_add_one, hRj, List.map_append]; rfl)
        . obtain ⟨rfl, rfl, o, rfl⟩ := h2
          rw [hrl, List.take_of_length_le (by omega)]
          refine ⟨D, rfl, _, .inl ⟨SqL.of upd_same, fun t ht => ?_⟩⟩
          have sD : Same H2 (upd (upd H2 D (.lst (R.map V.int))) t (.tup (R.map V.int))) := (Same.new hDn).newT ht
          have hy7 := sD _ _ hy6
          refine ⟨_, hy7, by omega, (hPv _ _ _).mpr ⟨i + 1, xs6, ys ++ [V.ref t], some (.ref l), o76, rfl, ?_, (s6.trans sD).over hpyH, ?_⟩⟩
          . have hp := (runP_pre1 says ways i).length_le
            omega
          have tk7 := TK.lst hy7 (o := .lst (ys ++ [V.ref t]))
          have tkA := (TK.of sD).trans tk7
          have ht7 : upd (upd H2 D (.lst (R.map V.int))) t (.tup (R.map V.int)) t = some (.tup (R.map V.int)) := upd_same
          refine ⟨(hD6.same sD).keep tk7 (upd_ne (Ne.symm nyd)), by rw [upd_ne (Ne.symm nyw)]; exact sD _ _ hw6, hW6.mono tkA, by rw [upd_ne (Ne.symm nym)]; exact sD _ _ hm6, upd_same, ?_, rfl⟩
          rw [List.range_succ, List.map_append, List.map_singleton, <- hR]
          exact (hY6.mono tkA).snoc (tk7 _ _ ht7)
    . rw [List.length_cons] at hge
      obtain ⟨eN, ei⟩ := allP_of wf (i := i) (by omega) hi
      rw [eN] at hD hW4 hm4
      refine ⟨_, .inl (SqL.of hy4), ite2 (fun h40 => ⟨by omega, kE (by omega) _ sa⟩) (fun h40 => ?_)⟩
      obtain ⟨mm, wv, q1, q2, q3⟩ := id (hh.mono sa)
      refine ⟨_, q1, _, rfl, _, .inl ⟨SqL.of hm4, fun t1 ht1 => ⟨_, .inl ⟨SqL.of (Same.new ht1 _ _ hy4), fun t2 ht2 => ⟨by omega, fun p hp => k (by omega) p _ (((sa.newT ht1).newT ht2).newT hp) ?_⟩⟩⟩⟩⟩
      have b3 : Same H4 _ := ((Same.new ht1 (o := .tup ((mksP mk (allP L says ways)).map V.int))).newT ht2 (o := .tup ys)).newT hp (o := .tup [V.int L, V.ref t1, V.ref t2])
      refine ⟨t1, t2, SqT.of upd_same, SqT.of ((Same.new hp) _ _ ((Same.new ht2) _ _ upd_same)), ?_⟩
      rw [ei] at hY4
      exact WordsT.toRows54 (hY4.mono (TK.of b3)) (SqT.of ((Same.new hp) _ _ upd_same))
def sfP (marks : List Int) (ways : List (List Int)) : List (List Int) := ways.map fun row => row.map fun g => marks.getD g.toNat 0
def sp_from54 (K : PySem.W.Frag) : Sp := fun vs H Q _ => ∃ (h : Addr) (L : Int) (marks : List Int) (ways : List (List Int)), vs = [.ref h] /\ House K H h L marks ways /\ (∀ row ∈ ways, ∀ x ∈ row, 0 <= x /\ x < marks.length) /\ ways.length <= 40 /\ (∀ row ∈ ways, row.length <= 6) /\ ∀ p H', Same H H' -> SaysH K H' p L (sfP marks ways) ways -> Q (.ref p) H'
theorem ok_says_from {f : Addr} {fd : FuncData} (F : Fun K "says_from" "says_from" s_says_from f fd) (T : Txt mg)
    (W : Own K mg)
    (Z : Exs K mg C_AskError C_BadHouse C_BadMark)
    : FnOk P w K mg base CX0 1 f fd ["house"] (sp_from54 K) := by
  refine F.ok sc_says_from (fun vs H Q E h => ?_) (fun cdv A outer s H vs Q E hr h => ?_)
  . obtain ⟨h, L, marks, ways, rfl, _⟩ := h; rfl
  . obtain ⟨h, L, marks, ways, rfl, hh, hin, h40, h6, k⟩ := h
    have hl := line1000
    refine ⟨_, (pss_cons (ps_setL (i := 1) sc_says_from.nd (pe_callTy call_tuple_L rfl T.tuple PyProof.Rows.boot_tuple (pa_cons (pe_comp rfl (blk_mk rfl) (cp := c_says_from_18) ⟨⟨rfl, rfl⟩, True.intro⟩ (pi_tup (pe_ixA (ixTD ix_tup) (pvD 0) pe_int)) (fun _ _ _ _ => (pg_name (i := 0) nd_c_says_from_18 rfl (Or.inl rfl))) (fun _ _ _ _ => pf_nil) (fun _ _ _ _ => (pe_callTy (call_tuple_LK (K := K) rfl) rfl T.tuple PyProof.Rows.boot_tuple (pa_cons (pe_comp rfl (blk_mk rfl) (cp := c_says_from_22) ⟨⟨rfl, rfl⟩, True.intro⟩ (pi_tupK (K := K) rfl (pvD 0)) (fun _ _ _ _ => (pg_name (i := 0) nd_c_says_from_22 rfl (Or.inl rfl))) (fun _ _ _ _ => pf_nil) (fun _ _ _ _ => (pe_ixA (ixTD (ix_tupK (K := K) rfl)) (pe_ixA (ixTD (ix_tupK (K := K) rfl)) (pvD 1) pe_int) (pvD 0)))) pa_nil)))) pa_nil)))
      (pss_one (ps_ret (pe_tup (pa_cons (pe_ixA (ixTD ix_tup) (pvD 0) pe_int) (pa_cons (pvD 1) (pa_cons (pe_ixA (ixTD ix_tup) (pvD 0) pe_int) pa_nil))))))), ?_⟩
    obtain ⟨mm, wv, q1, q2, q3⟩ := id hh
    obtain ⟨ts, r1, r2, r3⟩ := id q3
    walk_at "rd"
    refine ⟨_, q1, _, rfl, wv, rfl, ⟨_, r1⟩, compT (xs := ts.map V.ref) (fun i zs σ' H' => Same H H' /\ WordsT K H' zs ((sfP marks ways).take i) /\ ∃ o, σ' = [o, some (.ref h)]) ⟨Same.refl _, WordsT.nil, none, rfl⟩ (by rw [List.length_map, r2]; omega) (fun i zs σ' H' hi h' => ⟨h'.1.seqT r1, by rw [h'.2.1.1, List.length_take]; omega⟩) (fun i x zs σ' H' hx h' => ?_) (fun zs σ' H' h' D hD => ?_)⟩
    . obtain ⟨s', hZ, o, rfl⟩ := h'
      rw [List.getElem?_map] at hx
      cases htj : ts[i]? with
      | none => rw [htj] at hx; cases hx
      | some t =>
        rw [htj] at hx
        cases hx
        have hi : i < ways.length := by rw [<- r2]; exact (List.getElem?_eq_some_iff.mp htj).1
        have hrow : ways[i]? = some ways[i] := by simp [hi]
        have ht := r3 i t _ htj hrow
        have hr0 := hin _ (List.getElem_mem hi)
        have hr6 := h6 _ (List.getElem_mem hi)
        have hsf : (sfP marks ways)[i]? = some (ways[i].map fun g => marks.getD g.toNat 0) := by unfold sfP; rw [List.getElem?_map, hrow]; rfl
        generalize ways[i] = row at ht hr0 hr6 hsf hrow
        walk_at "rd"
        obtain ⟨f, hf⟩ : ∃ f : V -> V, ∀ n : Int, f (V.int n) = .int (marks.getD n.toNat 0) := ⟨fun x => match x with | .int n => .int (marks.getD n.toNat 0) | _ => .non, fun _ => rfl⟩
        refine ⟨⟨_, s'.seqT ht⟩, compMapT (σ' := [some (.ref h)]) f rfl (s'.seqT ht) (by rw [List.length_map]; omega) (fun x hx R hR => ?_) (fun D hD => ?_)⟩
        . obtain ⟨n, hn, rfl⟩ := mem_mapI hx
          rw [hf] at hR
          obtain ⟨n0, n1⟩ := hr0 n hn
          have hg : marks[n.toNat]? = some (marks.getD n.toNat 0) := by rw [List.getD_eq_getElem?_getD, List.getElem?_eq_getElem (by omega)]; rfl
          walk_at "rd"
          exact ⟨_, s'.seqT q1, _, rfl, mm, rfl, _, s'.seqT q2, _, atI_int n0 hg, hR⟩
        . have em : (row.map V.int).map f = (row.map fun g => marks.getD g.toNat 0).map V.int := by
            rw [List.map_map, List.map_map]
            exact List.map_congr_left fun n _ => hf n
          rw [em]
          refine ⟨D, rfl, _, .inl ⟨SqL.of upd_same, fun u hu => ?_⟩⟩
          have sD := (Same.new hD (o := .lst ((row.map fun g => marks.getD g.toNat 0).map V.int))).newT hu (o := .tup ((row.map fun g => marks.getD g.toNat 0).map V.int))
          refine ⟨s'.trans sD, ?_, _, rfl⟩
          rw [List.take_add_one, hsf]
          exact (hZ.mono (TK.of sD)).snoc upd_same
    . obtain ⟨s', hZ, o, rfl⟩ := h'
      rw [List.length_map, r2, List.take_of_length_le (by unfold sfP; rw [List.length_map]; exact Nat.le_refl _)] at hZ
      refine ⟨D, rfl, _, .inl ⟨SqL.of upd_same, fun t ht => ?_⟩⟩
      have s2 := (s'.newT hD (o := .lst zs)).newT ht (o := .tup zs)
      refine ⟨_, s2.seqT q1, _, rfl, _, s2.seqT q1, _, rfl, by omega, fun p hp => k p _ (s2.newT hp) ⟨t, wv, SqT.of upd_same, ?_, q3.mono (s2.newT hp)⟩⟩
      exact WordsT.toRows54 (hZ.mono (TK.of (((Same.new hD).newT ht).newT hp))) (SqT.of ((Same.new hp) _ _ upd_same))
def sp_own54 (K : PySem.W.Frag) : Sp := fun vs H Q _ => ∃ (h : Addr) (L : Nat) (says ways : List (List Int)), vs = [.ref h] /\ SaysH K H h L says ways /\ WfS L says ways /\ ∀ p H' says', Same H H' -> SaysH K H' p L says' ways -> WfS L says' ways -> says'.length = says.length -> Q (.ref p) H'
theorem ok__law_own_marks {f : Addr} {fd : FuncData} (F : Fun K "_law_own_marks" "_law_own_marks" s__law_own_marks f fd) (T : Txt mg)
    (W : Own K mg)
    (Z : Exs K mg C_AskError C_BadHouse C_BadMark)
    : FnOk P w K mg base CX0 1 f fd ["house"] (sp_own54 K) := by
  refine F.ok sc__law_own_marks (fun vs H Q E h => ?_) (fun cdv A outer s H vs Q E hr h => ?_)
  . obtain ⟨h, L, says, ways, rfl, _⟩ := h; rfl
  . obtain ⟨h, L, says, ways, rfl, hh, wf, k⟩ := h
    have hl := line1000
    refine ⟨_, (pss_cons (ps_setL (i := 1) sc__law_own_marks.nd (pe_lst pa_nil))
      (pss_cons (ps_for PassesOwn.never rfl (pi_range1 rfl T.range (pa_cons (pe_callB (lenD call_len_seq) (by rfl) T.len PySem.boot_len (pa_cons (pe_ixA (ixTD ix_tup) (pvD 0) pe_int) pa_nil)) pa_nil)) (pg_name (i := 2) sc__law_own_marks.nd rfl (Or.inr rfl))
      (pss_one (ps_expr (pe_bm PySem.F.plainAttrs_list PySem.F.slot_list_append PySem.F.type_list_append mt_append (pvD 1) (pa_cons (pe_callTy call_tuple_L rfl T.tuple PyProof.Rows.boot_tuple (pa_cons (pe_comp rfl (blk_mk rfl) (cp := c__law_own_marks_3) ⟨⟨rfl, rfl⟩, True.intro⟩ (pi_range1 rfl T.range (pa_cons (pe_ixA (ixTD ix_tup) (pvD 0) pe_int) pa_nil)) (fun _ _ _ _ => (pg_name (i := 0) nd_c__law_own_marks_3 rfl (Or.inl rfl))) (fun _ _ _ _ => pf_nil) (fun _ _ _ _ => (pe_op (opD0 op_add) (pe_op (opD op_mul) pe_int (pvD 1)) (pvD 0)))) pa_nil)) pa_nil)))))
      (pss_one (ps_ret (pe_tup (pa_cons (pe_ixA (ixTD ix_tup) (pvD 0) pe_int) (pa_cons (pe_callTy call_tuple_L rfl T.tuple PyProof.Rows.boot_tuple (pa_cons (pvD 1) pa_nil)) (pa_cons (pe_ixA (ixTD ix_tup) (pvD 0) pe_int) pa_nil)))))))), ?_⟩
    obtain ⟨mm, wv, q1, q2, q3⟩ := id hh
    have hn40 := wf.wf.n40
    have hL6 := wf.wf.l6
    rw [List.length_replicate] at hn40
    obtain ⟨ts, r1, r2, r3⟩ := id q2
    walk_at "rd"
    refine ⟨by omega, fun ps hps => ?_⟩
    have s1 : Same H (upd H ps (.lst [])) := Same.new hps
    refine ⟨_, s1.seqT q1, _, rfl, mm, rfl, _, .inr (s1.seqT r1), by omega, by rw [List.length_map, r2]; omega, ?_⟩
    rw [Int.toNat_natCast, List.length_map, r2]
    obtain ⟨Pv, hPv⟩ : ∃ Pv : Nat -> St -> Hp -> Prop, ∀ i σ' H', Pv i σ' H' ↔ (∃ (xs : List V) (ss : List (List Int)) (o : Option V), Same H H' /\ H' ps = some (.lst xs) /\ WordsT K H' xs ss /\ ss.length = i /\ (∀ r ∈ ss, (r.length : Int) = L) /\ σ' = [some (.ref h), some (.ref ps), o]) := ⟨_, fun _ _ _ => Iff.rfl⟩
    refine forR Pv ((hPv _ _ _).mpr ⟨[], [], none, s1, upd_same, WordsT.nil, rfl, by simp, rfl⟩) (fun i σ2 H2 hi h2 => ?_) (fun σ2 H2 h2 => ?_)
    . obtain ⟨xs, ss, o, s2, hx, hX, hsl, hsr, rfl⟩ := (hPv _ _ _).mp h2
      rw [Int.zero_add]
      have hxl := hX.1
      walk_at "rd"
      refine ⟨.inl ⟨rfl, _, SqL.of hx⟩, _, s2.seqT q1, _, rfl, L, rfl, by omega, by omega, ?_⟩
      rw [Int.toNat_natCast]
      obtain ⟨Pc, hPc⟩ : ∃ Pc : Nat -> List V -> St -> Hp -> Prop, ∀ j ys σ4 H4, Pc j ys σ4 H4 ↔ (H4 = H2 /\ ∃ (row : List Int) (o : Option V), ys = row.map V.int /\ row.length = j /\ σ4 = [o, some (.int i)]) := ⟨_, fun _ _ _ _ => Iff.rfl⟩
      refine compR Pc ((hPc _ _ _ _).mpr ⟨rfl, [], none, rfl, rfl, rfl⟩) (by omega) (fun j ys σ4 H4 _ h4 => ?_) (fun j ys σ4 H4 hj h4 => ?_) (fun ys σ4 H4 h4 D hD => ?_)
      . obtain ⟨_, row, o, rfl, hrl, _⟩ := (hPc _ _ _ _).mp h4
        rw [List.length_map]; omega
      . obtain ⟨rfl, row, o, rfl, hrl, rfl⟩ := (hPc _ _ _ _).mp h4
        walk_at "rd"
        exact ⟨.inl ⟨by decide, by decide⟩, (hPc _ _ _ _).mpr ⟨rfl, row ++ [1000 * (i : Int) + (j : Int)], _, by simp, by simp [hrl], rfl⟩⟩
      . obtain ⟨rfl, row, o1, rfl, hrl, rfl⟩ := (hPc _ _ _ _).mp h4
        refine ⟨D, rfl, _, .inl ⟨SqL.of upd_same, fun t ht => ?_⟩⟩
        have sD := (Same.new hD (o := .lst (row.map V.int))).newT ht (o := .tup (row.map V.int))
        have hx3 := sD _ _ hx
        refine ⟨_, hx3, by omega, (hPv _ _ _).mpr ⟨xs ++ [V.ref t], ss ++ [row], _, (s2.trans sD).over hps, upd_same, ((hX.mono (TK.of sD)).snoc upd_same).mono (TK.lst hx3), by simp [hsl], fun r hr' => ?_, rfl⟩⟩
        rcases List.mem_append.mp hr' with h | h
        . exact hsr r h
        . rw [List.mem_singleton.mp h]; omega
    . obtain ⟨xs, ss, o, s2, hx, hX, hsl, hsr, rfl⟩ := (hPv _ _ _).mp h2
      walk_at "rd"
      refine ⟨_, s2.seqT q1, _, rfl, _, .inl ⟨SqL.of hx, fun t ht => ?_⟩⟩
      have s3 := s2.newT ht (o := .tup xs)
      refine ⟨_, s3.seqT q1, _, rfl, by omega, fun p hp => k p _ ss (s3.newT hp) ⟨t, wv, SqT.of upd_same, ?_, q3.mono (s3.newT hp)⟩ ⟨by rw [hsl]; exact wf.wf, hsr⟩ hsl⟩
      exact WordsT.toRows54 (hX.mono (TK.of ((Same.new ht).newT hp))) (SqT.of ((Same.new hp) _ _ upd_same))
theorem cut_one (x : V) (xs : List V) : cutV (x :: xs) (some 1) none = xs := by
  unfold cutV
  rw [show (some (1 : Int)) = some ((1 : Nat) : Int) from rfl, HT.sIx_nat, HT.sIx_none, Nat.min_eq_left (by simp)]
  rw [List.take_of_length_le (by rw [List.length_drop]; exact Nat.le_refl _)]; rfl
theorem firstsA_takepre {α : Type} [DecidableEq α] (acc row : List α) (m : Nat) : firstsA acc (row.take m) <+: firstsA acc row := by
  have e : firstsA acc row = firstsA (firstsA acc (row.take m)) (row.drop m) := by
    unfold firstsA
    rw [<- List.foldl_append, List.take_append_drop]
  rw [e]
  exact firstsA_pre _ _
def sp_spread54 (K : PySem.W.Frag) : Sp := fun vs H Q _ => ∃ (h : Addr) (L : Nat) (says ways : List (List Int)) (mk : Int), vs = [.ref h, .int mk] /\ SaysH K H h L says ways /\ WfS L says ways /\ ∀ p H', Same H H' -> House K H' p L (mksP mk (allP L says ways)) (rowsP says ways (allP L says ways)) -> Q (.ref p) H'
theorem ok__law_spread {f : Addr} {fd : FuncData} (F : Fun K "_law_spread" "_law_spread" s__law_spread f fd) (T : Txt mg)
    (W : Own K mg)
    (Z : Exs K mg C_AskError C_BadHouse C_BadMark)
    : FnOk P w K mg base CX0 1 f fd ["house", "mark"] (sp_spread54 K) := by
  refine F.ok sc__law_spread (fun vs H Q E h => ?_) (fun cdv A outer s H vs Q E hr h => ?_)
  . obtain ⟨h, L, says, ways, mk, rfl, _⟩ := h; rfl
  . obtain ⟨h, L, says, ways, mk, rfl, hh, wf, k⟩ := h
    have hl := line1000
    refine ⟨_, (pss_cons (ps_setL (i := 2) sc__law_spread.nd (pe_lst (pa_cons (pe_tup (pa_cons pe_int (pa_cons (pvD 1) pa_nil))) pa_nil)))
      (pss_cons (ps_setL (i := 3) sc__law_spread.nd (pe_lst pa_nil))
      (pss_cons (ps_for PassesOwn.never rfl (pi_range1 rfl T.range (pa_cons (pe_op (opD0 op_add) pe_int (pe_op (opD op_mul) (pe_ixA (ixTD ix_tup) (pvD 0) pe_int) (pe_callB (lenD call_len_seq) (by rfl) T.len PySem.boot_len (pa_cons (pe_ixA (ixTD ix_tup) (pvD 0) pe_int) pa_nil)))) pa_nil)) (pg_name (i := 4) sc__law_spread.nd rfl (Or.inl rfl))
      (pss_one (ps_if (ptT (pt_cmpR (opD0 op_lt) (pvD 4) (pe_callB (lenD call_len_seq) (by rfl) T.len PySem.boot_len (pa_cons (pvD 2) pa_nil)) (nomark _)))
      (pss_cons (ps_setL (i := 5) sc__law_spread.nd (pe_lst pa_nil))
      (pss_cons (ps_for PassesOwn.never rfl (pi_range1 rfl T.range (pa_cons (pe_ixA (ixTD ix_tup) (pvD 0) pe_int) pa_nil)) (pg_name (i := 6) sc__law_spread.nd rfl (Or.inl rfl))
      (pss_cons (ps_setL (i := 7) sc__law_spread.nd (pe_tup (pa_cons (pe_ixA (ixTD ix_tup) (pe_ixA (ixTD ix_tup) (pe_ixA (ixTD ix_tup) (pvD 0) pe_int) (pe_ixA (ixTD ix_tup) (pe_ixA (ixLD ix_list) (pvD 2) (pvD 4)) pe_int)) (pvD 6)) (pa_cons (pe_ixA (ixTD ix_tup) (pe_ixA (ixTD ix_tup) (pe_ixA (ixTD ix_tup) (pvD 0) pe_int) (pe_ixA (ixTD ix_tup) (pe_ixA (ixLD ix_list) (pvD 2) (pvD 4)) pe_int)) (pvD 6)) pa_nil))))
      (pss_cut (ps_if (ptT (pt_cmpR (op_notInW (hu9 hr)) (pvD 7) (pe_slice sl_list (pvD 2) (po_some pe_int) po_none) rfl))
      (pss_one (ps_expr (pe_bm PySem.F.plainAttrs_list PySem.F.slot_list_append PySem.F.type_list_append mt_append (pvD 2) (pa_cons (pvD 7) pa_nil))))
      pss_nil)
      (pss_one (ps_expr (pe_bm PySem.F.plainAttrs_list PySem.F.slot_list_append PySem.F.type_list_append mt_append (pvD 5) (pa_cons (pe_op (opD0 op_add) pe_int (pe_bm PySem.F.plainAttrs_list PySem.F.slot_list_index PySem.F.type_list_index (mt_lindexT (hu9 hr)) (pe_slice sl_list (pvD 2) (po_some pe_int) po_none) (pa_cons (pvD 7) pa_nil))) pa_nil)))))))
      (pss_one (ps_expr (pe_bm PySem.F.plainAttrs_list PySem.F.slot_list_append PySem.F.type_list_append mt_append (pvD 3) (pa_cons (pe_callTy call_tuple_L rfl T.tuple PyProof.Rows.boot_tuple (pa_cons (pvD 5) pa_nil)) pa_nil))))))
      pss_nil)))
      (pss_one (ps_ret (pe_tup (pa_cons (pe_ixA (ixTD ix_tup) (pvD 0) pe_int) (pa_cons (pe_callTy call_tuple_L rfl T.tuple PyProof.Rows.boot_tuple (pa_cons (pe_comp rfl (blk_mk rfl) (cp := c__law_spread_3) True.intro (pi_list (pvD 2)) (fun _ _ _ _ => (pg_name (i := 0) nd_c__law_spread_3 rfl (Or.inl rfl))) (fun _ _ _ _ => pf_nil) (fun _ _ _ _ => (pe_ixA (ixTD (ix_tupK (K := K) rfl)) (pvD 0) pe_int))) pa_nil)) (pa_cons (pe_callTy call_tuple_L rfl T.tuple PyProof.Rows.boot_tuple (pa_cons (pvD 3) pa_nil)) pa_nil))))))))), ?_⟩
    obtain ⟨mm, wv, q1, q2, q3⟩ := id hh
    have hn40 := wf.wf.n40
    have hL6 := wf.wf.l6
    rw [List.length_replicate] at hn40
    have hL6' : L <= 6 := by omega
    have hnL : says.length * L <= 240 := Nat.mul_le_mul hn40 hL6'
    obtain ⟨ts, r1, r2, r3⟩ := id q2
    walk_at "rd"
    refine ⟨by omega, fun p0 hp0 => ⟨by omega, fun pr hpr => ⟨by omega, fun py hpy => ?_⟩⟩⟩
    have s1 : Same H (upd H p0 (.tup [V.int 0, V.int mk])) := Same.new hp0
    have s2 := s1.newT hpr (o := .lst [V.ref p0])
    have s3 := s2.newT hpy (o := .lst [])
    have nyr : py ≠ pr := (none_of_upd hpy).2
    have hprH : H pr = none := s1.none hpr
    have hpyH : H py = none := s2.none hpy
    have a0 : upd (upd (upd H p0 (.tup [V.int 0, V.int mk])) pr (.lst [V.ref p0])) py (.lst []) p0 = some (.tup [V.int 0, V.int mk]) := Same.new hpy _ _ (Same.new hpr _ _ upd_same)
    have a1 : upd (upd (upd H p0 (.tup [V.int 0, V.int mk])) pr (.lst [V.ref p0])) py (.lst []) pr = some (.lst [V.ref p0]) := Same.new hpy _ _ upd_same
    have a2 : upd (upd (upd H p0 (.tup [V.int 0, V.int mk])) pr (.lst [V.ref p0])) py (.lst []) py = some (.lst []) := upd_same
    generalize upd (upd (upd H p0 (.tup [V.int 0, V.int mk])) pr (.lst [V.ref p0])) py (.lst []) = H0 at s3 a0 a1 a2 ⊢
    have eLn : (L : Int) * ((ts.map V.ref).length : Nat) = ((says.length * L : Nat) : Int) := by rw [List.length_map, r2, Int.natCast_mul, Int.mul_comm]
    refine ⟨_, s3.seqT q1, _, rfl, _, s3.seqT q1, _, rfl, mm, rfl, _, .inr (s3.seqT r1), L, rfl, .inl ⟨by omega, by omega⟩, ?_⟩
    rw [eLn]
    refine ⟨by omega, by omega, ?_⟩
    rw [show (1 + ((says.length * L : Nat) : Int)).toNat = 1 + says.length * L by omega]
    obtain ⟨Pv, hPv⟩ : ∃ Pv : Nat -> St -> Hp -> Prop, ∀ i σ' H', Pv i σ' H' ↔ (∃ (xs ys : List V) (o4 o5 o6 o7 : Option V), Same H H' /\ H' p0 = some (.tup [V.int 0, V.int mk]) /\ H' pr = some (.lst (.ref p0 :: xs)) /\ WordsT K H' xs (runP says ways i) /\ H' py = some (.lst ys) /\ WordsT K H' ys ((List.range (min i (1 + (runP says ways i).length))).map (rowP says ways (allP L says ways))) /\ σ' = [some (.ref h), some (.int mk), some (.ref pr), some (.ref py), o4, o5, o6, o7]) := ⟨_, fun _ _ _ => Iff.rfl⟩
    refine forR Pv ((hPv _ _ _).mpr ⟨[], [], none, none, none, none, s3, a0, a1, WordsT.nil, a2, WordsT.nil, rfl⟩) (fun i σ4 H4 hi h4 => ?_) (fun σ4 H4 h4 => ?_)
    . obtain ⟨xs, ys, o4, o5, o6, o7, sa, h04, hr4, hW4, hy4, hY4, rfl⟩ := (hPv _ _ _).mp h4
      have hxl := hW4.1
      have hlen := runP_len wf i
      have hyl := hY4.1
      rw [List.length_map, List.length_range] at hyl
      rw [Int.zero_add]
      walk_at "rd"
      refine ⟨_, .inl (SqL.of hr4), ite2 (fun hlt => ?_) (fun hge => ?_)⟩
      . rw [List.length_cons] at hlt
        have hlt' : i < 1 + (runP says ways i).length := by omega
        rw [Nat.min_eq_left (by omega)] at hY4 hyl
        refine ⟨by omega, fun pq hpq => ?_⟩
        have nqr : pq ≠ pr := fun z => by rw [z, hr4] at hpq; cases hpq
        have nqy : pq ≠ py := fun z => by rw [z, hy4] at hpq; cases hpq
        have hpqH : H pq = none := sa.none hpq
        have sq : Same H4 (upd H4 pq (.lst [])) := Same.new hpq
        have b0 := sq _ _ h04
        have b1 := sq _ _ hr4
        have b2 := sq _ _ hy4
        have b3 := hW4.mono (TK.of sq)
        have b4 := hY4.mono (TK.of sq)
        have b5 : upd H4 pq (.lst []) pq = some (.lst []) := upd_same
        have sb := sa.trans sq
        generalize upd H4 pq (.lst []) = H5 at sq b0 b1 b2 b3 b4 b5 sb ⊢
        refine ⟨_, sb.seqT q1, _, rfl, L, rfl, by omega, by omega, ?_⟩
        rw [Int.toNat_natCast]
        have hroom := roomP_lt wf hlt'
        have hgo := runP_go hlt'
        have hgl := glS_len wf hroom
        have erow := rowP_pre wf hlt'
        have hget : ∀ j, (j : Nat) < L -> (glS says ways (roomP (runP says ways i) i))[j]? = some [stepW ways (roomP (runP says ways i) i : Nat) j, stepW says (roomP (runP says ways i) i : Nat) j] := fun j hj => glS_get wf hroom (by omega)
        have hsub : ∀ j, (firstsA (runP says ways i) ((glS says ways (roomP (runP says ways i) i)).take j)).length <= 246 := by
          intro j
          have h1 : ∀ (row acc : List (List Int)), (firstsA acc row).length <= acc.length + row.length := by
            intro row
            induction row with
            | nil => intro acc; exact Nat.le_refl _
            | cons g row ih =>
              intro acc
              have h2 := ih (ins1 acc g)
              have h3 : (ins1 acc g).length <= acc.length + 1 := by unfold ins1; split <;> simp
              show (firstsA (ins1 acc g) row).length <= _
              rw [List.length_cons]; omega
          have h4 := h1 ((glS says ways (roomP (runP says ways i) i)).take j) (runP says ways i)
          rw [List.length_take] at h4
          omega
        obtain ⟨G, hG⟩ : ∃ G, G = glS says ways (roomP (runP says ways i) i) := ⟨_, rfl⟩
        rw [<- hG] at hgo hgl erow hget hsub
        obtain ⟨R, hR⟩ : ∃ R, R = rowP says ways (allP L says ways) i := ⟨_, rfl⟩
        rw [<- hR] at erow
        have hGL : G.length = L := by omega
        obtain ⟨Pz, hPz⟩ : ∃ Pz : Nat -> St -> Hp -> Prop, ∀ j σ' H', Pz j σ' H' ↔ (∃ (xs' : List V) (o6 o7 : Option V), Same H H' /\ H' p0 = some (.tup [V.int 0, V.int mk]) /\ H' pr = some (.lst (.ref p0 :: xs')) /\ WordsT K H' xs' (firstsA (runP says ways i) (G.take j)) /\ H' py = some (.lst ys) /\ WordsT K H' ys ((List.range i).map (rowP says ways (allP L says ways))) /\ H' pq = some (.lst ((R.take j).map V.int)) /\ σ' = [some (.ref h), some (.int mk), some (.ref pr), some (.ref py), some (.int i), some (.ref pq), o6, o7]) := ⟨_, fun _ _ _ => Iff.rfl⟩
        refine forR Pz ((hPz _ _ _).mpr ⟨xs, o6, o7, sb, b0, b1, b3, b2, b4, b5, rfl⟩) (fun j σ6 H6 hj h6 => ?_) (fun σ6 H6 h6 => ?_)
        . obtain ⟨xs6, o66, o76, s6, h06, hr6, hW6, hy6, hY6, hq6, rfl⟩ := (hPz _ _ _).mp h6
          rw [Int.zero_add]
          have hgj := hget j hj
          have et := firstsA_take (acc := runP says ways i) hgj
          have hRj : R[j]? = some (1 + (ixOf (runP says ways (i + 1)) [stepW ways (roomP (runP says ways i) i : Nat) j, stepW says (roomP (runP says ways i) i : Nat) j] : Nat)) := by rw [erow, List.getElem?_map, hgj]; rfl
          have hsz := hsub j
          have hxl6 := hW6.1
          obtain ⟨r, hr0⟩ : ∃ r, r = roomP (runP says ways i) i := ⟨_, rfl⟩
          rw [<- hr0] at hgj et hRj hroom
          obtain ⟨row1, g1, c1, c2, c3, _⟩ := wf.wf.step (r := (r : Int)) (x := (j : Int)) (by omega) (by rw [List.length_replicate]; omega) (by omega) (by omega)
          obtain ⟨row2, d1, d2⟩ := wf.at (r := (r : Int)) (x := (j : Int)) (by omega) (by omega) (by omega) (by omega)
          rw [<- c3] at c2
          rw [Int.toNat_natCast] at c1 d1
          obtain ⟨xs3, t3, e1, e2, e3⟩ := (q3.mono s6).at c1
          obtain ⟨xs2, t2, f1, f2, f3⟩ := (q2.mono s6).at d1
          obtain ⟨g, hg⟩ : ∃ g, g = [stepW ways (r : Nat) j, stepW says (r : Nat) j] := ⟨_, rfl⟩
          rw [<- hg] at hgj et hRj
          have hgv : [V.int (stepW ways (r : Nat) j), V.int (stepW says (r : Nat) j)] = g.map V.int := by rw [hg]; rfl
          obtain ⟨pk, m, hk1, hk2⟩ : ∃ pk m, atI (.ref p0 :: xs6) (i : Int) = some (.ref pk) /\ H6 pk = some (.tup [.int r, .int m]) := by
            cases i with
            | zero => exact ⟨p0, mk, atI_nat (j := 0) rfl, by rw [hr0]; exact h06⟩
            | succ i =>
              have hi2 : i < (runP says ways (i + 1)).length := by omega
              have hpg := pre_get (firstsA_pre (G.take j) (runP says ways (i + 1))) (List.getElem?_eq_getElem hi2)
              obtain ⟨t, t1, t2⟩ := hW6.2 i _ hpg
              obtain ⟨r', m, _, e⟩ := (runP_in wf (i + 1) _ (List.getElem_mem hi2)).room wf
              rw [e] at t2
              refine ⟨t, m, atI_nat (j := i + 1) t1, ?_⟩
              rw [hr0]
              unfold roomP
              rw [if_neg (by omega), show i + 1 - 1 = i by omega, getD_of hi2, e]
              exact t2
          walk_at "rd"
          refine ⟨_, s6.seqT q1, _, rfl, _, SqL.of hr6, _, hk1, pk, rfl, _, SqT.of hk2, _, rfl, wv, rfl, _, _, rfl, e1, _, e2, t3, rfl, _, e3, _, atI_int (by omega) c2, _, s6.seqT q1, _, rfl, _, SqL.of hr6, _, hk1, pk, rfl, _, SqT.of hk2, _, rfl, mm, rfl, _, _, rfl, f1, _, f2, t2, rfl, _, f3, _, atI_int (by omega) d2, by omega, fun p hp => ?_⟩
          rw [hgv]
          have sp7 : Same H6 (upd H6 p (.tup (g.map V.int))) := Same.new hp
          have u0 := sp7 _ _ h06
          have u1 := sp7 _ _ hr6
          have u2 := hW6.mono (TK.of sp7)
          have u3 := sp7 _ _ hy6
          have u4 := hY6.mono (TK.of sp7)
          have u5 := sp7 _ _ hq6
          have u6 : upd H6 p (.tup (g.map V.int)) p = some (.tup (g.map V.int)) := upd_same
          have u7 := s6.trans sp7
          generalize upd H6 p (.tup (g.map V.int)) = H7 at sp7 u0 u1 u2 u3 u4 u5 u6 u7 ⊢
          obtain ⟨Pc, hPc⟩ : ∃ Pc : St -> Hp -> Prop, ∀ σ' H', Pc σ' H' ↔ (∃ xs' : List V, Same H H' /\ H' p0 = some (.tup [V.int 0, V.int mk]) /\ H' pr = some (.lst (.ref p0 :: xs')) /\ WordsT K H' xs' (firstsA (runP says ways i) (G.take (j + 1))) /\ H' py = some (.lst ys) /\ WordsT K H' ys ((List.range i).map (rowP says ways (allP L says ways))) /\ H' pq = some (.lst ((R.take j).map V.int)) /\ H' p = some (.tup (g.map V.int)) /\ σ' = [some (.ref h), some (.int mk), some (.ref pr), some (.ref py), some (.int i), some (.ref pq), some (.int j), some (.ref p)]) := ⟨_, fun _ _ => Iff.rfl⟩
          refine ⟨Pc, ?_, fun σ8 H8 h8 => ?_⟩
          . walk_at "rd"
            refine ⟨_, SqL.of u1, fun z hz => ?_⟩
            rw [cut_one]
            have sz : Same H7 (upd H7 z (.lst xs6)) := Same.new hz
            refine ⟨xs6, SqL.of upd_same, g, _, u2.mono (TK.of sz), SqT.of (sz _ _ u6), ?_⟩
            by_cases hm : g ∈ firstsA (runP says ways i) (G.take j)
            . rw [if_neg (by simp [hm])]
              refine (hPc _ _).mpr ⟨xs6, u7.trans sz, sz _ _ u0, sz _ _ u1, ?_, sz _ _ u3, u4.mono (TK.of sz), sz _ _ u5, sz _ _ u6, rfl⟩
              rw [et, ins1, if_pos hm]
              exact u2.mono (TK.of sz)
            . rw [if_pos (by simp [hm])]
              have u1z := sz _ _ u1
              have tkz : TK H7 (upd (upd H7 z (.lst xs6)) pr (.lst (.ref p0 :: xs6 ++ [V.ref p]))) := (TK.of sz).trans (TK.lst u1z)
              have npp : p ≠ pr := fun q => by rw [q, u1] at u6; cases u6
              refine ⟨.inl ⟨rfl, _, SqL.of u1z⟩, _, u1z, by rw [List.length_cons]; omega, (hPc _ _).mpr ⟨xs6 ++ [V.ref p], (u7.trans sz).over hprH, tkz _ _ u0, by rw [upd_same]; rfl, ?_, by rw [upd_ne nyr]; exact sz _ _ u3, u4.mono tkz, by rw [upd_ne nqr]; exact sz _ _ u5, tkz _ _ u6, rfl⟩⟩
              rw [et, ins1, if_neg hm]
              exact (u2.snoc u6).mono tkz
          . obtain ⟨xs8, v7, v0, v1, v2, v3, v4, v5, v6, rfl⟩ := (hPc _ _).mp h8
            have hsz8 := hsub (j + 1)
            have hxl8 := v2.1
            have hgm : g ∈ firstsA (runP says ways i) (G.take (j + 1)) := by rw [et]; exact mem_ins1.mpr (.inr rfl)
            have hpx : firstsA (runP says ways i) (G.take (j + 1)) <+: runP says ways (i + 1) := by rw [hgo]; exact firstsA_takepre _ _ _
            rw [pre_idx hpx hgm] at hRj
            walk_at "rd"
            refine ⟨.inl ⟨rfl, _, SqL.of v5⟩, _, SqL.of v1, fun z hz => ?_⟩
            rw [cut_one]
            have sz : Same H8 (upd H8 z (.lst xs8)) := Same.new hz
            have v5z := sz _ _ v5
            have tkz : TK H8 (upd (upd H8 z (.lst xs8)) pq (.lst ((R.take j).map V.int ++ [V.int (1 + (List.idxOf g (firstsA (runP says ways i) (G.take (j + 1))) : Nat))]))) := (TK.of sz).trans (TK.lst v5z)
            refine ⟨.inl ⟨rfl, _, SqL.of upd_same⟩, xs8, upd_same, g, _, v2.mono (TK.of sz), SqT.of (sz _ _ v6), hgm, by omega, _, v5z, by rw [List.length_map, List.length_take]; omega, (hPz _ _ _).mpr ⟨xs8, some (.int j), some (.ref p), (v7.trans sz).over hpqH, tkz _ _ v0, by rw [upd_ne (Ne.symm nqr)]; exact sz _ _ v1, v2.mono tkz, by rw [upd_ne (Ne.symm nqy)]; exact sz _ _ v3, v4.mono tkz, ?_, rfl⟩⟩
            have eR : R.take (j + 1) = R.take j ++ [(1 : Int) + ((ixOf (firstsA (runP says ways i) (G.take (j + 1))) g : Nat) : Int)] := by rw [List.take_add_one, hRj]; rfl
            rw [upd_same, ixW, eR, List.map_append]; rfl
        . obtain ⟨xs6, o66, o76, s6, h06, hr6, hW6, hy6, hY6, hq6, rfl⟩ := (hPz _ _ _).mp h6
          have hRl : R.length = G.length := by rw [erow, List.length_map]
          rw [List.take_of_length_le (by omega)] at hq6
          rw [List.take_of_length_le (by omega), <- hgo] at hW6
          walk_at "rd"
          refine ⟨.inl ⟨rfl, _, SqL.of hy6⟩, _, .inl ⟨SqL.of hq6, fun t ht => ?_⟩⟩
          have sD : Same H6 (upd H6 t (.tup (R.map V.int))) := Same.new ht
          have hy7 := sD _ _ hy6
          have tk7 := TK.lst hy7 (o := .lst (ys ++ [V.ref t]))
          have tkA := (TK.of sD).trans tk7
          have ht7 : upd H6 t (.tup (R.map V.int)) t = some (.tup (R.map V.int)) := upd_same
          refine ⟨_, hy7, by omega, (hPv _ _ _).mpr ⟨xs6, ys ++ [V.ref t], some (.int i), some (.ref pq), o66, o76, (s6.trans sD).over hpyH, tkA _ _ h06, by rw [upd_ne (Ne.symm nyr)]; exact sD _ _ hr6, hW6.mono tkA, upd_same, ?_, rfl⟩⟩
          have hp := (runP_pre1 says ways i).length_le
          rw [Nat.min_eq_left (by omega), List.range_succ, List.map_append, List.map_singleton, <- hR]
          exact (hY6.mono tkA).snoc (tk7 _ _ ht7)
      . rw [List.length_cons] at hge
        have hge' : ¬ i < 1 + (runP says ways i).length := by omega
        have e := runP_stop hge' (i + 1) (by omega)
        refine (hPv _ _ _).mpr ⟨xs, ys, some (.int i), o5, o6, o7, sa, h04, hr4, ?_, hy4, ?_, rfl⟩
        . rw [e]; exact hW4
        . rw [e, Nat.min_eq_right (by omega)]
          rw [Nat.min_eq_right (by omega)] at hY4
          exact hY4
    . obtain ⟨xs, ys, o4, o5, o6, o7, sa, h04, hr4, hW4, hy4, hY4, rfl⟩ := (hPv _ _ _).mp h4
      have hlen := runP_len wf (1 + says.length * L)
      rw [Nat.min_eq_right (by omega)] at hY4
      change WordsT K H4 xs (allP L says ways) at hW4
      change WordsT K H4 ys ((List.range (1 + (allP L says ways).length)).map _) at hY4
      have hall : ∀ g ∈ allP L says ways, ∃ (r : Nat) (m : Int), r < says.length /\ g = [(r : Int), m] := fun g hg => (runP_in wf _ g hg).room wf
      change (allP L says ways).length <= _ at hlen
      have hxl := hW4.1
      generalize hN : allP L says ways = N at hW4 hY4 hall hlen hxl
      have hml : (mksP mk N).length = 1 + N.length := by unfold mksP; simp; omega
      have hat : ∀ (j : Nat) (x : V), (V.ref p0 :: xs)[j]? = some x -> ∃ t r m, x = .ref t /\ H4 t = some (.tup [.int r, .int m]) /\ (mksP mk N)[j]? = some m := by
        intro j x hx
        cases j with
        | zero => exact ⟨p0, 0, mk, (Option.some.inj hx).symm, h04, rfl⟩
        | succ j =>
          obtain ⟨t, g, hg, e, ht⟩ := hW4.at (show xs[j]? = some x from hx)
          obtain ⟨r, m, _, eg⟩ := hall g (List.mem_of_getElem? hg)
          rw [eg] at ht
          refine ⟨t, r, m, e, ht, ?_⟩
          show (N.map fun g => g.getD 1 0)[j]? = some m
          rw [List.getElem?_map, hg, eg]; rfl
      walk_at "rd"
      refine ⟨_, sa.seqT q1, _, rfl, ⟨_, SqL.of hr4⟩, compL (xs := .ref p0 :: xs) (fun j zs σ2 H2 => H2 = H4 /\ zs = ((mksP mk N).take j).map V.int /\ ∃ o, σ2 = [o]) ⟨rfl, rfl, none, rfl⟩ (by rw [List.length_cons]; omega) (fun j zs σ2 H2 hj h2 => ⟨by rw [h2.1]; exact SqL.of hr4, by rw [h2.2.1, List.length_map, List.length_take]; omega⟩) (fun j x zs σ2 H2 hx h2 => ?_) (fun zs σ2 H2 h2 D hDn => ?_)⟩
      . obtain ⟨rfl, rfl, o, rfl⟩ := h2
        obtain ⟨t, r, m, rfl, ht, hm⟩ := hat j x hx
        walk_at "rd"
        refine ⟨_, SqT.of ht, _, rfl, ?_⟩
        first
          | (refine ⟨rfl, ?_, _, rfl⟩; rw [List.take_add_one, hm, List.map_append]; rfl)
          | (refine ⟨?_, _, rfl⟩; rw [List.take_add_one, hm, List.map_append]; rfl)
      . obtain ⟨rfl, rfl, o, rfl⟩ := h2
        rw [List.take_of_length_le (by rw [List.length_cons]; omega)]
        refine ⟨D, rfl, _, .inl ⟨SqL.of upd_same, fun t1 ht1 => ?_⟩⟩
        have sD : Same H2 (upd (upd H2 D (.lst ((mksP mk N).map V.int))) t1 (.tup ((mksP mk N).map V.int))) := (Same.new hDn).newT ht1
        refine ⟨_, .inl ⟨SqL.of (sD _ _ hy4), fun t2 ht2 => ⟨by omega, fun p hp => k p _ (((sa.trans sD).newT ht2).newT hp) ?_⟩⟩⟩
        have b3 := (sD.newT ht2 (o := .tup ys)).newT hp (o := .tup [V.int L, V.ref t1, V.ref t2])
        rw [hN]
        exact ⟨t1, t2, SqT.of upd_same, SqT.of ((Same.new hp) _ _ ((Same.new ht2) _ _ upd_same)), WordsT.toRows54 (hY4.mono (TK.of b3)) (SqT.of ((Same.new hp) _ _ upd_same))⟩
def sp_ref54 (K : PySem.W.Frag) : Sp := fun vs H Q _ => ∃ (h : Addr) (L : Nat) (says ways : List (List Int)) (mk : Int), vs = [.ref h, .int mk] /\ SaysH K H h L says ways /\ WfS L says ways /\ says.length <= 40 /\ 40 < 1 + (allP L says ways).length /\ ∀ H', Same H H' -> Q (.bl true) H'
theorem ok__law_refused {f : Addr} {fd : FuncData} (F : Fun K "_law_refused" "_law_refused" s__law_refused f fd) (T : Txt mg)
    (W : Own K mg)
    (Z : Exs K mg C_AskError C_BadHouse C_BadMark)
    {f_marks_from : Addr} {fd_marks_from : FuncData} (g_marks_from : FnOk P w K mg base (CXe P w) 2 f_marks_from fd_marks_from ["house", "mark"] (sp_marks54 K C_BadHouse)) (F_marks_from : Fun K "marks_from" "marks_from" s_marks_from f_marks_from fd_marks_from) (b_marks_from : Binds K fd_marks_from ["house", "mark"] []) (m_marks_from : mg "marks_from" = some (.ref f_marks_from))
    : FnOk P w K mg base CX0 3 f fd ["house", "mark"] (sp_ref54 K) := by
  refine F.ok sc__law_refused (fun vs H Q E h => ?_) (fun cdv A outer s H vs Q E hr h => ?_)
  . obtain ⟨h, L, says, ways, mk, rfl, _⟩ := h; rfl
  . obtain ⟨h, L, says, ways, mk, rfl, hh, wf, hn, hb, k⟩ := h
    refine ⟨_, (pss_cons (ps_setL (i := 2) sc__law_refused.nd pe_bl)
      (pss_cut (ps_tryN (E := (fun σ cls _ H1 => σ = [some (.ref h), some (.int mk), some (.bl false)] /\ cls = .ref C_BadHouse /\ Same H H1)) rfl Z.m_BadHouse rfl rfl rfl (fun xe pn hx => (pss_one (ps_expr (pe_callE g_marks_from (hr.mono (by decide)) rfl m_marks_from F_marks_from.kp b_marks_from .nil hx (pa_cons (pvD 0) (pa_cons (pvD 1) pa_nil))))))
      (fun ea pn => (pss_one (ps_setL (i := 2) sc__law_refused.nd pe_bl))))
      (pss_one (ps_ret (pvD 2))))), ?_⟩
    walk_at "rd"
    refine ⟨fun σ' H' => σ' = [some (.ref h), some (.int mk), some (.bl true)] /\ Same H H', ?_, ?_⟩
    . walk_at "rd"
      refine ⟨⟨h, L, says, ways, mk, rfl, hh, wf, hn, fun z => absurd z (by omega), fun _ H1 s1 => ⟨rfl, s1⟩⟩, fun σ1 cls H1 h1 => ?_⟩
      obtain ⟨rfl, rfl, s1⟩ := h1
      exact ⟨C_BadHouse, rfl, Z.ee_BadHouse, rfl, s1⟩
    . rintro σ' H' ⟨rfl, s'⟩
      walk_at "rd"
      exact k _ s'
theorem ok__law_refused_by_any {f : Addr} {fd : FuncData} (F : Fun K "_law_refused_by_any" "_law_refused_by_any" s__law_refused_by_any f fd) (T : Txt mg)
    (W : Own K mg)
    (Z : Exs K mg C_AskError C_BadHouse C_BadMark)
    {f_marks_from : Addr} {fd_marks_from : FuncData} (g_marks_from : FnOk P w K mg base (CXe P w) 2 f_marks_from fd_marks_from ["house", "mark"] (sp_marks54 K C_BadHouse)) (F_marks_from : Fun K "marks_from" "marks_from" s_marks_from f_marks_from fd_marks_from) (b_marks_from : Binds K fd_marks_from ["house", "mark"] []) (m_marks_from : mg "marks_from" = some (.ref f_marks_from))
    : FnOk P w K mg base CX0 3 f fd ["house", "mark"] (sp_ref54 K) := by
  refine F.ok sc__law_refused_by_any (fun vs H Q E h => ?_) (fun cdv A outer s H vs Q E hr h => ?_)
  . obtain ⟨h, L, says, ways, mk, rfl, _⟩ := h; rfl
  . obtain ⟨h, L, says, ways, mk, rfl, hh, wf, hn, hb, k⟩ := h
    refine ⟨_, (pss_cons (ps_setL (i := 2) sc__law_refused_by_any.nd pe_bl)
      (pss_cut (ps_try (i := 3) (E := (fun σ cls _ H1 => σ = [some (.ref h), some (.int mk), some (.bl false), none] /\ cls = .ref C_BadHouse /\ Same H H1)) sc__law_refused_by_any.nd rfl rfl rfl Z.m_AskError rfl rfl rfl (fun xe pn hx => (pss_one (ps_expr (pe_callE g_marks_from (hr.mono (by decide)) rfl m_marks_from F_marks_from.kp b_marks_from .nil hx (pa_cons (pvD 0) (pa_cons (pvD 1) pa_nil))))))
      (fun ea pn => (pss_one (ps_setL (i := 2) sc__law_refused_by_any.nd (pe_and (pe_callB (call_isinstK (K := K) rfl) rfl T.isinstance PyProof.Rows.boot_isinstance (pa_cons (pvD 3) (pa_cons (pe_bltn (v := .ty "ValueError") rfl T.ValueError L2.boot_ValueError rfl) pa_nil))) (pe_one (pe_not (pe_callB (call_isinstK (K := K) rfl) rfl T.isinstance PyProof.Rows.boot_isinstance (pa_cons (pvD 3) (pa_cons (pe_glob (v := .ref C_BadMark) rfl Z.m_BadMark rfl) pa_nil))))))))))
      (pss_one (ps_ret (pvD 2))))), ?_⟩
    walk_at "rd"
    refine ⟨fun σ' H' => σ' = [some (.ref h), some (.int mk), some (.bl true), none] /\ Same H H', ?_, ?_⟩
    . walk_at "rd"
      refine ⟨⟨h, L, says, ways, mk, rfl, hh, wf, hn, fun z => absurd z (by omega), fun _ H1 s1 => ⟨rfl, s1⟩⟩, fun σ1 cls H1 h1 => ?_⟩
      obtain ⟨rfl, rfl, s1⟩ := h1
      refine ⟨C_BadHouse, rfl, Z.e_BadHouse, fun ea hea => ?_⟩
      walk_at "rd"
      refine ⟨_, _, .exc upd_same Z.c_BadHouse, rel_ty, _, Z.v_BadHouse, ?_⟩
      rw [if_pos rfl]
      exact ⟨_, _, .exc upd_same Z.c_BadHouse, rel_ref, _, Z.k_BadHouse_BadMark, rfl, s1.newT hea⟩
    . rintro σ' H' ⟨rfl, s'⟩
      walk_at "rd"
      exact k _ s'
def sp_back54 (K : PySem.W.Frag) : Sp := fun vs H Q _ => ∃ (h a : Addr) (L : Nat) (says ways : List (List Int)) (ms : List Int), vs = [.ref h, .ref a] /\ SaysH K H h L says ways /\ WfS L says ways /\ SqT K H a (ms.map V.int) /\ ms.length = says.length /\ ∀ H', Same H H' -> Q (.bl true) H'
theorem ok__law_back {f : Addr} {fd : FuncData} (F : Fun K "_law_back" "_law_back" s__law_back f fd) (T : Txt mg)
    (W : Own K mg)
    (Z : Exs K mg C_AskError C_BadHouse C_BadMark)
    {f_says_from : Addr} {fd_says_from : FuncData} (g_says_from : FnOk P w K mg base CX0 1 f_says_from fd_says_from ["house"] (sp_from54 K)) (F_says_from : Fun K "says_from" "says_from" s_says_from f_says_from fd_says_from) (b_says_from : Binds K fd_says_from ["house"] []) (m_says_from : mg "says_from" = some (.ref f_says_from))
    {f__law_house_is : Addr} {fd__law_house_is : FuncData} (g__law_house_is : FnOk P w K mg base CX0 3 f__law_house_is fd__law_house_is ["found", "due"] (sp_his K)) (F__law_house_is : Fun K "_law_house_is" "_law_house_is" s__law_house_is f__law_house_is fd__law_house_is) (b__law_house_is : Binds K fd__law_house_is ["found", "due"] []) (m__law_house_is : mg "_law_house_is" = some (.ref f__law_house_is))
    : FnOk P w K mg base CX0 4 f fd ["house", "marks"] (sp_back54 K) := by
  refine F.ok sc__law_back (fun vs H Q E h => ?_) (fun cdv A outer s H vs Q E hr h => ?_)
  . obtain ⟨h, a, L, says, ways, ms, rfl, _⟩ := h; rfl
  . obtain ⟨h, a, L, says, ways, ms, rfl, hh, wf, ha, hml, k⟩ := h
    have hl := line1000
    refine ⟨_, (pss_cons (ps_setL (i := 2) sc__law_back.nd (pe_call g_says_from (hr.mono (by decide)) rfl m_says_from F_says_from.kp b_says_from .nil pass0 (pa_cons (pe_tup (pa_cons (pe_ixA (ixTD ix_tup) (pvD 0) pe_int) (pa_cons (pvD 1) (pa_cons (pe_ixA (ixTD ix_tup) (pvD 0) pe_int) pa_nil)))) pa_nil)))
      (pss_cons (ps_setL (i := 3) sc__law_back.nd (pe_lst pa_nil))
      (pss_cons (ps_for PassesOwn.never rfl (pi_tup (pe_ixA (ixTD ix_tup) (pvD 0) pe_int)) (pg_name (i := 4) sc__law_back.nd rfl (Or.inl rfl))
      (pss_one (ps_expr (pe_bm PySem.F.plainAttrs_list PySem.F.slot_list_append PySem.F.type_list_append mt_append (pvD 3) (pa_cons (pe_callTy call_tuple_L rfl T.tuple PyProof.Rows.boot_tuple (pa_cons (pe_comp rfl (blk_mk rfl) (cp := c__law_back_3) ⟨⟨rfl, rfl⟩, True.intro⟩ (pi_tup (pvD 4)) (fun _ _ _ _ => (pg_name (i := 0) nd_c__law_back_3 rfl (Or.inl rfl))) (fun _ _ _ _ => pf_nil) (fun _ _ _ _ => (pe_ixA (ixTD (ix_tupK (K := K) rfl)) (pvD 1) (pvD 0)))) pa_nil)) pa_nil)))))
      (pss_one (ps_ret (pe_call g__law_house_is (hr.mono (by decide)) rfl m__law_house_is F__law_house_is.kp b__law_house_is .nil pass0 (pa_cons (pvD 2) (pa_cons (pe_tup (pa_cons (pe_ixA (ixTD ix_tup) (pvD 0) pe_int) (pa_cons (pe_callTy call_tuple_L rfl T.tuple PyProof.Rows.boot_tuple (pa_cons (pvD 3) pa_nil)) (pa_cons (pe_ixA (ixTD ix_tup) (pvD 0) pe_int) pa_nil)))) pa_nil)))))))), ?_⟩
    obtain ⟨mm, wv, q1, q2, q3⟩ := id hh
    have hn40 := wf.wf.n40
    have hL6 := wf.wf.l6
    have hwl : ways.length = says.length := by have := wf.wf.len; rw [List.length_replicate] at this; exact this
    rw [List.length_replicate] at hn40
    have hin : ∀ row ∈ ways, ∀ x ∈ row, 0 <= x /\ x < ms.length := fun row hr' x hx => by
      have := (wf.wf.rows row hr').2 x hx
      rw [List.length_replicate] at this
      rw [hml]; exact this
    have h6 : ∀ row ∈ ways, row.length <= 6 := fun row hr' => by
      have := (wf.wf.rows row hr').1
      omega
    have hsl : (sfP ms ways).length = ways.length := by unfold sfP; rw [List.length_map]
    have hsr : ∀ row ∈ sfP ms ways, row.length <= 6 := fun row hr' => by
      unfold sfP at hr'
      obtain ⟨r0, h0, rfl⟩ := List.mem_map.mp hr'
      rw [List.length_map]; exact h6 r0 h0
    obtain ⟨ts, r1, r2, r3⟩ := id q3
    walk_at "rd"
    refine ⟨_, q1, _, rfl, _, q1, _, rfl, by omega, fun p hp => ?_⟩
    have s0 : Same H (upd H p (.tup [V.int L, V.ref a, V.ref wv])) := Same.new hp
    refine ⟨p, L, ms, ways, rfl, ⟨a, wv, SqT.of upd_same, s0.seqT ha, q3.mono s0⟩, hin, by omega, h6, fun pf H1 s1 hf => ?_⟩
    have s01 := s0.trans s1
    refine ⟨by omega, fun ps hps => ?_⟩
    have s2 : Same H (upd H1 ps (.lst [])) := s01.newT hps
    have hpsH : H ps = none := s01.none hps
    have hf2 := hf.mono (Same.new hps (o := .lst []))
    have hb0 : upd H1 ps (.lst []) ps = some (.lst []) := upd_same
    have hps1 : ∀ H2, Same (upd H1 ps (.lst [])) H2 -> Same H1 H2 := fun H2 z => (Same.new hps).trans z
    refine ⟨_, s2.seqT q1, _, rfl, wv, rfl, ⟨_, s2.seqT r1⟩, ?_⟩
    obtain ⟨Pv, hPv⟩ : ∃ Pv : Nat -> St -> Hp -> Prop, ∀ i σ' H', Pv i σ' H' ↔ (∃ (xs : List V) (o : Option V), Same H1 H' /\ H' ps = some (.lst xs) /\ WordsT K H' xs ((sfP ms ways).take i) /\ σ' = [some (.ref h), some (.ref a), some (.ref pf), some (.ref ps), o]) := ⟨_, fun _ _ _ => Iff.rfl⟩
    refine forT (xs := ts.map V.ref) Pv ((hPv _ _ _).mpr ⟨[], none, Same.new hps, hb0, WordsT.nil, rfl⟩) (fun i σ' H' _ h' => by obtain ⟨_, _, z, _⟩ := (hPv _ _ _).mp h'; exact (s01.trans z).seqT r1) (fun i x σ' H' hx h' => ?_) (fun σ' H' h' => ?_)
    . obtain ⟨xs, o, s3, hp3, hX3, rfl⟩ := (hPv _ _ _).mp h'
      have s03 := s01.trans s3
      rw [List.getElem?_map] at hx
      cases htj : ts[i]? with
      | none => rw [htj] at hx; cases hx
      | some t =>
        rw [htj] at hx
        cases hx
        have hi : i < ways.length := by rw [<- r2]; exact (List.getElem?_eq_some_iff.mp htj).1
        have hrow : ways[i]? = some ways[i] := by simp [hi]
        have ht := s03.seqT (r3 i t _ htj hrow)
        have hr0 := hin _ (List.getElem_mem hi)
        have hr6 := h6 _ (List.getElem_mem hi)
        have hsf : (sfP ms ways)[i]? = some (ways[i].map fun g => ms.getD g.toNat 0) := by unfold sfP; rw [List.getElem?_map, hrow]; rfl
        have hxl := hX3.1
        rw [List.length_take] at hxl
        generalize ways[i] = row at ht hr0 hr6 hsf hrow
        walk_at "rd"
        obtain ⟨f, hf'⟩ : ∃ f : V -> V, ∀ n : Int, f (V.int n) = .int (ms.getD n.toNat 0) := ⟨fun x => match x with | .int n => .int (ms.getD n.toNat 0) | _ => .non, fun _ => rfl⟩
        refine ⟨.inl ⟨rfl, _, SqL.of hp3⟩, ⟨_, ht⟩, compMapT (σ' := [some (.ref a)]) f rfl ht (by rw [List.length_map]; omega) (fun x hx R hR => ?_) (fun D hD => ?_)⟩
        . obtain ⟨n, hn, rfl⟩ := mem_mapI hx
          rw [hf'] at hR
          obtain ⟨n0, n1⟩ := hr0 n hn
          have hg : ms[n.toNat]? = some (ms.getD n.toNat 0) := by rw [List.getD_eq_getElem?_getD, List.getElem?_eq_getElem (by omega)]; rfl
          walk_at "rd"
          exact ⟨_, s03.seqT ha, _, atI_int n0 hg, hR⟩
        . have em : (row.map V.int).map f = (row.map fun g => ms.getD g.toNat 0).map V.int := by
            rw [List.map_map, List.map_map]
            exact List.map_congr_left fun n _ => hf' n
          rw [em]
          refine ⟨D, rfl, _, .inl ⟨SqL.of upd_same, fun u hu => ?_⟩⟩
          have sD := (Same.new hD (o := .lst ((row.map fun g => ms.getD g.toNat 0).map V.int))).newT hu (o := .tup ((row.map fun g => ms.getD g.toNat 0).map V.int))
          have hp4 := sD _ _ hp3
          refine ⟨_, hp4, by omega, (hPv _ _ _).mpr ⟨xs ++ [V.ref u], _, (s3.trans sD).over hps, upd_same, ?_, rfl⟩⟩
          rw [List.take_add_one, hsf]
          exact ((hX3.mono (TK.of sD)).snoc upd_same).mono (TK.lst hp4)
    . obtain ⟨xs, o, s3, hp3, hX3, rfl⟩ := (hPv _ _ _).mp h'
      have s03 := s01.trans s3
      rw [List.length_map, r2, List.take_of_length_le (by omega)] at hX3
      walk_at "rd"
      refine ⟨_, s03.seqT q1, _, rfl, _, .inl ⟨SqL.of hp3, fun t ht => ?_⟩⟩
      have s4 := s03.newT ht (o := .tup xs)
      refine ⟨_, s4.seqT q1, _, rfl, by omega, fun p2 hp2 => ?_⟩
      have s5 := (Same.new ht (o := .tup xs)).newT hp2 (o := .tup [V.int L, V.ref t, V.ref wv])
      refine ⟨pf, p2, L, sfP ms ways, ways, rfl, hf.mono (s3.trans s5), ⟨t, wv, SqT.of upd_same, WordsT.toRows54 (hX3.mono (TK.of s5)) (SqT.of ((Same.new hp2) _ _ upd_same)), q3.mono (s03.trans s5)⟩, by omega, by omega, fun r hr' => by have := hsr r hr'; omega, fun r hr' => by have := h6 r hr'; omega, k _ (s03.trans s5)⟩
theorem ixOf_lt {α : Type} [DecidableEq α] {l : List α} {x : α} (h : x ∈ l) : ixOf l x < l.length := List.idxOf_lt_length_of_mem h
theorem ixOf_get {α : Type} [DecidableEq α] {l : List α} {x : α} (h : ixOf l x < l.length) : l[ixOf l x] = x := List.getElem_idxOf h
theorem allP_go {L : Nat} {says ways : List (List Int)} (wf : WfS L says ways) {q : Nat} (h : q < 1 + (allP L says ways).length) : q < 1 + (runP says ways q).length := by
  by_cases c : q < 1 + (runP says ways q).length
  . exact c
  . have h1 := runP_len wf (1 + says.length * L)
    change (allP L says ways).length <= _ at h1
    have e := runP_stop c (1 + says.length * L) (by omega)
    change allP L says ways = _ at e
    rw [e] at h
    exact absurd h c
theorem rowP_at {L : Nat} {says ways : List (List Int)} (wf : WfS L says ways) (mk : Int) {q x r : Nat} (h : q < 1 + (allP L says ways).length) (hx : x < L) (hr : r = roomP (allP L says ways) q) : r < says.length /\ (rowsP says ways (allP L says ways))[q]? = some (rowP says ways (allP L says ways) q) /\ ∃ u : Nat, (rowP says ways (allP L says ways) q)[x]? = some (u : Int) /\ u < 1 + (allP L says ways).length /\ roomP (allP L says ways) u = (stepW ways r x).toNat /\ (mksP mk (allP L says ways))[u]? = some (stepW says r x) := by
  have hgo := allP_go wf h
  have h1 := runP_len wf (1 + says.length * L)
  change (allP L says ways).length <= _ at h1
  have p1 : runP says ways q <+: allP L says ways := runP_pre (by omega)
  have p2 : runP says ways (q + 1) <+: allP L says ways := runP_pre (by omega)
  have hrm : r = roomP (runP says ways q) q := by rw [hr, roomP_pre p1 hgo]
  have hrl : r < says.length := by rw [hrm]; exact roomP_lt wf hgo
  have hg := glS_get wf hrl (x := x) (by omega)
  have hmem : [stepW ways r x, stepW says r x] ∈ allP L says ways := by
    have : [stepW ways r x, stepW says r x] ∈ runP says ways (q + 1) := by
      rw [runP_go hgo, <- hrm]
      exact mem_firstsA.mpr (.inr (List.mem_of_getElem? hg))
    exact p2.subset this
  generalize allP L says ways = N at *
  have hix : ixOf N [stepW ways r x, stepW says r x] < N.length := ixOf_lt hmem
  have hget : N[ixOf N [stepW ways r x, stepW says r x]] = [stepW ways r x, stepW says r x] := ixOf_get hix
  refine ⟨hrl, ?_, 1 + ixOf N [stepW ways r x, stepW says r x], ?_, by omega, ?_, ?_⟩
  . unfold rowsP
    rw [List.getElem?_map, List.getElem?_range h]; rfl
  . unfold rowP
    rw [<- hr, List.getElem?_map, hg]
    show some _ = some _
    rw [Int.natCast_add]; rfl
  . unfold roomP
    rw [if_neg (by omega), show 1 + ixOf N [stepW ways r x, stepW says r x] - 1 = ixOf N [stepW ways r x, stepW says r x] by omega, getD_of hix, hget]
    rfl
  . unfold mksP
    rw [Nat.add_comm, List.getElem?_cons_succ, List.getElem?_map, List.getElem?_eq_getElem hix, hget]; rfl
def spLaw (K : PySem.W.Frag) : Sp := fun vs H Q _ => ∃ (a : Addr) (ns : List Int), vs = [.ref a] /\ SqL K H a (ns.map V.int) /\ ns.length <= 63 /\ ∀ H', Q (.bl true) H'
theorem ok_law {f : Addr} {fd : FuncData} (F : Fun K "law" "law" s_law f fd) (T : Txt mg)
    (W : Own K mg)
    (Z : Exs K mg C_AskError C_BadHouse C_BadMark)
    {f_marks_from : Addr} {fd_marks_from : FuncData} (g_marks_from : FnOk P w K mg base (CXe P w) 2 f_marks_from fd_marks_from ["house", "mark"] (sp_marks54 K C_BadHouse)) (F_marks_from : Fun K "marks_from" "marks_from" s_marks_from f_marks_from fd_marks_from) (b_marks_from : Binds K fd_marks_from ["house", "mark"] []) (m_marks_from : mg "marks_from" = some (.ref f_marks_from))
    {f__law_cell : Addr} {fd__law_cell : FuncData} (g__law_cell : FnOk P w K mg base CX0 1 f__law_cell fd__law_cell ["script", "k"] (sp_cell K)) (F__law_cell : Fun K "_law_cell" "_law_cell" s__law_cell f__law_cell fd__law_cell) (b__law_cell : Binds K fd__law_cell ["script", "k"] []) (m__law_cell : mg "_law_cell" = some (.ref f__law_cell))
    {f__law_whole : Addr} {fd__law_whole : FuncData} (g__law_whole : FnOk P w K mg base CX0 1 f__law_whole fd__law_whole ["found"] (sp_whole)) (F__law_whole : Fun K "_law_whole" "_law_whole" s__law_whole f__law_whole fd__law_whole) (b__law_whole : Binds K fd__law_whole ["found"] []) (m__law_whole : mg "_law_whole" = some (.ref f__law_whole))
    {f__law_big : Addr} {fd__law_big : FuncData} (g__law_big : FnOk P w K mg base CX0 2 f__law_big fd__law_big ["script", "k"] (sp_big K)) (F__law_big : Fun K "_law_big" "_law_big" s__law_big f__law_big fd__law_big) (b__law_big : Binds K fd__law_big ["script", "k"] []) (m__law_big : mg "_law_big" = some (.ref f__law_big))
    {f__law_mark : Addr} {fd__law_mark : FuncData} (g__law_mark : FnOk P w K mg base CX0 1 f__law_mark fd__law_mark ["cell"] (sp_mark53)) (F__law_mark : Fun K "_law_mark" "_law_mark" s__law_mark f__law_mark fd__law_mark) (b__law_mark : Binds K fd__law_mark ["cell"] []) (m__law_mark : mg "_law_mark" = some (.ref f__law_mark))
    {f__law_says : Addr} {fd__law_says : FuncData} (g__law_says : FnOk P w K mg base CX0 3 f__law_says fd__law_says ["script", "at", "letters", "rooms"] (sp_says53 K)) (F__law_says : Fun K "_law_says" "_law_says" s__law_says f__law_says fd__law_says) (b__law_says : Binds K fd__law_says ["script", "at", "letters", "rooms"] []) (m__law_says : mg "_law_says" = some (.ref f__law_says))
    {f__law_rows_are : Addr} {fd__law_rows_are : FuncData} (g__law_rows_are : FnOk P w K mg base CX0 2 f__law_rows_are fd__law_rows_are ["found", "due"] (sp_rare K)) (F__law_rows_are : Fun K "_law_rows_are" "_law_rows_are" s__law_rows_are f__law_rows_are fd__law_rows_are) (b__law_rows_are : Binds K fd__law_rows_are ["found", "due"] []) (m__law_rows_are : mg "_law_rows_are" = some (.ref f__law_rows_are))
    {f__law_talk : Addr} {fd__law_talk : FuncData} (g__law_talk : FnOk P w K mg base CX0 1 f__law_talk fd__law_talk ["house", "word"] (sp_talk K)) (F__law_talk : Fun K "_law_talk" "_law_talk" s__law_talk f__law_talk fd__law_talk) (b__law_talk : Binds K fd__law_talk ["house", "word"] []) (m__law_talk : mg "_law_talk" = some (.ref f__law_talk))
    {f__law_row_is : Addr} {fd__law_row_is : FuncData} (g__law_row_is : FnOk P w K mg base CX0 2 f__law_row_is fd__law_row_is ["found", "due"] (sp_row_is64 K)) (F__law_row_is : Fun K "_law_row_is" "_law_row_is" s__law_row_is f__law_row_is fd__law_row_is) (b__law_row_is : Binds K fd__law_row_is ["found", "due"] []) (m__law_row_is : mg "_law_row_is" = some (.ref f__law_row_is))
    {f__law_own_marks : Addr} {fd__law_own_marks : FuncData} (g__law_own_marks : FnOk P w K mg base CX0 1 f__law_own_marks fd__law_own_marks ["house"] (sp_own54 K)) (F__law_own_marks : Fun K "_law_own_marks" "_law_own_marks" s__law_own_marks f__law_own_marks fd__law_own_marks) (b__law_own_marks : Binds K fd__law_own_marks ["house"] []) (m__law_own_marks : mg "_law_own_marks" = some (.ref f__law_own_marks))
    {f__law_spread : Addr} {fd__law_spread : FuncData} (g__law_spread : FnOk P w K mg base CX0 1 f__law_spread fd__law_spread ["house", "mark"] (sp_spread54 K)) (F__law_spread : Fun K "_law_spread" "_law_spread" s__law_spread f__law_spread fd__law_spread) (b__law_spread : Binds K fd__law_spread ["house", "mark"] []) (m__law_spread : mg "_law_spread" = some (.ref f__law_spread))
    {f__law_refused : Addr} {fd__law_refused : FuncData} (g__law_refused : FnOk P w K mg base CX0 3 f__law_refused fd__law_refused ["house", "mark"] (sp_ref54 K)) (F__law_refused : Fun K "_law_refused" "_law_refused" s__law_refused f__law_refused fd__law_refused) (b__law_refused : Binds K fd__law_refused ["house", "mark"] []) (m__law_refused : mg "_law_refused" = some (.ref f__law_refused))
    {f__law_refused_by_any : Addr} {fd__law_refused_by_any : FuncData} (g__law_refused_by_any : FnOk P w K mg base CX0 3 f__law_refused_by_any fd__law_refused_by_any ["house", "mark"] (sp_ref54 K)) (F__law_refused_by_any : Fun K "_law_refused_by_any" "_law_refused_by_any" s__law_refused_by_any f__law_refused_by_any fd__law_refused_by_any) (b__law_refused_by_any : Binds K fd__law_refused_by_any ["house", "mark"] []) (m__law_refused_by_any : mg "_law_refused_by_any" = some (.ref f__law_refused_by_any))
    {f__law_back : Addr} {fd__law_back : FuncData} (g__law_back : FnOk P w K mg base CX0 4 f__law_back fd__law_back ["house", "marks"] (sp_back54 K)) (F__law_back : Fun K "_law_back" "_law_back" s__law_back f__law_back fd__law_back) (b__law_back : Binds K fd__law_back ["house", "marks"] []) (m__law_back : mg "_law_back" = some (.ref f__law_back))
    : FnOk P w K mg base CX0 5 f fd ["script"] (spLaw K) := by
  refine F.ok sc_law (fun vs H Q E h => ?_) (fun cdv A outer s H vs Q E hr h => ?_)
  . obtain ⟨a, ns, rfl, _⟩ := h; rfl
  . obtain ⟨a, ns, rfl, hs, hz, k⟩ := h
    have hl := line1000
    refine ⟨_, (pss_lazy (ps_set (i := 1) sc_law.nd rfl (Or.inr rfl) (pe_op (opD0 op_add) pe_int (pe_op (opD op_mod) (pe_call g__law_cell (hr.mono (by decide)) rfl m__law_cell F__law_cell.kp b__law_cell .nil pass0 (pa_cons (pvD 0) (pa_cons pe_int pa_nil))) pe_int)))
      (pss_lazy (ps_setL (i := 2) sc_law.nd (pe_op (opD0 op_add) pe_int (pe_op (opD op_mod) (pe_call g__law_cell (hr.mono (by decide)) rfl m__law_cell F__law_cell.kp b__law_cell .nil pass0 (pa_cons (pvD 0) (pa_cons pe_int pa_nil))) pe_int)))
      (pss_cut (ps_if (ptT (pt_cmpR (opE op_eq) (pvD 1) pe_int (nomark _)))
      (pss_one (ps_setL (i := 2) sc_law.nd (pe_op (opD0 op_add) pe_int (pe_op (opD op_mod) (pe_call g__law_cell (hr.mono (by decide)) rfl m__law_cell F__law_cell.kp b__law_cell .nil pass0 (pa_cons (pvD 0) (pa_cons pe_int pa_nil))) pe_int))))
      pss_nil)
      (pss_lazy (ps_setL (i := 3) sc_law.nd (pe_call g__law_says (hr.mono (by decide)) rfl m__law_says F__law_says.kp b__law_says .nil pass0 (pa_cons (pvD 0) (pa_cons pe_int (pa_cons (pvD 1) (pa_cons (pvD 2) pa_nil))))))
      (pss_cut (ps_if (ptT (pt_cmpR (opE op_eq) (pe_op (opD op_mod) (pe_call g__law_cell (hr.mono (by decide)) rfl m__law_cell F__law_cell.kp b__law_cell .nil pass0 (pa_cons (pvD 0) (pa_cons pe_int pa_nil))) pe_int) pe_int (nomark _)))
      (pss_one (ps_setL (i := 3) sc_law.nd (pe_call g__law_own_marks (hr.mono (by decide)) rfl m__law_own_marks F__law_own_marks.kp b__law_own_marks .nil pass0 (pa_cons (pvD 3) pa_nil))))
      pss_nil)
      (pss_lazy (ps_setL (i := 4) sc_law.nd (pe_call g__law_mark (hr.mono (by decide)) rfl m__law_mark F__law_mark.kp b__law_mark .nil pass0 (pa_cons (pe_call g__law_cell (hr.mono (by decide)) rfl m__law_cell F__law_cell.kp b__law_cell .nil pass0 (pa_cons (pvD 0) (pa_cons pe_int pa_nil))) pa_nil)))
      (pss_lazy (ps_setL (i := 5) sc_law.nd (pe_callTy call_tuple_L rfl T.tuple PyProof.Rows.boot_tuple (pa_cons (pe_comp rfl (blk_mk rfl) (cp := c_law_3) ⟨⟨rfl, rfl⟩, True.intro⟩ (pi_range1 rfl T.range (pa_cons (pvD 2) pa_nil)) (fun _ _ _ _ => (pg_name (i := 0) nd_c_law_3 rfl (Or.inl rfl))) (fun _ _ _ _ => pf_nil) (fun _ _ _ _ => (pe_call g__law_mark (hr.mono (by decide)) rfl m__law_mark F__law_mark.kp b__law_mark .nil pass0 (pa_cons (pe_call g__law_big (hr.mono (by decide)) rfl m__law_big F__law_big.kp b__law_big .nil pass0 (pa_cons (pvD 1) (pa_cons (pe_op (opD0 op_add) pe_int (pe_op (opD op_mul) pe_int (pvD 0))) pa_nil))) pa_nil)))) pa_nil)))
      (pss_lazy (ps_if (pt_not (ptB (pt_val (pe_call g__law_back (hr.mono (by decide)) rfl m__law_back F__law_back.kp b__law_back .nil pass0 (pa_cons (pvD 3) (pa_cons (pvD 5) pa_nil))))))
      (pss_one (ps_ret pe_bl))
      pss_nil)
      (pss_lazy (ps_setL (i := 6) sc_law.nd (pe_call g__law_spread (hr.mono (by decide)) rfl m__law_spread F__law_spread.kp b__law_spread .nil pass0 (pa_cons (pvD 3) (pa_cons (pvD 4) pa_nil))))
      (pss_lazy (ps_if (ptT (pt_cmpR (opD0 op_gt) (pe_callB (lenD call_len_seq) (by rfl) T.len PySem.boot_len (pa_cons (pe_ixA (ixTD ix_tup) (pvD 6) pe_int) pa_nil)) pe_int (nomark _)))
      (pss_one (ps_ret (pe_and (pe_call g__law_refused (hr.mono (by decide)) rfl m__law_refused F__law_refused.kp b__law_refused .nil pass0 (pa_cons (pvD 3) (pa_cons (pvD 4) pa_nil))) (pe_one (pe_call g__law_refused_by_any (hr.mono (by decide)) rfl m__law_refused_by_any F__law_refused_by_any.kp b__law_refused_by_any .nil pass0 (pa_cons (pvD 3) (pa_cons (pvD 4) pa_nil)))))))
      pss_nil)
      (pss_lazy (ps_setL (i := 7) sc_law.nd (pe_call g_marks_from (hr.mono (by decide)) rfl m_marks_from F_marks_from.kp b_marks_from .nil (passNev (P := P) (w := w)) (pa_cons (pvD 3) (pa_cons (pvD 4) pa_nil))))
      (pss_lazy (ps_if (PW.pt (pw_or (pt_not (ptB (pt_val (pe_callB call_isinstW rfl T.isinstance PyProof.Rows.boot_isinstance (pa_cons (pvD 7) (pa_cons (pe_bltn (v := .ty "tuple") rfl T.tuple PyProof.Rows.boot_tuple rfl) pa_nil)))))) (pw_or (ptT (pt_cmpR (opN op_ne) (pe_callB (lenD call_len_seq) (by rfl) T.len PySem.boot_len (pa_cons (pvD 7) pa_nil)) pe_int (nomark _))) (pw_or (pt_not (ptB (pt_val (pe_call g__law_whole (hr.mono (by decide)) rfl m__law_whole F__law_whole.kp b__law_whole .nil pass0 (pa_cons (pe_ixA (ixTD ix_tup) (pvD 7) pe_int) pa_nil))))) (pw_or1 (ptT (pt_cmpR (opN op_ne) (pe_ixA (ixTD ix_tup) (pvD 7) pe_int) (pvD 1) (nomark _))))))))
      (pss_one (ps_ret pe_bl))
      pss_nil)
      (pss_lazy (ps_if (PW.pt (pw_or (pt_not (ptB (pt_val (pe_call g__law_row_is (hr.mono (by decide)) rfl m__law_row_is F__law_row_is.kp b__law_row_is .nil pass0 (pa_cons (pe_ixA (ixTD ix_tup) (pvD 7) pe_int) (pa_cons (pe_ixA (ixTD ix_tup) (pvD 6) pe_int) pa_nil)))))) (pw_or1 (pt_not (ptB (pt_val (pe_call g__law_rows_are (hr.mono (by decide)) rfl m__law_rows_are F__law_rows_are.kp b__law_rows_are .nil pass0 (pa_cons (pe_ixA (ixTD ix_tup) (pvD 7) pe_int) (pa_cons (pe_ixA (ixTD ix_tup) (pvD 6) pe_int) pa_nil)))))))))
      (pss_one (ps_ret pe_bl))
      pss_nil)
      (pss_lazy (ps_setL (i := 8) sc_law.nd (pe_callTy call_tuple_L rfl T.tuple PyProof.Rows.boot_tuple (pa_cons (pe_comp rfl (blk_mk rfl) (cp := c_law_8) ⟨⟨rfl, rfl⟩, ⟨⟨rfl, rfl⟩, True.intro⟩⟩ (pi_range1 rfl T.range (pa_cons (pe_callB (call_min2 rfl) rfl T.min PyProof.Rows.boot_min (pa_cons pe_int (pa_cons (pe_callB (lenD call_len_seq) (by rfl) T.len PySem.boot_len (pa_cons (pvD 0) pa_nil)) pa_nil))) pa_nil)) (fun _ _ _ _ => (pg_name (i := 0) nd_c_law_8 rfl (Or.inl rfl))) (fun _ _ _ _ => pf_nil) (fun _ _ _ _ => (pe_op (opD op_mod) (pe_op (opD0 op_add) (pe_op (opD op_fdiv) (pe_ixA (ixLD (ix_listK (K := K) rfl)) (pvD 2) (pvD 0)) pe_int) (pvD 0)) (pvD 1)))) pa_nil)))
      (pss_cons (ps_setL (i := 9) sc_law.nd pe_int)
      (pss_cons (ps_for PassesOwn.never rfl (pi_tup (pvD 8)) (pg_name (i := 10) sc_law.nd rfl (Or.inl rfl))
      (pss_one (ps_setL (i := 9) sc_law.nd (pe_ixA (ixTD ix_tup) (pe_ixA (ixTD ix_tup) (pe_ixA (ixTD ix_tup) (pvD 7) pe_int) (pvD 9)) (pvD 10)))))
      (pss_one (ps_ret (pe_or (pe_cmpR (opE op_eq) (pe_callB (lenD call_len_seq) (by rfl) T.len PySem.boot_len (pa_cons (pvD 8) pa_nil)) pe_int (nomark _)) (pe_one (pe_cmpR (opE op_eq) (pe_ixA (ixTD ix_tup) (pe_ixA (ixTD ix_tup) (pvD 7) pe_int) (pvD 9)) (pe_ixA (ixLD ix_list) (pe_call g__law_talk (hr.mono (by decide)) rfl m__law_talk F__law_talk.kp b__law_talk .nil pass0 (pa_cons (pvD 3) (pa_cons (pvD 8) pa_nil))) (pe_un un_neg pe_int)) (nomark _)))))))))))))))))))))), ?_⟩
    have a0 := Int.emod_nonneg (cell ns 0) (show (6 : Int) ≠ 0 by decide)
    have a1 := Int.emod_lt_of_pos (cell ns 0) (show (0 : Int) < 6 by decide)
    obtain ⟨L, hL, hL1, hL6⟩ : ∃ L : Nat, 1 + cell ns 0 % 6 = (L : Int) /\ 1 <= L /\ L <= 6 := ⟨(1 + cell ns 0 % 6).toNat, by omega, by omega, by omega⟩
    walk_at "rd"
    refine ⟨a, ns, 0, rfl, hs, _, rfl, by decide, later_of ?_⟩
    rw [hL]
    walk_at "rd"
    refine ⟨a, ns, 1, rfl, hs, _, rfl, by decide, later_of ?_⟩
    walk_at "rd"
    obtain ⟨P1, hP1⟩ : ∃ Pc : St -> Hp -> Prop, ∀ σ' H', Pc σ' H' ↔ (H' = H /\ ∃ n : Nat, 1 <= n /\ n <= 13 /\ σ' = [some (.ref a), some (.int L), some (.int n), none, none, none, none, none, none, none, none]) := ⟨_, fun _ _ => Iff.rfl⟩
    refine ⟨P1, ?_, fun σ1 H1 h1 => ?_⟩
    . have b0 := Int.emod_nonneg (cell ns 1) (show (8 : Int) ≠ 0 by decide)
      have b1 := Int.emod_lt_of_pos (cell ns 1) (show (0 : Int) < 8 by decide)
      have c0 := Int.emod_nonneg (cell ns 1) (show (13 : Int) ≠ 0 by decide)
      have c1 := Int.emod_lt_of_pos (cell ns 1) (show (0 : Int) < 13 by decide)
      walk_at "rd"
      refine ite2 (fun _ => ⟨a, ns, 1, rfl, hs, _, rfl, by decide, (hP1 _ _).mpr ⟨rfl, (1 + cell ns 1 % 13).toNat, by omega, by omega, ?_⟩⟩) (fun _ => (hP1 _ _).mpr ⟨rfl, (1 + cell ns 1 % 8).toNat, by omega, by omega, ?_⟩)
      . rw [Int.toNat_of_nonneg (by omega)]
      . rw [Int.toNat_of_nonneg (by omega)]
    obtain ⟨rfl, n, hn1, hn13, rfl⟩ := (hP1 _ _).mp h1
    clear h1 hP1
    walk_at "rd"
    refine ⟨a, ns, 4, L, n, rfl, hs, hz, by omega, by omega, hL1, hL6, hn1, by omega, fun h says ways H2 s2 hh wf hsl _ => later_of ?_⟩
    obtain ⟨P2, hP2⟩ : ∃ Pc : St -> Hp -> Prop, ∀ σ' H', Pc σ' H' ↔ (∃ (h : Addr) (says : List (List Int)), Same H1 H' /\ SaysH K H' h L says ways /\ WfS L says ways /\ says.length = n /\ σ' = [some (.ref a), some (.int L), some (.int n), some (.ref h), none, none, none, none, none, none, none]) := ⟨_, fun _ _ => Iff.rfl⟩
    refine ⟨P2, ?_, fun σ3 H3 h3 => ?_⟩
    . walk_at "rd"
      refine ⟨a, ns, 2, rfl, s2.seq hs, _, rfl, by decide, ite2 (fun _ => ?_) (fun _ => (hP2 _ _).mpr ⟨h, says, s2, hh, wf, hsl, rfl⟩)⟩
      exact ⟨h, L, says, ways, rfl, hh, wf, fun p H' says' s' hp wf' hl' => (hP2 _ _).mpr ⟨p, says', s2.trans s', hp, wf', by omega, rfl⟩⟩
    clear hh wf s2 hsl
    obtain ⟨h, says, s3, hh, wf, hsl, rfl⟩ := (hP2 _ _).mp h3
    clear h3 hP2
    walk_at "rd"
    refine ⟨a, ns, 3, rfl, s3.seq hs, _, rfl, fun mk _ _ => later_of ?_⟩
    walk_at "rd"
    refine ⟨by omega, by omega, ?_⟩
    rw [Int.toNat_natCast]
    obtain ⟨Pm, hPm⟩ : ∃ Pc : Nat -> List V -> St -> Hp -> Prop, ∀ j ys σ4 H4, Pc j ys σ4 H4 ↔ (H4 = H3 /\ ∃ (row : List Int) (o : Option V), ys = row.map V.int /\ row.length = j /\ σ4 = [o, some (.ref a)]) := ⟨_, fun _ _ _ _ => Iff.rfl⟩
    refine compR Pm ((hPm _ _ _ _).mpr ⟨rfl, [], none, rfl, rfl, rfl⟩) (by omega) (fun j ys σ4 H4 _ h4 => ?_) (fun j ys σ4 H4 hj h4 => ?_) (fun ys σ4 H4 h4 D hD => ?_)
    . obtain ⟨_, row, o, rfl, hrl, _⟩ := (hPm _ _ _ _).mp h4
      rw [List.length_map]; omega
    . obtain ⟨rfl, row, o, rfl, hrl, rfl⟩ := (hPm _ _ _ _).mp h4
      rw [Int.zero_add]
      walk_at "rd"
      exact ⟨.inl ⟨by decide, by decide⟩, a, ns, 5 + 3 * (j : Int), rfl, s3.seq hs, hz, by omega, by omega, fun x => ⟨x, rfl, fun y _ _ => (hPm _ _ _ _).mpr ⟨rfl, row ++ [y], _, by simp, by simp [hrl], rfl⟩⟩⟩
    obtain ⟨rfl, ms, o1, rfl, hml, rfl⟩ := (hPm _ _ _ _).mp h4
    clear h4 hPm
    refine ⟨D, rfl, _, .inl ⟨SqL.of upd_same, fun t ht => later_of ?_⟩⟩
    have sD := (Same.new hD (o := .lst (ms.map V.int))).newT ht (o := .tup (ms.map V.int))
    have htm : upd (upd H4 D (.lst (ms.map V.int))) t (.tup (ms.map V.int)) t = some (.tup (ms.map V.int)) := upd_same
    have s5 := s3.trans sD
    have hh5 := hh.mono sD
    generalize upd (upd H4 D (.lst (ms.map V.int))) t (.tup (ms.map V.int)) = H5 at sD htm s5 hh5 ⊢
    clear hh s3
    walk_at "rd"
    refine ⟨h, t, L, says, ways, ms, rfl, hh5, wf, SqT.of htm, by omega, fun H6 s6 => ?_⟩
    refine ⟨true, rfl, ?_⟩
    rw [if_neg (by decide)]
    refine later_of ?_
    have hh6 := hh5.mono s6
    have s06 := s5.trans s6
    clear hh5 s5 sD
    walk_at "rd"
    refine ⟨h, L, says, ways, mk, rfl, hh6, wf, fun pd H7 s7 hd => later_of ?_⟩
    have hh7 := hh6.mono s7
    have s07 := s06.trans s7
    clear hh6 s06 s6 s7
    have hml' : (mksP mk (allP L says ways)).length = 1 + (allP L says ways).length := by unfold mksP; simp; omega
    obtain ⟨dm, dw, d1, d2, d3⟩ := id hd
    walk_at "rd"
    refine ⟨_, d1, _, rfl, dm, rfl, _, .inr d2, ite2 (fun h40 => ?_) (fun h40 => ?_)⟩
    . rw [List.length_map, hml'] at h40
      refine ⟨h, L, says, ways, mk, rfl, hh7, wf, by omega, by omega, fun H8 s8 => ?_⟩
      walk_at "rd"
      exact ⟨h, L, says, ways, mk, rfl, hh7.mono s8, wf, by omega, by omega, fun H9 s9 => k _⟩
    rw [List.length_map, hml'] at h40
    refine later_of ?_
    walk_at "rd"
    refine ⟨h, L, says, ways, mk, rfl, hh7, wf, by omega, fun _ pf H8 s8 hf => later_of ?_, fun z => absurd z (by omega)⟩
    have hh8 := hh7.mono s8
    have s08 := s07.trans s8
    have hd8 := hd.mono s8
    clear hh7 s07 hd d1 d2 d3
    obtain ⟨dm', dw', d1, d2, d3⟩ := id hd8
    obtain ⟨fm, fw, f1, f2, f3⟩ := id hf
    have hrl : (rowsP says ways (allP L says ways)).length <= 40 := by unfold rowsP; rw [List.length_map, List.length_range]; omega
    have hrr : ∀ r ∈ rowsP says ways (allP L says ways), r.length <= 900 := fun r hr' => by
      unfold rowsP at hr'
      obtain ⟨q, hq, rfl⟩ := List.mem_map.mp hr'
      unfold rowP
      rw [List.length_map]
      have := glS_len wf (roomP_lt wf (j := 1 + says.length * L) (i := q) (List.mem_range.mp hq))
      unfold allP
      omega
    obtain ⟨us1, e1, t1⟩ := Rows.T f3
    obtain ⟨us2, e2, t2⟩ := Rows.T d3
    walk_at "rd"
    refine ⟨_, _, .tup f1, rel_ty, _, kit_self, ?_⟩
    rw [if_neg (by decide)]
    refine ⟨_, .inr f1, ?_⟩
    rw [if_neg (by simp)]
    refine ⟨_, f1, _, rfl, L, rfl, true, rfl, ?_⟩
    rw [if_neg (by decide)]
    refine ⟨_, f1, _, rfl, rfl, ?_⟩
    rw [if_neg (by simp)]
    refine later_of ?_
    walk_at "rd"
    refine ⟨_, f1, _, rfl, _, d1, _, rfl, fm, dm', _, rfl, f2, d2, by omega, true, rfl, ?_⟩
    rw [if_neg (by decide)]
    refine ⟨_, f1, _, rfl, _, d1, _, rfl, fw, dw', us1, us2, _, rfl, e1, t1, e2, t2, by omega, hrr, true, rfl, ?_⟩
    rw [if_neg (by decide)]
    refine later_of ?_
    walk_at "rd"
    have hlt : ∃ m : Nat, (if (((ns.map V.int).length : Nat) : Int) < 60 then (((ns.map V.int).length : Nat) : Int) else 60) = m /\ m <= 60 /\ m <= ns.length := by
      rw [List.length_map]
      by_cases c : (ns.length : Int) < 60
      . rw [if_pos c]; exact ⟨ns.length, rfl, by omega, by omega⟩
      . rw [if_neg c]; exact ⟨60, rfl, by omega, by omega⟩
    obtain ⟨m, hm, hm60, hmn⟩ := hlt
    refine ⟨_, .inl (s08.seq hs), ?_⟩
    rw [hm]
    refine ⟨by omega, by omega, ?_⟩
    rw [Int.toNat_natCast]
    obtain ⟨Pc, hPc⟩ : ∃ Pc : Nat -> List V -> St -> Hp -> Prop, ∀ j ys σ4 H4, Pc j ys σ4 H4 ↔ (H4 = H8 /\ ∃ (row : List Int) (o : Option V), ys = row.map V.int /\ row.length = j /\ isW L row = true /\ σ4 = [o, some (.int L), some (.ref a)]) := ⟨_, fun _ _ _ _ => Iff.rfl⟩
    refine compR Pc ((hPc _ _ _ _).mpr ⟨rfl, [], none, rfl, rfl, rfl, rfl⟩) (by omega) (fun j ys σ4 H4 _ h4 => ?_) (fun j ys σ4 H4 hj h4 => ?_) (fun ys σ4 H4 h4 D hD => ?_)
    . obtain ⟨_, row, o, rfl, hrl, _⟩ := (hPc _ _ _ _).mp h4
      rw [List.length_map]; omega
    . obtain ⟨rfl, row, o, rfl, hrl, hrr, rfl⟩ := (hPc _ _ _ _).mp h4
      rw [Int.zero_add]
      have hx : ns[(j : Int).toNat]? = some (ns[j]'(by omega)) := by simp [show j < ns.length by omega]
      generalize ns[j]'(by omega) = x at hx
      walk_at "rd"
      refine ⟨_, s08.seq hs, _, atI_int (by omega) hx, x, rfl, ⟨by decide, by decide⟩, by omega, (hPc _ _ _ _).mpr ⟨rfl, row ++ [(x / 3 + j) % L], _, by simp, by simp [hrl], ?_, rfl⟩⟩
      rw [isW_iff] at hrr ⊢
      intro z hz'
      rcases List.mem_append.mp hz' with h' | h'
      . exact hrr z h'
      . rw [List.mem_singleton.mp h']; exact ⟨Int.emod_nonneg _ (by omega), Int.emod_lt_of_pos _ (by omega)⟩
    obtain ⟨rfl, ws, o1, rfl, hwl, hw, rfl⟩ := (hPc _ _ _ _).mp h4
    clear h4 hPc
    refine ⟨D, rfl, _, .inl ⟨SqL.of upd_same, fun t3 ht3 => later_of ?_⟩⟩
    have sDt := (Same.new hD (o := .lst (ws.map V.int))).newT ht3 (o := .tup (ws.map V.int))
    have htw : SqT K (upd (upd H4 D (.lst (ws.map V.int))) t3 (.tup (ws.map V.int))) t3 (ws.map V.int) := SqT.of upd_same
    generalize upd (upd H4 D (.lst (ws.map V.int))) t3 (.tup (ws.map V.int)) = H9 at sDt htw ⊢
    have s09 := s08.trans sDt
    have f1' := sDt.seqT f1
    have f2' := sDt.seqT f2
    have f3' := f3.mono sDt
    have hh9 := hh8.mono sDt
    have hwi := isW_iff.mp hw
    obtain ⟨N, hN⟩ : ∃ N, N = allP L says ways := ⟨_, rfl⟩
    rw [<- hN] at f2' f3' hml'
    obtain ⟨Pv, hPv⟩ : ∃ Pv : Nat -> St -> Hp -> Prop, ∀ j σ' H', Pv j σ' H' ↔ (H' = H9 /\ ∃ (q : Nat) (o : Option V), q < 1 + N.length /\ (roomP N q : Int) = walkW ways (ws.take j) /\ (∀ j', j = j' + 1 -> (mksP mk N)[q]? = some (stepW says (walkW ways (ws.take j')) (ws.getD j' 0))) /\ σ' = [some (.ref a), some (.int L), some (.int n), some (.ref h), some (.int mk), some (.ref t), some (.ref pd), some (.ref pf), some (.ref t3), some (.int q), o]) := ⟨_, fun _ _ _ => Iff.rfl⟩
    walk_at "rd"
    refine ⟨⟨_, htw⟩, forT (xs := ws.map V.int) Pv ((hPv _ _ _).mpr ⟨rfl, 0, none, by omega, rfl, fun j' z => absurd z (by omega), rfl⟩) (fun j σ' H' _ h' => by obtain ⟨rfl, _⟩ := (hPv _ _ _).mp h'; exact htw) (fun j x σ' H' hx h' => ?_) (fun σ' H' h' => ?_)⟩
    . obtain ⟨rfl, q, o, hq, hrm, _, rfl⟩ := (hPv _ _ _).mp h'
      obtain ⟨z, hz1, rfl⟩ := get_mapI hx
      obtain ⟨z0, z1⟩ := hwi z (List.mem_of_getElem? hz1)
      have hzz : ((z.toNat : Nat) : Int) = z := Int.toNat_of_nonneg z0
      obtain ⟨g1, g2, u, g3, g4, g5, g6⟩ := rowP_at wf mk (q := q) (x := z.toNat) (r := roomP (allP L says ways) q) (by rw [<- hN]; exact hq) (by omega) rfl
      rw [<- hN] at g1 g2 g3 g4 g5 g6
      rw [hrm, hzz] at g5 g6
      obtain ⟨xs3, t4, b1, b2, b3⟩ := f3'.at g2
      have hst : stepW ways (walkW ways (ws.take j)) z = walkW ways (ws.take (j + 1)) := (walkW_take hz1).symm
      have hwk := wf.walk hw (j + 1)
      have hgz : ws.getD j 0 = z := by rw [List.getD_eq_getElem?_getD, hz1]; rfl
      walk_at "rd"
      refine ⟨_, f1', _, rfl, fw, rfl, _, b1, _, b2, t4, rfl, _, b3, _, atI_int z0 g3, (hPv _ _ _).mpr ⟨rfl, u, _, g4, ?_, fun j' e => ?_, rfl⟩⟩
      . rw [g5, hst, Int.toNat_of_nonneg hwk.1]
      . obtain rfl : j = j' := by omega
        rw [hgz]; exact g6
    . obtain ⟨rfl, q, o, hq, _, hlast, rfl⟩ := (hPv _ _ _).mp h'
      rw [List.length_map] at hlast
      walk_at "rd"
      refine ⟨_, .inr htw, ite2 (fun _ => k _) (fun hne => ?_)⟩
      rw [List.length_map] at hne
      obtain ⟨j', hj'⟩ : ∃ j', ws.length = j' + 1 := ⟨ws.length - 1, by omega⟩
      have hv := hlast j' hj'
      have hsay : sayW says ways ws = (List.range j').map (fun j => stepW says (walkW ways (ws.take j)) (ws.getD j 0)) ++ [stepW says (walkW ways (ws.take j')) (ws.getD j' 0)] := by
        unfold sayW
        rw [hj', List.range_succ, List.map_append]; rfl
      refine ⟨_, f1', _, rfl, fm, rfl, _, f2', _, atI_int (by omega) (by rw [Int.toNat_natCast]; exact hv), h, t3, L, says, ways, ws, rfl, hh9, wf, htw, by omega, hw, fun p HA sA hp => ⟨p, rfl, _, SqL.of hp, V.int (stepW says (walkW ways (ws.take j')) (ws.getD j' 0)), ?_, rfl, ?_⟩⟩
      . rw [hsay, List.map_append]; exact atI_last _ _
      . rw [decide_eq_true rfl]; exact k _
end
theorem all_mk {l : PySem.W.OpenLaw} {w : World} {K : PySem.W.Frag} {h : Heap} {mg : Str -> Option Value} {fa f_goals_of f_marks_from f_says_from f__law_cell f__law_whole f__law_big f__law_mark f__law_says f__law_rows_are f__law_house_is f__law_talk f__law_row_is f__law_own_marks f__law_spread f__law_refused f__law_refused_by_any f__law_back f_law : Addr} (X : K.In h) (G : h.Ns mainGlobals mg) (hfa : mg "law" = some (.ref fa))
    {C_AskError C_BadHouse C_BadMark : Addr}
    {od_goals_of an_goals_of : Option Addr} {sl_goals_of : Array (Option Value)} {oc_goals_of kV_goals_of dc_goals_of pm_goals_of cd_goals_of ct_goals_of : Value}
    {od_marks_from an_marks_from : Option Addr} {sl_marks_from : Array (Option Value)} {oc_marks_from kV_marks_from dc_marks_from pm_marks_from cd_marks_from ct_marks_from : Value}
    {od_says_from an_says_from : Option Addr} {sl_says_from : Array (Option Value)} {oc_says_from kV_says_from dc_says_from pm_says_from cd_says_from ct_says_from : Value}
    {od__law_cell an__law_cell : Option Addr} {sl__law_cell : Array (Option Value)} {oc__law_cell kV__law_cell dc__law_cell pm__law_cell cd__law_cell ct__law_cell : Value}
    {od__law_whole an__law_whole : Option Addr} {sl__law_whole : Array (Option Value)} {oc__law_whole kV__law_whole dc__law_whole pm__law_whole cd__law_whole ct__law_whole : Value}
    {od__law_big an__law_big : Option Addr} {sl__law_big : Array (Option Value)} {oc__law_big kV__law_big dc__law_big pm__law_big cd__law_big ct__law_big : Value}
    {od__law_mark an__law_mark : Option Addr} {sl__law_mark : Array (Option Value)} {oc__law_mark kV__law_mark dc__law_mark pm__law_mark cd__law_mark ct__law_mark : Value}
    {od__law_says an__law_says : Option Addr} {sl__law_says : Array (Option Value)} {oc__law_says kV__law_says dc__law_says pm__law_says cd__law_says ct__law_says : Value}
    {od__law_rows_are an__law_rows_are : Option Addr} {sl__law_rows_are : Array (Option Value)} {oc__law_rows_are kV__law_rows_are dc__law_rows_are pm__law_rows_are cd__law_rows_are ct__law_rows_are : Value}
    {od__law_house_is an__law_house_is : Option Addr} {sl__law_house_is : Array (Option Value)} {oc__law_house_is kV__law_house_is dc__law_house_is pm__law_house_is cd__law_house_is ct__law_house_is : Value}
    {od__law_talk an__law_talk : Option Addr} {sl__law_talk : Array (Option Value)} {oc__law_talk kV__law_talk dc__law_talk pm__law_talk cd__law_talk ct__law_talk : Value}
    {od__law_row_is an__law_row_is : Option Addr} {sl__law_row_is : Array (Option Value)} {oc__law_row_is kV__law_row_is dc__law_row_is pm__law_row_is cd__law_row_is ct__law_row_is : Value}
    {od__law_own_marks an__law_own_marks : Option Addr} {sl__law_own_marks : Array (Option Value)} {oc__law_own_marks kV__law_own_marks dc__law_own_marks pm__law_own_marks cd__law_own_marks ct__law_own_marks : Value}
    {od__law_spread an__law_spread : Option Addr} {sl__law_spread : Array (Option Value)} {oc__law_spread kV__law_spread dc__law_spread pm__law_spread cd__law_spread ct__law_spread : Value}
    {od__law_refused an__law_refused : Option Addr} {sl__law_refused : Array (Option Value)} {oc__law_refused kV__law_refused dc__law_refused pm__law_refused cd__law_refused ct__law_refused : Value}
    {od__law_refused_by_any an__law_refused_by_any : Option Addr} {sl__law_refused_by_any : Array (Option Value)} {oc__law_refused_by_any kV__law_refused_by_any dc__law_refused_by_any pm__law_refused_by_any cd__law_refused_by_any ct__law_refused_by_any : Value}
    {od__law_back an__law_back : Option Addr} {sl__law_back : Array (Option Value)} {oc__law_back kV__law_back dc__law_back pm__law_back cd__law_back ct__law_back : Value}
    {od_law an_law : Option Addr} {sl_law : Array (Option Value)} {oc_law kV_law dc_law pm_law cd_law ct_law : Value}
    {tk_MOST_ROOMS : Tok} (q_MOST_ROOMS : PySem.W.nsIn K mainGlobals "MOST_ROOMS" = some (some (.int 40 tk_MOST_ROOMS)))
    (a_goals_of : PySem.W.nsIn K mainGlobals "goals_of" = some (some (.ref f_goals_of)))
    (l_goals_of : K.lookup f_goals_of = some ⟨oc_goals_of, od_goals_of, .func (PySem.W.fnOf "goals_of" "goals_of" (defArgs s_goals_of) (defBody s_goals_of) (defScope s_goals_of) .none kV_goals_of dc_goals_of pm_goals_of an_goals_of cd_goals_of ct_goals_of), sl_goals_of⟩)
    (c_goals_of : PySem.W.codeIn K cd_goals_of "goals_of" = true)
    (k_goals_of : PySem.W.keepIn K (.ref f_goals_of) = true)
    (a_marks_from : PySem.W.nsIn K mainGlobals "marks_from" = some (some (.ref f_marks_from)))
    (l_marks_from : K.lookup f_marks_from = some ⟨oc_marks_from, od_marks_from, .func (PySem.W.fnOf "marks_from" "marks_from" (defArgs s_marks_from) (defBody s_marks_from) (defScope s_marks_from) .none kV_marks_from dc_marks_from pm_marks_from an_marks_from cd_marks_from ct_marks_from), sl_marks_from⟩)
    (c_marks_from : PySem.W.codeIn K cd_marks_from "marks_from" = true)
    (k_marks_from : PySem.W.keepIn K (.ref f_marks_from) = true)
    (a_says_from : PySem.W.nsIn K mainGlobals "says_from" = some (some (.ref f_says_from)))
    (l_says_from : K.lookup f_says_from = some ⟨oc_says_from, od_says_from, .func (PySem.W.fnOf "says_from" "says_from" (defArgs s_says_from) (defBody s_says_from) (defScope s_says_from) .none kV_says_from dc_says_from pm_says_from an_says_from cd_says_from ct_says_from), sl_says_from⟩)
    (c_says_from : PySem.W.codeIn K cd_says_from "says_from" = true)
    (k_says_from : PySem.W.keepIn K (.ref f_says_from) = true)
    (a__law_cell : PySem.W.nsIn K mainGlobals "_law_cell" = some (some (.ref f__law_cell)))
    (l__law_cell : K.lookup f__law_cell = some ⟨oc__law_cell, od__law_cell, .func (PySem.W.fnOf "_law_cell" "_law_cell" (defArgs s__law_cell) (defBody s__law_cell) (defScope s__law_cell) .none kV__law_cell dc__law_cell pm__law_cell an__law_cell cd__law_cell ct__law_cell), sl__law_cell⟩)
    (c__law_cell : PySem.W.codeIn K cd__law_cell "_law_cell" = true)
    (k__law_cell : PySem.W.keepIn K (.ref f__law_cell) = true)
    (a__law_whole : PySem.W.nsIn K mainGlobals "_law_whole" = some (some (.ref f__law_whole)))
    (l__law_whole : K.lookup f__law_whole = some ⟨oc__law_whole, od__law_whole, .func (PySem.W.fnOf "_law_whole" "_law_whole" (defArgs s__law_whole) (defBody s__law_whole) (defScope s__law_whole) .none kV__law_whole dc__law_whole pm__law_whole an__law_whole cd__law_whole ct__law_whole), sl__law_whole⟩)
    (c__law_whole : PySem.W.codeIn K cd__law_whole "_law_whole" = true)
    (k__law_whole : PySem.W.keepIn K (.ref f__law_whole) = true)
    (a__law_big : PySem.W.nsIn K mainGlobals "_law_big" = some (some (.ref f__law_big)))
    (l__law_big : K.lookup f__law_big = some ⟨oc__law_big, od__law_big, .func (PySem.W.fnOf "_law_big" "_law_big" (defArgs s__law_big) (defBody s__law_big) (defScope s__law_big) .none kV__law_big dc__law_big pm__law_big an__law_big cd__law_big ct__law_big), sl__law_big⟩)
    (c__law_big : PySem.W.codeIn K cd__law_big "_law_big" = true)
    (k__law_big : PySem.W.keepIn K (.ref f__law_big) = true)
    (a__law_mark : PySem.W.nsIn K mainGlobals "_law_mark" = some (some (.ref f__law_mark)))
    (l__law_mark : K.lookup f__law_mark = some ⟨oc__law_mark, od__law_mark, .func (PySem.W.fnOf "_law_mark" "_law_mark" (defArgs s__law_mark) (defBody s__law_mark) (defScope s__law_mark) .none kV__law_mark dc__law_mark pm__law_mark an__law_mark cd__law_mark ct__law_mark), sl__law_mark⟩)
    (c__law_mark : PySem.W.codeIn K cd__law_mark "_law_mark" = true)
    (k__law_mark : PySem.W.keepIn K (.ref f__law_mark) = true)
    (a__law_says : PySem.W.nsIn K mainGlobals "_law_says" = some (some (.ref f__law_says)))
    (l__law_says : K.lookup f__law_says = some ⟨oc__law_says, od__law_says, .func (PySem.W.fnOf "_law_says" "_law_says" (defArgs s__law_says) (defBody s__law_says) (defScope s__law_says) .none kV__law_says dc__law_says pm__law_says an__law_says cd__law_says ct__law_says), sl__law_says⟩)
    (c__law_says : PySem.W.codeIn K cd__law_says "_law_says" = true)
    (k__law_says : PySem.W.keepIn K (.ref f__law_says) = true)
    (a__law_rows_are : PySem.W.nsIn K mainGlobals "_law_rows_are" = some (some (.ref f__law_rows_are)))
    (l__law_rows_are : K.lookup f__law_rows_are = some ⟨oc__law_rows_are, od__law_rows_are, .func (PySem.W.fnOf "_law_rows_are" "_law_rows_are" (defArgs s__law_rows_are) (defBody s__law_rows_are) (defScope s__law_rows_are) .none kV__law_rows_are dc__law_rows_are pm__law_rows_are an__law_rows_are cd__law_rows_are ct__law_rows_are), sl__law_rows_are⟩)
    (c__law_rows_are : PySem.W.codeIn K cd__law_rows_are "_law_rows_are" = true)
    (k__law_rows_are : PySem.W.keepIn K (.ref f__law_rows_are) = true)
    (a__law_house_is : PySem.W.nsIn K mainGlobals "_law_house_is" = some (some (.ref f__law_house_is)))
    (l__law_house_is : K.lookup f__law_house_is = some ⟨oc__law_house_is, od__law_house_is, .func (PySem.W.fnOf "_law_house_is" "_law_house_is" (defArgs s__law_house_is) (defBody s__law_house_is) (defScope s__law_house_is) .none kV__law_house_is dc__law_house_is pm__law_house_is an__law_house_is cd__law_house_is ct__law_house_is), sl__law_house_is⟩)
    (c__law_house_is : PySem.W.codeIn K cd__law_house_is "_law_house_is" = true)
    (k__law_house_is : PySem.W.keepIn K (.ref f__law_house_is) = true)
    (a__law_talk : PySem.W.nsIn K mainGlobals "_law_talk" = some (some (.ref f__law_talk)))
    (l__law_talk : K.lookup f__law_talk = some ⟨oc__law_talk, od__law_talk, .func (PySem.W.fnOf "_law_talk" "_law_talk" (defArgs s__law_talk) (defBody s__law_talk) (defScope s__law_talk) .none kV__law_talk dc__law_talk pm__law_talk an__law_talk cd__law_talk ct__law_talk), sl__law_talk⟩)
    (c__law_talk : PySem.W.codeIn K cd__law_talk "_law_talk" = true)
    (k__law_talk : PySem.W.keepIn K (.ref f__law_talk) = true)
    (a__law_row_is : PySem.W.nsIn K mainGlobals "_law_row_is" = some (some (.ref f__law_row_is)))
    (l__law_row_is : K.lookup f__law_row_is = some ⟨oc__law_row_is, od__law_row_is, .func (PySem.W.fnOf "_law_row_is" "_law_row_is" (defArgs s__law_row_is) (defBody s__law_row_is) (defScope s__law_row_is) .none kV__law_row_is dc__law_row_is pm__law_row_is an__law_row_is cd__law_row_is ct__law_row_is), sl__law_row_is⟩)
    (c__law_row_is : PySem.W.codeIn K cd__law_row_is "_law_row_is" = true)
    (k__law_row_is : PySem.W.keepIn K (.ref f__law_row_is) = true)
    (a__law_own_marks : PySem.W.nsIn K mainGlobals "_law_own_marks" = some (some (.ref f__law_own_marks)))
    (l__law_own_marks : K.lookup f__law_own_marks = some ⟨oc__law_own_marks, od__law_own_marks, .func (PySem.W.fnOf "_law_own_marks" "_law_own_marks" (defArgs s__law_own_marks) (defBody s__law_own_marks) (defScope s__law_own_marks) .none kV__law_own_marks dc__law_own_marks pm__law_own_marks an__law_own_marks cd__law_own_marks ct__law_own_marks), sl__law_own_marks⟩)
    (c__law_own_marks : PySem.W.codeIn K cd__law_own_marks "_law_own_marks" = true)
    (k__law_own_marks : PySem.W.keepIn K (.ref f__law_own_marks) = true)
    (a__law_spread : PySem.W.nsIn K mainGlobals "_law_spread" = some (some (.ref f__law_spread)))
    (l__law_spread : K.lookup f__law_spread = some ⟨oc__law_spread, od__law_spread, .func (PySem.W.fnOf "_law_spread" "_law_spread" (defArgs s__law_spread) (defBody s__law_spread) (defScope s__law_spread) .none kV__law_spread dc__law_spread pm__law_spread an__law_spread cd__law_spread ct__law_spread), sl__law_spread⟩)
    (c__law_spread : PySem.W.codeIn K cd__law_spread "_law_spread" = true)
    (k__law_spread : PySem.W.keepIn K (.ref f__law_spread) = true)
    (a__law_refused : PySem.W.nsIn K mainGlobals "_law_refused" = some (some (.ref f__law_refused)))
    (l__law_refused : K.lookup f__law_refused = some ⟨oc__law_refused, od__law_refused, .func (PySem.W.fnOf "_law_refused" "_law_refused" (defArgs s__law_refused) (defBody s__law_refused) (defScope s__law_refused) .none kV__law_refused dc__law_refused pm__law_refused an__law_refused cd__law_refused ct__law_refused), sl__law_refused⟩)
    (c__law_refused : PySem.W.codeIn K cd__law_refused "_law_refused" = true)
    (k__law_refused : PySem.W.keepIn K (.ref f__law_refused) = true)
    (a__law_refused_by_any : PySem.W.nsIn K mainGlobals "_law_refused_by_any" = some (some (.ref f__law_refused_by_any)))
    (l__law_refused_by_any : K.lookup f__law_refused_by_any = some ⟨oc__law_refused_by_any, od__law_refused_by_any, .func (PySem.W.fnOf "_law_refused_by_any" "_law_refused_by_any" (defArgs s__law_refused_by_any) (defBody s__law_refused_by_any) (defScope s__law_refused_by_any) .none kV__law_refused_by_any dc__law_refused_by_any pm__law_refused_by_any an__law_refused_by_any cd__law_refused_by_any ct__law_refused_by_any), sl__law_refused_by_any⟩)
    (c__law_refused_by_any : PySem.W.codeIn K cd__law_refused_by_any "_law_refused_by_any" = true)
    (k__law_refused_by_any : PySem.W.keepIn K (.ref f__law_refused_by_any) = true)
    (a__law_back : PySem.W.nsIn K mainGlobals "_law_back" = some (some (.ref f__law_back)))
    (l__law_back : K.lookup f__law_back = some ⟨oc__law_back, od__law_back, .func (PySem.W.fnOf "_law_back" "_law_back" (defArgs s__law_back) (defBody s__law_back) (defScope s__law_back) .none kV__law_back dc__law_back pm__law_back an__law_back cd__law_back ct__law_back), sl__law_back⟩)
    (c__law_back : PySem.W.codeIn K cd__law_back "_law_back" = true)
    (k__law_back : PySem.W.keepIn K (.ref f__law_back) = true)
    (a_law : PySem.W.nsIn K mainGlobals "law" = some (some (.ref f_law)))
    (l_law : K.lookup f_law = some ⟨oc_law, od_law, .func (PySem.W.fnOf "law" "law" (defArgs s_law) (defBody s_law) (defScope s_law) .none kV_law dc_law pm_law an_law cd_law ct_law), sl_law⟩)
    (c_law : PySem.W.codeIn K cd_law "law" = true)
    (k_law : PySem.W.keepIn K (.ref f_law) = true)
    (z_ValueError : PySem.W.nsIn K mainGlobals "ValueError" = some none)
    (z_bool : PySem.W.nsIn K mainGlobals "bool" = some none)
    (z_int : PySem.W.nsIn K mainGlobals "int" = some none)
    (z_isinstance : PySem.W.nsIn K mainGlobals "isinstance" = some none)
    (z_len : PySem.W.nsIn K mainGlobals "len" = some none)
    (z_list : PySem.W.nsIn K mainGlobals "list" = some none)
    (z_max : PySem.W.nsIn K mainGlobals "max" = some none)
    (z_min : PySem.W.nsIn K mainGlobals "min" = some none)
    (z_range : PySem.W.nsIn K mainGlobals "range" = some none)
    (z_tuple : PySem.W.nsIn K mainGlobals "tuple" = some none)
    (z_zip : PySem.W.nsIn K mainGlobals "zip" = some none)
    (m_AskError : PySem.W.nsIn K mainGlobals "AskError" = some (some (.ref C_AskError)))
    (m_BadHouse : PySem.W.nsIn K mainGlobals "BadHouse" = some (some (.ref C_BadHouse)))
    (m_BadMark : PySem.W.nsIn K mainGlobals "BadMark" = some (some (.ref C_BadMark)))
    (x_BadHouse : PySem.W.excIn K C_BadHouse bmV "ValueError.__new__" = true)
    (ga_BadHouse : PySem.W.findIn K (.ref C_BadHouse) "__getattribute__" = some (some (.builtin "BaseException.__getattribute__")))
    (hk_BadHouse : PySem.W.findIn K (.ref C_BadHouse) "__getattr__" = some none)
    {cd_BadHouse : ClassData}
    (cl_BadHouse : PySem.W.clsIn K C_BadHouse = some cd_BadHouse)
    (ca_BadHouse : PySem.W.findIn K (.ref C_BadHouse) "__class__" = some (some (.builtin "object.__class__")))
    (mo_BadHouse : PySem.W.mroIn K C_BadHouse (.type "object") = some true)
    (mb_BadHouse : PySem.W.mroIn K C_BadHouse (.type "BaseException") = some true)
    (e_BadHouse : PySem.W.exmOne K (.ref C_BadHouse) (.ref C_AskError) = some true)
    (v_BadHouse : PySem.W.kitOne K (.ref C_BadHouse) (.type "ValueError") = some true)
    (ee_BadHouse : PySem.W.exmOne K (.ref C_BadHouse) (.ref C_BadHouse) = some true)
    (k_BadHouse_AskError : PySem.W.kitOne K (.ref C_BadHouse) (.ref C_AskError) = some true)
    (k_BadHouse_BadHouse : PySem.W.kitOne K (.ref C_BadHouse) (.ref C_BadHouse) = some true)
    (k_BadHouse_BadMark : PySem.W.kitOne K (.ref C_BadHouse) (.ref C_BadMark) = some false)
    (gs : PySem.W.specialIn K (.builtin "object.__class__") "__get__" = some (some (.builtin "getset_descriptor.__get__")))
    (tk : PySem.W.takesIn K (.builtin "object.__class__") = some true)
    : ∃ fd : FuncData, (∀ (s : Shared) (v : Value), BindsTo s fd ⟨[v], []⟩ [("script", v)]) /\ ∀ base : Heap, K.In base -> base.Ns mainGlobals mg -> FnOk l.prog w K mg base CX0 5 fa fd ["script"] (spLaw K) := by
  have e := hfa.symm.trans (PySem.W.mg_of X G a_law)
  cases e
  have T : Txt mg := ⟨PySem.W.mg_none_of X G z_ValueError, PySem.W.mg_none_of X G z_bool, PySem.W.mg_none_of X G z_int, PySem.W.mg_none_of X G z_isinstance, PySem.W.mg_none_of X G z_len, PySem.W.mg_none_of X G z_list, PySem.W.mg_none_of X G z_max, PySem.W.mg_none_of X G z_min, PySem.W.mg_none_of X G z_range, PySem.W.mg_none_of X G z_tuple, PySem.W.mg_none_of X G z_zip⟩
  have Z : Exs K mg C_AskError C_BadHouse C_BadMark := ⟨PySem.W.mg_of X G m_AskError, PySem.W.mg_of X G m_BadHouse, PySem.W.mg_of X G m_BadMark, x_BadHouse, ⟨ga_BadHouse, hk_BadHouse, by rw [cl_BadHouse]; rfl, ca_BadHouse, gs, tk, mo_BadHouse, mb_BadHouse⟩, e_BadHouse, v_BadHouse, ee_BadHouse, k_BadHouse_AskError, k_BadHouse_BadHouse, k_BadHouse_BadMark⟩
  have W : Own K mg := ⟨⟨_, PySem.W.mg_of X G q_MOST_ROOMS⟩⟩
  have F_goals_of := fun_mk (st := s_goals_of) l_goals_of c_goals_of k_goals_of
  have b_goals_of := F_goals_of.binds (ps := ["house", "pair"]) fun _ _ _ _ _ _ us hl => (by obtain ⟨y0, y1, rfl⟩ := len2 hl; rfl)
  have m_goals_of := PySem.W.mg_of X G a_goals_of
  have F_marks_from := fun_mk (st := s_marks_from) l_marks_from c_marks_from k_marks_from
  have b_marks_from := F_marks_from.binds (ps := ["house", "mark"]) fun _ _ _ _ _ _ us hl => (by obtain ⟨y0, y1, rfl⟩ := len2 hl; rfl)
  have m_marks_from := PySem.W.mg_of X G a_marks_from
  have F_says_from := fun_mk (st := s_says_from) l_says_from c_says_from k_says_from
  have b_says_from := F_says_from.binds (ps := ["house"]) fun _ _ _ _ _ _ us hl => (by obtain ⟨y0, rfl⟩ := len1 hl; rfl)
  have m_says_from := PySem.W.mg_of X G a_says_from
  have F__law_cell := fun_mk (st := s__law_cell) l__law_cell c__law_cell k__law_cell
  have b__law_cell := F__law_cell.binds (ps := ["script", "k"]) fun _ _ _ _ _ _ us hl => (by obtain ⟨y0, y1, rfl⟩ := len2 hl; rfl)
  have m__law_cell := PySem.W.mg_of X G a__law_cell
  have F__law_whole := fun_mk (st := s__law_whole) l__law_whole c__law_whole k__law_whole
  have b__law_whole := F__law_whole.binds (ps := ["found"]) fun _ _ _ _ _ _ us hl => (by obtain ⟨y0, rfl⟩ := len1 hl; rfl)
  have m__law_whole := PySem.W.mg_of X G a__law_whole
  have F__law_big := fun_mk (st := s__law_big) l__law_big c__law_big k__law_big
  have b__law_big := F__law_big.binds (ps := ["script", "k"]) fun _ _ _ _ _ _ us hl => (by obtain ⟨y0, y1, rfl⟩ := len2 hl; rfl)
  have m__law_big := PySem.W.mg_of X G a__law_big
  have F__law_mark := fun_mk (st := s__law_mark) l__law_mark c__law_mark k__law_mark
  have b__law_mark := F__law_mark.binds (ps := ["cell"]) fun _ _ _ _ _ _ us hl => (by obtain ⟨y0, rfl⟩ := len1 hl; rfl)
  have m__law_mark := PySem.W.mg_of X G a__law_mark
  have F__law_says := fun_mk (st := s__law_says) l__law_says c__law_says k__law_says
  have b__law_says := F__law_says.binds (ps := ["script", "at", "letters", "rooms"]) fun _ _ _ _ _ _ us hl => (by obtain ⟨y0, y1, y2, y3, rfl⟩ := len4 hl; rfl)
  have m__law_says := PySem.W.mg_of X G a__law_says
  have F__law_rows_are := fun_mk (st := s__law_rows_are) l__law_rows_are c__law_rows_are k__law_rows_are
  have b__law_rows_are := F__law_rows_are.binds (ps := ["found", "due"]) fun _ _ _ _ _ _ us hl => (by obtain ⟨y0, y1, rfl⟩ := len2 hl; rfl)
  have m__law_rows_are := PySem.W.mg_of X G a__law_rows_are
  have F__law_house_is := fun_mk (st := s__law_house_is) l__law_house_is c__law_house_is k__law_house_is
  have b__law_house_is := F__law_house_is.binds (ps := ["found", "due"]) fun _ _ _ _ _ _ us hl => (by obtain ⟨y0, y1, rfl⟩ := len2 hl; rfl)
  have m__law_house_is := PySem.W.mg_of X G a__law_house_is
  have F__law_talk := fun_mk (st := s__law_talk) l__law_talk c__law_talk k__law_talk
  have b__law_talk := F__law_talk.binds (ps := ["house", "word"]) fun _ _ _ _ _ _ us hl => (by obtain ⟨y0, y1, rfl⟩ := len2 hl; rfl)
  have m__law_talk := PySem.W.mg_of X G a__law_talk
  have F__law_row_is := fun_mk (st := s__law_row_is) l__law_row_is c__law_row_is k__law_row_is
  have b__law_row_is := F__law_row_is.binds (ps := ["found", "due"]) fun _ _ _ _ _ _ us hl => (by obtain ⟨y0, y1, rfl⟩ := len2 hl; rfl)
  have m__law_row_is := PySem.W.mg_of X G a__law_row_is
  have F__law_own_marks := fun_mk (st := s__law_own_marks) l__law_own_marks c__law_own_marks k__law_own_marks
  have b__law_own_marks := F__law_own_marks.binds (ps := ["house"]) fun _ _ _ _ _ _ us hl => (by obtain ⟨y0, rfl⟩ := len1 hl; rfl)
  have m__law_own_marks := PySem.W.mg_of X G a__law_own_marks
  have F__law_spread := fun_mk (st := s__law_spread) l__law_spread c__law_spread k__law_spread
  have b__law_spread := F__law_spread.binds (ps := ["house", "mark"]) fun _ _ _ _ _ _ us hl => (by obtain ⟨y0, y1, rfl⟩ := len2 hl; rfl)
  have m__law_spread := PySem.W.mg_of X G a__law_spread
  have F__law_refused := fun_mk (st := s__law_refused) l__law_refused c__law_refused k__law_refused
  have b__law_refused := F__law_refused.binds (ps := ["house", "mark"]) fun _ _ _ _ _ _ us hl => (by obtain ⟨y0, y1, rfl⟩ := len2 hl; rfl)
  have m__law_refused := PySem.W.mg_of X G a__law_refused
  have F__law_refused_by_any := fun_mk (st := s__law_refused_by_any) l__law_refused_by_any c__law_refused_by_any k__law_refused_by_any
  have b__law_refused_by_any := F__law_refused_by_any.binds (ps := ["house", "mark"]) fun _ _ _ _ _ _ us hl => (by obtain ⟨y0, y1, rfl⟩ := len2 hl; rfl)
  have m__law_refused_by_any := PySem.W.mg_of X G a__law_refused_by_any
  have F__law_back := fun_mk (st := s__law_back) l__law_back c__law_back k__law_back
  have b__law_back := F__law_back.binds (ps := ["house", "marks"]) fun _ _ _ _ _ _ us hl => (by obtain ⟨y0, y1, rfl⟩ := len2 hl; rfl)
  have m__law_back := PySem.W.mg_of X G a__law_back
  have F_law := fun_mk (st := s_law) l_law c_law k_law
  have b_law := F_law.binds (ps := ["script"]) fun _ _ _ _ _ _ us hl => (by obtain ⟨y0, rfl⟩ := len1 hl; rfl)
  have m_law := PySem.W.mg_of X G a_law
  refine ⟨PySem.W.fnOf "law" "law" (defArgs s_law) (defBody s_law) (defScope s_law) .none kV_law dc_law pm_law an_law cd_law ct_law, fun s v => .of_eq rfl, fun base _ _ => ?_⟩
  have g_goals_of := ok_goals_of (P := l.prog) (w := w) (base := base) F_goals_of T W Z 
  have g_marks_from := ok_marks_from (P := l.prog) (w := w) (base := base) F_marks_from T W Z g_goals_of F_goals_of b_goals_of m_goals_of
  have g_says_from := ok_says_from (P := l.prog) (w := w) (base := base) F_says_from T W Z 
  have g__law_cell := ok__law_cell (P := l.prog) (w := w) (base := base) F__law_cell T W Z 
  have g__law_whole := ok__law_whole (P := l.prog) (w := w) (base := base) F__law_whole T W Z 
  have g__law_big := ok__law_big (P := l.prog) (w := w) (base := base) F__law_big T W Z g__law_cell F__law_cell b__law_cell m__law_cell
  have g__law_mark := ok__law_mark (P := l.prog) (w := w) (base := base) F__law_mark T W Z 
  have g__law_says := ok__law_says (P := l.prog) (w := w) (base := base) F__law_says T W Z g__law_big F__law_big b__law_big m__law_big g__law_mark F__law_mark b__law_mark m__law_mark
  have g__law_rows_are := ok__law_rows_are (P := l.prog) (w := w) (base := base) F__law_rows_are T W Z g__law_whole F__law_whole b__law_whole m__law_whole
  have g__law_house_is := ok__law_house_is (P := l.prog) (w := w) (base := base) F__law_house_is T W Z g__law_whole F__law_whole b__law_whole m__law_whole g__law_rows_are F__law_rows_are b__law_rows_are m__law_rows_are
  have g__law_talk := ok__law_talk (P := l.prog) (w := w) (base := base) F__law_talk T W Z 
  have g__law_row_is := ok__law_row_is (P := l.prog) (w := w) (base := base) F__law_row_is T W Z g__law_whole F__law_whole b__law_whole m__law_whole
  have g__law_own_marks := ok__law_own_marks (P := l.prog) (w := w) (base := base) F__law_own_marks T W Z 
  have g__law_spread := ok__law_spread (P := l.prog) (w := w) (base := base) F__law_spread T W Z 
  have g__law_refused := ok__law_refused (P := l.prog) (w := w) (base := base) F__law_refused T W Z g_marks_from F_marks_from b_marks_from m_marks_from
  have g__law_refused_by_any := ok__law_refused_by_any (P := l.prog) (w := w) (base := base) F__law_refused_by_any T W Z g_marks_from F_marks_from b_marks_from m_marks_from
  have g__law_back := ok__law_back (P := l.prog) (w := w) (base := base) F__law_back T W Z g_says_from F_says_from b_says_from m_says_from g__law_house_is F__law_house_is b__law_house_is m__law_house_is
  have g_law := ok_law (P := l.prog) (w := w) (base := base) F_law T W Z g_marks_from F_marks_from b_marks_from m_marks_from g__law_cell F__law_cell b__law_cell m__law_cell g__law_whole F__law_whole b__law_whole m__law_whole g__law_big F__law_big b__law_big m__law_big g__law_mark F__law_mark b__law_mark m__law_mark g__law_says F__law_says b__law_says m__law_says g__law_rows_are F__law_rows_are b__law_rows_are m__law_rows_are g__law_talk F__law_talk b__law_talk m__law_talk g__law_row_is F__law_row_is b__law_row_is m__law_row_is g__law_own_marks F__law_own_marks b__law_own_marks m__law_own_marks g__law_spread F__law_spread b__law_spread m__law_spread g__law_refused F__law_refused b__law_refused m__law_refused g__law_refused_by_any F__law_refused_by_any b__law_refused_by_any m__law_refused_by_any g__law_back F__law_back b__law_back m__law_back
  exact g_law
theorem walk {l : PySem.W.OpenLaw} {q : Program} {loose : List Str} {XP : (Str -> Option Value) -> Heap -> Prop} {YP : World -> Heap -> Prop} {d : DefRec} {K : Params -> PySem.W.Frag} (hn : l.most = some 63) (hdf : d.params.defaults = [])
    (hY : ∀ (w : World) (h : Heap), YP w h -> (K w.params).In h)
    (F : ∀ (w : World) (mg : Str -> Option Value) (fa : Addr) (h : Heap), (K w.params).In h -> h.Ns mainGlobals mg -> mg d.name = some (.ref fa) ->
      ∃ fd : FuncData, (∀ (s : Shared) (u : Value), BindsTo s fd ⟨[u], []⟩ [("script", u)]) /\ ∀ base : Heap, (K w.params).In base -> base.Ns mainGlobals mg -> FnOk l.prog w (K w.params) mg base CX0 5 fa fd ["script"] (spLaw (K w.params))) :
    PySem.W.WalkO q loose XP YP l.row.toRowW d [] (fun f vs => PySem.call f vs) :=
  L2.walk_of (n := 63) (k := 5) (x := "script") (CX := fun _ => CX0) (sp := fun w => spLaw (K w.params)) hn (by decide) hdf ⟨rfl, by decide, by decide⟩ hY F (fun _ _ a ns hl _ hS => ⟨a, ns, rfl, hS, hl, fun _ => rfl⟩) fun _ _ _ _ _ z => z
end Mine
structure PySem.W.Fast : Prop where (tw5330539238857092823 tw1773528352988004766 tw15668335358472352466 tw14815207437205890403 tw16372492817684936322 tw6505907004613772454 tw10571550355520022088 tw14222104257533300570 tw8343833177590790677 tw13618597357552317780 tw6044149758060077140 tw7377982231576088126 tw16496773223286282788 tw11981711003998678551 tw16132981276577408500 tw1300337821353077162 tw4120803434661484539 tw16896318292048599330 tw6168674751701753033 tw11510907504135281038 tw6375129999510184614 tw16617784557000558971 tw5201070691142648152 tw4319688449904958677 tw2676001753435490081 tw1776003715848480999 tw7062028422614087625 tw11606807818474478296 tw3242494424569241812 tw17989069571239440602 tw13782731222567448198 tw3752791786335630506 tw7979749748892621623 tw393891856127840166 tw14525702129101299452 tw16901316027566964184 tw5340872897582204809 tw157072008492093625 tw11303677678840266809 tw8938084020920944618 tw12258748618544468760 tw7718341352432293927 tw5765500513520695160 tw376298135160535687 tw17080301662310441756 tw633064890119190374 tw5440512071677799497 tw3864644158209712431 tw16178783130907078027 tw11968805402371729247 tw11047488803098651667 tw15419221513689966785 tw8692211643839090065 tw15810099539610197510 tw9543661599617451565 tw11516948365798831801 tw16844049178499587036 tw7475919473240555942 tw13363418662539164653 tw11908675793420181981 tw10318074260375725095 tw5036420700034887839 tw17266490306818791123 tw8694865100885101043 tw3708432789057223146 tw18160242232796674154 tw17444387185537835999 tw12569750628060683769 tw10666892800655732458 tw9888215382208851177 tw16140922993677490241 tw17096270173052123477 tw2868011895198367172 tw10618876112855056062 tw8892523319523708761 tw2140506232810701530 tw8317947432697063620 tw11038357378055220175 tw3618042861374873700 tw12101229368512704183 tw9486629037976184690 tw11164541451118567586 tw12659166479334114124 tw11701604770856372649 tw3655146439130792146 tw13873373527995290913 tw1033062852132440159 tw12213474487562135426 tw1203086454497226402 tw8252888448954685543 tw16928682812043352488 tw788947787438910301 tw15414421202358645770 tw1889773780549266106 tw4808773482628604105 tw6475106205498712498 tw17587468971963284753 tw18287691874398140939 tw2409479644211319875 tw6224364819854327122 tw16602529554376568312 tw1915023902780465581 tw4774820885929854280 tw6695852650292225869 tw16890174566494349139 tw14163893403522719813 tw1811762439832396798 tw11437613880425761589 tw4757676034644175229 tw4522600160247177719 tw4641638497414638319 tw13926845768653405136 tw13710994015166686497 tw10989645472962782329 tw17651613423116444594 tw10065329379639805073 tw2558763469339470079 tw13853234707189941049 tw13820176564494391582 tw4750360601403475328 tw10120689737955565268 tw14046442563220793498 tw10570250178909163537 tw1729820869236169390 tw8753115271544532086 tw10677183786040565831 tw13162393650892117820 tw6481941751428899764 tw15123137926151208124 tw13356714664895955363 tw17192435582406421605 tw13432425066959500818 tw1438492540198525727 tw14003177313290509798 tw13775469487192294640 tw14897679688170910836 tw1707749387519266099 tw8148708775719562420 tw399648746148547831 tw7877285867118598195 tw4190687010380648175 tw17667892209188847798 tw12847130594499569751 tw2690174058833909029 tw13060027778793151026 tw5121427810590384040 tw7382469635918773695 tw15069472113800224544 tw2084811935208653626 tw13853042293904495396 tw18220461375073056749 tw1715435767359002855 tw13015488705834075464 tw13827190714477899479 tw12083243607521735650 tw13515402201947493139 tw112128876376607286 tw3021234829708647740 tw10830818284608890955 tw10660040166453816995 tw13043941789433154390 tw4894900374274875422 tw8830920833806769465 tw7574195206525529558 tw8810171098170996364 tw10588469500262626812 tw14562251827133824517 tw1952958138233698940 tw10604674169011274547 tw7435352469054175383 tw18248807414922395242 tw1484726723082887643 tw17632805156124336346 tw13774261177459175885 tw16836228625447664187 tw1833374538993475888 tw18372144856203090681 tw10425459218818398484 tw5760254701411938842 tw3499280757785825615 : True)
open PySem PySem.W PyProof.Rows
set_option maxRecDepth 100000 in
set_option maxHeartbeats 0 in
theorem PySem.Challenge.cw_guessroom_k54_marks_and_says_holds : PySem.Challenge.rw_guessroom_k54_marks_and_says.Holds := by
  w_on; o_law; k_head; (case hw => w_witness2)
  k_fill
  refine Mine.walk (l := PySem.Challenge.rw_guessroom_k54_marks_and_says) rfl rfl (fun w h Y => PySem.W.kIn_of Y) ?F
  case F =>
    intro w mg fa h KX G hmg
    refine' Mine.all_mk KX G hmg ?q_MOST_ROOMS ?a_goals_of ?l_goals_of ?c_goals_of ?k_goals_of ?a_marks_from ?l_marks_from ?c_marks_from ?k_marks_from ?a_says_from ?l_says_from ?c_says_from ?k_says_from ?a__law_cell ?l__law_cell ?c__law_cell ?k__law_cell ?a__law_whole ?l__law_whole ?c__law_whole ?k__law_whole ?a__law_big ?l__law_big ?c__law_big ?k__law_big ?a__law_mark ?l__law_mark ?c__law_mark ?k__law_mark ?a__law_says ?l__law_says ?c__law_says ?k__law_says ?a__law_rows_are ?l__law_rows_are ?c__law_rows_are ?k__law_rows_are ?a__law_house_is ?l__law_house_is ?c__law_house_is ?k__law_house_is ?a__law_talk ?l__law_talk ?c__law_talk ?k__law_talk ?a__law_row_is ?l__law_row_is ?c__law_row_is ?k__law_row_is ?a__law_own_marks ?l__law_own_marks ?c__law_own_marks ?k__law_own_marks ?a__law_spread ?l__law_spread ?c__law_spread ?k__law_spread ?a__law_refused ?l__law_refused ?c__law_refused ?k__law_refused ?a__law_refused_by_any ?l__law_refused_by_any ?c__law_refused_by_any ?k__law_refused_by_any ?a__law_back ?l__law_back ?c__law_back ?k__law_back ?a_law ?l_law ?c_law ?k_law ?z_ValueError ?z_bool ?z_int ?z_isinstance ?z_len ?z_list ?z_max ?z_min ?z_range ?z_tuple ?z_zip ?m_AskError ?m_BadHouse ?m_BadMark ?x_BadHouse ?ga_BadHouse ?hk_BadHouse ?cl_BadHouse ?ca_BadHouse ?mo_BadHouse ?mb_BadHouse ?e_BadHouse ?v_BadHouse ?ee_BadHouse ?k_BadHouse_AskError ?k_BadHouse_BadHouse ?k_BadHouse_BadMark ?gs ?tk
    (case q_MOST_ROOMS => k_is)
    (case a_goals_of => k_is)
    (case l_goals_of => k_is)
    (case c_goals_of => k_is)
    (case k_goals_of => k_is)
    (case a_marks_from => k_is)
    (case l_marks_from => k_is)
    (case c_marks_from => k_is)
    (case k_marks_from => k_is)
    (case a_says_from => k_is)
    (case l_says_from => k_is)
    (case c_says_from => k_is)
    (case k_says_from => k_is)
    (case a__law_cell => k_is)
    (case l__law_cell => k_is)
    (case c__law_cell => k_is)
    (case k__law_cell => k_is)
    (case a__law_whole => k_is)
    (case l__law_whole => k_is)
    (case c__law_whole => k_is)
    (case k__law_whole => k_is)
    (case a__law_big => k_is)
    (case l__law_big => k_is)
    (case c__law_big => k_is)
    (case k__law_big => k_is)
    (case a__law_mark => k_is)
    (case l__law_mark => k_is)
    (case c__law_mark => k_is)
    (case k__law_mark => k_is)
    (case a__law_says => k_is)
    (case l__law_says => k_is)
    (case c__law_says => k_is)
    (case k__law_says => k_is)
    (case a__law_rows_are => k_is)
    (case l__law_rows_are => k_is)
    (case c__law_rows_are => k_is)
    (case k__law_rows_are => k_is)
    (case a__law_house_is => k_is)
    (case l__law_house_is => k_is)
    (case c__law_house_is => k_is)
    (case k__law_house_is => k_is)
    (case a__law_talk => k_is)
    (case l__law_talk => k_is)
    (case c__law_talk => k_is)
    (case k__law_talk => k_is)
    (case a__law_row_is => k_is)
    (case l__law_row_is => k_is)
    (case c__law_row_is => k_is)
    (case k__law_row_is => k_is)
    (case a__law_own_marks => k_is)
    (case l__law_own_marks => k_is)
    (case c__law_own_marks => k_is)
    (case k__law_own_marks => k_is)
    (case a__law_spread => k_is)
    (case l__law_spread => k_is)
    (case c__law_spread => k_is)
    (case k__law_spread => k_is)
    (case a__law_refused => k_is)
    (case l__law_refused => k_is)
    (case c__law_refused => k_is)
    (case k__law_refused => k_is)
    (case a__law_refused_by_any => k_is)
    (case l__law_refused_by_any => k_is)
    (case c__law_refused_by_any => k_is)
    (case k__law_refused_by_any => k_is)
    (case a__law_back => k_is)
    (case l__law_back => k_is)
    (case c__law_back => k_is)
    (case k__law_back => k_is)
    (case a_law => k_is)
    (case l_law => k_is)
    (case c_law => k_is)
    (case k_law => k_is)
    (case z_ValueError => k_is)
    (case z_bool => k_is)
    (case z_int => k_is)
    (case z_isinstance => k_is)
    (case z_len => k_is)
    (case z_list => k_is)
    (case z_max => k_is)
    (case z_min => k_is)
    (case z_range => k_is)
    (case z_tuple => k_is)
    (case z_zip => k_is)
    (case m_AskError => k_is)
    (case m_BadHouse => k_is)
    (case m_BadMark => k_is)
    (case x_BadHouse => k_exc)
    (case ga_BadHouse => k_is)
    (case hk_BadHouse => k_is)
    (case cl_BadHouse => k_is)
    (case ca_BadHouse => k_is)
    (case mo_BadHouse => k_is)
    (case mb_BadHouse => k_is)
    (case e_BadHouse => kts_exm)
    (case v_BadHouse => kit_is)
    (case ee_BadHouse => kts_exm)
    (case k_BadHouse_AskError => kit_is)
    (case k_BadHouse_BadHouse => kit_is)
    (case k_BadHouse_BadMark => kit_is)
    (case gs => k_is)
    (case tk => k_is)
