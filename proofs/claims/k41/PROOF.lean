import PyProof.Rows.All
import Wide.All
import OpenK.AllK
import Wide.FinOn
import Lean
import PyProof.EqAt
import PyProof.EqKinds
import PyProof.TupleCall
import KE.KRevIter
import PyProof.ListRange
import PyProof.TupleOfGen
import PyProof.Draws
import PyProof.EnumMake
import PyProof.EnumFor
import PyProof.NeKinds
import KE.KDictList
import PyProof.Rows.TupDisplay
import PyProof.ZipIter
import PyProof.Rows.ZipGen
import KE.KItemsList
import PyProof.Rows.SumAny
import PyProof.StrWalks
import PyProof.StrCalls
import PyProof.StrCalls3
import PyProof.StrLawsFirst
import PyProof.StrLawsIn
import PyProof.SliceStr2
import PyProof.StrBlockI
import PyProof.Rows.StrWeight2
import PyProof.ListNew
import PyProof.DictRoadsH
import PyProof.WalkInts
import PyProof.Rows.MinMaxN
import KE.KDictLaws
import PyProof.StrCalls2
import PyProof.StrLawsChain
import KE.KIntText
import KE.KxText
import KE.KMinKey
import KE.KPairComp
import PyProof.MaxThree
import PyProof.DictWalks
import OpenK.KCls
import PySem.Challenge.RW_guessroom_k41_whole_a_house_found
set_option Elab.async false
set_option linter.all false
set_option maxRecDepth 100000
namespace L2
open PySem PySem.Spec PyProof.Rows
abbrev Key:=Sum Int Str
def WX:Key->Value->Bool
 | .inl k,v=>Value.isInt k v
 | .inr x,v=>Value.isStrOf x v
def keyH (w:World):Key->Int
 | .inl k=>hashInt k
 | .inr x=>hashStr w x
theorem C3:∀ {k:Key} {v:Value},WX k v=true->(∃ i t,k=Sum.inl i/\v=Value.int i t)\/(∃ x t,k=Sum.inr x/\v=Value.str x t)
 | .inl i,v,h=>by
  obtain⟨t,e⟩:=Value.isInt_shape (k:=i) (v:=v) h
  exact .inl ⟨i,t,rfl,e⟩
 | .inr x,v,h=>by
  obtain⟨t,e⟩:=Value.isStrOf_shape (x:=x) (v:=v) h
  exact .inr ⟨x,t,rfl,e⟩
theorem XV (i:Int)(t:Tok):WX (.inl i) (.int i t)=true:=by simp[WX,Value.isInt]
theorem XW (x:Str)(t:Tok):WX (.inr x) (.str x t)=true:=by simp[WX,Value.isStrOf]
theorem Cc_ (a b:Int):decide ((Sum.inl a:Key)=Sum.inl b)=(a == b):=by
 by_cases e:a=b
 ·subst e;simp
 ·have h:¬ (Sum.inl a:Key)=Sum.inl b:=fun q=>e (Sum.inl.inj q)
  rw[decide_eq_false h]
  exact (beq_eq_false_iff_ne.mpr e).symm
theorem Cd_ (a b:Str):decide ((Sum.inr a:Key)=Sum.inr b)=decide (a=b):=by
 by_cases e:a=b
 ·subst e;simp
 ·have h:¬ (Sum.inr a:Key)=Sum.inr b:=fun q=>e (Sum.inr.inj q)
  rw[decide_eq_false h,decide_eq_false e]
theorem Ce_ (a:Int)(b:Str):decide ((Sum.inl a:Key)=Sum.inr b)=false:=decide_eq_false (fun q=>nomatch q)
theorem Cf_ (a:Str)(b:Int):decide ((Sum.inr a:Key)=Sum.inl b)=false:=decide_eq_false (fun q=>nomatch q)
def CV (prog:Program)(w:World):PySem.KeyKind prog w Key where
 is:=WX
 hash:=keyH w
 inj:=fun v a b ha hb=>by
  rcases C3 ha with ⟨i,t,rfl,rfl⟩ | ⟨x,t,rfl,rfl⟩
  ·rcases C3 hb with ⟨j,u,rfl,e⟩ | ⟨y,u,rfl,e⟩
   ·injection e with e1 _;rw[e1]
   ·exact nomatch e
  ·rcases C3 hb with ⟨j,u,rfl,e⟩ | ⟨y,u,rfl,e⟩
   ·exact nomatch e
   ·injection e with e1 _;rw[e1]
 byValue:=fun k v h=>by
  rcases C3 h with ⟨i,t,rfl,rfl⟩ | ⟨x,t,rfl,rfl⟩<;>rfl
 pyHash:=fun hv h=>by
  rcases C3 hv with ⟨i,t,rfl,rfl⟩ | ⟨x,t,rfl,rfl⟩
  ·exact wpAny_pyHash_int h
  ·exact wpAny_pyHash_str h
 eqBool:=fun hu hv h=>by
  rcases C3 hu with ⟨i,t,rfl,rfl⟩ | ⟨x,t,rfl,rfl⟩
  ·rcases C3 hv with ⟨j,u,rfl,rfl⟩ | ⟨y,u,rfl,rfl⟩
   ·rw[Cc_] at h;exact wpAny_eqBool_int h
   ·rw[Ce_] at h;exact SeqAt.EqAt.int_str i t y u _ _ _ _ h
  ·rcases C3 hv with ⟨j,u,rfl,rfl⟩ | ⟨y,u,rfl,rfl⟩
   ·rw[Cf_] at h;exact SeqAt.EqAt.str_int x t j u _ _ _ _ h
   ·rw[Cd_] at h;exact wpAny_eqBool_str h
 «strs» := fun k x t v h=>by
  rcases C3 h with ⟨i,u,rfl,e⟩ | ⟨y,u,rfl,e⟩
  ·exact nomatch e
  ·injection e with e1 _
   subst e1
   cases v<;>rfl
theorem U3 (prog:Program)(w:World)(i:Int)(t:Tok):(CV prog w).is (.inl i) (.int i t)=true:=XV i t
theorem U4 (prog:Program)(w:World)(x:Str)(t:Tok):(CV prog w).is (.inr x) (.str x t)=true:=XW x t
inductive V where
 | non | bl (b:Bool) | int (i:Int) | str (x:Str) | byt (b:Array UInt8) | flt (b:UInt64) | ref (a:Addr) | ty (n:String)
 deriving DecidableEq
def RelV:V->Value->Prop
 | .non,u=>u=Value.none
 | .bl b,u=>u=Value.bool b
 | .int i,u=>∃ t,u=Value.int i t
 | .str x,u=>∃ t,u=Value.str x t
 | .byt b,u=>∃ t,u=Value.bytes b t
 | .flt b,u=>∃ t,u=Value.float b t
 | .ref a,u=>u=Value.ref a
 | .ty n,u=>u=Value.type n
abbrev Vals:List V->List Value->Prop:=Paired RelV
theorem Vals.length {xs:List V}{us:List Value}(r:Vals xs us):xs.length=us.length:=Paired.length r
theorem Vals.get:∀ {xs:List V} {us:List Value} {i:Nat} {x:V},Vals xs us->xs[i]?=some x->∃ u,us[i]?=some u/\RelV x u
 | _,_,_,_,.nil,e=>by simp at e
 | _,_,0,_,.cons r _,e=>by simp at e;subst e;exact⟨_,rfl,r⟩
 | _,_,i+1,x,.cons _ t,e=>by
  obtain⟨u,h1,h2⟩:=Vals.get (i:=i) (x:=x) t (by simpa using e)
  exact⟨u,by simpa using h1,h2⟩
theorem Vals.set {x:V}{u:Value}(r:RelV x u):∀ {xs:List V} {us:List Value} (i:Nat),Vals xs us->Vals (xs.set i x) (us.set i u)
 | _,_,_,.nil=>.nil
 | _,_,0,.cons _ t=>.cons r t
 | _,_,i+1,.cons q t=>.cons q (Vals.set r i t)
theorem Vals.append:∀ {xs ys:List V} {us ws:List Value},Vals xs us->Vals ys ws->Vals (xs++ys) (us++ws)
 | _,_,_,_,.nil,s=>s
 | _,_,_,_,.cons r t,s=>.cons r (Vals.append t s)
theorem Vals.take:∀ {xs:List V} {us:List Value} (n:Nat),Vals xs us->Vals (xs.take n) (us.take n)
 | _,_,0,_=>.nil
 | _,_,_+1,.nil=>.nil
 | _,_,n+1,.cons r t=>.cons r (Vals.take n t)
theorem Vals.drop:∀ {xs:List V} {us:List Value} (n:Nat),Vals xs us->Vals (xs.drop n) (us.drop n)
 | _,_,0,r=>r
 | _,_,_+1,.nil=>.nil
 | _,_,n+1,.cons _ t=>Vals.drop n t
def RelO:Option V->Option Value->Prop
 | some v,some u=>RelV v u
 | none,none=>True
 | _,_=>False
def KV {κ:Type}:List (κ×V)->List (κ×Value)->Prop:=Paired fun (p:κ×V) (q:κ×Value)=>p.1=q.1/\RelV p.2 q.2
def kV:Key->V
 | .inl i=>.int i
 | .inr x=>.str x
inductive HO where
 | lst (xs:List V)
 | tup (xs:List V)
 | dK (kvs:List (Key×V)) | dT (kvs:List (List Key×V))
 | set (S:Int->Bool) (n:Nat)
 | ins (C dx:Addr) (fs:List (Str×V))
 | own (x:Addr)
 | xd (fs:List (Str×V))
 | met (f x:Addr)
 | rng (lo hi:Int)
 | frz (o:Obj) (u:HO)
 | tbl (ps:Array Value)
 | ext (φ:Heap->Prop)
abbrev Hp:=Addr->Option HO
def upd (H:Hp)(a:Addr)(o:HO):Hp:=fun b=>if b=a then some o else H b
theorem Ac {H:Hp}{a:Addr}{o:HO}:upd H a o a=some o:=by unfold upd;rw[if_pos rfl]
theorem Ah {H:Hp}{a b:Addr}{o:HO}(h:b≠a):upd H a o b=H b:=by unfold upd;rw[if_neg h]
theorem Cg_ {H:Hp}{a b:Addr}{o u:HO}(h:H a=some o)(h':H b=some u)(d:o≠u):a≠b:=by
 intro e;subst e;rw[h] at h';exact d (Option.some.inj h')
theorem B7 {H:Hp}{a b:Addr}{o:HO}(h:H a=some o)(h':H b=none):a≠b:=by
 intro e;subst e;rw[h] at h';cases h'
section
variable (P:Program) (w:World)
def CC (H:Hp)(h:Heap)(a:Addr):HO->Prop
 | .lst xs=>xs.length<=sizeLine/\∃ (its:List Value) (n:Nat),Vals xs its/\h.get? a=some {cls:=.type "list",data:=.seq its.toArray n}
 | .tup xs=>xs.length<=sizeLine/\∃ its:List Value,Vals xs its/\IsTup h a its.toArray
 | .dK kvs=>kvs.length<=sizeLine/\(a == sysModules)=false/\∃ vs,KV kvs vs/\h.DictOf (CV P w) a vs
 | .dT kvs=>kvs.length<=sizeLine/\(a == sysModules)=false/\∃ xs:List (List Key×Addr×Value),
   Paired (fun (p:List Key×V) (q:List Key×Addr×Value)=>p.1=q.1/\H q.2.1=some (.tup (p.1.map kV))/\RelV p.2 q.2.2) kvs xs /\
   ∃ o es ep,h.get? a=some o/\o.ExactDict/\o.data=.dict es ep/\es.toList=xs.map (entryOfKey (tupleKind (CV P w)))/\(xs.map (·.1)).Nodup
 | .set S n=>h.SetOf (intKind P w) a S n
 | .ins C dx fs=>H dx=some (.own a)/\fs.length<=1000/\dx≠a/\h.get? a=some (PySem.W.instObj C dx) /\
   ∃ mA,h.Ns1 dx mA/\(∀ f,RelO (fs.lookup f) (mA f))/\PySem.Within mA (fs.map (·.1))
 | .own _=>∃ o,h.get? a=some o
 | .xd fs=>∃ mA,h.Ns1 a mA/\∀ f,RelO (fs.lookup f) (mA f)
 | .rng lo hi=>∃ t u v,h.get? a=some {cls:=.type "range",data:=.fields #[.int lo t,.int hi u,.int 1 v]}
 | .frz o u=>h.get? a=some o/\CC H h a u
 | .tbl ps=>h.get? a=some {cls:=.none,data:=.fields ps}
 | .met f x=>h.get? a=some (PySem.W.methodObj (.ref f) (.ref x))
 | .ext φ=>φ h/\(∃ o,h.get? a=some o)/\∀ h1 h2:Heap,φ h1->(∀ o,h1.get? a=some o->h2.get? a=some o)->φ h2
def HOk (H:Hp)(h:Heap):Prop:=∀ a o,H a=some o->CC P w H h a o
end
section
variable {P:Program} {w:World} {H H':Hp} {h h':Heap} {a:Addr} {o:HO}
theorem CC.lt (x:CC P w H h a o):a<h.objs.size:=by
 cases o with
 | lst xs=>obtain⟨_,_,_,_,e⟩:=x;exact Heap.lt_size e
 | tup xs=>obtain⟨_,_,_,p⟩:=x;exact p.lt
 | dK kvs=>obtain⟨_,_,_,_,o,_,_,e,_⟩:=x;exact Heap.lt_size e
 | dT kvs=>obtain⟨_,_,_,_,o,_,_,e,_⟩:=x;exact Heap.lt_size e
 | set S n=>obtain⟨o,_,_,_,e,_⟩:=x;exact Heap.lt_size e
 | ins C dx fs=>obtain⟨_,_,_,e,_⟩:=x;exact Heap.lt_size e
 | own y=>obtain⟨_,e⟩:=x;exact Heap.lt_size e
 | xd fs=>obtain⟨_,⟨_,_,_,e,_⟩,_⟩:=x;exact Heap.lt_size e
 | rng lo hi=>obtain⟨_,_,_,e⟩:=x;exact Heap.lt_size e
 | frz ob u=>obtain⟨e,_⟩:=x;exact Heap.lt_size e
 | tbl ps=>exact Heap.lt_size (show h.get? a=some _ from x)
 | met f y=>exact Heap.lt_size (show h.get? a=some _ from x)
 | ext φ=>obtain⟨_,⟨_,e⟩,_⟩:=x;exact Heap.lt_size e
theorem Paired.mapP {α β:Type}{F G:α->β->Prop}:∀ {l₁:List α} {l₂:List β},Paired F l₁ l₂->(∀ a b,F a b->G a b)->Paired G l₁ l₂
 | _,_,.nil,_=>.nil
 | _,_,.cons r t,f=>.cons (f _ _ r) (Paired.mapP t f)
theorem CC.stay (x:CC P w H h a o)(k:∀ b u,(b=a\/H b=some (.own a))->h.get? b=some u->h'.get? b=some u)
  (ho:∀ b,H b=some (.own a)->H' b=some (.own a)) (ht:∀ b xs,H b=some (.tup xs)->H' b=some (.tup xs)):CC P w H' h' a o:=by
 induction o with
 | lst xs=>obtain⟨z,its,n,r,e⟩:=x;exact⟨z,its,n,r,k _ _ (.inl rfl) e⟩
 | tup xs=>obtain⟨z,its,r,ob,e,c⟩:=x;exact⟨z,its,r,ob,k _ _ (.inl rfl) e,c⟩
 | dK kvs=>obtain⟨z,y,vs,r,ob,es,ep,e,c⟩:=x;exact⟨z,y,vs,r,ob,es,ep,k _ _ (.inl rfl) e,c⟩
 | dT kvs =>
  obtain⟨z,y,xs,r,ob,es,ep,e,c⟩:=x
  exact⟨z,y,xs,Paired.mapP r fun p q z=>⟨z.1,ht _ _ z.2.1,z.2.2⟩,ob,es,ep,k _ _ (.inl rfl) e,c⟩
 | set S n=>obtain⟨ob,es,ep,t,e,c⟩:=x;exact⟨ob,es,ep,t,k _ _ (.inl rfl) e,c⟩
 | ins C dx fs =>
  obtain⟨d,z,ne,e,mA,⟨od,es,ep,e2,c⟩,r⟩:=x
  exact⟨ho _ d,z,ne,k _ _ (.inl rfl) e,mA,⟨od,es,ep,k _ _ (.inr d) e2,c⟩,r⟩
 | own y=>obtain⟨ob,e⟩:=x;exact⟨ob,k _ _ (.inl rfl) e⟩
 | xd fs=>obtain⟨mA,⟨od,es,ep,e,c⟩,r⟩:=x;exact⟨mA,⟨od,es,ep,k _ _ (.inl rfl) e,c⟩,r⟩
 | rng lo hi=>obtain⟨t,u,v,e⟩:=x;exact⟨t,u,v,k _ _ (.inl rfl) e⟩
 | frz ob u ih=>obtain⟨e,q⟩:=x;exact⟨k _ _ (.inl rfl) e,ih q⟩
 | tbl ps =>
  have e:h.get? a=some {cls:=.none,data:=.fields ps}:=x
  show h'.get? a=some {cls:=.none,data:=.fields ps}
  exact k a _ (.inl rfl) e
 | met f y =>
  have e:h.get? a=some (PySem.W.methodObj (.ref f) (.ref y)):=x
  show h'.get? a=some (PySem.W.methodObj (.ref f) (.ref y))
  exact k a _ (.inl rfl) e
 | ext φ=>obtain⟨p,⟨o,e⟩,st⟩:=x;exact⟨st _ _ p fun o q=>k _ _ (.inl rfl) q,⟨o,k _ _ (.inl rfl) e⟩,st⟩
theorem HOk.lt (x:HOk P w H h)(e:H a=some o):a<h.objs.size:=(x a o e).lt
theorem HOk.fresh (x:HOk P w H h)(e:h.objs.size<=a):H a=none:=by
 cases q:H a with
 | none=>rfl
 | some u=>exact absurd (Nat.lt_of_lt_of_le (x.lt q) e) (Nat.lt_irrefl _)
theorem HOk.kept (x:HOk P w H h)(k:∀ b u,h.get? b=some u->h'.get? b=some u):HOk P w H h':=fun a o e =>
 (x a o e).stay (fun b u _ q=>k b u q) (fun _ q=>q) fun _ _ q=>q
theorem HOk.laid (x:HOk P w H h)(k:∀ b u,h.get? b=some u->h'.get? b=some u)(hp:h.objs.size<=a)(new:CC P w (upd H a o) h' a o):HOk P w (upd H a o) h':=fun b u e=>by
 have hn:=x.fresh hp
 by_cases hb:b=a
 ·subst hb;rw[Ac] at e;cases e;exact new
 ·rw[Ah hb] at e
  exact (x b u e).stay (fun c v _ q=>k c v q) (fun c q=>by rw[Ah (B7 q hn)];exact q) fun c xs q=>by rw[Ah (B7 q hn)];exact q
end
def Rd (H:Hp)(a:Addr)(u:HO):Prop:=H a=some u \/ ∃ o,H a=some (.frz o u)
theorem Rd.ok {P:Program}{w:World}{H:Hp}{h:Heap}{a:Addr}{u:HO}(r:Rd H a u)(x:HOk P w H h):CC P w H h a u:=by
 rcases r with r | ⟨o,r⟩
 ·exact x a u r
 ·obtain⟨_,q⟩:=x a _ r
  exact q
def Mut:Option HO->Prop
 | some (.lst _)=>True
 | some (.dK _)=>True
 | some (.dT _)=>True
 | some (.set _ _)=>True
 | some (.ins _ _ _)=>True
 | some (.ext _)=>True
 | _=>False
section
variable {P:Program} {w:World} {H:Hp} {h h':Heap} {x e:Addr} {o':HO}
theorem HOk.write (ok:HOk P w H h)(mu:Mut (H x))(he:e=x\/H e=some (.own x))(k:∀ b u,b≠e->h.get? b=some u->h'.get? b=some u)(heo:∃ u,h'.get? e=some u)
  (new:CC P w (upd H x o') h' x o'):HOk P w (upd H x o') h':=fun b u q=>by
 have nown:∀ c y,H c=some (.own y)->c≠x:=fun c y r z=>by subst z;rw[r] at mu;exact mu
 have ntup:∀ c xs,H c=some (.tup xs)->c≠x:=fun c xs r z=>by subst z;rw[r] at mu;exact mu
 by_cases hb:b=x
 ·subst hb;rw[Ac] at q;cases q;exact new
 ·rw[Ah hb] at q
  by_cases hbe:b=e
  ·have q':H b=some (.own x):=by
    rcases he with z | z
    ·exact absurd (hbe.trans z) hb
    ·rw[hbe];exact z
   rw[q] at q';cases q'
   obtain⟨v,hv⟩:=heo
   exact⟨v,by rw[hbe];exact hv⟩
  ·refine (ok b u q).stay (fun c v hc r=>k c v ?_ r) (fun c r=>by rw[Ah (nown c b r)];exact r) fun c xs r=>by rw[Ah (ntup c xs r)];exact r
   rcases hc with rfl | hc
   ·exact hbe
   ·rintro rfl
    rcases he with z | z
    ·exact nown c b hc z
    ·rw[hc] at z;cases z;exact hb rfl
end
structure Un (fs ex:List Addr)(H H':Hp)(h h':Heap):Prop where
 keep:∀ b o,h.get? b=some o->H b=none->b∉fs->b∉ex->h'.get? b=some o
 slot:∀ b o,h.get? b=some o->H b=none->b∈fs->b∉ex->∃ sl,h'.get? b=some {o with slots:=sl}
 free:∀ b o,h.get? b=some o->H b=none->b∉ex->H' b=none
 there:∀ b o,h.get? b=some o->b∉ex->∃ o',h'.get? b=some o'
 tups:∀ b xs,H b=some (.tup xs)->H' b=some (.tup xs)
 frzs:∀ b o u,H b=some (.frz o u)->H' b=some (.frz o u)
 tbls:∀ b ps,H b=some (.tbl ps)->∃ more,H' b=some (.tbl (ps++more))
section
variable {fs fs' ex ex':List Addr} {H H1 H2:Hp} {h h1 h2 h':Heap} {a x e:Addr} {o:HO}
theorem Un.any (u:Un fs ex H H1 h h1){b:Addr}{ob:Obj}(q:h.get? b=some ob)(n:H b=none)(hx:b∉ex):∃ sl,h1.get? b=some {ob with slots:=sl}:=by
 by_cases hb:b∈fs
 ·exact u.slot b ob q n hb hx
 ·exact⟨ob.slots,u.keep b ob q n hb hx⟩
theorem Un.kept (k:∀ b u,h.get? b=some u->h'.get? b=some u):Un fs ex H H h h' :=
 ⟨fun b ob q _ _ _=>k b ob q,fun b ob q _ _ _=>⟨ob.slots,k b ob q⟩,fun _ _ _ n _=>n,fun b ob q _=>⟨ob,k b ob q⟩,fun _ _ q=>q,fun _ _ _ q=>q,fun _ ps q=>⟨#[],by rw[q];simp⟩⟩
theorem Un.refl:Un fs ex H H h h:=Un.kept fun _ _ q=>q
theorem Un.laid (k:∀ b u,h.get? b=some u->h'.get? b=some u)(hp:h.objs.size<=a)(hn:H a=none):Un fs ex H (upd H a o) h h' where
 keep:=fun b u q _ _ _=>k b u q
 slot:=fun b u q _ _ _=>⟨u.slots,k b u q⟩
 free:=fun b u q n _=>by rw[Ah (Nat.ne_of_lt (Nat.lt_of_lt_of_le (Heap.lt_size q) hp))];exact n
 there:=fun b u q _=>⟨u,k b u q⟩
 tups:=fun b xs q=>by rw[Ah (B7 q hn)];exact q
 frzs:=fun b u xs q=>by rw[Ah (B7 q hn)];exact q
 tbls:=fun b ps q=>⟨#[],by rw[Ah (B7 q hn),q];simp⟩
theorem Un.write (mu:Mut (H x))(he:e=x\/H e=some (.own x))(k:∀ b u,b≠e->h.get? b=some u->h'.get? b=some u)(heo:∃ u,h'.get? e=some u):Un fs ex H (upd H x o) h h':=by
 have hx:∀ b,H b=none->b≠x:=fun b n z=>by subst z;rw[n] at mu;exact mu
 have hb:∀ b,H b=none->b≠e:=fun b n z=>by
  subst z
  rcases he with r | r
  ·exact hx b n r
  ·rw[n] at r;cases r
 have hm:∀ b u,H b=some u->¬ Mut (some u)->b≠x:=fun b u q nm z=>by subst z;rw[q] at mu;exact nm mu
 refine⟨fun b u q n _ _=>k b u (hb b n) q,fun b u q n _ _=>⟨u.slots,k b u (hb b n) q⟩,fun b u q n _=>by rw[Ah (hx b n)];exact n,fun b u q _=>?_,
  fun b xs q=>by rw[Ah (hm b _ q fun z=>z)];exact q,fun b u xs q=>by rw[Ah (hm b _ q fun z=>z)];exact q,fun b ps q=>⟨#[],by rw[Ah (hm b _ q fun z=>z),q];simp⟩⟩
 by_cases hbe:b=e
 ·subst hbe;exact heo
 ·exact⟨u,k b u hbe q⟩
end
def trk (h:Heap)(H:Hp):List Addr:=(List.range h.objs.size).filter fun a=>(H a).isSome
def hidT (h:Heap)(H:Hp):Heap:=PySem.W.hideAll h (trk h H)
theorem XX (h:Heap)(H:Hp):(hidT h H).objs.size=h.objs.size:=PySem.W.hideAll_size _ _
theorem Zr {h:Heap}{H:Hp}{b:Addr}{o:Obj}(e:h.get? b=some o)(n:H b=none):(hidT h H).get? b=some o :=
 PySem.W.hideAll_get _ e fun hm=>by
  have q:(H b).isSome=true:=(List.mem_filter.mp hm).2
  rw[n] at q;simp at q
theorem Bn_ {h:Heap}{H:Hp}{b:Addr}{o:Obj}(e:(hidT h H).get? b=some o):h.get? b=some o/\H b=none:=by
 have e':h.get? b=some o:=PySem.W.of_hideAll (trk h H) e
 refine⟨e',?_⟩
 cases q:H b with
 | none=>rfl
 | some x =>
  have hm:b∈trk h H:=List.mem_filter.mpr ⟨List.mem_range.mpr (Heap.lt_size e'),by simp[q]⟩
  have z:(hidT h H).get? b=none:=PySem.W.hideAll_none (trk h H) hm
  rw[z] at e;cases e
def Bo_ (g h:Heap)(L:Addr):List (Addr×Obj):=(List.range h.objs.size).filterMap fun a=>if a=L\/(g.get? a).isSome=true then none else (h.get? a).map fun o=>(a,o)
def rest (g h:Heap)(L d:Addr):List (Addr×Obj):=(Bo_ g h L).filter fun p=>decide (p.1≠d)
end L2
namespace L2
open PySem PySem.Spec PyProof.Rows
structure Mod (K:PySem.W.Frag)(mg:Str->Option Value)(base:Heap):Prop where
 kin:K.In base
 glob:base.Ns mainGlobals mg
 blt:∃ mb,base.Ns builtinsNs mb/\∀ x:Str,x ≠ "__name__" -> mb x=bootBuiltins x
 nolimit:base.NoLimit
structure Cx where
 prog:Program
 w:World
 K:PySem.W.Frag
 mg:Str->Option Value
 base:Heap
 A:Around
 N:List Str
 s₀:Shared
 H₀:Hp
 env:Env
 outer:List Env
 stack:List Env
 ex:List Addr
 fn:Str->Bool
 calm:Bool
 pn:List (Addr×Obj)
 xe:Value->Shared->Prop
def frs (l:List Env):List Addr:=l.filterMap (·.frame)
abbrev Cx.fs (X:Cx):List Addr:=frs X.outer
def Vis (sc:Scope)(x:Str):Prop:=sc.names.lookup x=some .local\/sc.names.lookup x=some .cell\/sc.names.lookup x=some .free
def Loc (sc:Scope)(x:Str):Prop:=sc.names.lookup x=some .local\/sc.names.lookup x=some .cell
def Look (env:Env)(h:Heap)(m:Str->Option Value)(x:Str)(u:Value):Prop :=
 (env.kindOf x=some .local/\m x=some u)\/((env.kindOf x=some .cell\/env.kindOf x=some .free)/\∃ c,env.cells.lookup x=some c/\h.IsCell c (some u))
structure Cx.Ok (X:Cx):Prop where
 mod:Mod X.K X.mg X.base
 kind:X.env.scope.kind=.function
 glob:X.env.globals=mainGlobals
 blt:X.env.builtins=builtinsNs
 above:X.s₀.heap.objs.size<=X.env.locals
 inj:∀ x y c,X.env.cells.lookup x=some c->X.env.cells.lookup y=some c->x=y
 has:∀ x,(X.env.kindOf x=some .cell\/X.env.kindOf x=some .free)->∃ c,X.env.cells.lookup x=some c
 cab:∀ x c,X.fn x=true->X.env.cells.lookup x=some c->X.s₀.heap.objs.size<=c
 hd:X.calm=true->X.A.handled=none
 frames:X.A.frames=some X.stack
 stk:X.stack=X.outer\/(X.stack=X.env::X.outer/\X.env.frame=some X.env.locals)
 exf:∀ b∈X.ex,b≠X.env.locals/\∀ x c,X.env.cells.lookup x=some c->c≠b
 bs:∀ b o,X.base.get? b=some o->X.s₀.heap.get? b=some o/\X.H₀ b=none
 bsz:X.base.objs.size<=X.s₀.heap.objs.size
 noex:∀ b o,X.base.get? b=some o->b∉X.ex
 exfs:∀ b∈X.ex,b∉X.fs
 funs:X.s₀.heap.FunFrames X.base X.outer
 frf:∀ b∈X.fs,X.H₀ b=none
structure Inv (X:Cx)(pins:List (Addr×Obj))(σ:List (Option V))(H:Hp)(s:Shared):Prop where
 ok:X.Ok
 os:s.os=X.s₀.os
 bare:AllBare s.gens
 base:Un X.fs X.ex X.H₀ H X.s₀.heap s.heap
 loc:∃ m,s.heap.Ns X.env.locals m/\∀ (i:Nat) (x:Str) (v:V),X.N[i]?=some x->σ[i]?=some (some v)->Vis X.env.scope x->∃ u,RelV v u/\Look X.env s.heap m x u
 cell:∀ x c,X.env.cells.lookup x=some c->∃ v,s.heap.IsCell c v
 free:H X.env.locals=none
 freeC:∀ x c,X.env.cells.lookup x=some c->H c=none
 pin:∀ p∈X.pn++pins,s.heap.get? p.1=some p.2/\H p.1=none/\p.1≠X.env.locals/\p.1∉X.fs/\∀ v,p.2.data ≠ .cell v
 hok:HOk X.prog X.w H s.heap
 len:σ.length=X.N.length
section
variable {X:Cx} {pins:List (Addr×Obj)} {σ:List (Option V)} {H H':Hp} {s:Shared} {h':Heap}
theorem Cx.Ok.nofr (ok:X.Ok){b:Addr}{o:Obj}(e:X.base.get? b=some o):b∉X.fs:=fun hb=>by
 have:=(ok.funs.mem hb).1
 rw[e] at this;cases this
theorem Inv.bs (I:Inv X pins σ H s):∀ b o,X.base.get? b=some o->s.heap.get? b=some o/\H b=none:=fun b o e =>
 ⟨I.base.keep b o (I.ok.bs b o e).1 (I.ok.bs b o e).2 (I.ok.nofr e) (I.ok.noex b o e),I.base.free b o (I.ok.bs b o e).1 (I.ok.bs b o e).2 (I.ok.noex b o e)⟩
theorem Inv.bk (I:Inv X pins σ H s):∀ b o,X.base.get? b=some o->s.heap.get? b=some o:=fun b o e=>(I.bs b o e).1
theorem Inv.mod (I:Inv X pins σ H s):Mod X.K X.mg X.base:=I.ok.mod
theorem Inv.kIn (I:Inv X pins σ H s):X.K.In s.heap:=I.ok.mod.kin.keeps I.bk
theorem Inv.lt (I:Inv X pins σ H s):X.env.locals<s.heap.objs.size:=let ⟨_,hn,_⟩:=I.loc;hn.lt
theorem Inv.sz (I:Inv X pins σ H s):X.s₀.heap.objs.size<=s.heap.objs.size:=Nat.le_trans I.ok.above (Nat.le_of_lt I.lt)
theorem Inv.nofs (I:Inv X pins σ H s){a:Addr}(h:s.heap.objs.size<=a):a∉X.fs:=fun hb=>by
 obtain⟨_,o,ho,_⟩:=I.ok.funs.mem hb
 exact absurd (Nat.lt_of_lt_of_le (Heap.lt_size ho) (Nat.le_trans I.sz h)) (Nat.lt_irrefl _)
theorem Inv.cne (I:Inv X pins σ H s):∀ x c,X.env.cells.lookup x=some c->c≠X.env.locals:=fun x c e z=>by
 obtain⟨v,o,ho,hd⟩:=I.cell x c e
 obtain⟨m,⟨o',es,ep,ho',hd',_⟩,_⟩:=I.loc
 rw[z,ho'] at ho;cases ho;rw[hd'] at hd;cases hd
theorem Inv.funs (I:Inv X pins σ H s):s.heap.FunFrames X.base X.outer:=by
 have all:∀ (l:List Env),(∀ b∈frs l,b∈X.fs)->X.s₀.heap.FunFrames X.base l->s.heap.FunFrames X.base l:=by
  intro l
  induction l with
  | nil=>intro _ _;trivial
  | cons env r ih =>
   intro hs hl
   obtain⟨hk,⟨L,o,hf,hn,ho,hd⟩,hr⟩:=hl
   have hL:L∈X.fs:=hs L (by unfold frs;rw[List.filterMap_cons,hf];exact List.mem_cons_self)
   obtain⟨sl,e⟩:=I.base.slot L o ho (I.ok.frf L hL) hL fun z=>I.ok.exfs L z hL
   exact⟨hk,⟨L,_,hf,hn,e,hd⟩,ih (fun b hb=>hs b (by unfold frs;rw[List.filterMap_cons,hf];exact List.mem_cons_of_mem _ hb)) hr⟩
 exact all X.outer (fun _ hb=>hb) I.ok.funs
theorem Inv.stack (I:Inv X pins σ H s):s.heap.FunFrames X.base X.stack:=by
 rcases I.ok.stk with e | ⟨e,hf⟩
 ·rw[e];exact I.funs
 ·rw[e]
  obtain⟨m,hn,_⟩:=I.loc
  refine .cons (by rw[I.ok.kind];decide) hf hn ?_ I.funs
  exact Heap.get?_none_of_le (Nat.le_trans I.ok.bsz I.ok.above)
theorem Inv.stkSub (I:Inv X pins σ H s):∀ b∈frs X.stack,b∈X.env.locals::X.fs:=fun b hb=>by
 rcases I.ok.stk with e | ⟨e,hf⟩
 ·rw[e] at hb;exact List.mem_cons_of_mem _ hb
 ·rw[e] at hb
  unfold frs at hb
  rw[List.filterMap_cons,hf] at hb
  exact hb
theorem Inv.stkFree (I:Inv X pins σ H s):∀ b∈frs X.stack,H b=none:=fun b hb=>by
 rcases List.mem_cons.mp (I.stkSub b hb) with e | hb
 ·rw[e];exact I.free
 ·obtain⟨_,o,ho,_⟩:=I.ok.funs.mem hb
  exact I.base.free b o ho (I.ok.frf b hb) fun z=>I.ok.exfs b z hb
theorem Inv.step {g':Array GenState}{t':Nat}{d':Drawn}{ch:List Addr}(I:Inv X pins σ H s)
  (hch:∀ b∈ch,(b∈X.ex\/X.s₀.heap.objs.size<=b)/\b≠X.env.locals/\(∀ x c,X.env.cells.lookup x=some c->c≠b)/\∀ p∈X.pn++pins,p.1≠b)
  (keep:∀ b o,b≠X.env.locals->b∉X.fs->b∉ch->s.heap.get? b=some o->H b=none->h'.get? b=some o)
  (slot:∀ b o,b≠X.env.locals->b∈X.fs->b∉ch->s.heap.get? b=some o->H b=none->∃ sl,h'.get? b=some {o with slots:=sl}) (free:∀ b o,b∉ch->s.heap.get? b=some o->H b=none->H' b=none)
  (there:∀ b o,b∉ch->s.heap.get? b=some o->∃ o',h'.get? b=some o')
  (tups:∀ b xs,H b=some (.tup xs)->H' b=some (.tup xs)) (frzs:∀ b o u,H b=some (.frz o u)->H' b=some (.frz o u)) (tbls:∀ b ps,H b=some (.tbl ps)->∃ more,H' b=some (.tbl (ps++more)))
  (ns:∀ m,s.heap.Ns X.env.locals m->h'.Ns X.env.locals m) (hok:HOk X.prog X.w H' h') (hg:AllBare g') :
  Inv X pins σ H' {s with heap:=h',gens:=g',drawn:=d',toks:=t' }:=by
 have neL:∀ b o,X.s₀.heap.get? b=some o->b≠X.env.locals:=fun b o e=>Nat.ne_of_lt (Nat.lt_of_lt_of_le (Heap.lt_size e) I.ok.above)
 have neC:∀ b o,X.s₀.heap.get? b=some o->b∉X.ex->b∉ch:=fun b o e hx hb=>by
  rcases (hch b hb).1 with z | z
  ·exact hx z
  ·exact absurd (Nat.lt_of_lt_of_le (Heap.lt_size e) z) (Nat.lt_irrefl _)
 have cellK:∀ x c,X.env.cells.lookup x=some c->∀ v,s.heap.IsCell c v->h'.IsCell c v:=fun x c e v ⟨o,ho,hd⟩=>by
  have nch:c∉ch:=fun z=>(hch c z).2.2.1 x c e rfl
  by_cases hc:c∈X.fs
  ·obtain⟨sl,q⟩:=slot c o (I.cne x c e) hc nch ho (I.freeC x c e)
   exact⟨_,q,hd⟩
  ·exact⟨o,keep c o (I.cne x c e) hc nch ho (I.freeC x c e),hd⟩
 refine⟨I.ok,I.os,hg,⟨fun b o e n hb hx=>?_,fun b o e n hb hx=>?_,fun b o e n hx=>?_,fun b o e hx=>?_,fun b xs e=>tups b xs (I.base.tups b xs e),fun b o xs e=>frzs b o xs (I.base.frzs b o xs e),fun b ps e=>?_⟩,?_,fun x c e=>?_,?_,fun x c e=>?_,fun p hp=>?_,hok,I.len⟩
 ·exact keep b o (neL b o e) hb (neC b o e hx) (I.base.keep b o e n hb hx) (I.base.free b o e n hx)
 ·obtain⟨sl,e1⟩:=I.base.slot b o e n hb hx
  obtain⟨sl',e2⟩:=slot b _ (neL b o e) hb (neC b o e hx) e1 (I.base.free b o e n hx)
  exact⟨sl',e2⟩
 ·obtain⟨o',e1⟩:=I.base.there b o e hx
  exact free b o' (neC b o e hx) e1 (I.base.free b o e n hx)
 ·obtain⟨o',e1⟩:=I.base.there b o e hx
  exact there b o' (neC b o e hx) e1
 ·obtain⟨m1,e1⟩:=I.base.tbls b ps e
  obtain⟨m2,e2⟩:=tbls b _ e1
  exact⟨m1++m2,by rw[e2,Array.append_assoc]⟩
 ·obtain⟨m,hn,hl⟩:=I.loc
  refine⟨m,ns m hn,fun i x v e1 e2 e3=>?_⟩
  obtain⟨u,r,l⟩:=hl i x v e1 e2 e3
  refine⟨u,r,?_⟩
  rcases l with l | ⟨k,c,e,z⟩
  ·exact .inl l
  ·exact .inr ⟨k,c,e,cellK x c e _ z⟩
 ·obtain⟨v,z⟩:=I.cell x c e
  exact⟨v,cellK x c e v z⟩
 ·obtain⟨m,⟨o,_,_,ho,_⟩,_⟩:=I.loc
  exact free _ o (fun z=>(hch _ z).2.1 rfl) ho I.free
 ·obtain⟨v,o,ho,hd⟩:=I.cell x c e
  exact free c o (fun z=>(hch c z).2.2.1 x c e rfl) ho (I.freeC x c e)
 ·obtain⟨e,n,ne,nf,d⟩:=I.pin p hp
  have nch:p.1∉ch:=fun z=>(hch p.1 z).2.2.2 p hp rfl
  exact⟨keep p.1 p.2 ne nf nch e n,free p.1 p.2 nch e n,ne,nf,d⟩
theorem Inv.un {t':Nat}(I:Inv X pins σ H s)(u:Un X.fs [] H H' s.heap h')(hok:HOk X.prog X.w H' h'):Inv X pins σ H' {s with heap:=h',toks:=t' }:=by
 obtain⟨m,⟨o,es,ep,ho,r⟩,_⟩:=id I.loc
 obtain⟨sl,hL⟩:=u.any ho I.free (by simp)
 exact I.step (g':=s.gens) (d':=s.drawn) (ch:=[]) (fun _ z=>nomatch z) (fun b o _ hb _ e n=>u.keep b o e n hb (by simp)) (fun b o _ hb _ e n=>u.slot b o e n hb (by simp)) (fun b o _ e n=>u.free b o e n (by simp)) (fun b o _ e=>u.there b o e (by simp)) u.tups u.frzs u.tbls (fun m' hm=>by
  obtain⟨o',es',ep',ho',r'⟩:=hm
  rw[ho] at ho';cases ho'
  exact⟨_,es',ep',hL,r'⟩) hok I.bare
theorem Inv.call {g':Array GenState}{t':Nat}{d':Drawn}{ch:List Addr}(I:Inv X pins σ H s)(u:Un (frs X.stack) ch H H' s.heap h')(hok:HOk X.prog X.w H' h')(hg:AllBare g')
  (hch:∀ b∈ch,(b∈X.ex\/X.s₀.heap.objs.size<=b)/\b≠X.env.locals/\(∀ x c,X.env.cells.lookup x=some c->c≠b)/\∀ p∈X.pn++pins,p.1≠b) :
  Inv X pins σ H' {s with heap:=h',gens:=g',drawn:=d',toks:=t' }:=by
 obtain⟨m,⟨o,es,ep,ho,r⟩,_⟩:=id I.loc
 obtain⟨sl,hL⟩:=u.any ho I.free fun z=>(hch _ z).2.1 rfl
 exact I.step (ch:=ch) hch (fun b o hL hb hc e n=>u.keep b o e n (fun z=>(List.mem_cons.mp (I.stkSub b z)).elim hL hb) hc) (fun b o _ _ hc e n=>u.any e n hc) (fun b o hc e n=>u.free b o e n hc) (fun b o hc e=>u.there b o e hc) u.tups u.frzs u.tbls (fun m' hm=>by
  obtain⟨o',es',ep',ho',r'⟩:=hm
  rw[ho] at ho';cases ho'
  exact⟨_,es',ep',hL,r'⟩) hok hg
theorem Inv.turned {t':Nat}{it:Addr}(I:Inv X pins σ H s)(k:∀ b o,b≠it->s.heap.get? b=some o->h'.get? b=some o)(hn:H it=none)(hL:it≠X.env.locals)
  (h1:it∈X.ex\/X.s₀.heap.objs.size<=it) (h2:∀ x c,X.env.cells.lookup x=some c->c≠it) (h3:∀ p∈X.pn++pins,p.1≠it):Inv X pins σ H {s with heap:=h',toks:=t' }:=by
 have nit:∀ b u,H b=some u->b≠it:=fun b u e z=>by rw[z,hn] at e;cases e
 refine I.step (g':=s.gens) (d':=s.drawn) (ch:=[it]) (fun b hb=>?_) (fun b o _ _ hc e _=>k b o (fun z=>hc (by simp[z])) e) (fun b o _ _ hc e _=>⟨o.slots,k b o (fun z=>hc (by simp[z])) e⟩) (fun _ _ _ _ n=>n)
  (fun b o hc e=>⟨o,k b o (fun z=>hc (by simp[z])) e⟩) (fun _ _ e=>e) (fun _ _ _ e=>e) (fun b ps e=>⟨#[],by rw[e];simp⟩) (fun m hm=>?_) (fun b u e=>?_) I.bare
 ·have e:b=it:=by simpa using hb
  subst e
  exact⟨h1,hL,h2,h3⟩
 ·obtain⟨o,es,ep,ho,r⟩:=hm
  exact⟨o,es,ep,k _ o (Ne.symm hL) ho,r⟩
 ·refine (I.hok b u e).stay (fun c v hc q=>k c v ?_ q) (fun _ q=>q) fun _ _ q=>q
  rcases hc with z | z
  ·rw[z];exact nit b u e
  ·exact nit c _ z
theorem Inv.tok (I:Inv X pins σ H s)(t:Nat):Inv X pins σ H {s with toks:=t}:=I.un (h':=s.heap) (t':=t) Un.refl I.hok
theorem Inv.kept {t':Nat}(I:Inv X pins σ H s)(k:∀ b u,s.heap.get? b=some u->h'.get? b=some u):Inv X pins σ H {s with heap:=h',toks:=t' }:=I.un (Un.kept k) (I.hok.kept k)
theorem Inv.laid {a:Addr}{o:HO}{t':Nat}(I:Inv X pins σ H s)(k:∀ b u,s.heap.get? b=some u->h'.get? b=some u)(hp:s.heap.objs.size<=a)(new:CC X.prog X.w (upd H a o) h' a o) :
  Inv X pins σ (upd H a o) {s with heap:=h',toks:=t' }:=I.un (Un.laid k hp (I.hok.fresh hp)) (I.hok.laid k hp new)
theorem Inv.write {x e:Addr}{o:HO}{t':Nat}(I:Inv X pins σ H s)(mu:Mut (H x))(he:e=x\/H e=some (.own x))(k:∀ b u,b≠e->s.heap.get? b=some u->h'.get? b=some u)(heo:∃ u,h'.get? e=some u)
  (new:CC X.prog X.w (upd H x o) h' x o):Inv X pins σ (upd H x o) {s with heap:=h',toks:=t' }:=I.un (Un.write mu he k heo) (I.hok.write mu he k heo new)
theorem Inv.pins_of {pins':List (Addr×Obj)}(I:Inv X pins σ H s)(h:∀ p∈pins',s.heap.get? p.1=some p.2/\H p.1=none/\p.1≠X.env.locals/\p.1∉X.fs/\∀ v,p.2.data ≠ .cell v):Inv X pins' σ H s :=
 ⟨I.ok,I.os,I.bare,I.base,I.loc,I.cell,I.free,I.freeC,fun p hp=>(List.mem_append.mp hp).elim (fun z=>I.pin p (List.mem_append_left _ z)) (h p),I.hok,I.len⟩
theorem Wd {N:List Str}(hN:N.Nodup){i j:Nat}{x:Str}(a:N[i]?=some x)(b:N[j]?=some x):i=j:=by
 obtain⟨h1,e1⟩:=List.getElem?_eq_some_iff.mp a
 obtain⟨h2,e2⟩:=List.getElem?_eq_some_iff.mp b
 exact (List.getElem_inj hN).mp (e1.trans e2.symm)
theorem TY {M:Model}{A:Around}{E:Value->Shared->Prop}{i:Nat}{x:Str}{v:V}{u:Value}{Q:Unit->Shared->Prop}(I:Inv X pins σ H s)(hN:X.N.Nodup)(hi:X.N[i]?=some x)(hx:Loc X.env.scope x)(r:RelV v u)
  (h:∀ s',Inv X pins (σ.set i (some v)) H s'->(∃ a,Heap.SameBut a s.heap s'.heap/\(a=X.env.locals\/X.env.cells.lookup x=some a))->Q () s') (hf:X.fn x=true\/X.env.scope.names.lookup x=some .local:=by first | exact .inl rfl | exact .inr rfl | assumption):wpAny M A (storeName X.env x u) Q E s:=by
 obtain⟨m,hn,hl⟩:=id I.loc
 have hcls:(X.env.scope.kind == .class||(X.env.scope.kind == .module&&X.env.locals != X.env.globals))=false:=by rw[I.ok.kind];rfl
 have hiσ:i<σ.length:=by rw[I.len];exact (List.getElem?_eq_some_iff.mp hi).1
 have cne:=I.cne
 have tracked:∀ {a:Addr} {h':Heap},(∃ o,s.heap.get? a=some o/\H a=none)->Heap.SameBut a s.heap h'->HOk X.prog X.w H h':=fun {a h'} ha hs b ob e=>by
  obtain⟨_,_,hfree⟩:=ha
  refine (I.hok b ob e).stay (fun c w' hc q=>(hs.2 c ?_).trans q) (fun _ q=>q) fun _ _ q=>q
  rintro rfl
  rcases hc with rfl | hc
  ·rw[hfree] at e;cases e
  ·rw[hfree] at hc;cases hc
 rcases hx with hk | hk
 ·refine wpAny_storeName_local hk hn (fun h' hn' hs=>?_) hcls
  obtain⟨oL,_,_,hoL,_⟩:=id hn
  refine h _ ⟨I.ok,I.os,I.bare,⟨fun b o e n hb hx=>?_,fun b o e n hb hx=>?_,I.base.free,fun b o e hx=>?_,I.base.tups,I.base.frzs,I.base.tbls⟩,⟨_,hn',fun j y v' e1 e2 e3=>?_⟩,fun y c e=>?_,I.free,I.freeC,fun p hp=>?_,tracked ⟨oL,hoL,I.free⟩ hs,by simpa using I.len⟩ ⟨_,hs,.inl rfl⟩
  ·exact (hs.2 b (Nat.ne_of_lt (Nat.lt_of_lt_of_le (Heap.lt_size e) I.ok.above))).trans (I.base.keep b o e n hb hx)
  ·obtain⟨sl,e1⟩:=I.base.slot b o e n hb hx
   exact⟨sl,(hs.2 b (Nat.ne_of_lt (Nat.lt_of_lt_of_le (Heap.lt_size e) I.ok.above))).trans e1⟩
  ·obtain⟨o',e1⟩:=I.base.there b o e hx
   exact⟨o',(hs.2 b (Nat.ne_of_lt (Nat.lt_of_lt_of_le (Heap.lt_size e) I.ok.above))).trans e1⟩
  ·by_cases hj:j=i
   ·subst hj
    rw[hi] at e1;cases e1
    rw[List.getElem?_set_self hiσ] at e2
    cases e2
    exact⟨u,r,.inl ⟨hk,by simp⟩⟩
   ·rw[List.getElem?_set_ne (Ne.symm hj)] at e2
    obtain⟨u',r',q⟩:=hl j y v' e1 e2 e3
    refine⟨u',r',?_⟩
    rcases q with ⟨k,e⟩ | ⟨k,c,e,z⟩
    ·refine .inl ⟨k,?_⟩
     have:y≠x:=fun e=>hj (Wd hN e1 (e ▸ hi))
     simp[this,e]
    ·exact .inr ⟨k,c,e,z.sameBut hs (cne y c e)⟩
  ·obtain⟨w',z⟩:=I.cell y c e
   exact⟨w',z.sameBut hs (cne y c e)⟩
  ·obtain⟨e,n,ne,nf,d⟩:=I.pin p hp
   exact⟨(hs.2 p.1 ne).trans e,n,ne,nf,d⟩
 ·have hfn:X.fn x=true:=by
   rcases hf with z | z
   ·exact z
   ·rw[z] at hk;cases hk
  obtain⟨c,hc⟩:=I.ok.has x (.inl hk)
  obtain⟨w',z⟩:=I.cell x c hc
  refine wpAny_storeName_cell I.ok.kind hk hc z (fun h' hc' hs=>?_)
  obtain⟨oc,hoc,hocd⟩:=id z
  refine h {s with heap:=h' } ⟨I.ok,I.os,I.bare,⟨fun b o e n hb hx=>?_,fun b o e n hb hx=>?_,I.base.free,fun b o e hx=>?_,I.base.tups,I.base.frzs,I.base.tbls⟩,⟨m,hn.sameBut hs (Ne.symm (cne x c hc)),fun j y v' e1 e2 e3=>?_⟩,fun y c' e=>?_,I.free,I.freeC,fun p hp=>?_,tracked ⟨oc,hoc,I.freeC x c hc⟩ hs,by simpa using I.len⟩ ⟨c,hs,.inr hc⟩
  ·exact (hs.2 b (Nat.ne_of_lt (Nat.lt_of_lt_of_le (Heap.lt_size e) (I.ok.cab x c hfn hc)))).trans (I.base.keep b o e n hb hx)
  ·obtain⟨sl,e1⟩:=I.base.slot b o e n hb hx
   exact⟨sl,(hs.2 b (Nat.ne_of_lt (Nat.lt_of_lt_of_le (Heap.lt_size e) (I.ok.cab x c hfn hc)))).trans e1⟩
  ·obtain⟨o',e1⟩:=I.base.there b o e hx
   exact⟨o',(hs.2 b (Nat.ne_of_lt (Nat.lt_of_lt_of_le (Heap.lt_size e) (I.ok.cab x c hfn hc)))).trans e1⟩
  ·by_cases hj:j=i
   ·subst hj
    rw[hi] at e1;cases e1
    rw[List.getElem?_set_self hiσ] at e2
    cases e2
    exact⟨u,r,.inr ⟨.inl hk,c,hc,hc'⟩⟩
   ·rw[List.getElem?_set_ne (Ne.symm hj)] at e2
    obtain⟨u',r',q⟩:=hl j y v' e1 e2 e3
    refine⟨u',r',?_⟩
    rcases q with q | ⟨k,c',e,z'⟩
    ·exact .inl q
    ·refine .inr ⟨k,c',e,z'.sameBut hs ?_⟩
     rintro rfl
     exact hj (Wd hN e1 (I.ok.inj _ _ _ e hc ▸ hi))
  ·by_cases hcc:c'=c
   ·subst hcc;exact⟨_,hc'⟩
   ·obtain⟨w2,z2⟩:=I.cell y c' e
    exact⟨w2,z2.sameBut hs hcc⟩
  ·obtain⟨e,n,ne,nf,d⟩:=I.pin p hp
   refine⟨(hs.2 p.1 ?_).trans e,n,ne,nf,d⟩
   intro q
   rw[q,hoc] at e
   have q':oc=p.2:=Option.some.inj e
   exact d w' (by rw[<- q'];exact hocd)
theorem We {M:Model}{A:Around}{E:Value->Shared->Prop}{i:Nat}{x:Str}{v:V}{u:Value}{Q:Unit->Shared->Prop}(I:Inv X pins σ H s)(hN:X.N.Nodup)(hi:X.N[i]?=some x)(hx:Loc X.env.scope x)(r:RelV v u)
  (h:∀ s',Inv X pins (σ.set i (some v)) H s'->Q () s') (hf:X.fn x=true\/X.env.scope.names.lookup x=some .local:=by first | exact .inl rfl | exact .inr rfl | assumption):wpAny M A (storeName X.env x u) Q E s :=
 TY I hN hi hx r (fun s' I' _=>h s' I') hf
theorem Inv.call' {s':Shared}{ch:List Addr}(I:Inv X pins σ H s)(ho:s'.os=s.os)(u:Un (frs X.stack) ch H H' s.heap s'.heap)(hok:HOk X.prog X.w H' s'.heap)(hg:AllBare s'.gens)
  (hch:∀ b∈ch,(b∈X.ex\/X.s₀.heap.objs.size<=b)/\b≠X.env.locals/\(∀ x c,X.env.cells.lookup x=some c->c≠b)/\∀ p∈X.pn++pins,p.1≠b):Inv X pins σ H' s':=by
 obtain⟨h',g',d',t',o'⟩:=s'
 have e:o'=s.os:=ho
 subst e
 exact I.call (g':=g') (t':=t') (d':=d') u hok hg hch
end
abbrev XK:=Value->Option Addr->Hp->Prop
abbrev St:=List (Option V)
abbrev VK:=V->Hp->Prop
abbrev TE:=St->Hp->VK->Prop
abbrev TT:=St->Hp->(Bool->Hp->Prop)->Prop
abbrev TA:=St->Hp->(List V->Hp->Prop)->Prop
structure Ends where
 nx:St->Hp->Prop
 rt:VK
 bk:St->Hp->Prop:=fun _ _=>False
 ct:St->Hp->Prop:=fun _ _=>False
abbrev TS:=Ends->St->Hp->Prop
def EP (X:Cx)(pins:List (Addr×Obj))(σ:St)(Q:VK)(u:Value)(s':Shared):Prop:=∃ v H',Inv X pins σ H' s'/\RelV v u/\Q v H'
def TP (X:Cx)(pins:List (Addr×Obj))(σ:St)(Q:Bool->Hp->Prop)(b:Bool)(s':Shared):Prop:=∃ H',Inv X pins σ H' s'/\Q b H'
def AP (X:Cx)(pins:List (Addr×Obj))(σ:St)(Q:List V->Hp->Prop)(us:List Value)(s':Shared):Prop:=∃ vs H',Inv X pins σ H' s'/\Vals vs us/\Q vs H'
def SP (X:Cx)(pins:List (Addr×Obj))(D:Ends)(f:Flow)(s':Shared):Prop :=
 match f with
 | .next=>∃ σ' H',Inv X pins σ' H' s'/\D.nx σ' H'
 | .brk=>∃ σ' H',Inv X pins σ' H' s'/\D.bk σ' H'
 | .cont=>∃ σ' H',Inv X pins σ' H' s'/\D.ct σ' H'
 | .ret u=>∃ v σ' H',Inv X pins σ' H' s'/\RelV v u/\D.rt v H'
def PE (X:Cx)(e:Expr)(t:TE):Prop :=
 ∀ (pins:List (Addr×Obj)) (s:Shared) (σ:St) (H:Hp) (Q:VK),Inv X pins σ H s->t σ H Q->wpAny (model X.prog X.w) X.A (eval e X.env) (EP X pins σ Q) X.xe s
def PT (X:Cx)(e:Expr)(t:TT):Prop :=
 ∀ (pins:List (Addr×Obj)) (s:Shared) (σ:St) (H:Hp) (Q:Bool->Hp->Prop),Inv X pins σ H s->t σ H Q->wpAny (model X.prog X.w) X.A (isTrue e X.env (eval e X.env)) (TP X pins σ Q) X.xe s
def PW (X:Cx)(e:Expr)(t:TT):Prop :=
 ∀ (whole:Sem Value) (pins:List (Addr×Obj)) (s:Shared) (σ:St) (H:Hp) (Q:Bool->Hp->Prop),Inv X pins σ H s->t σ H Q->wpAny (model X.prog X.w) X.A (isTrue e X.env whole) (TP X pins σ Q) X.xe s
theorem PW.pt {X:Cx}{e:Expr}{t:TT}(h:PW X e t):PT X e t:=h _
def PA (X:Cx)(es:List Expr)(t:TA):Prop :=
 ∀ (pos:Pos) (pins:List (Addr×Obj)) (s:Shared) (σ:St) (H:Hp) (Q:List V->Hp->Prop),Inv X pins σ H s->t σ H Q->wpAny (model X.prog X.w) X.A (spliced (backTo pos (starEach es X.env))) (AP X pins σ Q) X.xe s
def PS (X:Cx)(st:Stmt)(t:TS):Prop :=
 ∀ (pins:List (Addr×Obj)) (s:Shared) (σ:St) (H:Hp) (D:Ends),Inv X pins σ H s->t D σ H->wpAny (model X.prog X.w) X.A (exec st X.env) (SP X pins D) X.xe s
def PSs (X:Cx)(st:List Stmt)(t:TS):Prop :=
 ∀ (pins:List (Addr×Obj)) (s:Shared) (σ:St) (H:Hp) (D:Ends),Inv X pins σ H s->t D σ H->wpAny (model X.prog X.w) X.A (execs st X.env) (SP X pins D) X.xe s
theorem thn {α:Type}{t:Sem α}{Q Q':α->Shared->Prop}{M:Model}{A:Around}{E:Value->Shared->Prop}{s:Shared}(h:wpAny M A t Q E s)(hQ:∀ a s,Q a s->Q' a s):wpAny M A t Q' E s:=wpAny_mono h hQ fun _ _ x=>x
end L2
namespace L2
open PySem PySem.Spec PyProof.Rows
section
variable {X:Cx}
def tVar (i:Nat):TE:=fun σ H Q=>∃ v,σ[i]?=some (some v)/\Q v H
def tC (v:V):TE:=fun _ H Q=>Q v H
theorem Ch_ {i:Nat}{x:Str}{pos:Pos}(hN:X.N[i]?=some x)(hv:Vis X.env.scope x)(hd:(x == ("__debug__" : Str))=false:=by decide)(hcd:(x == ("__classdict__" : Str))=false:=by decide):PE X (.Name x pos) (tVar i):=by
 intro pins s σ H Q I h
 obtain⟨v,e,h⟩:=h
 obtain⟨m,hn,hl⟩:=I.loc
 obtain⟨u,r,l⟩:=hl i x v hN e hv
 have fin:EP X pins σ Q u s:=⟨v,H,I,r,h⟩
 rcases l with ⟨hk,hm⟩ | ⟨hk,c,hc,hcell⟩
 ·exact wpAny_Name (wpAny_loadName_local I.ok.kind hk hn hm fin) hd
 ·rcases hk with hk | hk
  ·exact wpAny_Name (wpAny_loadName_cell I.ok.kind hk hc hcell fin) hd
  ·exact wpAny_Name (wpAny_loadName_free I.ok.kind hk hc hcell fin hcd) hd
theorem Ag {i j pos}:PE X (.Constant (.int i) j pos) (tC (.int i)):=fun _ _ _ H _ I h=>wpAny_Constant_int ⟨.int i,H,I.tok _,⟨_,rfl⟩,h⟩
theorem LL {b j pos}:PE X (.Constant (.bool b) j pos) (tC (.bl b)):=fun _ _ _ H _ I h=>Constant_bool ⟨.bl b,H,I,rfl,h⟩
theorem E4 {j pos}:PE X (.Constant .none j pos) (tC .non):=fun _ _ _ H _ I h=>Constant_none ⟨.non,H,I,rfl,h⟩
theorem EG {x j pos}:PE X (.Constant (.str x) j pos) (tC (.str x)):=fun _ _ _ H _ I h=>Calls.Constant_str ⟨.str x,H,I.tok _,⟨_,rfl⟩,h⟩
def Gl (X:Cx)(x:Str):Prop:=X.env.kindOf x=some .globalImplicit
theorem NY {E:Value->Shared->Prop}{pins:List (Addr×Obj)}{s:Shared}{σ:St}{H:Hp}{x:Str}{u:Value}{pos:Pos}{Q:Value->Shared->Prop}(I:Inv X pins σ H s)(hg:Gl X x)(hm:X.mg x=some u)(h:Q u s)
  (hd:(x == ("__debug__" : Str))=false:=by decide):wpAny (model X.prog X.w) X.A (eval (.Name x pos) X.env) Q E s :=
 Calls.Name_function_global I.ok.kind hg (Calls.loadGlobal_global (by rw[I.ok.glob];exact I.mod.glob.keeps I.bk) hm h) hd
theorem TZ {E:Value->Shared->Prop}{pins:List (Addr×Obj)}{s:Shared}{σ:St}{H:Hp}{x:Str}{u:Value}{pos:Pos}{Q:Value->Shared->Prop}(I:Inv X pins σ H s)(hg:Gl X x)(hm:X.mg x=none)(hv:bootBuiltins x=some u)(h:Q u s)
  (hn:x ≠ "__name__" := by decide) (hd:(x == ("__debug__" : Str))=false:=by decide):wpAny (model X.prog X.w) X.A (eval (.Name x pos) X.env) Q E s:=by
 obtain⟨mb,h1,h2⟩:=I.mod.blt
 exact Calls.Name_function_global I.ok.kind hg (Calls.loadGlobal_builtin (by rw[I.ok.glob];exact I.mod.glob.keeps I.bk) hm (by rw[I.ok.blt];exact h1.keeps I.bk) ((h2 x hn).trans hv) h) hd
theorem XY {x:Str}{v:V}{u:Value}{pos:Pos}(hg:Gl X x)(hm:X.mg x=some u)(r:RelV v u)(hd:(x == ("__debug__" : Str))=false:=by decide):PE X (.Name x pos) (tC v) :=
 fun _ _ _ H _ I h=>NY I hg hm ⟨v,H,I,r,h⟩ hd
theorem Mf {x:Str}{v:V}{u:Value}{pos:Pos}(hg:Gl X x)(hm:X.mg x=none)(hv:bootBuiltins x=some u)(r:RelV v u)(hn:x ≠ "__name__" := by decide)(hd:(x == ("__debug__" : Str))=false:=by decide):PE X (.Name x pos) (tC v) :=
 fun _ _ _ H _ I h=>TZ I hg hm hv ⟨v,H,I,r,h⟩ hn hd
variable {a b:Expr} {ta tb:TE} {pos:Pos}
def PC (X:Cx)(op:CmpOp)(a b:Expr)(t:TE):Prop :=
 ∀ (pins:List (Addr×Obj)) (s:Shared) (σ:St) (H:Hp) (Q:VK),Inv X pins σ H s->t σ H Q ->
  wpAny (model X.prog X.w) X.A (eval a X.env) (fun v s₁=>wpAny (model X.prog X.w) X.A (eval b X.env) (fun u s₂=>wpAny (model X.prog X.w) X.A (compareOp op v u) (EP X pins σ Q) X.xe s₂) X.xe s₁) X.xe s
theorem Zs (b:Expr){op:CmpOp}(h:op ≠ .In)(h2:op ≠ .NotIn):behindInMarks op b=false:=by
 have e1:(op == CmpOp.In)=false:=by cases op<;>first | rfl | exact absurd rfl h
 have e2:(op == CmpOp.NotIn)=false:=by cases op<;>first | rfl | exact absurd rfl h2
 cases b<;>simp[behindInMarks,e1,e2]
def tB (t:TE):TT:=fun σ H Q=>t σ H fun x H1=>∃ c,x=.bl c/\Q c H1
theorem Ci_ {op:CmpOp}{t:TE}(h:PC X op a b t)(h1:behindInMarks op b=false:=by first | exact Zs _ (by decide) (by decide) | rfl):PT X (.Compare a [op] [b] pos) (tB t):=by
 intro pins s σ H Q I hw
 refine wpAny_isTrue_Compare1 (thn (h pins s σ H _ I hw) fun v s1 h1=>thn h1 fun u s2 h2=>thn h2 fun c s3 ⟨x,H1,I1,r1,q1⟩=>?_) h1
 obtain⟨d,rfl,q⟩:=q1
 cases r1
 exact wpAny_truthy_bool ⟨H1,I1,q⟩
theorem HM {e:Expr}{t:TE}(h:PE X e t)(he:∀ whole,isTrue e X.env whole=(do let v <- whole;standAt e.pos;holding [v] (truthy v)):=by intro _;rfl):PT X e (tB t):=by
 intro pins s σ H Q I hw
 refine isTrue_plain (thn (h pins s σ H _ I hw) fun v s1 ⟨x,H1,I1,r1,q1⟩=>?_) (he _)
 obtain⟨d,rfl,q⟩:=q1
 cases r1
 exact wpAny_truthy_bool ⟨H1,I1,q⟩
variable {tA tB':TT} {rest:List Expr}
def tOr (t u:TT):TT:=fun σ H Q=>t σ H fun c H1=>if c=true then Q true H1 else u σ H1 Q
def tNot (t:TT):TT:=fun σ H Q=>t σ H fun c H1=>Q (!c) H1
theorem NZ (ha:PT X a tA):PW X (.BoolOp .Or [a] pos) tA:=by
 intro wh pins s σ H Q I h
 refine isTrue_or (thn (ha pins s σ H Q I h) fun c s1 e=>?_)
 cases c with
 | false=>exact isTrue_or_nil e
 | true=>exact e
theorem Nr (ha:PT X a tA)(hb:PW X (.BoolOp .Or (b::rest) pos) tB'):PW X (.BoolOp .Or (a::b::rest) pos) (tOr tA tB'):=by
 intro wh pins s σ H Q I h
 refine isTrue_or (thn (ha pins s σ H _ I h) fun c s1 ⟨H1,I1,q1⟩=>?_)
 cases c with
 | true=>exact⟨H1,I1,q1⟩
 | false=>exact hb wh pins s1 σ H1 Q I1 q1
theorem II (ha:PT X a tA):PT X (.UnaryOp .Not a pos) (tNot tA):=by
 intro pins s σ H Q I h
 exact isTrue_not (ha pins s σ H (fun c H1=>Q (!c) H1) I h)
def Cj_ (ta tb:TE):TE:=fun σ H Q=>ta σ H fun x H1=>∃ c,x=.bl c/\if c=true then tb σ H1 Q else Q (.bl false) H1
theorem XZ {op}{t:TE}(h:PE X a t):PE X (.BoolOp op [a] pos) t:=fun pins s σ H Q I hw=>BoolOp_one (h pins s σ H Q I hw)
theorem Ru (ha:PE X a ta)(hb:PE X (.BoolOp .And (b::rest) pos) tb):PE X (.BoolOp .And (a::b::rest) pos) (Cj_ ta tb):=by
 intro pins s σ H Q I h
 refine BoolOp_and (thn (ha pins s σ H _ I h) fun v s1 ⟨x,H1,I1,r1,q1⟩=>?_)
 obtain⟨c,rfl,q1⟩:=q1
 cases r1
 refine wpAny_truthy_bool ?_
 cases c with
 | true=>exact hb pins s1 σ H1 Q I1 q1
 | false=>exact⟨.bl false,H1,I1,rfl,q1⟩
end
end L2
namespace L2
open PySem PySem.Spec PyProof.Rows
def SqL (K:PySem.W.Frag)(H:Hp)(a:Addr)(xs:List V):Prop :=
 Rd H a (.lst xs) \/
  ∃ (o:Obj) (its:Array Value) (n:Nat),K.lookup a=some o/\o.cls=.type "list" /\ o.dict=none/\o.data=.seq its n/\its.size<=sizeLine/\Vals xs its.toList
def SqT (K:PySem.W.Frag)(H:Hp)(a:Addr)(xs:List V):Prop :=
 Rd H a (.tup xs) \/
  ∃ (o:Obj) (its:Array Value) (n:Nat),K.lookup a=some o/\o.cls=.type "tuple" /\ o.data=.seq its n/\its.size<=sizeLine/\Vals xs its.toList
def absV:Value->Option V
 | .none=>some .non
 | .bool b=>some (.bl b)
 | .int i _=>some (.int i)
 | .str x _=>some (.str x)
 | .bytes b _=>some (.byt b)
 | .float b _=>some (.flt b)
 | .ref a=>some (.ref a)
 | .type n=>some (.ty n)
 | _=>none
theorem RelV.abs {x:V}{u:Value}(r:RelV x u):absV u=some x:=by
 cases x with
 | non=>cases r;rfl
 | bl _=>cases r;rfl
 | int _=>obtain⟨t,rfl⟩:=r;rfl
 | str _=>obtain⟨t,rfl⟩:=r;rfl
 | byt _=>obtain⟨t,rfl⟩:=r;rfl
 | flt _=>obtain⟨t,rfl⟩:=r;rfl
 | ref _=>cases r;rfl
 | ty _=>cases r;rfl
theorem RelV.inj {x y:V}{u:Value}(r:RelV x u)(q:RelV y u):x=y:=Option.some.inj (r.abs.symm.trans q.abs)
theorem Vals.inj:∀ {xs ys:List V} {us:List Value},Vals xs us->Vals ys us->xs=ys
 | _,_,_,.nil,.nil=>rfl
 | _,_,_,.cons r t,.cons r' t'=>by rw[r.inj r',Vals.inj t t']
section
variable {X:Cx} {pins:List (Addr×Obj)} {σ:St} {H:Hp} {s:Shared} {a:Addr} {xs ys:List V}
theorem SqL.of {K:PySem.W.Frag}(h:H a=some (.lst xs)):SqL K H a xs:=.inl (.inl h)
theorem SqT.of {K:PySem.W.Frag}(h:H a=some (.tup xs)):SqT K H a xs:=.inl (.inl h)
theorem Inv.list (I:Inv X pins σ H s)(h:SqL X.K H a xs):∃ its:List Value,Vals xs its/\PlainL s.heap a its.toArray/\xs.length<=sizeLine:=by
 rcases h with h | ⟨o,its,n,hk,hc,hd,hs,hz,r⟩
 ·obtain⟨z,its,n,r,e⟩:=h.ok I.hok
  exact⟨its,r,⟨_,n,e,rfl,rfl,rfl⟩,z⟩
 ·refine⟨its.toList,r,⟨o,n,I.kIn a o hk,hc,hd,by simpa using hs⟩,?_⟩
  have e:=r.length
  simp only[Array.length_toList] at e
  omega
theorem Inv.tuple (I:Inv X pins σ H s)(h:SqT X.K H a xs):∃ its:List Value,Vals xs its/\IsTup s.heap a its.toArray/\xs.length<=sizeLine:=by
 rcases h with h | ⟨o,its,n,hk,hc,hs,hz,r⟩
 ·obtain⟨z,its,r,p⟩:=h.ok I.hok
  exact⟨its,r,p,z⟩
 ·refine⟨its.toList,r,⟨o,I.kIn a o hk,hc,n,by simpa using hs⟩,?_⟩
  have e:=r.length
  simp only[Array.length_toList] at e
  omega
theorem Inv.list_inj (I:Inv X pins σ H s)(h:SqL X.K H a xs)(h':SqL X.K H a ys):xs=ys:=by
 obtain⟨its,r,⟨o,n,e,_,_,d⟩,_⟩:=I.list h
 obtain⟨its',r',⟨o',n',e',_,_,d'⟩,_⟩:=I.list h'
 rw[e] at e';cases e'
 rw[d] at d'
 injection d' with d1 _
 have:its=its':=by simpa using congrArg Array.toList d1
 subst this
 exact r.inj r'
theorem Inv.tuple_inj (I:Inv X pins σ H s)(h:SqT X.K H a xs)(h':SqT X.K H a ys):xs=ys:=by
 obtain⟨its,r,⟨o,e,_,n,d⟩,_⟩:=I.tuple h
 obtain⟨its',r',⟨o',e',_,n',d'⟩,_⟩:=I.tuple h'
 rw[e] at e';cases e'
 rw[d] at d'
 injection d' with d1 _
 have:its=its':=by simpa using congrArg Array.toList d1
 subst this
 exact r.inj r'
end
abbrev Cx.wish (X:Cx)(E:Value->Shared->Prop):Cx:={X with xe:=E}
abbrev Cx.nox (X:Cx):Cx:=X.wish fun _ _=>False
theorem Cx.Ok.wish {X:Cx}(ok:X.Ok)(E:Value->Shared->Prop):(X.wish E).Ok :=
 ⟨ok.mod,ok.kind,ok.glob,ok.blt,ok.above,ok.inj,ok.has,ok.cab,ok.hd,ok.frames,ok.stk,ok.exf,ok.bs,ok.bsz,ok.noex,ok.exfs,ok.funs,ok.frf⟩
theorem Cx.Ok.unwish {X:Cx}{E:Value->Shared->Prop}(ok:(X.wish E).Ok):X.Ok :=
 ⟨ok.mod,ok.kind,ok.glob,ok.blt,ok.above,ok.inj,ok.has,ok.cab,ok.hd,ok.frames,ok.stk,ok.exf,ok.bs,ok.bsz,ok.noex,ok.exfs,ok.funs,ok.frf⟩
section
variable {X:Cx} {pins:List (Addr×Obj)} {σ:St} {H:Hp} {s:Shared} {E:Value->Shared->Prop}
theorem Inv.wish (I:Inv X pins σ H s)(E:Value->Shared->Prop):Inv (X.wish E) pins σ H s:=⟨I.ok.wish E,I.os,I.bare,I.base,I.loc,I.cell,I.free,I.freeC,I.pin,I.hok,I.len⟩
theorem Inv.unwish (I:Inv (X.wish E) pins σ H s):Inv X pins σ H s:=⟨I.ok.unwish,I.os,I.bare,I.base,I.loc,I.cell,I.free,I.freeC,I.pin,I.hok,I.len⟩
theorem SP.unwish {D:Ends}{f:Flow}{s':Shared}(h:SP (X.wish E) pins D f s'):SP X pins D f s':=by
 cases f with
 | next=>obtain⟨σ',H',I,q⟩:=h;exact⟨σ',H',I.unwish,q⟩
 | brk=>obtain⟨σ',H',I,q⟩:=h;exact⟨σ',H',I.unwish,q⟩
 | cont=>obtain⟨σ',H',I,q⟩:=h;exact⟨σ',H',I.unwish,q⟩
 | ret u=>obtain⟨v,σ',H',I,r,q⟩:=h;exact⟨v,σ',H',I.unwish,r,q⟩
theorem PSs.nox {st:List Stmt}{t:TS}(h:PSs X.nox st t):PSs X st t:=fun pins s σ H D I hw =>
 wpAny_mono (h pins s σ H D (I.wish _) hw) (fun _ _ q=>q.unwish) fun _ _ z=>False.elim z
end
section
variable {X:Cx} {st:Stmt} {rest:List Stmt} {t u:TS} {e:Expr} {te:TE} {pos:Pos}
def Ck_:TS:=fun D σ H=>D.nx σ H
def tSeq (t u:TS):TS:=fun D σ H=>t {D with nx:=u D} σ H
theorem Bq:PSs X [] Ck_:=fun _ _ σ H _ I h=>wpAny_execs_nil ⟨σ,H,I,h⟩
theorem Ab (h1:PS X st t)(h2:PSs X rest u):PSs X (st::rest) (tSeq t u):=by
 intro pins s σ H D I h
 refine wpAny_execs_cons (thn (h1 pins s σ H {D with nx:=u D} I h) fun f s1 q=>?_)
 cases f with
 | next =>
  obtain⟨σ',H',I',q⟩:=q
  exact h2 pins s1 σ' H' D I' q
 | ret v=>exact q
 | brk=>exact q
 | cont=>exact q
theorem Af (h1:PS X st t):PSs X [st] t:=by
 intro pins s σ H D I h
 refine wpAny_execs_cons (thn (h1 pins s σ H D I h) fun f s1 q=>?_)
 cases f with
 | next=>exact wpAny_execs_nil q
 | ret v=>exact q
 | brk=>exact q
 | cont=>exact q
theorem Inv.quiet {pins:List (Addr×Obj)}{σ:St}{H:Hp}{s:Shared}(I:Inv X pins σ H s):interactive X.env=false:=by simp[interactive,I.ok.kind]
def Cl_ (te:TE):TS:=fun D σ H=>te σ H fun _ H1=>D.nx σ H1
theorem Bm (he:PE X e te)(hs:swapsWith e none pos.line X.env=pure false:=by rfl):PS X (.Expr e pos) (Cl_ te):=by
 intro pins s σ H D I h
 exact wpAny_Expr_any (thn (he pins s σ H _ I h) fun v s1 ⟨x,H1,I1,r1,q1⟩=>⟨σ,H1,I1,q1⟩) I.quiet hs
def tRet (te:TE):TS:=fun D σ H=>te σ H D.rt
theorem Au (he:PE X e te):PS X (.Return (some e) pos) (tRet te):=by
 intro pins s σ H D I h
 exact wpAny_Return_some (thn (he pins s σ H _ I h) fun v s1 ⟨x,H1,I1,r1,q1⟩=>⟨x,σ,H1,I1,r1,q1⟩)
def tIfS (c:TT)(t u:TS):TS:=fun D σ H=>c σ H fun b H1=>if b=true then t D σ H1 else u D σ H1
theorem DX {c:Expr}{a b:List Stmt}{tc:TT}(hc:PT X c tc)(ha:PSs X a t)(hb:PSs X b u):PS X (.If c a b pos) (tIfS tc t u):=by
 intro pins s σ H D I h
 refine wpAny_If (thn (hc pins s σ H _ I h) fun d s1 ⟨H1,I1,q1⟩=>?_)
 cases d with
 | true=>exact ha pins s1 σ H1 D I1 q1
 | false=>exact hb pins s1 σ H1 D I1 q1
end
abbrev TG:=V->St->Hp->(St->Hp->Prop)->Prop
abbrev TGs:=List V->St->Hp->(St->Hp->Prop)->Prop
def PG (X:Cx)(target:Expr)(t:TG):Prop :=
 ∀ (pins:List (Addr×Obj)) (s:Shared) (σ:St) (H:Hp) (v:V) (u:Value) (Q:St->Hp->Prop),Inv X pins σ H s->RelV v u->t v σ H Q ->
  wpAny (model X.prog X.w) X.A (assign target X.env u) (fun _ s'=>∃ σ' H',Inv X pins σ' H' s'/\Q σ' H') X.xe s
def PGs (X:Cx)(ts:List Expr)(t:TGs):Prop :=
 ∀ (pins:List (Addr×Obj)) (s:Shared) (σ:St) (H:Hp) (vs:List V) (us:List Value) (Q:St->Hp->Prop),Inv X pins σ H s->Vals vs us->t vs σ H Q ->
  wpAny (model X.prog X.w) X.A (assignInOrder ((assignEach ts X.env).map (·.2)) us) (fun _ s'=>∃ σ' H',Inv X pins σ' H' s'/\Q σ' H') X.xe s
abbrev TSet:=V->V->V->Hp->(Hp->Prop)->Prop
def PSet (X:Cx)(t:TSet):Prop :=
 ∀ (pins:List (Addr×Obj)) (s:Shared) (σ:St) (H:Hp) (o i v:V) (ov iv u:Value) (Q:Hp->Prop),Inv X pins σ H s->RelV o ov->RelV i iv->RelV v u->t o i v H Q ->
  wpAny (model X.prog X.w) X.A (setItem ov iv u) (fun _ s'=>∃ H',Inv X pins σ H' s'/\Q H') X.xe s
section
variable {X:Cx} {pos:Pos}
def T0 (i:Nat):TG:=fun v σ H Q=>Q (σ.set i (some v)) H
theorem AK {i:Nat}{x:Str}(hN:X.N.Nodup)(hi:X.N[i]?=some x)(hx:Loc X.env.scope x)(hf:X.fn x=true\/X.env.scope.names.lookup x=some .local:=by first | exact .inl rfl | exact .inr rfl | assumption):PG X (.Name x pos) (T0 i):=by
 intro pins s σ H v u Q I r h
 exact wpAny_assign_Name (We I hN hi hx r (fun s' I'=>⟨_,H,I',h⟩) hf)
def gNil:TGs:=fun vs σ H Q=>vs=[]/\Q σ H
def Cm_ (t:TG)(u:TGs):TGs:=fun vs σ H Q=>∃ v r,vs=v::r/\t v σ H fun σ' H'=>u r σ' H' Q
theorem U5:PGs X [] gNil:=by
 intro pins s σ H vs us Q I r h
 obtain⟨e,h⟩:=h
 subst e
 cases r
 exact assignInOrder_nil ⟨σ,H,I,h⟩
theorem JS {e:Expr}{es:List Expr}{t:TG}{u:TGs}(h1:PG X e t)(h2:PGs X es u)
  (hs:(assignEach (e::es) X.env).map (·.2)=assign e X.env::(assignEach es X.env).map (·.2):=by rfl):PGs X (e::es) (Cm_ t u):=by
 intro pins s σ H vs us Q I r h
 obtain⟨v,vr,e1,h⟩:=h
 subst e1
 cases r with
 | cons r rr =>
  rw[hs]
  refine assignInOrder_cons (thn (h1 pins s σ H _ _ _ I r h) fun _ s1 ⟨σ1,H1,I1,q1⟩=>?_)
  exact h2 pins s1 σ1 H1 _ _ Q I1 rr q1
def gTup (K:PySem.W.Frag)(n:Nat)(t:TGs):TG:=fun v σ H Q=>∃ a xs,v=.ref a/\SqT K H a xs/\xs.length=n/\t xs σ H Q
theorem X0 {es:List Expr}{k:Nat}{t:TGs}{n:Nat}(hc:X.calm=true)(h:PGs X es t)
  (hn:(assignEach es X.env).length=n:=by rfl) (hst:(assignEach es X.env).findIdx? (·.1)=none:=by rfl):PG X (.Tuple es k pos) (gTup X.K n t):=by
 intro pins s σ H v u Q I r hw
 obtain⟨a,xs,e1,hq,hl,hw⟩:=hw
 subst e1
 cases r
 obtain⟨its,rv,ht,hz⟩:=I.tuple hq
 refine assign_Tuple_tuple (I.ok.hd hc) ht (by simp[hn,<- hl,rv.length]) hst fun h' hx=>?_
 have I1:Inv X pins σ H {s with heap:=h' }:=I.kept (t':=s.toks) fun b o e=>hx b o (Nat.ne_of_lt (Heap.lt_size e)) e
 exact h pins _ σ H xs _ Q I1 (by simpa using rv) hw
def gSub (to ti:TE)(t:TSet):TG:=fun v σ H Q=>to σ H fun o H1=>ti σ H1 fun i H2=>t o i v H2 fun H3=>Q σ H3
theorem Aq_ {o i:Expr}{to ti:TE}{t:TSet}(ho:PE X o to)(hi:PE X i ti)(hs:PSet X t)
  (ha:∀ v,assign (.Subscript o i pos) X.env v=(do
   let ov <- holding [v] (eval o X.env)
   let iv <- holding [v,ov] (eval i X.env)
   standAt pos
   holding [v,ov,iv] (setItem ov iv v)
   release [v,ov,iv] []):=by intro _;rfl):PG X (.Subscript o i pos) (gSub to ti t):=by
 intro pins s σ H v u Q I r h
 rw[ha]
 refine wpAny_bind (wpAny_holding (thn (ho pins s σ H _ I h) fun ov s1 ⟨x,H1,I1,r1,q1⟩=>?_))
 refine wpAny_bind (wpAny_holding (thn (hi pins s1 σ H1 _ I1 q1) fun iv s2 ⟨y,H2,I2,r2,q2⟩=>?_))
 refine wpAny_bind (wpAny_standAt (wpAny_bind (wpAny_holding (thn (hs pins s2 σ H2 x y v ov iv u _ I2 r1 r2 r q2) fun _ s3 ⟨H3,I3,q3⟩=>?_))))
 exact wpAny_release ⟨σ,H3,I3,q3⟩
def tAsg (te:TE)(g:TG):TS:=fun D σ H=>te σ H fun x H1=>g x σ H1 D.nx
theorem Ar_ {tg e:Expr}{te:TE}{g:TG}(he:PE X e te)(hg:PG X tg g)(hs:swapsWithSole [tg] e pos.line X.env=pure false:=by rfl)(hw:swappedStores [tg] e X.env=pure none:=by rfl)
  (h1:(assignEach [tg] X.env).map (·.2)=[assign tg X.env]:=by rfl):PS X (.Assign [tg] e pos) (tAsg te g):=by
 intro pins s σ H D I h
 refine wpAny_Assign_stores (thn (he pins s σ H _ I h) fun v s1 ⟨x,H1,I1,r1,q1⟩=>?_) hs hw
 rw[h1]
 exact thn (hg pins s1 σ H1 x v _ I1 r1 q1) fun _ s2 q=>q
theorem As {i:Nat}{x:Str}{e:Expr}{te:TE}{pos':Pos}(hN:X.N.Nodup)(hi:X.N[i]?=some x)(hx:Loc X.env.scope x)(he:PE X e te)(hs:swapsWith e (some (.Name x pos')) pos.line X.env=pure false:=by rfl)(hf:X.fn x=true\/X.env.scope.names.lookup x=some .local:=by first | exact .inl rfl | exact .inr rfl | assumption) :
  PS X (.Assign [.Name x pos'] e pos) (tAsg te (T0 i)):=by
 intro pins s σ H D I h
 refine wpAny_Assign_Name (thn (he pins s σ H _ I h) fun v s1 ⟨y,H1,I1,r1,q1⟩=>?_) hs
 exact We I1 hN hi hx r1 (fun s2 I2=>⟨_,H1,I2,q1⟩) hf
end
section
variable {X:Cx} {pos:Pos}
def As_ (c:TT)(tb:TS):TS:=fun D σ H=>∃ W:Nat->St->Hp->Prop,(∃ m,W m σ H)/\∀ m σ H,W m σ H ->
 c σ H fun b H1=>if b=true then ∃ N:St->Hp->Prop,(∀ σ' H',N σ' H'->∃ m',m'<m/\W m' σ' H')/\tb {D with nx:=N,ct:=N,bk:=D.nx} σ H1 else D.nx σ H1
theorem RL {c:Expr}{body:List Stmt}{tc:TT}{tb:TS}(hp:PassesOwn (model X.prog X.w) X.A X.env X.xe)(hc:PT X c tc)(hb:PSs X body tb):PS X (.While c body [] pos) (As_ tc tb):=by
 intro pins s σ H D I h
 obtain⟨W,⟨m0,w0⟩,turn⟩:=h
 refine wpAny_While (codeAny_whileLoop (fun n s'=>∃ σ' H',Inv X pins σ' H' s'/\W n σ' H') ?_ m0 ⟨σ,H,I,w0⟩)
 rintro n s1 ⟨σ1,H1,I1,w1⟩
 refine wpAny_passesOwn hp (thn (hc pins s1 σ1 H1 _ I1 (turn n σ1 H1 w1)) fun b s2 ⟨H2,I2,q2⟩=>?_)
 cases b with
 | true =>
  obtain⟨N,hN,q2⟩:=q2
  rw[if_pos rfl]
  refine wpAny_passesOwn hp (thn (hb pins s2 σ1 H2 _ I2 q2) fun f s3 q3=>?_)
  cases f with
  | next =>
   obtain⟨σ3,H3,I3,n3⟩:=q3
   obtain⟨m',hm,w3⟩:=hN σ3 H3 n3
   exact⟨m',hm,σ3,H3,I3,w3⟩
  | cont =>
   obtain⟨σ3,H3,I3,n3⟩:=q3
   obtain⟨m',hm,w3⟩:=hN σ3 H3 n3
   exact⟨m',hm,σ3,H3,I3,w3⟩
  | brk=>exact q3
  | ret v=>exact q3
 | false =>
  rw[if_neg Bool.false_ne_true]
  exact wpAny_execs_nil ⟨σ1,H2,I2,q2⟩
end
structure It where
 go:Nat->Hp->Prop
 yld:Nat->Hp->V->Hp->Prop
 stop:Nat->Hp->Prop
def FpOk (X:Cx)(pins:List (Addr×Obj))(H:Hp)(b:Addr):Prop :=
 H b=none/\b≠X.env.locals/\b∉X.fs/\(b∈X.ex\/X.s₀.heap.objs.size<=b)/\(∀ x c,X.env.cells.lookup x=some c->c≠b)/\∀ p∈X.pn++pins,p.1≠b
theorem Inv.fpOk {X:Cx}{pins:List (Addr×Obj)}{σ:St}{H H':Hp}{s:Shared}{b:Addr}(I:Inv X pins σ H s)(hb:s.heap.objs.size<=b)(hn:H' b=none):FpOk X pins H' b:=by
 refine⟨hn,Nat.ne_of_gt (Nat.lt_of_lt_of_le I.lt hb),I.nofs hb,.inr (Nat.le_trans I.sz hb),fun x c e z=>?_,fun p hp z=>?_⟩
 ·obtain⟨v,q⟩:=I.cell x c e
  exact absurd (Nat.lt_of_lt_of_le q.lt (by rw[z];exact hb)) (Nat.lt_irrefl _)
 ·exact absurd (Nat.lt_of_lt_of_le (Heap.lt_size (I.pin p hp).1) (by rw[z];exact hb)) (Nat.lt_irrefl _)
structure Turn (P:Program)(w:World)(K:PySem.W.Frag)(tg:Expr)(J:It)(fp:List Addr)(it:Addr)(tn:Nat->Heap->Prop):Prop where
 mem:it∈fp
 obj:∀ i h,tn i h->∀ b∈fp,∃ o,h.get? b=some o/\∀ v,o.data ≠ .cell v
 keep:∀ i h h',tn i h->(∀ b∈fp,∀ o,h.get? b=some o->h'.get? b=some o)->tn i h'
 item:∀ (X:Cx),X.prog=P->X.w=w->X.K=K->X.calm=true->∀ (i:Nat) (pins:List (Addr×Obj)) (s:Shared) (σ:St) (H:Hp) (E:Value->Shared->Prop),Inv X pins σ H s->(∀ b∈fp,FpOk X pins H b)->tn i s.heap->J.go i H ->
  wpAny (model P w) X.A (pyNext (.ref it)) (fun r s1=>∃ u,r=some u /\
   wpAny (model P w) X.A (letOwnedTupleGo tg (.ref it) u) (fun _ s2=>∃ x H',Inv X pins σ H' s2/\RelV x u/\J.yld i H x H'/\tn (i+1) s2.heap/\∀ b∈fp,H' b=none) E s1) E s
 done:∀ (X:Cx),X.prog=P->X.w=w->X.K=K->X.calm=true->∀ (i:Nat) (pins:List (Addr×Obj)) (s:Shared) (σ:St) (H:Hp) (E:Value->Shared->Prop),Inv X pins σ H s->(∀ b∈fp,FpOk X pins H b)->tn i s.heap->J.stop i H ->
  wpAny (model P w) X.A (pyNext (.ref it)) (fun r s1=>r=none/\Inv X pins σ H s1) E s
 self:∀ (A:Around) (i:Nat) (s:Shared) (Q:Value->Shared->Prop) (E:Value->Shared->Prop),tn i s.heap->Q (.ref it) s->wpAny (model P w) A (pyIter (.ref it)) Q E s
abbrev TI:=St->Hp->(It->Hp->Prop)->Prop
def PIE (X:Cx)(pins:List (Addr×Obj))(σ:St)(tg:Expr)(R:It->Hp->Prop)(itv:Value)(s2:Shared):Prop :=
 ∃ (it:Addr) (fp:List Addr) (tn:Nat->Heap->Prop) (J:It) (H':Hp),itv=.ref it/\Inv X pins σ H' s2/\Turn X.prog X.w X.K tg J fp it tn/\tn 0 s2.heap/\(∀ b∈fp,FpOk X pins H' b)/\R J H'
def PI (X:Cx)(tg iter:Expr)(wi:TI):Prop :=
 ∀ (pins:List (Addr×Obj)) (s:Shared) (σ:St) (H:Hp) (R:It->Hp->Prop),Inv X pins σ H s->wi σ H R ->
  wpAny (model X.prog X.w) X.A (eval iter X.env) (fun v s1=>wpAny (model X.prog X.w) X.A (pyIter v) (PIE X pins σ tg R) X.xe s1) X.xe s
theorem Zt {M:Model}{A:Around}{E:Value->Shared->Prop}{s:Shared}{tg:Expr}{it:Addr}{u:Value}{o:Obj}{n:String}{vs:Array Value}{Q:Unit->Shared->Prop}(ho:s.heap.get? it=some o)(hc:o.cls=.type n)(hd:o.data=.fields vs)
    (hn:["enumerate", "zip", "dict_itemiterator", "dict_reverseitemiterator", "odict_iterator", "itertools.zip_longest", "itertools.pairwise"].contains n=false) (hQ:Q () s):wpAny M A (letOwnedTupleGo tg (.ref it) u) Q E s:=by
  unfold letOwnedTupleGo
  cases tg<;>first
    | exact wpAny_pure hQ
    | (cases u<;>first
        | exact wpAny_pure hQ
        | (refine wpAny_bind (wpAny_load ho ?_)
           rw[hc,hd]
           show wpAny M A (if (["enumerate", "zip", "dict_itemiterator", "dict_reverseitemiterator", "odict_iterator", "itertools.zip_longest", "itertools.pairwise"].contains n&&vs[0]? == some (rawInt _))=true then _ else _) Q E s
           rw[if_neg (by intro h;rw[hn,Bool.false_and] at h;cases h)]
           exact wpAny_pure hQ))
def Itl (K:PySem.W.Frag)(a:Addr):It :=
 ⟨fun i H=>∃ xs x,SqL K H a xs/\xs[i]?=some x,fun i H x H'=>H'=H/\∀ xs,SqL K H a xs->xs[i]?=some x,fun i H=>∃ xs,SqL K H a xs/\xs.length<=i⟩
def Itt (K:PySem.W.Frag)(a:Addr):It :=
 ⟨fun i H=>∃ xs x,SqT K H a xs/\xs[i]?=some x,fun i H x H'=>H'=H/\∀ xs,SqT K H a xs->xs[i]?=some x,fun i H=>∃ xs,SqT K H a xs/\xs.length<=i⟩
def Itr (lo:Int)(n:Nat):It:=⟨fun i _=>i<n,fun i H x H'=>H'=H/\x=.int (lo+i),fun i _=>n<=i⟩
theorem X1 {P:Program}{w:World}{K:PySem.W.Frag}{tg:Expr}(a it:Addr):Turn P w K tg (Itl K a) [it] it (fun i h=>h.IsListIter it a i) where
 mem:=by simp
 obj:=fun i h st b hb=>by
  have e:b=it:=by simpa using hb
  subst e
  obtain⟨o,e,c,d⟩:=st
  exact⟨o,e,fun v z=>by rw[d] at z;cases z⟩
 keep:=fun i h h' st k=>st.at fun o e=>k it (by simp) o e
 item:=by
  intro X hP hw hK hc i pins s σ H E I hf st hg
  subst hP hw hK
  obtain⟨xs,x,hq,hx⟩:=hg
  obtain⟨its,rv,p,hz⟩:=I.list hq
  obtain⟨u,hu,ru⟩:=rv.get hx
  obtain⟨f0,f1,f2,f3,f4,f5⟩:=hf it (by simp)
  refine wpAny_pyNext_list_item st p.isList (x:=u) (by simpa using hu) fun h' st' sb=>?_
  have I1:Inv X pins σ H {s with heap:=h' }:=I.turned (t':=s.toks) (fun b o hb e=>(sb.2 b hb).trans e) f0 f1 f3 f4 f5
  obtain⟨o,e,c,d⟩:=id st'
  exact⟨u,rfl,Zt (s:={s with heap:=h' }) e c d (by decide) ⟨x,H,I1,ru,⟨rfl,fun ys hy=>by rw[I.list_inj hy hq];exact hx⟩,st',fun b hb=>(hf b hb).1⟩⟩
 done:=by
  intro X hP hw hK hc i pins s σ H E I hf st hg
  subst hP hw hK
  obtain⟨xs,hq,hx⟩:=hg
  obtain⟨its,rv,p,hz⟩:=I.list hq
  obtain⟨f0,f1,f2,f3,f4,f5⟩:=hf it (by simp)
  have hl:=rv.length
  exact wpAny_pyNext_list_end (I.ok.hd hc) st p.isList (by simp;omega) fun h' eb=>⟨rfl,I.turned (t':=s.toks) (fun b o hb e=>eb b o hb e) f0 f1 f3 f4 f5⟩
 self:=fun _ _ _ _ _ st h=>wpAny_pyIter_listiter st h
theorem WY {P:Program}{w:World}{K:PySem.W.Frag}{tg:Expr}(a it:Addr):Turn P w K tg (Itt K a) [it] it (fun i h=>h.IsTupleIter it a i) where
 mem:=by simp
 obj:=fun i h st b hb=>by
  have e:b=it:=by simpa using hb
  subst e
  obtain⟨o,e,c,d⟩:=st
  exact⟨o,e,fun v z=>by rw[d] at z;cases z⟩
 keep:=fun i h h' st k=>st.at fun o e=>k it (by simp) o e
 item:=by
  intro X hP hw hK hc i pins s σ H E I hf st hg
  subst hP hw hK
  obtain⟨xs,x,hq,hx⟩:=hg
  obtain⟨its,rv,p,hz⟩:=I.tuple hq
  obtain⟨u,hu,ru⟩:=rv.get hx
  obtain⟨f0,f1,f2,f3,f4,f5⟩:=hf it (by simp)
  refine wpAny_pyNext_tuple_item st (show s.heap.IsTuple a its.toArray from p) (x:=u) (by simpa using hu) fun h' st' sb=>?_
  have I1:Inv X pins σ H {s with heap:=h' }:=I.turned (t':=s.toks) (fun b o hb e=>(sb.2 b hb).trans e) f0 f1 f3 f4 f5
  obtain⟨o,e,c,d⟩:=id st'
  exact⟨u,rfl,Zt (s:={s with heap:=h' }) e c d (by decide) ⟨x,H,I1,ru,⟨rfl,fun ys hy=>by rw[I.tuple_inj hy hq];exact hx⟩,st',fun b hb=>(hf b hb).1⟩⟩
 done:=by
  intro X hP hw hK hc i pins s σ H E I hf st hg
  subst hP hw hK
  obtain⟨xs,hq,hx⟩:=hg
  obtain⟨its,rv,p,hz⟩:=I.tuple hq
  obtain⟨f0,f1,f2,f3,f4,f5⟩:=hf it (by simp)
  have hl:=rv.length
  exact wpAny_pyNext_tuple_end (I.ok.hd hc) st (show s.heap.IsTuple a its.toArray from p) (by simp;omega) fun h' eb=>⟨rfl,I.turned (t':=s.toks) (fun b o hb e=>eb b o hb e) f0 f1 f3 f4 f5⟩
 self:=fun _ _ _ _ _ st h=>wpAny_pyIter_tupleiter st h
theorem WZ {P:Program}{w:World}{K:PySem.W.Frag}{tg:Expr}(it:Addr)(lo:Int)(n:Nat):Turn P w K tg (Itr lo n) [it] it (fun i h=>IsRangeIter h it (lo+(i:Nat)*1) ((n:Int)-(i:Nat)) 1) where
 mem:=by simp
 obj:=fun i h st b hb=>by
  have e:b=it:=by simpa using hb
  subst e
  exact⟨_,st,fun v z=>by
   have z':Data.fields _=Data.cell v:=z
   cases z'⟩
 keep:=fun i h h' st k=>k it (by simp) _ st
 item:=by
  intro X hP hw hK hc i pins s σ H E I hf st hg
  subst hP hw hK
  obtain⟨f0,f1,f2,f3,f4,f5⟩:=hf it (by simp)
  have W:=Walks.range (prog:=X.prog) (w:=X.w) (I.ok.hd hc) it lo 1 n
  refine W.item i s _ _ hg st fun v h' tk hv st' kk=>?_
  obtain⟨t,rfl⟩:=hv
  have I1:Inv X pins σ H {s with heap:=h',toks:=tk}:=I.turned (fun b o hb e=>kk b o (by simpa using hb) e) f0 f1 f3 f4 f5
  refine⟨_,rfl,Zt (s:={s with heap:=h',toks:=tk}) (n := "range_iterator") st' rfl rfl (by decide) ⟨.int (lo+i),H,I1,⟨t,?_⟩,⟨rfl,rfl⟩,st',fun b hb=>(hf b hb).1⟩⟩
  rw[Int.mul_one]
 done:=by
  intro X hP hw hK hc i pins s σ H E I hf st hg
  subst hP hw hK
  obtain⟨f0,f1,f2,f3,f4,f5⟩:=hf it (by simp)
  exact wpAny_pyNext_range_end (I.ok.hd hc) st (by have:n<=i:=hg;omega) fun h' eb=>⟨rfl,I.turned (t':=s.toks) (fun b o hb e=>eb b o hb e) f0 f1 f3 f4 f5⟩
 self:=fun _ _ _ _ _ st h=>wpAny_pyIter_rangeiter st h
end L2
namespace L2
open PySem PySem.Spec PyProof.Rows
section
variable {X:Cx} {tg:Expr}
def Cn_ (K:PySem.W.Frag)(tl:TE):TI:=fun σ H R=>tl σ H fun x H1=>∃ a,x=.ref a/\(∃ xs,SqL K H1 a xs)/\R (Itl K a) H1
def iTup (K:PySem.W.Frag)(tl:TE):TI:=fun σ H R=>tl σ H fun x H1=>∃ a,x=.ref a/\(∃ xs,SqT K H1 a xs)/\R (Itt K a) H1
theorem Ef {l:Expr}{tl:TE}(hl:PE X l tl):PI X tg l (Cn_ X.K tl):=by
 intro pins s σ H R I h
 refine thn (hl pins s σ H _ I h) fun v s1 ⟨x,H1,I1,r1,q1⟩=>?_
 obtain⟨a,e,⟨xs,hq⟩,q⟩:=q1
 subst e
 cases r1
 obtain⟨its,rv,p,hz⟩:=I1.list hq
 refine wpAny_pyIter_list p.isList ?_
 refine⟨s1.heap.objs.size,[s1.heap.objs.size],_,_,H1,rfl,I1.kept (t':=s1.toks) fun b o e=>Heap.get?_push_of_some _ e,X1 a _,⟨_,Heap.get?_push_size _ rfl,rfl,rfl⟩,fun b hb=>?_,q⟩
 have e:b=s1.heap.objs.size:=by simpa using hb
 subst e
 exact I1.fpOk (Nat.le_refl _) (I1.hok.fresh (Nat.le_refl _))
theorem N0 {l:Expr}{tl:TE}(hl:PE X l tl):PI X tg l (iTup X.K tl):=by
 intro pins s σ H R I h
 refine thn (hl pins s σ H _ I h) fun v s1 ⟨x,H1,I1,r1,q1⟩=>?_
 obtain⟨a,e,⟨xs,hq⟩,q⟩:=q1
 subst e
 cases r1
 obtain⟨its,rv,p,hz⟩:=I1.tuple hq
 refine wpAny_pyIter_tuple (show s1.heap.IsTuple a its.toArray from p) ?_
 refine⟨s1.heap.objs.size,[s1.heap.objs.size],_,_,H1,rfl,I1.kept (t':=s1.toks) fun b o e=>Heap.get?_push_of_some _ e,WY a _,⟨_,Heap.get?_push_size _ rfl,rfl,rfl⟩,fun b hb=>?_,q⟩
 have e:b=s1.heap.objs.size:=by simpa using hb
 subst e
 exact I1.fpOk (Nat.le_refl _) (I1.hok.fresh (Nat.le_refl _))
theorem Zu {pins:List (Addr×Obj)}{σ:St}{H:Hp}{s:Shared}{R:It->Hp->Prop}{E:Value->Shared->Prop}{lo hi:Int}{t u v:Tok}{tk:Nat}(I:Inv X pins σ H s)(h1 : -(2 ^ 62)<=lo)(h2:lo<2 ^ 62)(h3 : -(2 ^ 62)<=hi)(h4:hi<2 ^ 62)
  (q:R (Itr lo (hi-lo).toNat) H):wpAny (model X.prog X.w) X.A (pyIter (.ref s.heap.objs.size)) (PIE X pins σ tg R) E {s with heap:=s.heap.push {cls:=.type "range",data:=.fields #[.int lo t,.int hi u,.int 1 v]},toks:=tk}:=by
 refine wpAny_pyIter_range (IsRange.new ..) (small_one h1 h2 h3 h4) ?_
 have I1:Inv X pins σ H {s with heap:=s.heap.push {cls:=.type "range",data:=.fields #[.int lo t,.int hi u,.int 1 v]},toks:=tk}:=I.kept fun b o e=>Heap.get?_push_of_some _ e
 refine⟨(s.heap.push {cls:=.type "range",data:=.fields #[.int lo t,.int hi u,.int 1 v]}).objs.size,[(s.heap.push {cls:=.type "range",data:=.fields #[.int lo t,.int hi u,.int 1 v]}).objs.size],_,_,H,rfl,
  I1.kept (t':=tk) fun b o e=>Heap.get?_push_of_some _ e,WZ _ lo (hi-lo).toNat,?_,fun b hb=>?_,q⟩
 ·have e1:lo+((0:Nat):Int)*1=lo:=by simp
  have e2:(((hi-lo).toNat:Nat):Int)-((0:Nat):Int)=Builtin.Range.rangeSize lo hi 1:=by rw[rangeSize_one];split<;>omega
  show IsRangeIter _ _ (lo+((0:Nat):Int)*1) ((((hi-lo).toNat:Nat):Int)-((0:Nat):Int)) 1
  rw[e1,e2]
  exact Heap.get?_push_size _ rfl
 ·have e:b=(s.heap.push {cls:=.type "range",data:=.fields #[.int lo t,.int hi u,.int 1 v]}).objs.size:=by simpa using hb
  subst e
  exact I1.fpOk (Nat.le_refl _) (I1.hok.fresh (Nat.le_refl _))
def Co_ (ta:TA):TI:=fun σ H R=>ta σ H fun vs H1=>∃ j:Int,vs=[.int j] /\ -(2 ^ 62)<=j/\j<2 ^ 62/\R (Itr 0 j.toNat) H1
theorem DB {a:Expr}{ta:TA}{p pos:Pos}(hg:Gl X "range")(hm:X.mg "range" = none)(ha:PA X [a] ta)(hs:starEach [a] X.env=[(false,eval a X.env)]:=by rfl):PI X tg (.Call (.Name "range" p) [a] [] pos) (Co_ ta):=by
 intro pins s σ H R I h
 refine Call_ (TZ I hg hm boot_range (PyProof.Rows.callWith_type1 (thn (ha pos pins s σ H _ I h) fun us s1 ⟨vs,H1,I1,r1,q1⟩=>?_) hs rfl))
 obtain⟨j,e,q1,q2,q⟩:=q1
 subst e
 cases r1 with
 | cons r rr =>
  cases rr
  obtain⟨t,rfl⟩:=r
  exact call_range_1 (Zu I1 (by omega) (by omega) q1 q2 (by simpa using q))
def tFor (wi:TI)(g:TG)(tb:TS):TS:=fun D σ H=>wi σ H fun J H1=>∃ W:Nat->Nat->St->Hp->Prop,(∃ m,W 0 m σ H1)/\∀ i m σ H,W i m σ H ->
 (J.stop i H/\D.nx σ H)\/(J.go i H/\∃ N:St->Hp->Prop,(∀ σ' H',N σ' H'->∃ m',m'<m/\W (i+1) m' σ' H')/\∀ x H',J.yld i H x H'->g x σ H' fun σ2 H2=>tb {D with nx:=N,ct:=N,bk:=D.nx} σ2 H2)
def T1 (fp:List Addr)(h:Heap):List (Addr×Obj):=fp.filterMap fun b=>(h.get? b).map fun o=>(b,o)
theorem JT {fp:List Addr}{h:Heap}{b:Addr}{o:Obj}(hb:b∈fp)(e:h.get? b=some o):(b,o)∈T1 fp h:=List.mem_filterMap.mpr ⟨b,hb,by rw[e];rfl⟩
theorem X2 {fp:List Addr}{h:Heap}{p:Addr×Obj}(hp:p∈T1 fp h):p.1∈fp/\h.get? p.1=some p.2:=by
 obtain⟨b,hb,e⟩:=List.mem_filterMap.mp hp
 cases q:h.get? b with
 | none=>rw[q] at e;cases e
 | some o =>
  rw[q] at e
  have e':(b,o)=p:=Option.some.inj e
  subst e'
  exact⟨hb,q⟩
theorem Inv.pinned {pins:List (Addr×Obj)}{σ:St}{H:Hp}{s:Shared}{fp:List Addr}(I:Inv X pins σ H s)(hf:∀ b∈fp,FpOk X pins H b)(ho:∀ b∈fp,∃ o,s.heap.get? b=some o/\∀ v,o.data ≠ .cell v):Inv X (pins++T1 fp s.heap) σ H s :=
 I.pins_of fun p hp=>(List.mem_append.mp hp).elim (fun z=>I.pin p (List.mem_append_right _ z)) fun z=>by
  obtain⟨hb,e⟩:=X2 z
  obtain⟨f0,f1,f2,_⟩:=hf p.1 hb
  obtain⟨o,e',d⟩:=ho p.1 hb
  rw[e] at e';cases e'
  exact⟨e,f0,f1,f2,d⟩
theorem Inv.unpinned {pins pl:List (Addr×Obj)}{σ:St}{H:Hp}{s:Shared}(I:Inv X (pins++pl) σ H s):Inv X pins σ H s:=I.pins_of fun p hp=>I.pin p (List.mem_append_right _ (List.mem_append_left _ hp))
theorem Dv {iter:Expr}{body:List Stmt}{wi:TI}{g:TG}{tb:TS}{pos:Pos}(hp:PassesOwn (model X.prog X.w) X.A X.env X.xe)(hc:X.calm=true)(hi:PI X tg iter wi)(hg:PG X tg g)(hb:PSs X body tb)
  (hs:∀ x,foldedSetIterable iter X.env x=pure x:=by intro _;rfl):PS X (.For tg iter body [] pos) (tFor wi g tb):=by
 intro pins s σ H D I h
 refine wpAny_For (thn (hi pins s σ H _ I h) fun v s1 h1=>thn h1 fun itv s2 h2=>?_) hs
 obtain⟨it,fp,tn,J,H2,e,I2,T,st2,f2,W,⟨m0,w0⟩,turn⟩:=h2
 subst e
 -- what stays true of the iterator's objects through the loop
 have stat:∀ {H':Hp},(∀ b∈fp,H' b=none)->∀ b∈fp,FpOk X pins H' b:=fun hn b hb=>⟨hn b hb,(f2 b hb).2⟩
 refine codeAny_forLoop_any (fun n s'=>∃ i σ' H',Inv X pins σ' H' s'/\tn i s'.heap/\(∀ b∈fp,H' b=none)/\W i n σ' H') ?_ m0 ⟨0,σ,H2,I2,st2,fun b hb=>(f2 b hb).1,w0⟩
 rintro n s3 ⟨i,σ3,H3,I3,st3,fr3,w3⟩
 rcases turn i n σ3 H3 w3 with ⟨stop,qn⟩ | ⟨go,N,hN,step⟩
 ·refine wpAny_passesOwn hp (thn (T.done X rfl rfl rfl hc i pins s3 σ3 H3 X.xe I3 (stat fr3) st3 stop) fun r s4 ⟨hr,I4⟩=>?_)
  subst hr
  exact wpAny_execs_nil ⟨σ3,H3,I4,qn⟩
 ·refine wpAny_passesOwn hp (thn (T.item X rfl rfl rfl hc i pins s3 σ3 H3 X.xe I3 (stat fr3) st3 go) fun r s4 ⟨u,hr,h4⟩=>?_)
  subst hr
  refine wpAny_passesOwn hp (thn h4 fun _ s5 ⟨x,H5,I5,r5,y5,st5,fr5⟩=>?_)
  have I5':=I5.pinned (stat fr5) (T.obj _ _ st5)
  refine wpAny_passesOwn hp (thn (hg _ s5 σ3 H5 x u _ I5' r5 (step x H5 y5)) fun _ s6 ⟨σ6,H6,I6,q6⟩=>?_)
  refine wpAny_passesOwn hp (thn (hb _ s6 σ6 H6 _ I6 q6) fun f s7 q7=>?_)
  have again:∀ {σ7:St} {H7:Hp},Inv X (pins++T1 fp s5.heap) σ7 H7 s7->N σ7 H7->∃ m,m<n/\∃ i σ' H',Inv X pins σ' H' s7/\tn i s7.heap/\(∀ b∈fp,H' b=none)/\W i m σ' H':=fun {σ7 H7} I7 n7=>by
   obtain⟨m',hm,w7⟩:=hN σ7 H7 n7
   refine⟨m',hm,i+1,σ7,H7,I7.unpinned,T.keep _ _ _ st5 fun b hb o e=>(I7.pin (b,o) (List.mem_append_right _ (List.mem_append_right _ (JT hb e)))).1,fun b hb=>?_,w7⟩
   obtain⟨o,e,d⟩:=T.obj _ _ st5 b hb
   exact (I7.pin (b,o) (List.mem_append_right _ (List.mem_append_right _ (JT hb e)))).2.1
  cases f with
  | next=>obtain⟨σ7,H7,I7,n7⟩:=q7;exact again I7 n7
  | cont=>obtain⟨σ7,H7,I7,n7⟩:=q7;exact again I7 n7
  | brk=>obtain⟨σ7,H7,I7,q7⟩:=q7;exact⟨σ7,H7,I7.unpinned,q7⟩
  | ret v=>obtain⟨x7,σ7,H7,I7,r7,q7⟩:=q7;exact⟨x7,σ7,H7,I7.unpinned,r7,q7⟩
end
theorem Zv {K:PySem.W.Frag}{a:Addr}{xs:List V}{g:TG}{tb:TS}{D:Ends}{σ:St}{H:Hp}(Pv:Nat->St->Hp->Prop)(h0:Pv 0 σ H)(hl:∀ i σ H,i<=xs.length->Pv i σ H->SqL K H a xs)
  (hs:∀ i x σ H,xs[i]?=some x->Pv i σ H->g x σ H fun σ2 H2=>tb {D with nx:=Pv (i+1),ct:=Pv (i+1),bk:=D.nx} σ2 H2) (hd:∀ σ H,Pv xs.length σ H->D.nx σ H) :
  ∃ W:Nat->Nat->St->Hp->Prop,(∃ m,W 0 m σ H)/\∀ i m σ H,W i m σ H ->
   ((Itl K a).stop i H/\D.nx σ H)\/((Itl K a).go i H/\∃ N:St->Hp->Prop,(∀ σ' H',N σ' H'->∃ m',m'<m/\W (i+1) m' σ' H')/\∀ x H',(Itl K a).yld i H x H'->g x σ H' fun σ2 H2=>tb {D with nx:=N,ct:=N,bk:=D.nx} σ2 H2):=by
 refine⟨fun i m σ H=>m=xs.length-i/\i<=xs.length/\Pv i σ H,⟨xs.length,by simp,Nat.zero_le _,h0⟩,?_⟩
 rintro i m σ H ⟨rfl,hi,p⟩
 have q:=hl i σ H hi p
 by_cases hlt:i<xs.length
 ·refine .inr ⟨⟨xs,xs[i],q,by simp[hlt]⟩,Pv (i+1),fun σ' H' p'=>⟨xs.length-(i+1),by omega,rfl,hlt,p'⟩,fun x H' y=>?_⟩
  obtain⟨e,y⟩:=y
  subst e
  exact hs i x σ _ (y xs q) p
 ·have e:i=xs.length:=by omega
  subst e
  exact .inl ⟨⟨xs,q,Nat.le_refl _⟩,hd σ H p⟩
theorem Bp_ {K:PySem.W.Frag}{a:Addr}{xs:List V}{g:TG}{tb:TS}{D:Ends}{σ:St}{H:Hp}(Pv:Nat->St->Hp->Prop)(h0:Pv 0 σ H)(hl:∀ i σ H,i<=xs.length->Pv i σ H->SqT K H a xs)
  (hs:∀ i x σ H,xs[i]?=some x->Pv i σ H->g x σ H fun σ2 H2=>tb {D with nx:=Pv (i+1),ct:=Pv (i+1),bk:=D.nx} σ2 H2) (hd:∀ σ H,Pv xs.length σ H->D.nx σ H) :
  ∃ W:Nat->Nat->St->Hp->Prop,(∃ m,W 0 m σ H)/\∀ i m σ H,W i m σ H ->
   ((Itt K a).stop i H/\D.nx σ H)\/((Itt K a).go i H/\∃ N:St->Hp->Prop,(∀ σ' H',N σ' H'->∃ m',m'<m/\W (i+1) m' σ' H')/\∀ x H',(Itt K a).yld i H x H'->g x σ H' fun σ2 H2=>tb {D with nx:=N,ct:=N,bk:=D.nx} σ2 H2):=by
 refine⟨fun i m σ H=>m=xs.length-i/\i<=xs.length/\Pv i σ H,⟨xs.length,by simp,Nat.zero_le _,h0⟩,?_⟩
 rintro i m σ H ⟨rfl,hi,p⟩
 have q:=hl i σ H hi p
 by_cases hlt:i<xs.length
 ·refine .inr ⟨⟨xs,xs[i],q,by simp[hlt]⟩,Pv (i+1),fun σ' H' p'=>⟨xs.length-(i+1),by omega,rfl,hlt,p'⟩,fun x H' y=>?_⟩
  obtain⟨e,y⟩:=y
  subst e
  exact hs i x σ _ (y xs q) p
 ·have e:i=xs.length:=by omega
  subst e
  exact .inl ⟨⟨xs,q,Nat.le_refl _⟩,hd σ H p⟩
theorem X3 {lo:Int}{n:Nat}{g:TG}{tb:TS}{D:Ends}{σ:St}{H:Hp}(Pv:Nat->St->Hp->Prop)(h0:Pv 0 σ H)
  (hs:∀ i σ H,i<n->Pv i σ H->g (.int (lo+i)) σ H fun σ2 H2=>tb {D with nx:=Pv (i+1),ct:=Pv (i+1),bk:=D.nx} σ2 H2) (hd:∀ σ H,Pv n σ H->D.nx σ H) :
  ∃ W:Nat->Nat->St->Hp->Prop,(∃ m,W 0 m σ H)/\∀ i m σ H,W i m σ H ->
   ((Itr lo n).stop i H/\D.nx σ H)\/((Itr lo n).go i H/\∃ N:St->Hp->Prop,(∀ σ' H',N σ' H'->∃ m',m'<m/\W (i+1) m' σ' H')/\∀ x H',(Itr lo n).yld i H x H'->g x σ H' fun σ2 H2=>tb {D with nx:=N,ct:=N,bk:=D.nx} σ2 H2):=by
 refine⟨fun i m σ H=>m=n-i/\i<=n/\Pv i σ H,⟨n,by simp,Nat.zero_le _,h0⟩,?_⟩
 rintro i m σ H ⟨rfl,hi,p⟩
 by_cases hlt:i<n
 ·refine .inr ⟨hlt,Pv (i+1),fun σ' H' p'=>⟨n-(i+1),by omega,rfl,hlt,p'⟩,fun x H' y=>?_⟩
  obtain⟨e,y⟩:=y
  subst e y
  exact hs i σ _ hlt p
 ·have e:i=n:=by omega
  subst e
  exact .inl ⟨Nat.le_refl _,hd σ H p⟩
end L2
namespace L2
open PySem PySem.Spec PyProof.Rows
abbrev R2:=V->V->Hp->VK->Prop
def OpR (X:Cx)(f:Value->Value->Sem Value)(r:R2):Prop :=
 ∀ (pins:List (Addr×Obj)) (s:Shared) (σ:St) (H:Hp) (x y:V) (v u:Value) (Q:VK),Inv X pins σ H s->RelV x v->RelV y u->r x y H Q ->
  wpAny (model X.prog X.w) X.A (f v u) (EP X pins σ Q) X.xe s
def UnR (X:Cx)(f:Value->Sem Value)(r:V->Hp->VK->Prop):Prop :=
 ∀ (pins:List (Addr×Obj)) (s:Shared) (σ:St) (H:Hp) (x:V) (v:Value) (Q:VK),Inv X pins σ H s->RelV x v->r x H Q ->
  wpAny (model X.prog X.w) X.A (f v) (EP X pins σ Q) X.xe s
def IJ (X:Cx)(f:Value)(r:List V->Hp->VK->Prop):Prop :=
 ∀ (pins:List (Addr×Obj)) (s:Shared) (σ:St) (H:Hp) (xs:List V) (us:List Value) (Q:VK),Inv X pins σ H s->Vals xs us->r xs H Q ->
  wpAny (model X.prog X.w) X.A (call f us) (EP X pins σ Q) X.xe s
def tOp (r:R2)(ta tb:TE):TE:=fun σ H Q=>ta σ H fun x H1=>tb σ H1 fun y H2=>r x y H2 Q
def tUn (r:V->Hp->VK->Prop)(ta:TE):TE:=fun σ H Q=>ta σ H fun x H1=>r x H1 Q
def rI (C:Int->Int->Prop)(g:Int->Int->V):R2:=fun x y H Q=>∃ i j,x=.int i/\y=.int j/\C i j/\Q (g i j) H
def rI0 (g:Int->Int->V):R2:=fun x y H Q=>∃ i j,x=.int i/\y=.int j/\Q (g i j) H
def rU (g:Int->V):V->Hp->VK->Prop:=fun x H Q=>∃ i,x=.int i/\Q (g i) H
section
variable {X:Cx} {a b c:Expr} {ta tb tc:TE} {pos:Pos}
theorem binT (ha:PE X a ta)(hb:PE X b tb){pins:List (Addr×Obj)}{s:Shared}{σ:St}{H:Hp}{R:V->V->Hp->Prop}(I:Inv X pins σ H s)
  (h:ta σ H fun x H1=>tb σ H1 fun y H2=>R x y H2) {Q:Value->Shared->Prop} {f:Value->Value->Sem Value}
  (hf:∀ v u s2 x y H2,Inv X pins σ H2 s2->RelV x v->RelV y u->R x y H2->wpAny (model X.prog X.w) X.A (f v u) Q X.xe s2) :
  wpAny (model X.prog X.w) X.A (eval a X.env) (fun v s₁=>wpAny (model X.prog X.w) X.A (eval b X.env) (fun u s₂=>wpAny (model X.prog X.w) X.A (f v u) Q X.xe s₂) X.xe s₁) X.xe s:=by
 refine thn (ha pins s σ H _ I h) fun v s1 ⟨x,H1,I1,r1,q1⟩=>?_
 refine thn (hb pins s1 σ H1 _ I1 q1) fun u s2 ⟨y,H2,I2,r2,q2⟩=>?_
 exact hf v u s2 x y H2 I2 r1 r2 q2
theorem A9 {op:Operator}{r:R2}(ho:OpR X (binaryOp op) r)(ha:PE X a ta)(hb:PE X b tb):PE X (.BinOp a op b pos) (tOp r ta tb):=by
 intro pins s σ H Q I h
 exact wpAny_BinOp (binT ha hb I h fun v u s2 x y H2 I2 rx ry q=>ho pins s2 σ H2 x y v u Q I2 rx ry q)
theorem Cp_ {op:UnaryOp}{r:V->Hp->VK->Prop}(ho:UnR X (unaryOp op) r)(ha:PE X a ta):PE X (.UnaryOp op a pos) (tUn r ta):=by
 intro pins s σ H Q I h
 exact UnaryOp_ (thn (ha pins s σ H _ I h) fun v s1 ⟨x,H1,I1,r1,q1⟩=>ho pins s1 σ H1 x v Q I1 r1 q1)
theorem opI {f:Value->Value->Sem Value}{C:Int->Int->Prop}{g:Int->Int->Int}
  (rule:∀ (i j:Int) (t u:Tok) (s:Shared) (Q:Value->Shared->Prop) (E:Value->Shared->Prop),C i j->Q (.int (g i j) s.toks) {s with toks:=s.toks+1}->wpAny (model X.prog X.w) X.A (f (.int i t) (.int j u)) Q E s) :
  OpR X f (rI C fun i j=>.int (g i j)):=by
 intro pins s σ H x y v u Q I rx ry h
 obtain⟨i,j,rfl,rfl,hc,q⟩:=h
 obtain⟨t,rfl⟩:=rx
 obtain⟨t',rfl⟩:=ry
 exact rule i j t t' s _ _ hc ⟨.int (g i j),H,I.tok _,⟨_,rfl⟩,q⟩
theorem opI0 {f:Value->Value->Sem Value}{g:Int->Int->Int}
  (rule:∀ (i j:Int) (t u:Tok) (s:Shared) (Q:Value->Shared->Prop) (E:Value->Shared->Prop),Q (.int (g i j) s.toks) {s with toks:=s.toks+1}->wpAny (model X.prog X.w) X.A (f (.int i t) (.int j u)) Q E s) :
  OpR X f (rI0 fun i j=>.int (g i j)):=by
 intro pins s σ H x y v u Q I rx ry h
 obtain⟨i,j,rfl,rfl,q⟩:=h
 obtain⟨t,rfl⟩:=rx
 obtain⟨t',rfl⟩:=ry
 exact rule i j t t' s _ _ ⟨.int (g i j),H,I.tok _,⟨_,rfl⟩,q⟩
theorem opB0 {f:Value->Value->Sem Value}{g:Int->Int->Bool}
  (rule:∀ (i j:Int) (t u:Tok) (s:Shared) (Q:Value->Shared->Prop) (E:Value->Shared->Prop),Q (.bool (g i j)) s->wpAny (model X.prog X.w) X.A (f (.int i t) (.int j u)) Q E s) :
  OpR X f (rI0 fun i j=>.bl (g i j)):=by
 intro pins s σ H x y v u Q I rx ry h
 obtain⟨i,j,rfl,rfl,q⟩:=h
 obtain⟨t,rfl⟩:=rx
 obtain⟨t',rfl⟩:=ry
 exact rule i j t t' s _ _ ⟨.bl (g i j),H,I,rfl,q⟩
def CDiv (i j:Int):Prop:=0<j/\j<1073741824
def CPow (i j:Int):Prop:=0<=j/\j<=1000000/\i.natAbs<2 ^ 64
def CMul (i j:Int):Prop:=(-(2 ^ 64)<i/\i<2 ^ 64)\/(-(2 ^ 64)<j/\j<2 ^ 64)
theorem CMul.ok {i j:Int}(h:CMul i j):IntMulOk i j:=by
 rcases h with ⟨h1,h2⟩ | ⟨h1,h2⟩
 ·exact .of_left (intBits_le_64 h1 h2)
 ·exact .of_right (intBits_le_64 h1 h2)
theorem D4:OpR X (binaryOp .Add) (rI0 fun i j=>.int (i+j)):=opI0 fun _ _ _ _ _ _ _ q=>add_int q
theorem X4:OpR X (binaryOp .Sub) (rI0 fun i j=>.int (i-j)):=opI0 fun _ _ _ _ _ _ _ q=>sub_int q
theorem LM:OpR X (binaryOp .Mult) (rI CMul fun i j=>.int (i*j)):=opI fun _ _ _ _ _ _ _ hc q=>mul_int q hc.ok
theorem Kt:OpR X (binaryOp .FloorDiv) (rI CDiv fun i j=>.int (i / j)):=opI fun i j _ _ _ _ _ hc q=>by
 have h1:(0:Int)<j:=hc.1
 have h2:j<1073741824:=hc.2
 exact floordiv_int (by omega) (by rw[Int.fdiv_eq_ediv_of_nonneg i (by omega)];exact q) (.inl (PyProof.noPylong_small (by omega)))
theorem EH:OpR X (binaryOp .Mod) (rI (fun _ j=>0<j) fun i j=>.int (i%j)):=opI fun i j _ _ _ _ _ hc q=>by
 have h1:(0:Int)<j:=hc
 exact mod_int' (by omega) (by rw[Int.fmod_eq_emod_of_nonneg i (by omega)];exact q)
theorem At_:OpR X (binaryOp .Pow) (rI CPow fun i j=>.int (i ^ j.toNat)):=opI fun _ _ _ _ _ _ _ hc q=>pow_int_small hc.1 hc.2.1 hc.2.2 q
theorem unI {f:Value->Sem Value}{g:Int->Int}
  (rule:∀ (i:Int) (t:Tok) (s:Shared) (Q:Value->Shared->Prop) (E:Value->Shared->Prop),Q (.int (g i) s.toks) {s with toks:=s.toks+1}->wpAny (model X.prog X.w) X.A (f (.int i t)) Q E s) :
  UnR X f (rU fun i=>.int (g i)):=by
 intro pins s σ H x v Q I rx h
 obtain⟨i,rfl,q⟩:=h
 obtain⟨t,rfl⟩:=rx
 exact rule i t s _ _ ⟨.int (g i),H,I.tok _,⟨_,rfl⟩,q⟩
theorem Au_:UnR X (unaryOp .USub) (rU fun i=>.int (-i)):=unI fun _ _ _ _ _ q=>neg_int q
end
def scal:V->V->Bool
 | .non,.non=>true | .non,.int _=>true | .int _,.non=>true | .non,.bl _=>true | .bl _,.non=>true | .non,.str _=>true | .str _,.non=>true
 | .int _,.int _=>true | .bl _,.bl _=>true | .str _,.str _=>true | .byt _,.byt _=>true
 | .int _,.str _=>true | .str _,.int _=>true | .bl _,.str _=>true | .str _,.bl _=>true
 | _,_=>false
def rEq:R2:=fun x y H Q=>scal x y=true/\Q (.bl (decide (x=y))) H
def rNe:R2:=fun x y H Q=>scal x y=true/\Q (.bl (!decide (x=y))) H
theorem X5 {i j:Int}:decide (V.int i=V.int j)=(i == j):=by
 rw[Bool.eq_iff_iff]
 simp
theorem Av_ {i j:Bool}:decide (V.bl i=V.bl j)=(i == j):=by
 rw[Bool.eq_iff_iff]
 simp
theorem X6 {i j:Str}:decide (V.str i=V.str j)=(i == j):=by
 rw[Bool.eq_iff_iff]
 simp
theorem X7 {i j:Array UInt8}:decide (V.byt i=V.byt j)=(i.toList == j.toList):=by
 rw[Bool.eq_iff_iff]
 cases i
 cases j
 simp
section
variable {X:Cx} {a b c:Expr} {ta tb tc:TE} {pos:Pos}
theorem B2 {pins:List (Addr×Obj)}{σ:St}{H:Hp}{s:Shared}{Q:VK}{k k':Bool}(I:Inv X pins σ H s)(q:Q (.bl k) H)(e:k=k'):EP X pins σ Q (.bool k') s:=by
 subst e
 exact⟨.bl k,H,I,rfl,q⟩
theorem Qk:OpR X (compareOp .Eq) rEq:=by
 intro pins s σ H x y v u Q I rx ry h
 obtain⟨hs,q⟩:=h
 cases x with
 | non =>
  cases rx
  cases y with
  | non=>cases ry;exact PySem.EqNone.eq_none_none (B2 I q (by simp))
  | bl j=>cases ry;exact PySem.EqNone.eq_none_bool (B2 I q (by simp))
  | int j=>obtain⟨t',rfl⟩:=ry;exact PySem.EqNone.eq_none_int (B2 I q (by simp))
  | str j=>obtain⟨t',rfl⟩:=ry;exact PySem.EqNone.eq_none_str (B2 I q (by simp))
  | _=>exact absurd (show false=true from hs) Bool.false_ne_true
 | bl i =>
  cases rx
  cases y with
  | non=>cases ry;exact PySem.EqNone.eq_bool_none (B2 I q (by simp))
  | bl j=>cases ry;exact eq_bool (B2 I q Av_)
  | str j=>obtain⟨t',rfl⟩:=ry;exact PySem.EqMixed.eq_bool_str (B2 I q (by simp))
  | _=>exact absurd (show false=true from hs) Bool.false_ne_true
 | int i =>
  obtain⟨t,rfl⟩:=rx
  cases y with
  | non=>cases ry;exact PySem.EqNone.eq_int_none (B2 I q (by simp))
  | int j=>obtain⟨t',rfl⟩:=ry;exact eq_int (B2 I q X5)
  | str j=>obtain⟨t',rfl⟩:=ry;exact PySem.EqMixed.eq_int_str (B2 I q (by simp))
  | _=>exact absurd (show false=true from hs) Bool.false_ne_true
 | str i =>
  obtain⟨t,rfl⟩:=rx
  cases y with
  | non=>cases ry;exact PySem.EqNone.eq_str_none (B2 I q (by simp))
  | bl j=>cases ry;exact PySem.EqMixed.eq_str_bool (B2 I q (by simp))
  | int j=>obtain⟨t',rfl⟩:=ry;exact PySem.EqMixed.eq_str_int (B2 I q (by simp))
  | str j=>obtain⟨t',rfl⟩:=ry;exact eq_str (B2 I q X6)
  | _=>exact absurd (show false=true from hs) Bool.false_ne_true
 | byt i =>
  obtain⟨t,rfl⟩:=rx
  cases y with
  | byt j=>obtain⟨t',rfl⟩:=ry;exact PySem.W.eq_bytes (B2 I q X7)
  | _=>exact absurd (show false=true from hs) Bool.false_ne_true
 | _=>cases y<;>exact absurd (show false=true from hs) Bool.false_ne_true
theorem Ql:OpR X (compareOp .NotEq) rNe:=by
 intro pins s σ H x y v u Q I rx ry h
 obtain⟨hs,q⟩:=h
 cases x with
 | non =>
  cases rx
  cases y with
  | non=>cases ry;exact PySem.EqNone.ne_none_none (B2 I q (by simp))
  | bl j=>cases ry;exact PySem.EqNone.ne_none_bool (B2 I q (by simp))
  | int j=>obtain⟨t',rfl⟩:=ry;exact PySem.EqNone.ne_none_int (B2 I q (by simp))
  | str j=>obtain⟨t',rfl⟩:=ry;exact PySem.EqNone.ne_none_str (B2 I q (by simp))
  | _=>exact absurd (show false=true from hs) Bool.false_ne_true
 | bl i =>
  cases rx
  cases y with
  | non=>cases ry;exact PySem.EqNone.ne_bool_none (B2 I q (by simp))
  | bl j=>cases ry;exact ne_bool (B2 I q (congrArg not Av_))
  | str j=>obtain⟨t',rfl⟩:=ry;exact PySem.EqMixed.ne_bool_str (B2 I q (by simp))
  | _=>exact absurd (show false=true from hs) Bool.false_ne_true
 | int i =>
  obtain⟨t,rfl⟩:=rx
  cases y with
  | non=>cases ry;exact PySem.EqNone.ne_int_none (B2 I q (by simp))
  | int j=>obtain⟨t',rfl⟩:=ry;exact ne_int (B2 I q (congrArg not X5))
  | str j=>obtain⟨t',rfl⟩:=ry;exact PySem.EqMixed.ne_int_str (B2 I q (by simp))
  | _=>exact absurd (show false=true from hs) Bool.false_ne_true
 | str i =>
  obtain⟨t,rfl⟩:=rx
  cases y with
  | non=>cases ry;exact PySem.EqNone.ne_str_none (B2 I q (by simp))
  | bl j=>cases ry;exact PySem.EqMixed.ne_str_bool (B2 I q (by simp))
  | int j=>obtain⟨t',rfl⟩:=ry;exact PySem.EqMixed.ne_str_int (B2 I q (by simp))
  | str j=>obtain⟨t',rfl⟩:=ry;exact ne_str (B2 I q (congrArg not X6))
  | _=>exact absurd (show false=true from hs) Bool.false_ne_true
 | byt i =>
  obtain⟨t,rfl⟩:=rx
  cases y with
  | byt j=>obtain⟨t',rfl⟩:=ry;exact PySem.W.ne_bytes (B2 I q (congrArg not X7))
  | _=>exact absurd (show false=true from hs) Bool.false_ne_true
 | _=>cases y<;>exact absurd (show false=true from hs) Bool.false_ne_true
theorem X8:OpR X (compareOp .Lt) (rI0 fun i j=>.bl (decide (i<j))):=opB0 fun _ _ _ _ _ _ _ q=>lt_int q
theorem U6:OpR X (compareOp .LtE) (rI0 fun i j=>.bl (decide (i<=j))):=opB0 fun _ _ _ _ _ _ _ q=>le_int q
theorem Zw:OpR X (compareOp .Gt) (rI0 fun i j=>.bl (decide (j<i))):=opB0 fun _ _ _ _ _ _ _ q=>gt_int q
theorem Du_:OpR X (compareOp .GtE) (rI0 fun i j=>.bl (decide (j<=i))):=opB0 fun _ _ _ _ _ _ _ q=>ge_int q
theorem N1:OpR X (compareOp .Is) (fun x y H Q=>y=.non/\Q (.bl (decide (x=.non))) H):=by
 intro pins s σ H x y v u Q I rx ry h
 obtain⟨rfl,q⟩:=h
 cases ry
 refine is_none_gen (B2 I q ?_)
 cases x<;>first
  | (cases rx;rfl)
  | (obtain⟨t,rfl⟩:=rx;rfl)
theorem Bq_:OpR X (compareOp .IsNot) (fun x y H Q=>y=.non/\Q (.bl (!decide (x=.non))) H):=by
 intro pins s σ H x y v u Q I rx ry h
 obtain⟨rfl,q⟩:=h
 cases ry
 refine isnot_none_gen (B2 I q ?_)
 cases x<;>first
  | (cases rx;rfl)
  | (obtain⟨t,rfl⟩:=rx;rfl)
theorem Bl (b:Expr){op:CmpOp}(h:op ≠ .In:=by decide)(h2:op ≠ .NotIn:=by decide):behindInMarks op b=false:=by
 have e1:(op == CmpOp.In)=false:=by cases op<;>first | rfl | exact absurd rfl h
 have e2:(op == CmpOp.NotIn)=false:=by cases op<;>first | rfl | exact absurd rfl h2
 cases b<;>simp[behindInMarks,e1,e2]
theorem Hf {op:CmpOp}{r:R2}(ho:OpR X (compareOp op) r)(ha:PE X a ta)(hb:PE X b tb)(hm:behindInMarks op b=false):PE X (.Compare a [op] [b] pos) (tOp r ta tb):=by
 intro pins s σ H Q I h
 exact wpAny_Compare1 (binT ha hb I h fun v u s2 x y H2 I2 rx ry q=>ho pins s2 σ H2 x y v u Q I2 rx ry q) hm
def Cq_ (t:TE):TT:=fun σ H Q=>t σ H fun x H'=>∃ k,x=.bl k/\Q k H'
theorem A0 {op:CmpOp}{r:R2}(ho:OpR X (compareOp op) r)(ha:PE X a ta)(hb:PE X b tb)(hm:behindInMarks op b=false):PT X (.Compare a [op] [b] pos) (Cq_ (tOp r ta tb)):=by
 intro pins s σ H Q I h
 refine wpAny_isTrue_Compare1 (thn (ha pins s σ H _ I h) fun v s1 ⟨x,H1,I1,r1,q1⟩=>thn (hb pins s1 σ H1 _ I1 q1) fun u s2 ⟨y,H2,I2,r2,q2⟩ =>
  thn (ho pins s2 σ H2 x y v u _ I2 r1 r2 q2) fun c s3 ⟨z,H3,I3,r3,k,e,q3⟩=>?_) hm
 subst e
 cases r3
 exact wpAny_truthy_bool ⟨H3,I3,q3⟩
def Aw_ (r r':R2)(ta tb tc:TE):TE:=fun σ H Q=>ta σ H fun x H1=>tb σ H1 fun y H2=>r x y H2 fun z H3=>∃ k,z=.bl k /\
 (if k=true then tc σ H3 fun w' H4=>r' y w' H4 Q else Q (.bl false) H3)
theorem Wg {op op':CmpOp}{r r':R2}(ho:OpR X (compareOp op) r)(ho':OpR X (compareOp op') r')(ha:PE X a ta)(hb:PE X b tb)(hc:PE X c tc)
  (hm:lastMarks [op,op'] [b,c]=false:=by with_unfolding_all rfl):PE X (.Compare a [op,op'] [b,c] pos) (Aw_ r r' ta tb tc):=by
 intro pins s σ H Q I h
 refine Compare_chain (thn (ha pins s σ H _ I h) fun v s1 ⟨x,H1,I1,r1,q1⟩=>chain_link (thn (hb pins s1 σ H1 _ I1 q1) fun u s2 ⟨y,H2,I2,r2,q2⟩ =>
  thn (ho pins s2 σ H2 x y v u _ I2 r1 r2 q2) fun d s3 ⟨z,H3,I3,r3,k,e,q3⟩=>?_)) hm
 subst e
 cases r3
 refine wpAny_truthy_bool ?_
 cases k with
 | false=>exact ite_ff ⟨.bl false,H3,I3,rfl,q3⟩
 | true=>exact ite_tt (chain_last (thn (hc pins s3 σ H3 _ I3 q3) fun w' s4 ⟨z',H4,I4,r4,q4⟩=>ho' pins s4 σ H4 y z' u w' Q I4 r2 r4 q4))
theorem Wh:(sizeLine:Nat)<2 ^ 63:=by rw[sizeLine_eq];decide
theorem vals1 {x:V}{us:List Value}(r:Vals [x] us):∃ u,us=[u]/\RelV x u:=by
 cases r with
 | cons r1 r2=>cases r2;exact⟨_,rfl,r1⟩
theorem vals2 {x y:V}{us:List Value}(r:Vals [x,y] us):∃ u w',us=[u,w']/\RelV x u/\RelV y w':=by
 cases r with
 | cons r1 r2 =>
  cases r2 with
  | cons r3 r4=>cases r4;exact⟨_,_,rfl,r1,r3⟩
theorem T2 (hc:X.calm=true):IJ X (.builtin "min") (fun xs H Q=>∃ i j,xs=[.int i,.int j]/\Q (.int (if j<i then j else i)) H):=by
 intro pins s σ H xs us Q I r h
 obtain⟨i,j,rfl,q⟩:=h
 obtain⟨u,w',rfl,⟨t,rfl⟩,⟨t',rfl⟩⟩:=vals2 r
 refine min_two_ints (I.ok.hd hc) fun h' tk k=>⟨_,H,I.kept k,?_,q⟩
 by_cases hj:j<i
 ·rw[if_pos hj,if_pos hj];exact⟨_,rfl⟩
 ·rw[if_neg hj,if_neg hj];exact⟨_,rfl⟩
theorem X9:IJ X (.type "int") (fun xs H Q=>(∃ i,xs=[.int i]/\Q (.int i) H) \/ ∃ k,xs=[.bl k]/\Q (.int (if k then 1 else 0)) H):=by
 intro pins s σ H xs us Q I r h
 rcases h with ⟨i,rfl,q⟩ | ⟨k,rfl,q⟩
 ·obtain⟨u,rfl,t,rfl⟩:=vals1 r
  exact call_int_int ⟨.int i,H,I,⟨_,rfl⟩,q⟩
 ·obtain⟨u,rfl,r1⟩:=vals1 r
  cases r1
  exact call_int_bool ⟨.int (if k then 1 else 0),H,I.tok _,⟨_,rfl⟩,q⟩
end
end L2
namespace L2
open PySem PySem.Spec PyProof.Rows
structure ObjM (h:Heap)(x dx C:Addr)(mA:Str->Option Value):Prop where
 obj:h.get? x=some (PySem.W.instObj C dx)
 ns:h.Ns1 dx mA
 ne:dx≠x
theorem Ya {h:Heap}{dx:Addr}{mA:Str->Option Value}(n:h.Ns1 dx mA):∃ od,h.get? dx=some od/\∀ name,PySem.W.lookIn name od=some (mA name):=by
 obtain⟨o,es,ep,ho,hd,hk,_,hm⟩:=n
 refine⟨o,ho,fun name=>?_⟩
 have e:=hm name
 unfold nsFind findBy at e
 rw[<- Array.find?_toList] at e
 unfold PySem.W.lookIn
 rw[hd]
 dsimp only
 split
 ·rename_i y q
  rw[q] at e
  exact congrArg some e
 ·rename_i q
  rw[q] at e
  have a:es.toList.any (·.refKey)=false:=by
   rw[List.any_eq_false]
   intro y hy
   obtain⟨z,t,hkey⟩:=hk y (Array.mem_toList_iff.mp hy)
   simp[DictEntry.refKey,hkey]
  have a':¬ es.toList.any (·.refKey)=true:=by rw[a];exact Bool.false_ne_true
  rw[if_neg a']
  exact congrArg some e
theorem ObjM.look {h:Heap}{x dx C:Addr}{mA:Str->Option Value}(I:ObjM h x dx C mA):∃ od,PySem.W.InstAt h x (PySem.W.instObj C dx) C (some od)/\∀ name,PySem.W.lookIn name od=some (mA name) :=
 let ⟨od,ho,hl⟩:=Ya I.ns
 ⟨od,⟨I.obj,rfl,rfl,ho⟩,hl⟩
section
variable {prog:Program} {w:World} {A:Around} {E:Value->Shared->Prop} {s:Shared} {K:PySem.W.Frag} {x dx C f:Addr} {mA:Str->Option Value} {name:Str} {v:Value}
theorem Br_ {expr:Bool}{Q:Value->Shared->Prop}(X:K.In s.heap)(I:ObjM s.heap x dx C mA)(hg:PySem.W.plainGet K C name=true)(hh:PySem.W.hasDictIn K C=true)
  (ha:PySem.W.findIn K (.ref C) name=some none) (hv:mA name=some v) (hv':PySem.W.handedIn v=true) (h:Q v {s with toks:=s.toks+1}) :
  wpAny (model prog w) A (getAttr (.ref x) name expr) Q E s:=by
 obtain⟨od,J,hl⟩:=I.look
 exact PySem.W.get_value X J (PySem.W.plainGet_of hg).1 (PySem.W.findObj_own hh ha rfl (by rw[hl,hv])) hv' h
theorem Zx {pl:Sem Bool}{Q:Value×List Value->Shared->Prop}(X:K.In s.heap)(I:ObjM s.heap x dx C mA)(hg:PySem.W.plainGet K C name=true)
  (hf:PySem.W.findIn K (.ref C) name=some (some (.ref f))) (ht:PySem.W.isFn K (.ref f)=true) (hv:mA name=none) (h:Q (.ref f,[.ref x]) s) :
  wpAny (model prog w) A (getMethod (.ref x) name pl) Q E s:=by
 obtain⟨od,J,hl⟩:=I.look
 exact PySem.W.method_fn X J (PySem.W.plainGet_of hg).1 (PySem.W.plainGet_of hg).2 hf (beq_iff_eq.mp ht) (by show (PySem.W.lookIn name od).map (·.isSome)=some false;rw[hl,hv];rfl) h
theorem Bs_ {ns:List Str}{Q:Unit->Shared->Prop}(X:K.In s.heap)(I:ObjM s.heap x dx C mA)
  (hs:PySem.W.findIn K (.ref C) "__setattr__" = some (some (.builtin "object.__setattr__"))) (hp:PySem.W.plainOver K C=true) (ht:PySem.W.takerIn K C name=some none) (hh:PySem.W.hasDictIn K C=true)
  (hw:PySem.Within mA ns) (hsz:ns.length<=sizeLine)
  (h:∀ h',ObjM h' x dx C (fun y=>if y=name then some v else mA y)->Heap.SameBut dx s.heap h'->Q () {s with heap:=h',toks:=s.toks+2}) :
  wpAny (model prog w) A (setAttr (.ref x) name v) Q E s:=by
 obtain⟨od,J,hl⟩:=I.look
 refine PySem.W.set_plain X J hs (PySem.W.osa_open (s:={s with toks:=s.toks+1}) (r:=none) X J hp ht fun b=>?_)
 obtain⟨cd,hc,hd'⟩:=PySem.W.any_some hh
 have hx:s.heap.get? x=some ⟨.ref C,some dx,.plain,#[]⟩:=I.obj
 refine wpAny_bind (wpAny_pure (wpAny_bind (wpAny_bind (wpAny_loadPart hx (wpAny_bind (PySem.W.Looks.here (s:={s with toks:=s.toks+1}) (PySem.W.looks_clsIn X hc) ?_))))))
 rw[hd']
 refine wpAny_pure (a:=some dx) (wpAny_bind (wpAny_pure (wpAny_bind ?_)))
 refine wpAny_nsSet1 (s:={s with toks:=s.toks+1}) I.ns fun h' hn2 hs2=>?_
 obtain⟨oD,esD,epD,hoD,hdD,hcD⟩:=hn2.count (PySem.Within.cons name v hw)
 refine wpAny_bind (wpAny_lookBehind hoD (by rw[hdD];exact pastItsLine_dict (Nat.le_trans hcD (by rw[List.length_cons];omega))) ?_)
 exact wpAny_pure (h _ ⟨(hs2.2 _ (Ne.symm I.ne)).trans I.obj,hn2,I.ne⟩ hs2)
theorem Zy {R:Result->Shared->Prop}{vs:List Value}{kw:List (Str×Value)}(X:K.In s.heap)(hm:PySem.W.makesIn K C=true)
  (hi:PySem.W.findIn K (.ref C) "__init__" = some (some (.ref f))) (hf:PySem.W.typeIn K (.ref f)=some (.type "function"))
  (h:codeAny (model prog w) (A.under (.builtin "type.__call__" ⟨.ref C::vs,kw⟩)) (.call (.ref f) ⟨.ref (s.heap.objs.size+1)::vs,kw⟩) (PySem.W.InitBack (s.heap.objs.size+1) R)
   {s with heap:=(s.heap.push PySem.W.emptyDict).push (PySem.W.instObj C s.heap.objs.size)}) :
  codeAny (model prog w) A (.call (.ref C) ⟨vs,kw⟩) R s:=by
 obtain⟨hh,g,d,t,os⟩:=s
 exact PySem.W.make_core (PySem.W.makes_of X hm) (PySem.W.looks_findIn X hi) (fun self=>PySem.W.bind_fn X self hf) (.inl rfl) h
end
def putF (f:Str)(v:V):List (Str×V)->List (Str×V)
 | []=>[(f,v)]
 | (g,x)::r=>if g=f then (g,v)::r else (g,x)::putF f v r
theorem Eg (f g:Str)(v:V):∀ fs:List (Str×V),(putF f v fs).lookup g=if g=f then some v else fs.lookup g
 | []=>by
  show List.lookup g [(f,v)]=_
  by_cases h:g=f
  ·have hb:(g == f)=true:=beq_iff_eq.mpr h
   simp only[List.lookup,hb,if_pos h]
  ·have hb:(g == f)=false:=beq_eq_false_iff_ne.mpr h
   simp only[List.lookup,hb,if_neg h]
 | (k,x)::r=>by
  have ih:=Eg f g v r
  rw[show putF f v ((k,x)::r)=(if k=f then (k,v)::r else (k,x)::putF f v r) from rfl]
  by_cases hk:k=f
  ·rw[if_pos hk]
   by_cases h:g=k
   ·have hb:(g == k)=true:=beq_iff_eq.mpr h
    simp only[List.lookup,hb,if_pos (h.trans hk)]
   ·have hb:(g == k)=false:=beq_eq_false_iff_ne.mpr h
    simp only[List.lookup,hb,if_neg (fun e:g=f=>h (e.trans hk.symm))]
  ·rw[if_neg hk]
   by_cases h:g=k
   ·have hb:(g == k)=true:=beq_iff_eq.mpr h
    simp only[List.lookup,hb,if_neg (fun e:g=f=>hk (h.symm.trans e))]
   ·have hb:(g == k)=false:=beq_eq_false_iff_ne.mpr h
    simp only[List.lookup,hb]
    exact ih
theorem N2 (f:Str)(v:V):∀ fs:List (Str×V),f∈(putF f v fs).map (·.1)/\∀ g,g∈fs.map (·.1)->g∈(putF f v fs).map (·.1)
 | []=>⟨by simp[putF],fun g h=>by simp at h⟩
 | (k,x)::r=>by
  obtain⟨i1,i2⟩:=N2 f v r
  rw[show putF f v ((k,x)::r)=(if k=f then (k,v)::r else (k,x)::putF f v r) from rfl]
  by_cases hk:k=f
  ·rw[if_pos hk]
   subst hk
   exact⟨by simp,fun g h=>by simpa using h⟩
  ·rw[if_neg hk]
   refine⟨?_,fun g h=>?_⟩
   ·rw[List.map_cons]
    exact List.mem_cons_of_mem _ i1
   ·rw[List.map_cons] at h ⊢
    rcases List.mem_cons.mp h with e | e
    ·exact List.mem_cons.mpr (.inl e)
    ·exact List.mem_cons_of_mem _ (i2 g e)
theorem N3 (f:Str)(v:V):∀ fs:List (Str×V),(putF f v fs).length<=fs.length+1
 | []=>by simp[putF]
 | (k,x)::r=>by
  have ih:=N3 f v r
  rw[show putF f v ((k,x)::r)=(if k=f then (k,v)::r else (k,x)::putF f v r) from rfl]
  by_cases hk:k=f
  ·rw[if_pos hk,List.length_cons,List.length_cons];omega
  ·rw[if_neg hk,List.length_cons,List.length_cons];omega
theorem RelO.some_of {v:V}{o:Option Value}(r:RelO (some v) o):∃ u,o=some u/\RelV v u:=by
 cases o with
 | none=>exact (show False from r).elim
 | some u=>exact⟨u,rfl,r⟩
theorem RelO.none_of {o:Option Value}(r:RelO none o):o=none:=by
 cases o with
 | none=>rfl
 | some u=>exact (show False from r).elim
theorem Yb {v:V}{u:Value}(r:RelV v u):PySem.W.handedIn u=true:=by
 cases v with
 | non=>cases (show u=Value.none from r);rfl
 | bl b=>cases (show u=Value.bool b from r);rfl
 | int i=>obtain⟨t,e⟩:=(show ∃ t,u=Value.int i t from r);cases e;rfl
 | str x=>obtain⟨t,e⟩:=(show ∃ t,u=Value.str x t from r);cases e;rfl
 | byt b=>obtain⟨t,e⟩:=(show ∃ t,u=Value.bytes b t from r);cases e;rfl
 | flt b=>obtain⟨t,e⟩:=(show ∃ t,u=Value.float b t from r);cases e;rfl
 | ref a=>cases (show u=Value.ref a from r);rfl
 | ty n=>cases (show u=Value.type n from r);rfl
section
variable {P:Program} {w:World} {H H':Hp} {h h':Heap} {a C dx:Addr} {fs fs':List (Str×V)}
theorem RM (hok:HOk P w H h)(e:H a=some (.ins C dx fs)):∃ mA,ObjM h a dx C mA/\(∀ f,RelO (fs.lookup f) (mA f))/\PySem.Within mA (fs.map (·.1))/\fs.length<=1000/\H dx=some (.own a):=by
 obtain⟨d,z,ne,ob,mA,n,r,q⟩:=(show CC P w H h a (.ins C dx fs) from hok a _ e)
 exact⟨mA,⟨ob,n,ne⟩,r,q,z,d⟩
end
structure Cls (K:PySem.W.Frag)(C:Addr):Prop where
 pg:PySem.W.plainGet K C Str.empty=true
 hd:PySem.W.hasDictIn K C=true
 po:PySem.W.plainOver K C=true
 sa:PySem.W.findIn K (.ref C) "__setattr__" = some (some (.builtin "object.__setattr__"))
theorem Cls.get {K:PySem.W.Frag}{C:Addr}(c:Cls K C)(f:Str):PySem.W.plainGet K C f=true:=c.pg
def Es (K:PySem.W.Frag)(C:Addr)(f:Str):Prop:=PySem.W.findIn K (.ref C) f=some none
theorem Es.taker {K:PySem.W.Frag}{C:Addr}{f:Str}(n:Es K C f):PySem.W.takerIn K C f=some none:=by
 unfold PySem.W.takerIn
 rw[show PySem.W.findIn K (.ref C) f=some none from n]
 rfl
structure Meth (K:PySem.W.Frag)(C:Addr)(m:Str)(f:Addr):Prop where
 at_:PySem.W.findIn K (.ref C) m=some (some (.ref f))
 fn:PySem.W.isFn K (.ref f)=true
 kp:PySem.W.keepIn K (.ref f)=true
section
variable {X:Cx} {pins:List (Addr×Obj)} {σ:St} {H:Hp} {s:Shared} {a C dx:Addr} {fs:List (Str×V)} {f:Str} {v:V} {A:Around} {E:Value->Shared->Prop}
theorem W0 {b:Bool}{Q:Value->Shared->Prop}(I:Inv X pins σ H s)(e:H a=some (.ins C dx fs))(c:Cls X.K C)(n:Es X.K C f)(l:fs.lookup f=some v)
  (h:∀ u s',Inv X pins σ H s'->RelV v u->Q u s'):wpAny (model X.prog X.w) A (getAttr (.ref a) f b) Q E s:=by
 obtain⟨mA,O,r,_,_,_⟩:=RM I.hok e
 obtain⟨u,hu,ru⟩:=RelO.some_of (v:=v) (o:=mA f) (by rw[<- l];exact r f)
 exact Br_ I.kIn O (c.get f) c.hd n hu (Yb ru) (h u _ (I.tok _) ru)
theorem Rv {m:Str}{g:Addr}{pl:Sem Bool}{Q:Value×List Value->Shared->Prop}(I:Inv X pins σ H s)(e:H a=some (.ins C dx fs))(c:Cls X.K C)(k:Meth X.K C m g)(l:fs.lookup m=none)
  (h:Q (.ref g,[.ref a]) s):wpAny (model X.prog X.w) A (getMethod (.ref a) m pl) Q E s:=by
 obtain⟨mA,O,r,_,_,_⟩:=RM I.hok e
 have hn:mA m=none:=RelO.none_of (by rw[<- l];exact r m)
 exact Zx I.kIn O (c.get m) k.at_ k.fn hn h
theorem W2 {y:V}{u:Value}{Q:Unit->Shared->Prop}(I:Inv X pins σ H s)(e:H a=some (.ins C dx fs))(c:Cls X.K C)(n:Es X.K C f)(hl:fs.length<1000)(ry:RelV y u)
  (h:∀ s',Inv X pins σ (upd H a (.ins C dx (putF f y fs))) s'->Q () s'):wpAny (model X.prog X.w) A (setAttr (.ref a) f u) Q E s:=by
 obtain⟨mA,O,r,wi,_,ho⟩:=RM I.hok e
 have hz:(fs.map (·.1)).length<=sizeLine:=by rw[List.length_map,sizeLine_eq];omega
 refine Bs_ I.kIn O c.sa c.po n.taker c.hd wi hz fun h' O' sb=>h _ ?_
 have hd:∃ o,h'.get? dx=some o:=let ⟨o,_,_,e',_⟩:=O'.ns;⟨o,e'⟩
 refine I.write (x:=a) (e:=dx) (by rw[e];exact True.intro) (.inr ho) (fun b q hb z=>(sb.2 b hb).trans z) hd ?_
 refine⟨by rw[Ah O.ne];exact ho,?_,O.ne,O'.obj,_,O'.ns,fun g=>?_,fun g hg=>?_⟩
 ·have:=N3 f y fs;omega
 ·show RelO ((putF f y fs).lookup g) (if g=f then some u else mA g)
  rw[Eg]
  by_cases q:g=f
  ·rw[if_pos q,if_pos q];exact ry
  ·rw[if_neg q,if_neg q];exact r g
 ·by_cases q:g=f
  ·rw[q];exact (N2 f y fs).1
  ·refine (N2 f y fs).2 g (wi g fun z=>hg ?_)
   show (if g=f then some u else mA g)=none
   rw[if_neg q];exact z
theorem Inv.made (I:Inv X pins σ H s):Inv X pins σ (upd (upd H s.heap.objs.size (.own (s.heap.objs.size+1))) (s.heap.objs.size+1) (.ins C s.heap.objs.size []))
  {s with heap:=(s.heap.push PySem.W.emptyDict).push (PySem.W.instObj C s.heap.objs.size)}:=by
 have e1:(s.heap.push PySem.W.emptyDict).get? s.heap.objs.size=some PySem.W.emptyDict:=Heap.get?_push_size s.heap rfl
 have e2:((s.heap.push PySem.W.emptyDict).push (PySem.W.instObj C s.heap.objs.size)).get? (s.heap.objs.size+1)=some (PySem.W.instObj C s.heap.objs.size):=by
  have:=Heap.get?_push_size (s.heap.push PySem.W.emptyDict) (o:=PySem.W.instObj C s.heap.objs.size) rfl
  rwa [Heap.size_push] at this
 have e3:(s.heap.push PySem.W.emptyDict).Ns s.heap.objs.size (fun _=>none):=⟨PySem.W.emptyDict,#[],_,e1,rfl,(fun e he=>absurd he (by simp)),fun _=>rfl⟩
 have I1:=I.laid (a:=s.heap.objs.size) (o:=.own (s.heap.objs.size+1)) (h':=s.heap.push PySem.W.emptyDict) (t':=s.toks) (fun b u q=>Heap.get?_push_of_some _ q) (Nat.le_refl _) ⟨_,e1⟩
 refine I1.laid (a:=s.heap.objs.size+1) (o:=.ins C s.heap.objs.size []) (t':=s.toks) (fun b u q=>Heap.get?_push_of_some _ q) (Nat.le_of_eq (Heap.size_push _ _)) ?_
 have ne:s.heap.objs.size≠s.heap.objs.size+1:=Nat.ne_of_lt (Nat.lt_succ_self _)
 refine⟨by rw[Ah ne,Ac],Nat.zero_le _,ne,e2,fun _=>none,(Heap.Ns1.of_empty e3).at fun o q=>Heap.get?_push_of_some _ q,fun _=>True.intro,fun y hy=>absurd rfl hy⟩
theorem Bt_ {prog:Program}{w:World}{env:Env}{e:Expr}{f:Str}{pos:Pos}{s:Shared}{Q:Value->Shared->Prop}(hb:attributeBase e f env (eval e env)=eval e env)
  (h:wpAny (model prog w) A (eval e env) (fun o s₁=>wpAny (model prog w) A (getAttr o f true) Q E s₁) E s):wpAny (model prog w) A (eval (.Attribute e f pos) env) Q E s :=
 Attribute_any_ h (by rw[arm_eval_Attribute,hb])
end
def tFld (K:PySem.W.Frag)(ta:TE)(f:Str):TE:=fun σ H Q=>ta σ H fun x H1=>∃ a C dx fs v,x=.ref a/\H1 a=some (.ins C dx fs)/\Cls K C/\Es K C f/\fs.lookup f=some v/\Q v H1
def sFld (K:PySem.W.Frag)(ta tv:TE)(f:Str):TS:=fun D σ H=>tv σ H fun y H1=>ta σ H1 fun x H2=>∃ a C dx fs,x=.ref a/\H2 a=some (.ins C dx fs)/\Cls K C/\Es K C f/\fs.length<1000 /\
 D.nx σ (upd H2 a (.ins C dx (putF f y fs)))
section
variable {X:Cx} {o e value:Expr} {f:Str} {pos pos' tpos:Pos} {ta tv:TE}
theorem Bb (he:PE X e ta)(hb:attributeBase e f X.env (eval e X.env)=eval e X.env):PE X (.Attribute e f pos) (tFld X.K ta f):=by
 intro pins s σ H Q I h
 refine Bt_ hb (thn (he pins s σ H _ I h) fun u s1 ⟨x,H1,I1,rx,a,C,dx,fs,v,ex,ea,c,n,l,q⟩=>?_)
 subst ex
 obtain rfl:u=Value.ref a:=rx
 exact W0 I1 ea c n l fun u' s2 I2 ru=>⟨v,H1,I2,ru,q⟩
theorem E5 (ha:PE X o ta)(hv:PE X value tv)(hs:swapsWith value (some (.Attribute o f pos')) pos.line X.env=pure false):PS X (.Assign [.Attribute o f pos'] value pos) (sFld X.K ta tv f):=by
 intro pins s σ H D I h
 refine plainObj_wpAny_Assign_Attribute (thn (hv pins s σ H _ I h) fun u s1 ⟨y,H1,I1,ry,q⟩=>thn (ha pins s1 σ H1 _ I1 q) fun ov s2 ⟨x,H2,I2,rx,a,C,dx,fs,ex,ea,c,n,l,q2⟩=>?_) hs
 subst ex
 obtain rfl:ov=Value.ref a:=rx
 exact W2 I2 ea c n l ry fun s3 I3=>⟨σ,_,I3,q2⟩
end
section
variable {X:Cx} {pins:List (Addr×Obj)} {σ:St} {H:Hp} {s:Shared} {A:Around} {E:Value->Shared->Prop} {Q:Value->Shared->Prop} {c:Value} {b:Bool}
inductive TyOf (K:PySem.W.Frag)(H:Hp):V->Value->Prop where
 | non:TyOf K H .non (.type "NoneType")
 | bl (x:Bool):TyOf K H (.bl x) (.type "bool")
 | int (i:Int):TyOf K H (.int i) (.type "int")
 | str (x:Str):TyOf K H (.str x) (.type "str")
 | flt (x:UInt64):TyOf K H (.flt x) (.type "float")
 | lst {a:Addr} {xs:List V} (e:H a=some (.lst xs)):TyOf K H (.ref a) (.type "list")
 | frz {a:Addr} {o:Obj} {xs:List V} (e:H a=some (.frz o (.lst xs))):TyOf K H (.ref a) (.type "list")
 | tup {a:Addr} {xs:List V} (e:H a=some (.tup xs)):TyOf K H (.ref a) (.type "tuple")
 | dK {a:Addr} {kvs:List (Key×V)} (e:H a=some (.dK kvs)):TyOf K H (.ref a) (.type "dict")
 | dT {a:Addr} {kvs:List (List Key×V)} (e:H a=some (.dT kvs)):TyOf K H (.ref a) (.type "dict")
 | ins {a C dx:Addr} {fs:List (Str×V)} (e:H a=some (.ins C dx fs)) (cl:Cls K C) (ha:PySem.W.findIn K (.ref C) "__class__" = some (some (.builtin "object.__class__")))
   (hn:PySem.W.specialIn K (.builtin "object.__class__") "__get__" = some (some (.builtin "getset_descriptor.__get__"))) (htk:PySem.W.takesIn K (.builtin "object.__class__")=some true)
   (hm:PySem.W.mroIn K C (.type "object")=some true):TyOf K H (.ref a) (.ref C)
theorem Yc {x:V}{u t:Value}(I:Inv X pins σ H s)(rx:RelV x u)(ty:TyOf X.K H x t)(e:PySem.W.kitOne X.K t c=some b)(h:∀ tk,Q (.bool b) {s with toks:=tk}) :
  wpAny (model X.prog X.w) A (call (.builtin "isinstance") [u,c]) Q E s:=by
 cases ty with
 | non=>cases (show u=Value.none from rx);exact PySem.W.kia_one PySem.W.kitx_none I.kIn True.intro e (fun z=>nomatch z) h
 | bl y=>cases (show u=Value.bool y from rx);exact PySem.W.kia_one PySem.W.kitx_bool I.kIn True.intro e (fun z=>nomatch z) h
 | int i=>obtain⟨t,q⟩:=(show ∃ t,u=Value.int i t from rx);cases q;exact PySem.W.kia_one PySem.W.kitx_int I.kIn True.intro e (fun z=>nomatch z) h
 | str y=>obtain⟨t,q⟩:=(show ∃ t,u=Value.str y t from rx);cases q;exact PySem.W.kia_one PySem.W.kitx_str I.kIn True.intro e (fun z=>nomatch z) h
 | flt y=>obtain⟨t,q⟩:=(show ∃ t,u=Value.float y t from rx);cases q;exact PySem.W.kia_one PySem.W.kitx_float I.kIn True.intro e (fun z=>nomatch z) h
 | @lst a xs ea =>
  cases (show u=Value.ref a from rx)
  obtain⟨_,_,n,_,h1⟩:=(show CC X.prog X.w H s.heap a (.lst xs) from I.hok a _ ea)
  exact PySem.W.kia_one PySem.W.kitx_list I.kIn ⟨_,h1,rfl⟩ e (fun z=>nomatch z) h
 | @frz a ob xs ea =>
  cases (show u=Value.ref a from rx)
  obtain⟨_,_,_,n,_,h1⟩:=(show CC X.prog X.w H s.heap a (.frz ob (.lst xs)) from I.hok a _ ea)
  exact PySem.W.kia_one PySem.W.kitx_list I.kIn ⟨_,h1,rfl⟩ e (fun z=>nomatch z) h
 | @tup a xs ea =>
  cases (show u=Value.ref a from rx)
  obtain⟨_,_,_,p⟩:=(show CC X.prog X.w H s.heap a (.tup xs) from I.hok a _ ea)
  obtain⟨o,h1,h2,_⟩:=p
  exact PySem.W.kia_one PySem.W.kitx_tuple I.kIn ⟨o,h1,h2⟩ e (fun z=>nomatch z) h
 | @dK a kvs ea =>
  cases (show u=Value.ref a from rx)
  obtain⟨_,_,vs,_,p⟩:=(show CC X.prog X.w H s.heap a (.dK kvs) from I.hok a _ ea)
  obtain⟨o,es,ep,h1,h2,_⟩:=p
  exact PySem.W.kia_one PySem.W.kitx_dict I.kIn ⟨o,h1,h2.1⟩ e (fun z=>nomatch z) h
 | @dT a kvs ea =>
  cases (show u=Value.ref a from rx)
  obtain⟨_,_,xs,_,o,es,ep,h1,h2,_⟩:=(show CC X.prog X.w H s.heap a (.dT kvs) from I.hok a _ ea)
  exact PySem.W.kia_one PySem.W.kitx_dict I.kIn ⟨o,h1,h2.1⟩ e (fun z=>nomatch z) h
 | @ins a C dx fs ea cl ha hn htk hm =>
  cases (show u=Value.ref a from rx)
  obtain⟨mA,O,_⟩:=RM I.hok ea
  obtain⟨od,J,_⟩:=O.look
  exact PySem.W.kia_one (PySem.W.kitx_own (cl.get _) cl.hd ha hn htk hm) I.kIn J e (fun z=>nomatch z) h
end
end L2
namespace L2
open PySem PySem.Spec PyProof.Rows
structure Room (k:Nat)(A:Around):Prop where
 hd:A.handled=none
 dp:A.depth+3*k+5<recursionLimit
 un:A.units+16*k+200<cLine
theorem Room.mono {j k:Nat}{A:Around}(r:Room k A)(h:j<=k):Room j A:=⟨r.hd,by have:=r.dp;omega,by have:=r.un;omega⟩
theorem Room.deeper {k:Nat}{A:Around}(r:Room (k+1) A)(env:Env):Room k (A.deeper env) :=
 ⟨r.hd,by have:=r.dp;show A.depth+1+3*k+5<_;omega,by have:=r.un;show A.units+3+16*k+200<_;omega⟩
theorem W3 {A:Around}{C:Addr}{us:List Value}{kw:List (Str×Value)}:(A.under (.builtin "type.__call__" ⟨.ref C::us,kw⟩)).depth=A.depth+1:=by
 first | rfl | simp[Around.under,Code.weight,Code.isCreation,Code.isGuard,Code.isCaller,Code.frames,Code.isFrame,guardIds]
theorem W4 {A:Around}{C:Addr}{us:List Value}{kw:List (Str×Value)}:(A.under (.builtin "type.__call__" ⟨.ref C::us,kw⟩)).units=A.units+1:=by
 first | rfl | simp[Around.under,Code.cUnits,Code.frames,Code.isFrame]
theorem Room.make {k:Nat}{A:Around}(r:Room (k+1) A)(C:Addr)(us:List Value)(kw:List (Str×Value)):Room k (A.under (.builtin "type.__call__" ⟨.ref C::us,kw⟩)) :=
 ⟨r.hd,by have:=r.dp;rw[W3];omega,by have:=r.un;rw[W4];omega⟩
theorem Room.depth {k:Nat}{A:Around}(r:Room k A):A.depth<recursionLimit:=by have:=r.dp;omega
theorem Room.units {k:Nat}{A:Around}(r:Room k A):A.units+64<cLine:=by have:=r.un;omega
def tNil:TA:=fun _ H Q=>Q [] H
def Cr_ (ta:TE)(tr:TA):TA:=fun σ H Q=>ta σ H fun x H1=>tr σ H1 fun xs H2=>Q (x::xs) H2
section
variable {X:Cx} {e:Expr} {es:List Expr} {te:TE} {t:TA} {pos:Pos}
theorem Ae:PA X [] tNil:=fun _ _ _ _ H Q I h=>Calls.spliced_nil ⟨[],H,I,.nil,h⟩
theorem Aa (ha:PE X e te)(hr:PA X es t)(hs:starEach (e::es) X.env=(false,eval e X.env)::starEach es X.env:=by rfl):PA X (e::es) (Cr_ te t):=by
 intro pos pins s σ H Q I h
 rw[hs]
 show wpAny _ _ (spliced ((false,eval e X.env)::backTo pos (starEach es X.env))) _ _ s
 refine Calls.spliced_cons (thn (ha pins s σ H _ I h) fun u s1 ⟨x,H1,I1,r1,q1⟩=>?_)
 exact thn (hr pos pins s1 σ H1 _ I1 q1) fun us s2 ⟨xs,H2,I2,r2,q2⟩=>⟨x::xs,H2,I2,.cons r1 r2,q2⟩
def tTup (t:TA):TE:=fun σ H Q=>t σ H fun xs H1=>xs.length<=sizeLine/\∀ p,H1 p=none->Q (.ref p) (upd H1 p (.tup xs))
def tLst (t:TA):TE:=fun σ H Q=>t σ H fun xs H1=>xs.length<=sizeLine/\∀ p,H1 p=none->Q (.ref p) (upd H1 p (.lst xs))
theorem Et {x1}(h:PA X es t):PE X (.Tuple es x1 pos) (tTup t):=by
 intro pins s σ H Q I hq
 refine wpAny_Tuple_spliced (thn (h pos pins s σ H _ I hq) fun us s1 ⟨xs,H1,I1,r,z,q⟩=>⟨by rw[<- r.length];exact z,?_⟩)
 have hf:H1 s1.heap.objs.size=none:=I1.hok.fresh (Nat.le_refl _)
 refine⟨.ref s1.heap.objs.size,upd H1 s1.heap.objs.size (.tup xs),I1.laid (t':=s1.toks) (fun b u e=>Heap.get?_push_of_some _ e) (Nat.le_refl _) ?_,rfl,q _ hf⟩
 exact⟨z,us,r,⟨_,Heap.get?_push_size _ rfl,rfl,_,rfl⟩⟩
theorem IK (h:PA X es t):PE X (.List es pos) (tLst t):=by
 intro pins s σ H Q I hq
 refine wpAny_List_spliced (thn (h pos pins s σ H _ I hq) fun us s1 ⟨xs,H1,I1,r,z,q⟩=>⟨by rw[<- r.length];exact z,?_⟩)
 have hf:H1 s1.heap.objs.size=none:=I1.hok.fresh (Nat.le_refl _)
 refine⟨.ref s1.heap.objs.size,upd H1 s1.heap.objs.size (.lst xs),I1.laid (t':=s1.toks) (fun b u e=>Heap.get?_push_of_some _ e) (Nat.le_refl _) ?_,rfl,q _ hf⟩
 exact⟨z,us,0,r,Heap.get?_push_size _ rfl⟩
end
abbrev Sp:=List V->Hp->VK->XK->Prop
abbrev CXT:=List Env->Hp->Shared->XK->Value->Shared->Prop
structure Env0 (P:Program)(w:World)(K:PySem.W.Frag)(mg:Str->Option Value)(base:Heap)(A:Around)(outer:List Env)(s:Shared)(H:Hp):Prop where
 frames:A.frames=some outer
 mod:Mod K mg base
 bs:∀ b o,base.get? b=some o->s.heap.get? b=some o/\H b=none
 bsz:base.objs.size<=s.heap.objs.size
 funs:s.heap.FunFrames base outer
 frf:∀ b∈frs outer,H b=none
 hok:HOk P w H s.heap
 bare:AllBare s.gens
def CE (outer:List Env)(P:Program)(w:World)(H:Hp)(s:Shared)(Q:VK)(u:Value)(s':Shared):Prop :=
 ∃ v H',s'.os=s.os/\AllBare s'.gens/\Un (frs outer) [] H H' s.heap s'.heap/\HOk P w H' s'.heap/\RelV v u/\Q v H'
def CR (CX:CXT)(outer:List Env)(P:Program)(w:World)(H:Hp)(s:Shared)(Q:VK)(E:XK)(r:Result)(s':Shared):Prop :=
 match r with
 | .ok (.ret u)=>CE outer P w H s Q u s'
 | .ok _=>False
 | .error e=>CX outer H s E e s'
structure FnOk (P:Program)(w:World)(K:PySem.W.Frag)(mg:Str->Option Value)(base:Heap)(CX:CXT)(k:Nat)(f:Addr)(fd:FuncData)(ps:List Str)(sp:Sp):Prop where
 len:∀ vs H Q E,sp vs H Q E->vs.length=ps.length
 run:∀ (A:Around) (outer:List Env) (s:Shared) (H:Hp) (args:Args) (us:List Value) (vs:List V) (Q:VK) (E:XK),Room k A->Env0 P w K mg base A outer s H->BindsTo s fd args (ps.zip us)->Vals vs us->sp vs H Q E ->
  codeAny (model P w) A (.call (.ref f) args) (CR CX outer P w H s Q E) s
theorem Env0.make {P:Program}{w:World}{K:PySem.W.Frag}{mg:Str->Option Value}{base:Heap}{A:Around}{outer:List Env}{s:Shared}{H:Hp}(e:Env0 P w K mg base A outer s H)(C:Addr)(us:List Value)(kw:List (Str×Value)) :
  Env0 P w K mg base (A.under (.builtin "type.__call__" ⟨.ref C::us,kw⟩)) outer s H:=⟨by first | exact e.frames | (simpa [Around.under,Code.envs,Code.isFrame,pushEnvs] using e.frames),e.mod,e.bs,e.bsz,e.funs,e.frf,e.hok,e.bare⟩
section
variable {X:Cx} {pins:List (Addr×Obj)} {σ:St} {H:Hp} {s s':Shared}
theorem Inv.env0 (I:Inv X pins σ H s):Env0 X.prog X.w X.K X.mg X.base X.A X.stack s H :=
 ⟨I.ok.frames,I.ok.mod,I.bs,Nat.le_trans I.ok.bsz I.sz,I.stack,I.stkFree,I.hok,I.bare⟩
theorem Inv.after {Q:VK}{u:Value}(I:Inv X pins σ H s)(h:CE X.stack X.prog X.w H s Q u s'):EP X pins σ Q u s':=by
 obtain⟨v,H',os,bare,un,hok,r,q⟩:=h
 obtain⟨hh,g,d,t,os'⟩:=s'
 obtain rfl:os'=s.os:=os
 exact⟨v,H',I.call (h':=hh) (g':=g) (d':=d) (t':=t) (ch:=[]) un hok bare (fun b z=>absurd z (by simp)),r,q⟩
end
def Bu_ (sp:Sp)(dvs:List V)(E:XK)(t:TA):TE:=fun σ H Q=>t σ H fun vs H1=>sp (vs++dvs) H1 Q E
def Bv_ (C:Addr)(m:Str)(sp:Sp)(dvs:List V)(E:XK)(ta:TE)(t:TA):TE:=fun σ H Q=>ta σ H fun x H1=>∃ a dx fs,x=.ref a/\H1 a=some (.ins C dx fs)/\fs.lookup m=none /\
 t σ H1 fun vs H2=>sp (x::(vs++dvs)) H2 Q E
def Cs_ (C:Addr)(sp:Sp)(dvs:List V)(E:XK)(t:TA):TE:=fun σ H Q=>t σ H fun vs H1=>∀ x dx,H1 x=none->H1 dx=none->dx≠x ->
 sp (.ref x::(vs++dvs)) (upd (upd H1 dx (.own x)) x (.ins C dx [])) (fun v H2=>v=.non/\Q (.ref x) H2) E
def Binds (K:PySem.W.Frag)(fd:FuncData)(ps:List Str)(ds:List Value):Prop :=
 ∀ (s:Shared) (us:List Value),K.In s.heap->(us++ds).length=ps.length->BindsTo s fd ⟨us,[]⟩ (ps.zip (us++ds))
theorem Binds.all {K:PySem.W.Frag}{fd:FuncData}{ps:List Str}(h:∀ us:List Value,us.length=ps.length->bindArgs fd ⟨us,[]⟩=pure (ps.zip us)):Binds K fd ps []:=fun s us _ hl=>by
 rw[List.append_nil] at hl ⊢
 exact .of_eq (h us hl)
def IL (CX:CXT)(X:Cx)(E:XK):Prop:=∀ (pins:List (Addr×Obj)) (σ:St) (H:Hp) (s:Shared) (e:Value) (s':Shared),Inv X pins σ H s->CX X.stack H s E e s'->X.xe e s'
section
variable {X:Cx} {CX:CXT} {k:Nat} {f C:Addr} {fd:FuncData} {ps:List Str} {sp:Sp} {dvs:List V} {ds:List Value} {E:XK} {x m:Str} {p pos apos:Pos} {e o:Expr} {es:List Expr} {ta:TE} {t:TA}
theorem T3 {pins:List (Addr×Obj)}{σ:St}{H:Hp}{s:Shared}{Q:VK}{us:List Value}{vs:List V}(F:FnOk X.prog X.w X.K X.mg X.base CX k f fd ps sp)(hr:Room k X.A)(hb:Binds X.K fd ps ds)(hd:Vals dvs ds)(hx:IL CX X E)
  (I:Inv X pins σ H s) (r:Vals vs us) (h:sp (vs++dvs) H Q E):wpAny (model X.prog X.w) X.A (call (.ref f) us) (EP X pins σ Q) X.xe s:=by
 have r2:Vals (vs++dvs) (us++ds):=r.append hd
 have hl:(us++ds).length=ps.length:=by rw[<- r2.length];exact F.len _ _ _ _ h
 refine wpAny_call (codeAny_mono (F.run X.A X.stack s H ⟨us,[]⟩ (us++ds) (vs++dvs) Q E hr I.env0 (hb s us I.kIn hl) r2 h) fun r s' hq=>?_)
 cases r with
 | error e=>exact hx pins σ H s e s' I hq
 | ok fl =>
  cases fl with
  | ret u=>exact I.after hq
  | next=>exact False.elim hq
  | brk=>exact False.elim hq
  | cont=>exact False.elim hq
theorem AE (F:FnOk X.prog X.w X.K X.mg X.base CX k f fd ps sp)(hr:Room k X.A)(hg:Gl X x)(hm:X.mg x=some (.ref f))(hk:PySem.W.keepIn X.K (.ref f)=true)(hb:Binds X.K fd ps ds)(hd:Vals dvs ds)(hx:IL CX X E)
  (ha:PA X (e::es) t) (hdb:(x == ("__debug__" : Str))=false:=by decide) (he:starEach (e::es) X.env=(false,eval e X.env)::starEach es X.env:=by rfl) (hpl:(backTo pos (starEach es X.env)).any (·.1)=false:=by rfl) :
  PE X (.Call (.Name x p) (e::es) [] pos) (Bu_ sp dvs E t):=by
 intro pins s σ H Q I h
 refine wpAny_Call_Name_kw (NY I hg hm ?_ hdb)
 refine PySem.W.callWith_K (h₀:=X.base) I.ok.mod.kin hk (thn (ha pos pins s σ H _ I h) fun us s1 ⟨vs,H1,I1,r,q⟩=>⟨I1.kIn,?_⟩) he hpl
 exact T3 F hr hb hd hx I1 r q
theorem C4 {pl:Sem Bool}(he:PE X o ta)(c:Cls X.K C)(hm:Meth X.K C m f)(F:FnOk X.prog X.w X.K X.mg X.base CX k f fd ps sp)(hr:Room k X.A)(hb:Binds X.K fd ps ds)(hd:Vals dvs ds)(hx:IL CX X E)(ha:PA X (e::es) t)
  (hst:starEach (e::es) X.env=(false,eval e X.env)::starEach es X.env:=by rfl) (hpl:(backTo pos (starEach es X.env)).any (·.1)=false:=by rfl)
  (ht:eval (.Call (.Attribute o m apos) (e::es) [] pos) X.env=(do
   let ov <- eval o X.env
   standAt apos.atName
   let (f,first) <- holding [ov] (getMethod ov m pl)
   callWith pos f first (backTo pos (starEach (e::es) X.env)) (backToKw pos (keywordEach [] X.env))):=by rfl) :
  PE X (.Call (.Attribute o m apos) (e::es) [] pos) (Bv_ C m sp dvs E ta t):=by
 intro pins s σ H Q I h
 refine PySem.W.methodCall_KW (pl:=pl) (thn (he pins s σ H _ I h) fun u s1 ⟨x,H1,I1,rx,a,dx,fs,ex,ea,l,q⟩=>?_) ht
 subst ex
 obtain rfl:u=Value.ref a:=rx
 refine Rv I1 ea c hm l ?_
 refine PySem.W.callWith_K (first:=[.ref a]) (h₀:=X.base) I.ok.mod.kin hm.kp (thn (ha pos pins s1 σ H1 _ I1 q) fun us s2 ⟨vs,H2,I2,r,q2⟩=>⟨I2.kIn,?_⟩) hst hpl
 exact T3 (us:=.ref a::us) (vs:=.ref a::vs) F hr hb hd hx I2 (.cons rfl r) q2
theorem Cj {pl:Sem Bool}(he:PE X o ta)(c:Cls X.K C)(hm:Meth X.K C m f)(F:FnOk X.prog X.w X.K X.mg X.base CX k f fd ps sp)(hr:Room k X.A)(hb:Binds X.K fd ps ds)(hd:Vals dvs ds)(hx:IL CX X E)
  (ht:eval (.Call (.Attribute o m apos) [] [] pos) X.env=(do
   let ov <- eval o X.env
   standAt apos.atName
   let (f,first) <- holding [ov] (getMethod ov m pl)
   callWith pos f first (backTo pos (starEach [] X.env)) (backToKw pos (keywordEach [] X.env))):=by rfl) :
  PE X (.Call (.Attribute o m apos) [] [] pos) (Bv_ C m sp dvs E ta tNil):=by
 intro pins s σ H Q I h
 refine PySem.W.methodCall_KW (pl:=pl) (thn (he pins s σ H _ I h) fun u s1 ⟨x,H1,I1,rx,a,dx,fs,ex,ea,l,q⟩=>?_) ht
 subst ex
 obtain rfl:u=Value.ref a:=rx
 refine Rv I1 ea c hm l ?_
 exact PySem.W.callWith_K0 (first:=[.ref a]) I1.kIn hm.kp (T3 (us:=[.ref a]) (vs:=[.ref a]) F hr hb hd hx I1 (.cons rfl .nil) q)
structure Mk (K:PySem.W.Frag)(C f:Addr):Prop where
 makes:PySem.W.makesIn K C=true
 init:PySem.W.findIn K (.ref C) "__init__" = some (some (.ref f))
 fn:PySem.W.isFn K (.ref f)=true
 kp:PySem.W.keepIn K (.ref C)=true
theorem Zz {pins:List (Addr×Obj)}{σ:St}{H:Hp}{s:Shared}{Q:VK}{us:List Value}{vs:List V}(M:Mk X.K C f)(F:FnOk X.prog X.w X.K X.mg X.base CX k f fd ps sp)(hr:Room (k+1) X.A)(hb:Binds X.K fd ps ds)(hd:Vals dvs ds)
  (hx:IL CX X E) (I:Inv X pins σ H s) (r:Vals vs us)
  (h:∀ x dx,H x=none->H dx=none->dx≠x->sp (.ref x::(vs++dvs)) (upd (upd H dx (.own x)) x (.ins C dx [])) (fun v H2=>v=.non/\Q (.ref x) H2) E) :
  wpAny (model X.prog X.w) X.A (call (.ref C) us) (EP X pins σ Q) X.xe s:=by
 have hq:=h (s.heap.objs.size+1) s.heap.objs.size (I.hok.fresh (Nat.le_succ _)) (I.hok.fresh (Nat.le_refl _)) (Nat.ne_of_lt (Nat.lt_succ_self _))
 have I2:=Inv.made (C:=C) I
 have r2:Vals (V.ref (s.heap.objs.size+1)::(vs++dvs)) (Value.ref (s.heap.objs.size+1)::(us++ds)):=.cons rfl (r.append hd)
 have hl:(Value.ref (s.heap.objs.size+1)::us++ds).length=ps.length:=by
  have e:=r2.length
  rw[F.len _ _ _ _ hq] at e
  exact e.symm
 refine wpAny_call (Zy (f:=f) I.kIn M.makes M.init (beq_iff_eq.mp M.fn) (codeAny_mono (F.run _ X.stack _ _ ⟨Value.ref (s.heap.objs.size+1)::us,[]⟩ (Value.ref (s.heap.objs.size+1)::(us++ds)) _ _ E (hr.make C us [])
  (I2.env0.make C us []) (hb _ (Value.ref (s.heap.objs.size+1)::us) I2.kIn hl) r2 hq) fun r s' hq'=>?_))
 cases r with
 | error e=>exact hx pins σ _ _ e s' I2 hq'
 | ok fl =>
  cases fl with
  | ret u =>
   obtain⟨v,H',I3,rv,ev,q3⟩:=I2.after hq'
   subst ev
   exact⟨rv,⟨V.ref (s.heap.objs.size+1),H',I3,rfl,q3⟩⟩
  | next=>exact False.elim hq'
  | brk=>exact False.elim hq'
  | cont=>exact False.elim hq'
theorem Yd (M:Mk X.K C f)(F:FnOk X.prog X.w X.K X.mg X.base CX k f fd ps sp)(hr:Room (k+1) X.A)(hg:Gl X x)(hm:X.mg x=some (.ref C))(hb:Binds X.K fd ps ds)(hd:Vals dvs ds)(hx:IL CX X E)
  (ha:PA X (e::es) t) (hdb:(x == ("__debug__" : Str))=false:=by decide) (he:starEach (e::es) X.env=(false,eval e X.env)::starEach es X.env:=by rfl) (hpl:(backTo pos (starEach es X.env)).any (·.1)=false:=by rfl) :
  PE X (.Call (.Name x p) (e::es) [] pos) (Cs_ C sp dvs E t):=by
 intro pins s σ H Q I h
 refine wpAny_Call_Name_kw (NY I hg hm ?_ hdb)
 refine PySem.W.callWith_K (h₀:=X.base) I.ok.mod.kin M.kp (thn (ha pos pins s σ H _ I h) fun us s1 ⟨vs,H1,I1,r,q⟩=>⟨I1.kIn,?_⟩) he hpl
 exact Zz M F hr hb hd hx I1 r q
end
structure FnScope (N P:List Str)(sc:Scope):Prop where
 kind:sc.kind=.function
 co:sc.isCoroutine=false
 gen:sc.isGenerator=false
 nd:N.Nodup
 pre:N.take P.length=P
 par:∀ x∈P,sc.names.lookup x=some .local\/sc.names.lookup x=some .cell
 nofree:∀ y∈sc.names,y.2 ≠ .free
theorem T4 {kindOf:Str->Option NameKind}{x:Str}:∀ {binds:List (Str×Value)} {m:Str->Option Value},(∀ v,(x,v)∉binds)->bindL kindOf binds m x=m x
 | [],_,_=>rfl
 | (n,v)::r,m,h=>by
  unfold bindL
  rw[T4 fun w hw=>h w (List.mem_cons_of_mem _ hw)]
  split
  ·have:x≠n:=by rintro rfl;exact h v List.mem_cons_self
   simp[this]
  ·rfl
theorem T5 {kindOf:Str->Option NameKind}{x:Str}:∀ {binds:List (Str×Value)} {m:Str->Option Value},(∀ v,(x,v)∉binds)->bindC kindOf binds m x=m x
 | [],_,_=>rfl
 | (n,v)::r,m,h=>by
  unfold bindC
  rw[T5 fun w hw=>h w (List.mem_cons_of_mem _ hw)]
  split
  ·rfl
  ·have:x≠n:=by rintro rfl;exact h v List.mem_cons_self
   simp[this]
theorem T6 {kindOf:Str->Option NameKind}{x:Str}{v:Value}:∀ {P:List Str} {vs:List Value} {i:Nat} {m:Str->Option Value},P.Nodup->P[i]?=some x->vs[i]?=some v->kindOf x=some .local ->
  bindL kindOf (P.zip vs) m x=some v
 | [],_,_,_,_,h,_,_=>by simp at h
 | _::_,[],_,_,_,_,h,_=>by simp at h
 | p::P,w::vs,0,m,nd,h1,h2,hk=>by
  simp at h1 h2;subst h1;subst h2
  show bindL kindOf ((p,w)::P.zip vs) m p=_
  unfold bindL
  rw[T4 fun v hv=>(List.nodup_cons.mp nd).1 (List.of_mem_zip hv).1,if_pos hk]
  simp
 | p::P,w::vs,i+1,m,nd,h1,h2,hk=>by
  show bindL kindOf ((p,w)::P.zip vs) m x=_
  unfold bindL
  exact T6 (i:=i) (List.nodup_cons.mp nd).2 (by simpa using h1) (by simpa using h2) hk
theorem T7 {kindOf:Str->Option NameKind}{x:Str}{v:Value}:∀ {P:List Str} {vs:List Value} {i:Nat} {m:Str->Option Value},P.Nodup->P[i]?=some x->vs[i]?=some v->kindOf x≠some .local ->
  bindC kindOf (P.zip vs) m x=some v
 | [],_,_,_,_,h,_,_=>by simp at h
 | _::_,[],_,_,_,_,h,_=>by simp at h
 | p::P,w::vs,0,m,nd,h1,h2,hk=>by
  simp at h1 h2;subst h1;subst h2
  show bindC kindOf ((p,w)::P.zip vs) m p=_
  unfold bindC
  rw[T5 fun v hv=>(List.nodup_cons.mp nd).1 (List.of_mem_zip hv).1,if_neg hk]
  simp
 | p::P,w::vs,i+1,m,nd,h1,h2,hk=>by
  show bindC kindOf ((p,w)::P.zip vs) m x=_
  unfold bindC
  exact T7 (i:=i) (List.nodup_cons.mp nd).2 (by simpa using h1) (by simpa using h2) hk
def start (N:List Str)(vs:List V):St:=vs.map some++List.replicate (N.length-vs.length) none
def cxOf (CX:CXT)(P:Program)(w:World)(K:PySem.W.Frag)(mg:Str->Option Value)(base:Heap)(N:List Str)(qual:Str)(scope:Scope)(f:Addr)(cd:Value)(A:Around)(outer:List Env)(s:Shared)(H:Hp)(E:XK):Cx where
 prog:=P
 w:=w
 K:=K
 mg:=mg
 base:=base
 A:=A.deeper (envOfC qual scope s.heap.objs.size f cd)
 N:=N
 s₀:=s
 H₀:=H
 env:=envOfC qual scope s.heap.objs.size f cd
 outer:=outer
 stack:=envOfC qual scope s.heap.objs.size f cd::outer
 ex:=[]
 calm:=true
 fn:=fun _=>true
 pn:=[]
 xe:=fun e s'=>wpAny (model P w) (A.deeper (envOfC qual scope s.heap.objs.size f cd)) (leaving (envOfC qual scope s.heap.objs.size f cd) e) (fun _ s''=>CX outer H s E e s'') (fun e' s''=>CX outer H s E e' s'') s'
theorem Wi {sc:Scope}{n:Nat}{x:Str}(h:sc.names.lookup x=some .cell):∃ c,(cellsFrom n sc.names []).lookup x=some c:=by
 have q:=PySem.W.cellsFrom_some sc.names n [] (.inl h)
 exact Option.isSome_iff_exists.mp q
theorem Ye {CX:CXT}{P:Program}{w:World}{K:PySem.W.Frag}{mg:Str->Option Value}{base:Heap}{N ps:List Str}{qual:Str}{scope:Scope}{f:Addr}{cd:Value}{A:Around}{outer:List Env}{s s1:Shared}{H:Hp}{E:XK}{us:List Value}{vs:List V}
  (S:FnScope N ps scope) (hd:A.handled=none) (e0:Env0 P w K mg base A outer s H) (hl:vs.length=ps.length) (r:Vals vs us)
  (x:InCallC s s.heap.objs.size (bindL (envOfC qual scope s.heap.objs.size f cd).kindOf (ps.zip us) fun _=>none) (cellsFrom (s.heap.objs.size+1) scope.names []) (bindC (envOfC qual scope s.heap.objs.size f cd).kindOf (ps.zip us) fun _=>none) s1) :
  Inv (cxOf CX P w K mg base N qual scope f cd A outer s H E) [] (start N vs) H s1:=by
 have hpl:ps.length<=N.length:=by have:=congrArg List.length S.pre;rw[List.length_take] at this;omega
 obtain⟨h1,tk,rfl,hk⟩:=x.done
 have noA:∀ b:Addr,b∉(cxOf CX P w K mg base N qual scope f cd A outer s H E).ex:=fun b z=>absurd (show b∈([]:List Addr) from z) (by simp)
 refine⟨⟨e0.mod,S.kind,rfl,rfl,Nat.le_refl _,fun y z c h1 h2=>?_,fun y hy=>?_,fun y c _ h=>?_,fun _=>hd,Around.frames_deeper e0.frames,.inr ⟨rfl,rfl⟩,fun b z=>absurd z (noA b),e0.bs,e0.bsz,fun b _ _=>noA b,fun b z=>absurd z (noA b),e0.funs,e0.frf⟩,
  rfl,e0.bare,Un.kept hk,⟨_,x.toInCall.ns,fun i y v h1 h2 h3=>?_⟩,fun y c h=>⟨_,x.cell y c h⟩,e0.hok.fresh (Nat.le_refl _),fun y c h=>?_,fun p hp=>absurd (show p∈([]:List (Addr×Obj)) from hp) (by simp),e0.hok.kept hk,?_⟩
 ·exact name_of_addr x.apart (PySem.mem_of_lookup h1) (PySem.mem_of_lookup h2)
 ·have hy:scope.names.lookup y=some .cell\/scope.names.lookup y=some .free:=hy
  rcases hy with hy | hy
  ·exact Wi hy
  ·exact absurd rfl (S.nofree _ (PySem.mem_of_lookup hy))
 ·exact Nat.le_of_lt (x.above y c (PySem.mem_of_lookup h))
 ·have hi:i<vs.length:=by
   unfold start at h2
   by_cases hi:i<vs.length
   ·exact hi
   ·rw[List.getElem?_append_right (by simpa using hi)] at h2
    rw[List.getElem?_replicate] at h2
    split at h2<;>cases h2
  have ha:vs[i]?=some v:=by
   unfold start at h2
   rw[List.getElem?_append_left (by simpa using hi),List.getElem?_map] at h2
   cases e:vs[i]? with
   | none=>rw[e] at h2;cases h2
   | some a=>rw[e] at h2;cases h2;rfl
  obtain⟨u,hu,rv⟩:=r.get ha
  have hp:ps[i]?=some y:=by
   rw[<- S.pre,List.getElem?_take_of_lt (by omega)];exact h1
  have ndP:ps.Nodup:=by rw[<- S.pre];exact S.nd.sublist (List.take_sublist _ _)
  refine⟨u,rv,?_⟩
  rcases S.par y (List.mem_of_getElem? hp) with k | k
  ·exact .inl ⟨k,T6 ndP hp hu k⟩
  ·obtain⟨c,e⟩:=Wi (n:=s.heap.objs.size+1) k
   refine .inr ⟨.inl k,c,e,?_⟩
   have q:=x.cell y c e
   rw[T7 ndP hp hu (by show scope.names.lookup y≠_;rw[k];decide)] at q
   exact q
 ·exact e0.hok.fresh (Nat.le_of_lt (x.above y c (PySem.mem_of_lookup h)))
 ·unfold start
  show _=N.length
  rw[List.length_append,List.length_map,List.length_replicate]
  omega
theorem Ct_ {CX:CXT}{P:Program}{w:World}{K:PySem.W.Frag}{mg:Str->Option Value}{base:Heap}{k:Nat}{f:Addr}{name qual:Str}{params:Arguments}{body:List Stmt}{scope:Scope}{dV kV doc pm cdv ct oc:Value}{an od:Option Addr}
  {osl:Array (Option Value)} {N ps:List Str} {sp:Sp} (lk:K.lookup f=some ⟨oc,od,.func (PySem.W.fnOf name qual params body scope dV kV doc pm an cdv ct),osl⟩) (hcd:PySem.W.codeIn K cdv qual=true) (S:FnScope N ps scope)
  (len:∀ vs H Q E,sp vs H Q E->vs.length=ps.length)
  (hbody:∀ (A:Around) (outer:List Env) (s:Shared) (H:Hp) (vs:List V) (Q:VK) (E:XK),Room k (A.deeper (envOfC qual scope s.heap.objs.size f cdv))->sp vs H Q E ->
   ∃ t,PSs (cxOf CX P w K mg base N qual scope f cdv A outer s H E) body t/\t {nx:=fun _ H'=>Q .non H',rt:=Q} (start N vs) H) :
  FnOk P w K mg base CX (k+1) f (PySem.W.fnOf name qual params body scope dV kV doc pm an cdv ct) ps sp:=by
 refine⟨len,fun A outer s H args us vs Q E hr e0 hb r hsp=>?_⟩
 have hl:=len _ _ _ _ hsp
 have KX:K.In s.heap:=e0.mod.kin.keeps fun b o e=>(e0.bs b o e).1
 have lim:s.heap.NoLimit:=e0.mod.nolimit.keeps fun b o e=>(e0.bs b o e).1
 have hkind:∀ y∈ps.zip us,scope.names.lookup y.1=some .local\/(scope.names.lookup y.1=some .cell/\((cellsFrom (s.heap.objs.size+1) scope.names []).lookup y.1).isSome=true):=fun ⟨n,v⟩ hy=>by
  rcases S.par n (List.of_mem_zip hy).1 with q | q
  ·exact .inl q
  ·exact .inr ⟨q,PySem.W.cellsFrom_some _ _ _ (.inl q)⟩
 refine codeAny_call_function hr.depth (KX _ _ lk) rfl S.co S.gen rfl (PySem.W.codeRec_of KX hcd) (hb _ _ _ _ ?_)
 refine wpAny_newFunctionEnv_cells S.kind hkind fun env he s1 x=>?_
 subst he
 refine⟨lim.keeps x.toInCall.keep,codeAny_func ?_⟩
 obtain⟨t,ht,hq⟩:=hbody A outer s H vs Q E (hr.deeper _) hsp
 have I:Inv (cxOf CX P w K mg base N qual scope f cdv A outer s H E) [] (start N vs) H s1:=Ye S hr.hd e0 hl r x
 refine wpAny_mono (ht [] s1 (start N vs) H _ I hq) (fun fl s' hs=>?_) fun e s' hs=>hs
 have fin:∀ {σ':St} {H':Hp} {v:V} {u:Value},Inv (cxOf CX P w K mg base N qual scope f cdv A outer s H E) [] σ' H' s'->RelV v u->Q v H'->CE outer P w H s Q u s' :=
  fun {σ' H' v u} J rv q=>⟨v,H',J.os,J.bare,J.base,J.hok,rv,q⟩
 cases fl with
 | ret u =>
  obtain⟨v,σ',H',J,rv,q⟩:=hs
  exact fin J rv q
 | next =>
  obtain⟨σ',H',J,q⟩:=hs
  exact fin (v:=V.non) (u:=Value.none) J rfl q
 | brk =>
  obtain⟨_,_,_,q⟩:=hs
  exact False.elim q
 | cont =>
  obtain⟨_,_,_,q⟩:=hs
  exact False.elim q
end L2
namespace L2
open PySem PySem.Spec PyProof.Rows
section
variable {X:Cx} {x:Str} {p pos:Pos} {e:Expr} {es:List Expr} {t:TA} {id T:String} {r:List V->Hp->VK->Prop}
def tCB (r:List V->Hp->VK->Prop)(t:TA):TE:=fun σ H Q=>t σ H fun vs H1=>r vs H1 Q
theorem AZ (hc:IJ X (.builtin id) r)(hg:Gl X x)(hm:X.mg x=none)(hv:bootBuiltins x=some (.builtin id))(ha:PA X (e::es) t)(hn:x ≠ "__name__" := by decide)(hdb:(x == ("__debug__" : Str))=false:=by decide)
  (he:starEach (e::es) X.env=(false,eval e X.env)::starEach es X.env:=by rfl) (hpl:(backTo pos (starEach es X.env)).any (·.1)=false:=by rfl):PE X (.Call (.Name x p) (e::es) [] pos) (tCB r t):=by
 intro pins s σ H Q I h
 refine wpAny_Call_Name_kw (TZ I hg hm hv ?_ hn hdb)
 exact PyProof.Rows.callWith_builtin1 (thn (ha pos pins s σ H _ I h) fun us s1 ⟨vs,H1,I1,r1,q1⟩=>hc pins s1 σ H1 vs us Q I1 r1 q1) he hpl
theorem Ca (hc:IJ X (.type T) r)(hg:Gl X x)(hm:X.mg x=none)(hv:bootBuiltins x=some (.type T))(ha:PA X (e::es) t)(hn:x ≠ "__name__" := by decide)(hdb:(x == ("__debug__" : Str))=false:=by decide)
  (he:starEach (e::es) X.env=(false,eval e X.env)::starEach es X.env:=by rfl) (hpl:(backTo pos (starEach es X.env)).any (·.1)=false:=by rfl):PE X (.Call (.Name x p) (e::es) [] pos) (tCB r t):=by
 intro pins s σ H Q I h
 refine wpAny_Call_Name_kw (TZ I hg hm hv ?_ hn hdb)
 exact PyProof.Rows.callWith_type1 (thn (ha pos pins s σ H _ I h) fun us s1 ⟨vs,H1,I1,r1,q1⟩=>hc pins s1 σ H1 vs us Q I1 r1 q1) he hpl
end
end L2
namespace HT
open PySem PyProof.Rows
section
variable {prog:Program} {w:World} {A:Around} {E:Value->Shared->Prop} {s:Shared}
theorem cat_tup {t b:Addr}{vs ws:List Value}{Q:Value->Shared->Prop}(ht:IsTup s.heap t vs.toArray)(hb:IsTup s.heap b ws.toArray)(hv:vs ≠ [])
  (h1:ws=[]->Q (.ref t) s) (h2:ws ≠ []->Q (.ref s.heap.objs.size) {s with heap:=s.heap.push {cls:=.type "tuple",data:=.seq (vs++ws).toArray} })
  (hsz:vs.length+ws.length<=sizeLine):wpAny (model prog w) A (binaryOp .Add (.ref t) (.ref b)) Q E s:=by
 obtain⟨⟨cls,dd,data,sl⟩,ho,hc,n,hd⟩:=id ht
 obtain⟨⟨cls2,dd2,data2,sl2⟩,ho2,hc2,n2,hd2⟩:=id hb
 simp only at hc hd hc2 hd2
 subst hc hd hc2 hd2
 have e:vs.toArray++ws.toArray=(vs++ws).toArray:=by simp
 by_cases hw:ws=[]
 ·exact concat_meets ⟨_,ho,rfl⟩ ⟨_,ho2,rfl⟩ noFill_tuple_add seq_tuple_add PySem.F.slot_tuple_add PySem.F.entry_tuple_add (PySem.F.args_tuple_add_2 _ _)
   (tuple_addW1 t b vs.toArray ws.toArray n n2 dd dd2 sl sl2 (by simpa using hv) (by simp[hw])) ⟨ho,ho2,h1 hw⟩
 ·refine concat_meets ⟨_,ho,rfl⟩ ⟨_,ho2,rfl⟩ noFill_tuple_add seq_tuple_add PySem.F.slot_tuple_add PySem.F.entry_tuple_add (PySem.F.args_tuple_add_2 _ _)
   (tuple_addW2 t b vs.toArray ws.toArray n n2 dd dd2 sl sl2 (by simpa using hv) (by simpa using hw) (by rw[List.size_toArray,List.size_toArray];exact hsz)) ⟨ho,ho2,?_⟩
  rw[e]
  exact h2 hw
def sIx (n d:Nat):Option Int->Nat
 | none=>d
 | some v=>if v<0 then (v+(n:Int)).toNat else min v.toNat n
theorem sIx_none (n d:Nat):sIx n d none=d:=rfl
theorem sIx_nat (n d k:Nat):sIx n d (some (k:Int))=min k n:=by
 show (if (k:Int)<0 then ((k:Int)+(n:Int)).toNat else min (k:Int).toNat n)=min k n
 rw[if_neg (by omega),Int.toNat_natCast]
theorem Cu_ (n d:Nat)(hd:d<=n)(o:Option Int):sIx n d o<=n:=by
 cases o with
 | none=>exact hd
 | some v =>
  show (if v<0 then (v+(n:Int)).toNat else min v.toNat n)<=n
  by_cases hv:v<0
  ·rw[if_pos hv];omega
  ·rw[if_neg hv];exact Nat.min_le_right _ _
theorem Yf (v:Int)(n d:Nat):(if v<0 then max (v+(n:Int)) 0 else min v (n:Int))=((sIx n d (some v):Nat):Int):=by
 show (if v<0 then max (v+(n:Int)) 0 else min v (n:Int))=(((if v<0 then (v+(n:Int)).toNat else min v.toNat n):Nat):Int)
 by_cases hv:v<0
 ·simp only[if_pos hv];omega
 ·simp only[if_neg hv];omega
theorem W5 (lo hi:Option Int)(n:Nat):Builtin.Slice.sliceAdjust lo hi 1 (n:Int)=(((sIx n 0 lo:Nat):Int),((sIx n n hi:Nat):Int)):=by
 have h1:¬ ((1:Int)<0):=by omega
 unfold Builtin.Slice.sliceAdjust
 simp only[h1,if_false]
 refine Prod.ext ?_ ?_
 ·cases lo with
  | none=>rfl
  | some v=>exact Yf v n 0
 ·cases hi with
  | none=>rfl
  | some v=>exact Yf v n n
theorem W6 (i j:Nat):Builtin.Slice.slicePlaces (i:Int) (j:Int) 1=j-i:=by
 unfold Builtin.Slice.slicePlaces
 have h1:(1:Int) > 0:=by omega
 simp only[h1,if_true,Int.ediv_one]
 split<;>omega
theorem Rw {v:Value}{o:Option Int}{Q:Option Int->Shared->Prop}(p:IsPart v o)(h:Q o s):wpAny (model prog w) A (Builtin.Slice.slicePartIndex v) Q E s:=by
 cases p with
 | none=>exact slicePart_none h
 | int i t=>exact slicePart_int h
theorem Nt {sl:Addr}{vl vu:Value}{lo hi:Option Int}{n:Nat}{Q:Int×Int×Nat->Shared->Prop}(hs:s.heap.IsSliceOf sl vl vu .none)(pl:IsPart vl lo)(pu:IsPart vu hi)
  (h:Q (((sIx n 0 lo:Nat):Int),1,sIx n n hi-sIx n 0 lo) s):wpAny (model prog w) A (Builtin.Slice.sliceApplied (.ref sl) (pure (n:Int))) Q E s:=by
 obtain⟨os,hos,hcs,hds⟩:=id hs
 unfold Builtin.Slice.sliceApplied Builtin.Slice.sliceFields
 refine wpAny_bind (wpAny_bind (wpAny_field hos hds (x:=vl) rfl (wpAny_bind (wpAny_field hos hds (x:=vu) rfl (wpAny_bind (wpAny_field hos hds (x:=.none) rfl (wpAny_pure ?_)))))))
 refine wpAny_bind (slicePart_none ?_)
 show wpAny _ _ (if ((1:Int) == 0)=true then _ else _) _ _ s
 rw[if_neg (by decide)]
 refine wpAny_bind (Rw pl (wpAny_bind (Rw pu (wpAny_bind (wpAny_pure ?_)))))
 show wpAny _ _ (match Builtin.Slice.sliceAdjust lo hi 1 (n:Int) with | (lo,hi)=>pure (lo,(1:Int),Builtin.Slice.slicePlaces lo hi 1)) _ _ s
 rw[W5 lo hi n]
 show wpAny _ _ (pure (((sIx n 0 lo:Nat):Int),(1:Int),Builtin.Slice.slicePlaces ((sIx n 0 lo:Nat):Int) ((sIx n n hi:Nat):Int) 1)) _ _ s
 rw[W6]
 exact wpAny_pure h
theorem ZA (xs:Array Value)(i k:Nat):((List.range k).filterMap fun (m:Nat)=>xs[((i:Int)+(m:Int)*1).toNat]?).toArray=((xs.toList.drop i).take k).toArray:=by
 have e:(fun (m:Nat)=>xs[((i:Int)+(m:Int)*1).toNat]?)=fun m=>xs[i+m]?:=by
  funext m
  have:((i:Int)+(m:Int)*1).toNat=i+m:=by omega
  rw[this]
 rw[e]
 have:=pick_run xs i k
 rw[List.filterMap_map] at this
 have e2:((fun x=>xs[x]?) ∘ fun x=>i+x)=fun m=>xs[i+m]?:=rfl
 rw[e2] at this
 rw[this]
theorem getItem_tuple_cut {t sl:Addr}{items:Array Value}{vl vu:Value}{lo hi:Option Int}{Q:Value->Shared->Prop}(ht:IsTup s.heap t items)(hs:s.heap.IsSliceOf sl vl vu .none)(pl:IsPart vl lo)(pu:IsPart vu hi)
  (hw:¬ (sIx items.size 0 lo=0/\sIx items.size items.size hi=items.size))
  (h:Q (.ref s.heap.objs.size) {s with heap:=s.heap.push {cls:=.type "tuple",data:=.seq ((items.toList.drop (sIx items.size 0 lo)).take (sIx items.size items.size hi-sIx items.size 0 lo)).toArray} })
  (hsz:items.size<=sizeLine):wpAny (model prog w) A (getItem (.ref t) (.ref sl)) Q E s:=by
 have htake:sizeOk (.seq ((items.toList.drop (sIx items.size 0 lo)).take (sIx items.size items.size hi-sIx items.size 0 lo)).toArray):=by
  show ((items.toList.drop (sIx items.size 0 lo)).take (sIx items.size items.size hi-sIx items.size 0 lo)).toArray.size<=sizeLine
  rw[List.size_toArray,List.length_take,List.length_drop,Array.length_toList]
  omega
 have hj:sIx items.size items.size hi<=items.size:=Cu_ _ _ (Nat.le_refl _) hi
 obtain⟨os,hos,hcs,hds⟩:=id hs
 have hTs:s.TypeIs (.ref sl) "slice" := ⟨os,hos,hcs⟩
 unfold getItem
 try with_reducible refine wpAny_holding ?_
 first | refine wpAny_bind (wpAny_pure ?_) | skip
 refine wpAny_bind (wpAny_sequenceKey ht.typeIs (by decide) ?_)
 refine wpAny_bind (wpAny_callSpecial?_slot (name:=Str.ofString "__getitem__") ht.typeIs PyProof.Rows.slot_tuple_getitem
  (wpAny_call_entry PyProof.Rows.slot_tuple_getitem ht.typeIs entry_tuple_getitem ?_ (args_tuple_getitem _ _)))
 show wpAny _ _ (Builtin.Tuple.tupleItemsOf (.ref t) >>= _) _ _ s
 refine wpAny_bind (tupleItemsOf_ ht ?_)
 refine wpAny_bind (wpAny_typeOf hTs ?_)
 rw[if_pos (by decide)]
 refine wpAny_bind (Nt hs pl pu ?_)
 have hno:¬ ((((sIx items.size 0 lo:Nat):Int) == 0&&(1:Int) == 1&&(sIx items.size items.size hi-sIx items.size 0 lo) == items.size)=true):=by
  intro q
  rw[Bool.and_eq_true,Bool.and_eq_true] at q
  have q1:((sIx items.size 0 lo:Nat):Int)=0:=eq_of_beq q.1.1
  have q2:sIx items.size items.size hi-sIx items.size 0 lo=items.size:=eq_of_beq q.2
  exact hw ⟨by omega,by omega⟩
 show wpAny _ _ (if (((sIx items.size 0 lo:Nat):Int) == 0&&(1:Int) == 1&&(sIx items.size items.size hi-sIx items.size 0 lo) == items.size)=true then _ else _) _ _ s
 rw[if_neg hno,ZA]
 first
  | exact wpAny_bind (m:=Builtin.Tuple.tupleExact _) (wpAny_newObj_type (wpAny_pure ⟨_,rfl,wpAny_pure h⟩) htake)
  | exact wpAny_bind (m:=Builtin.Tuple.tupleExact _) (wpAny_newObj_type (wpAny_bind (wpAny_pure (wpAny_pure ⟨_,rfl,wpAny_pure h⟩))) htake)
  | exact wpAny_bind (wpAny_bind (m:=Builtin.Tuple.tupleExact _) (wpAny_newObj_type (wpAny_pure (wpAny_pure ⟨_,rfl,wpAny_pure h⟩)) htake))
  | exact wpAny_bind (wpAny_bind (m:=Builtin.Tuple.tupleExact _) (wpAny_newObj_type (wpAny_pure ⟨_,rfl,wpAny_pure h⟩) htake))
end
end HT
namespace L2
open PySem PySem.Spec PyProof.Rows
abbrev TO:=St->Hp->(Option Int->Hp->Prop)->Prop
def PO (X:Cx)(e:Option Expr)(t:TO):Prop :=
 ∀ (pins:List (Addr×Obj)) (s:Shared) (σ:St) (H:Hp) (Q:Option Int->Hp->Prop),Inv X pins σ H s->t σ H Q ->
  wpAny (model X.prog X.w) X.A (evalPart e X.env) (fun u s'=>∃ o H',Inv X pins σ H' s'/\IsPart u o/\Q o H') X.xe s
def Yg:TO:=fun _ H Q=>Q none H
def Cv_ (t:TE):TO:=fun σ H Q=>t σ H fun x H1=>∃ i,x=.int i/\Q (some i) H1
theorem intsAre_of {ns:List Int}:∀ {us:List Value},Vals (ns.map V.int) us->IntsAre us ns:=by
 induction ns with
 | nil=>intro us r;rw[List.map_nil] at r;cases r;exact .nil
 | cons n ns ih =>
  intro us r
  rw[List.map_cons] at r
  cases r with
  | cons r1 r2 =>
   obtain⟨t,e⟩:=r1
   subst e
   exact .cons n t (ih r2)
section
variable {X:Cx} {e:Expr} {te:TE} {lo hi:Option Expr} {tl th:TO} {pos p2:Pos}
theorem U7:PO X none Yg:=by
 intro pins s σ H Q I h
 rw[evalPart_none]
 exact wpAny_pure ⟨none,H,I,.none,h⟩
theorem N4 (h:PE X e te):PO X (some e) (Cv_ te):=by
 intro pins s σ H Q I hw
 rw[evalPart_some]
 refine thn (h pins s σ H _ I hw) fun u s1 ⟨x,H1,I1,r1,q1⟩=>?_
 obtain⟨i,rfl,q⟩:=q1
 obtain⟨t,rfl⟩:=r1
 exact⟨some i,H1,I1,.int i t,q⟩
def SlR (X:Cx)(r:V->Option Int->Option Int->Hp->VK->Prop):Prop :=
 ∀ (pins:List (Addr×Obj)) (s:Shared) (σ:St) (H:Hp) (x:V) (v vl vu:Value) (lo hi:Option Int) (sl:Addr) (Q:VK),Inv X pins σ H s->RelV x v->s.heap.IsSliceOf sl vl vu .none->IsPart vl lo->IsPart vu hi->r x lo hi H Q ->
  ∃ T id,typeLookup (.type T) "__getitem__" = pure (some (.builtin id))/\s.TypeIs v T/\wpAny (model X.prog X.w) X.A (getItem v (.ref sl)) (EP X pins σ Q) X.xe s
def tSl (r:V->Option Int->Option Int->Hp->VK->Prop)(te:TE)(tl th:TO):TE:=fun σ H Q=>te σ H fun x H1=>tl σ H1 fun l H2=>th σ H2 fun u H3=>r x l u H3 Q
theorem NP {r:V->Option Int->Option Int->Hp->VK->Prop}(hr:SlR X r)(he:PE X e te)(hl:PO X lo tl)(hu:PO X hi th):PE X (.Subscript e (.Slice lo hi none p2) pos) (tSl r te tl th):=by
 intro pins s σ H Q I h
 refine Subscript_ (thn (he pins s σ H _ I h) fun v s1 ⟨x,H1,I1,r1,q1⟩=>?_)
 refine wpAny_Slice (thn (hl pins s1 σ H1 _ I1 q1) fun vl s2 ⟨l,H2,I2,pl,q2⟩=>thn (hu pins s2 σ H2 _ I2 q2) fun vu s3 ⟨u,H3,I3,pu,q3⟩=>?_)
 rw[evalPart_none]
 refine wpAny_pure ?_
 have I4:Inv X pins σ H3 {s3 with heap:=s3.heap.push {cls:=.type "slice",data:=.fields #[vl,vu,.none]} }:=I3.kept (t':=s3.toks) fun b ob q=>Heap.get?_push_of_some _ q
 obtain⟨T,id,hT,ht,hg⟩:=hr pins {s3 with heap:=s3.heap.push {cls:=.type "slice",data:=.fields #[vl,vu,.none]} } σ H3 x v vl vu l u s3.heap.objs.size Q I4 r1 (Heap.IsSliceOf.new ..) pl pu q3
 show wpAny (model X.prog X.w) X.A (subscriptTail e (.Slice lo hi none p2) v (.ref s3.heap.objs.size)) (EP X pins σ Q) X.xe {s3 with heap:=s3.heap.push {cls:=.type "slice",data:=.fields #[vl,vu,.none]} }
 exact tail_any (ops:=[.ref s3.heap.objs.size,v]) ht hT hg (by with_unfolding_all rfl)
def cutV (xs:List V)(lo hi:Option Int):List V:=(xs.drop (HT.sIx xs.length 0 lo)).take (HT.sIx xs.length xs.length hi-HT.sIx xs.length 0 lo)
theorem N5 (xs:List V)(lo hi:Option Int):(cutV xs lo hi).length<=xs.length:=by
 unfold cutV
 rw[List.length_take,List.length_drop]
 omega
def rSlT (K:PySem.W.Frag):V->Option Int->Option Int->Hp->VK->Prop:=fun x lo hi H Q=>∃ a xs,x=.ref a/\SqT K H a xs /\
 ¬ (HT.sIx xs.length 0 lo=0/\HT.sIx xs.length xs.length hi=xs.length)/\∀ p,H p=none->Q (.ref p) (upd H p (.tup (cutV xs lo hi)))
theorem Yh:SlR X (rSlT X.K):=by
 intro pins s σ H x v vl vu lo hi sl Q I rx hs pl pu h
 obtain⟨a,xs,rfl,hx,hw,q⟩:=h
 cases rx
 obtain⟨its,r,ht,hz⟩:=I.tuple hx
 have hlen:its.toArray.size=xs.length:=by rw[List.size_toArray];exact r.length.symm
 refine⟨"tuple",_,PyProof.Rows.slot_tuple_getitem.lookup,ht.typeIs,?_⟩
 refine HT.getItem_tuple_cut ht hs pl pu (by rw[hlen];exact hw) ?_ (by rw[hlen];exact hz)
 rw[hlen]
 refine⟨.ref s.heap.objs.size,_,I.laid (t':=s.toks) (o:=.tup (cutV xs lo hi)) (fun b ob q=>Heap.get?_push_of_some _ q) (Nat.le_refl _) ?_,rfl,q _ (I.hok.fresh (Nat.le_refl _))⟩
 exact⟨Nat.le_trans (N5 xs lo hi) hz,_,(r.drop (HT.sIx xs.length 0 lo)).take (HT.sIx xs.length xs.length hi-HT.sIx xs.length 0 lo),IsTup.new _ _⟩
def Dv_ (K:PySem.W.Frag):R2:=fun x y H Q=>∃ a b xs ys,x=.ref a/\y=.ref b/\SqT K H a xs/\SqT K H b ys/\xs ≠ []/\xs.length+ys.length<=sizeLine /\
 (ys=[]->Q (.ref a) H)/\(ys ≠ []->∀ p,H p=none->Q (.ref p) (upd H p (.tup (xs++ys))))
theorem Vals.nil_iff {xs:List V}{us:List Value}(r:Vals xs us):us=[]↔xs=[]:=by
 cases r with
 | nil=>simp
 | cons _ _=>simp
theorem Bw_:OpR X (binaryOp .Add) (Dv_ X.K):=by
 intro pins s σ H x y v u Q I rx ry h
 obtain⟨a,b,xs,ys,rfl,rfl,ha,hb,hx,hz,q1,q2⟩:=h
 cases rx
 cases ry
 obtain⟨its,r1,p1,_⟩:=I.tuple ha
 obtain⟨its2,r2,p2,_⟩:=I.tuple hb
 refine HT.cat_tup p1 p2 (fun z=>hx (r1.nil_iff.mp z)) (fun z=>⟨.ref a,H,I,rfl,q1 (r2.nil_iff.mp z)⟩) (fun z=>?_) (by rw[<- r1.length,<- r2.length];exact hz)
 refine⟨.ref s.heap.objs.size,_,I.laid (t':=s.toks) (o:=.tup (xs++ys)) (fun b ob q=>Heap.get?_push_of_some _ q) (Nat.le_refl _) ?_,rfl,q2 (fun w=>z (r2.nil_iff.mpr w)) _ (I.hok.fresh (Nat.le_refl _))⟩
 exact⟨by rw[List.length_append];exact hz,_,r1.append r2,IsTup.new _ _⟩
end
end L2
namespace L2
open PySem PySem.Spec PyProof.Rows
def ixN (n:Nat)(i:Int):Option Nat:=if 0<=i then (if i<n then some i.toNat else none) else if -(n:Int)<=i then some (i+n).toNat else none
def atI {α:Type}(xs:List α)(i:Int):Option α:=(ixN xs.length i).bind fun j=>xs[j]?
theorem Yi {n:Nat}{i:Int}{j:Nat}(h:ixN n i=some j):seqIndex? i n=some j/\j<n /\ -(n:Int)<=i/\i<n:=by
 unfold ixN at h
 by_cases h0:0<=i
 ·rw[if_pos h0] at h
  by_cases h1:i<n
  ·rw[if_pos h1] at h
   have e:i.toNat=j:=Option.some.inj h
   exact⟨by rw[seqIndex_of h0 h1,e],by omega,by omega,h1⟩
  ·rw[if_neg h1] at h;cases h
 ·rw[if_neg h0] at h
  by_cases h1 : -(n:Int)<=i
  ·rw[if_pos h1] at h
   have e:(i+n).toNat=j:=Option.some.inj h
   exact⟨by rw[seqIndex_neg (by omega) h1,e],by omega,h1,by omega⟩
  ·rw[if_neg h1] at h;cases h
theorem Yj {α:Type}{xs:List α}{i:Int}{v:α}(h:atI xs i=some v):∃ j,seqIndex? i xs.length=some j/\xs[j]?=some v/\j<xs.length /\ -(xs.length:Int)<=i/\i<xs.length:=by
 unfold atI at h
 cases e:ixN xs.length i with
 | none=>rw[e] at h;cases h
 | some j =>
  rw[e] at h
  obtain⟨h1,h2,h3,h4⟩:=Yi e
  exact⟨j,h1,h,h2,h3,h4⟩
theorem Mg {α:Type}{xs:List α}{j:Nat}{v:α}(h:xs[j]?=some v):atI xs (j:Int)=some v:=by
 have hj:j<xs.length:=(List.getElem?_eq_some_iff.mp h).1
 have e:ixN xs.length (j:Int)=some j:=by
  unfold ixN
  rw[if_pos (by omega),if_pos (by omega)];simp
 unfold atI;rw[e];exact h
def Bx_ (b:Expr):Prop:=∀ o i,subscripted b false o i=operate [o,i] (getItem o i)
def IxR (X:Cx)(r:R2):Prop :=
 ∀ (value slice:Expr) (pins:List (Addr×Obj)) (s:Shared) (σ:St) (H:Hp) (x y:V) (v u:Value) (Q:VK),Inv X pins σ H s->RelV x v->RelV y u->r x y H Q ->
  subscripted slice false v u=operate [v,u] (getItem v u)->wpAny (model X.prog X.w) X.A (subscriptTail value slice v u) (EP X pins σ Q) X.xe s
def MtR (X:Cx)(id:String)(r:V->List V->Hp->VK->Prop):Prop :=
 ∀ (pins:List (Addr×Obj)) (s:Shared) (σ:St) (H:Hp) (x:V) (xs:List V) (v:Value) (us:List Value) (Q:VK),Inv X pins σ H s->RelV x v->Vals xs us->r x xs H Q ->
  wpAny (model X.prog X.w) X.A (call (.builtin id) (v::us)) (EP X pins σ Q) X.xe s
section
variable {X:Cx} {a b:Expr} {ta tb:TE} {pos:Pos}
theorem AU {r:R2}(hr:IxR X r)(ha:PE X a ta)(hb:PE X b tb)(hs:Bx_ b):PE X (.Subscript a b pos) (tOp r ta tb):=by
 intro pins s σ H Q I h
 exact Subscript_ (binT ha hb I h fun v u s2 x y H2 I2 rx ry q=>hr a b pins s2 σ H2 x y v u Q I2 rx ry q (hs _ _))
def rIxL (K:PySem.W.Frag):R2:=fun x y H Q=>∃ p xs i v,x=.ref p/\y=.int i/\SqL K H p xs/\atI xs i=some v/\Q v H
def rIxT (K:PySem.W.Frag):R2:=fun x y H Q=>∃ p xs i v,x=.ref p/\y=.int i/\SqT K H p xs/\atI xs i=some v/\Q v H
theorem Fa:IxR X (rIxL X.K):=by
 intro value slice pins s σ H x y v u Q I rx ry h hs
 obtain⟨p,xs,i,z,rfl,rfl,hq,he,q⟩:=h
 cases rx
 obtain⟨t,rfl⟩:=ry
 obtain⟨its,r,pl,hz⟩:=I.list hq
 obtain⟨j,h1,h2,h3,h4,h5⟩:=Yj he
 obtain⟨w,ew,rw'⟩:=r.get h2
 have hl:=r.length
 have hn:=Wh
 have fin:EP X pins σ Q w s:=⟨z,H,I,rw',q⟩
 by_cases h0:0<=i
 ·have hj:i.toNat=j:=by
   rw[seqIndex_of h0 h5] at h1
   exact Option.some.inj h1
  exact item_listR pl.isList h0 (by omega) (by rw[hj];simpa using ew) fin hs
 ·have hj:(i+(its.toArray.size:Int)).toNat=j:=by
   rw[seqIndex_neg (by omega) h4] at h1
   rw[List.size_toArray,<- hl]
   exact Option.some.inj h1
  exact subscriptTail_builtinR (x:=w) pl.isList.typeIs slot_list_getitem.lookup
   (wpAny_getItem_list_neg (Q:=fun r s'=>r=w/\EP X pins σ Q r s') pl.isList (by omega) (by rw[List.size_toArray]<;>omega) (by omega) (by rw[hj];simpa using ew) ⟨rfl,fin⟩) hs
theorem AF:IxR X (rIxT X.K):=by
 intro value slice pins s σ H x y v u Q I rx ry h hs
 obtain⟨p,xs,i,z,rfl,rfl,hq,he,q⟩:=h
 cases rx
 obtain⟨t,rfl⟩:=ry
 obtain⟨its,r,pl,hz⟩:=I.tuple hq
 obtain⟨j,h1,h2,h3,h4,h5⟩:=Yj he
 obtain⟨w,ew,rw'⟩:=r.get h2
 have hl:=r.length
 have hn:=Wh
 have fin:EP X pins σ Q w s:=⟨z,H,I,rw',q⟩
 exact subscriptTail_builtinR (x:=w) pl.typeIs slot_tuple_getitem.lookup
  (getItem_tuple (j:=j) (Q:=fun r s'=>r=w/\EP X pins σ Q r s') pl (by omega) (by omega) (by rw[List.size_toArray,<- hl];exact h1) (by simpa using ew) ⟨rfl,fin⟩) hs
theorem W7 (its:List Value)(n j:Nat)(u:Value):Obj.mapSeq (·.setIfInBounds j u) {cls:=.type "list",data:=.seq its.toArray n}={cls:=.type "list",data:=.seq (its.set j u).toArray n}:=by
 simp[Obj.mapSeq]
theorem Inv.lst {pins:List (Addr×Obj)}{σ:St}{H:Hp}{s:Shared}{p:Addr}{xs:List V}(I:Inv X pins σ H s)(h:H p=some (.lst xs)) :
  ∃ (its:List Value) (n:Nat),Vals xs its/\s.heap.get? p=some {cls:=.type "list",data:=.seq its.toArray n}/\xs.length<=sizeLine:=by
 obtain⟨z,its,n,r,e⟩:=I.hok p _ h
 exact⟨its,n,r,e,z⟩
theorem Inv.lstUpd {pins:List (Addr×Obj)}{σ:St}{H:Hp}{s:Shared}{p:Addr}{xs ys:List V}{its its':List Value}{n n':Nat}{f:Obj->Obj}(I:Inv X pins σ H s)(h:H p=some (.lst xs))
  (ho:s.heap.get? p=some {cls:=.type "list",data:=.seq its.toArray n}) (hf:f {cls:=.type "list",data:=.seq its.toArray n}={cls:=.type "list",data:=.seq its'.toArray n' }) (r:Vals ys its') (hz:ys.length<=sizeLine) (t:Nat) :
  Inv X pins σ (upd H p (.lst ys)) {s with heap:=s.heap.update p f,toks:=t}:=by
 have e:(s.heap.update p f).get? p=some {cls:=.type "list",data:=.seq its'.toArray n' }:=by
  rw[Heap.get?_update_self f ho (by rw[hf]<;>rfl),hf]
 refine I.write (x:=p) (e:=p) (by rw[h];trivial) (.inl rfl) (fun b u hb q=>(Heap.get?_update_other _ _ (Ne.symm hb)).trans q) ⟨_,e⟩ ?_
 exact⟨hz,its',n',r,e⟩
def Cw_:V->V->V->Hp->(Hp->Prop)->Prop:=fun o i v H Q=>∃ p xs k j,o=.ref p/\i=.int k/\H p=some (.lst xs)/\ixN xs.length k=some j/\Q (upd H p (.lst (xs.set j v)))
theorem set_list:PSet X Cw_:=by
 intro pins s σ H o i v ov iv u Q I ro ri rv h
 obtain⟨p,xs,k,j,rfl,rfl,hp,hj,q⟩:=h
 cases ro
 obtain⟨t,rfl⟩:=ri
 obtain⟨its,n,r,ho,hz⟩:=I.lst hp
 obtain⟨h1,h2,h3,h4⟩:=Yi hj
 have hl:=r.length
 have hn:=Wh
 have I':Inv X pins σ (upd H p (.lst (xs.set j v))) {s with heap:=s.heap.update p (Obj.mapSeq (·.setIfInBounds j u))} :=
  I.lstUpd hp ho (W7 its n j u) (r.set rv j) (by rw[List.length_set];exact hz) s.toks
 by_cases h0:0<=k
 ·have hk:k.toNat=j:=by
   rw[seqIndex_of h0 h4] at h1
   exact Option.some.inj h1
  exact PySem.W.ki_setAt ho h0 (by omega) (by rw[List.size_toArray,<- hl];exact h4) (by rw[hk];exact⟨_,I',q⟩)
 ·have hk:(k+(its.toArray.size:Int)).toNat=j:=by
   rw[seqIndex_neg (by omega) h3] at h1
   rw[List.size_toArray,<- hl]
   exact Option.some.inj h1
  exact PySem.W.ki_setBack ho (by omega) (by rw[List.size_toArray,<- hl];exact h3) (by omega) (by rw[hk];exact⟨_,I',q⟩)
theorem T8 (lo hi:Option Int)(n:Nat):(sliceBounds lo hi none n).1=((HT.sIx n 0 lo:Nat):Int)/\(sliceBounds lo hi none n).2.1=((HT.sIx n n hi:Nat):Int)/\(sliceBounds lo hi none n).2.2=1:=by
 refine⟨?_,?_,rfl⟩
 ·cases lo with
  | none=>simp[sliceBounds,HT.sIx]
  | some i =>
   simp only[sliceBounds,HT.sIx,Option.getD_none,show (1:Int) > 0 by decide,if_true]
   by_cases h:i<0
   ·simp only[h,if_true]<;>omega
   ·simp only[h,if_false]<;>omega
 ·cases hi with
  | none=>simp[sliceBounds,HT.sIx]
  | some i =>
   simp only[sliceBounds,HT.sIx,Option.getD_none,show (1:Int) > 0 by decide,if_true]
   by_cases h:i<0
   ·simp only[h,if_true]<;>omega
   ·simp only[h,if_false]<;>omega
theorem RN (its:List Value)(lo hi:Option Int):slicePick its.toArray lo hi none=((its.drop (HT.sIx its.length 0 lo)).take (HT.sIx its.length its.length hi-HT.sIx its.length 0 lo)).toArray:=by
 obtain⟨h1,h2,h3⟩:=T8 lo hi its.toArray.size
 unfold slicePick
 rw[h1,h2,h3]
 simp only[sliceRange_one,pick_run,List.size_toArray]<;>rfl
def rSlL (K:PySem.W.Frag):V->Option Int->Option Int->Hp->VK->Prop:=fun x lo hi H Q=>∃ a xs,x=.ref a/\SqL K H a xs/\∀ p,H p=none->Q (.ref p) (upd H p (.lst (cutV xs lo hi)))
theorem By_:SlR X (rSlL X.K):=by
 intro pins s σ H x v vl vu lo hi sl Q I rx hs pl pu h
 obtain⟨a,xs,rfl,hx,q⟩:=h
 cases rx
 obtain⟨its,r,ht,hz⟩:=I.list hx
 have hlen:=r.length
 refine⟨"list",_,slot_list_getitem.lookup,ht.isList.typeIs,?_⟩
 refine wpAny_getItem_list_slice ht.isList hs pl pu .none (by simp) ?_ (by rw[List.size_toArray]<;>omega)
 rw[RN,<- hlen]
 refine⟨.ref s.heap.objs.size,_,I.laid (t':=s.toks) (o:=.lst (cutV xs lo hi)) (fun b ob q=>Heap.get?_push_of_some _ q) (Nat.le_refl _) ?_,rfl,q _ (I.hok.fresh (Nat.le_refl _))⟩
 exact⟨Nat.le_trans (N5 xs lo hi) hz,_,0,(r.drop (HT.sIx xs.length 0 lo)).take (HT.sIx xs.length xs.length hi-HT.sIx xs.length 0 lo),Heap.get?_push_size _ rfl⟩
def Ia:V->Bool
 | .non=>true
 | .bl _=>true
 | .int _=>true
 | .str _=>true
 | _=>false
def eqV:V->V->Bool
 | .non,.non=>true
 | .bl a,.bl b=>a == b
 | .bl a,.int b=>(if a then 1 else 0) == b
 | .int a,.bl b=>a == (if b then 1 else 0)
 | .int a,.int b=>a == b
 | .str a,.str b=>a == b
 | _,_=>false
theorem Yk {A:Around}{s:Shared}{y x:V}{u v:Value}(ry:RelV y u)(rx:RelV x v)(fy:Ia y=true)(fx:Ia x=true):SeqAt.EqAt A s u v (eqV y x):=by
 cases y with
 | non =>
  cases ry
  cases x with
  | non=>cases rx;exact SeqAt.EqAt.same _
  | bl b=>cases rx;exact SeqAt.EqAt.none_bool b
  | int b=>obtain⟨t,rfl⟩:=rx;exact SeqAt.EqAt.none_int b t
  | str b=>obtain⟨t,rfl⟩:=rx;exact SeqAt.EqAt.none_str b t
  | _=>exact absurd (show false=true from fx) Bool.false_ne_true
 | bl a =>
  cases ry
  cases x with
  | non=>cases rx;exact SeqAt.EqAt.bool_none a
  | bl b=>cases rx;exact SeqAt.EqAt.bool_bool a b
  | int b=>obtain⟨t,rfl⟩:=rx;exact SeqAt.EqAt.bool_int a b t
  | str b=>obtain⟨t,rfl⟩:=rx;exact SeqAt.EqAt.bool_str a b t
  | _=>exact absurd (show false=true from fx) Bool.false_ne_true
 | int a =>
  obtain⟨t',rfl⟩:=ry
  cases x with
  | non=>cases rx;exact SeqAt.EqAt.int_none a t'
  | bl b=>cases rx;exact SeqAt.EqAt.int_bool a t' b
  | int b=>obtain⟨t,rfl⟩:=rx;exact SeqAt.EqAt.int_int a t' b t
  | str b=>obtain⟨t,rfl⟩:=rx;exact SeqAt.EqAt.int_str a t' b t
  | _=>exact absurd (show false=true from fx) Bool.false_ne_true
 | str a =>
  obtain⟨t',rfl⟩:=ry
  cases x with
  | non=>cases rx;exact SeqAt.EqAt.str_none a t'
  | bl b=>cases rx;exact SeqAt.EqAt.str_bool a t' b
  | int b=>obtain⟨t,rfl⟩:=rx;exact SeqAt.EqAt.str_int a t' b t
  | str b=>obtain⟨t,rfl⟩:=rx;exact SeqAt.EqAt.str_str a t' b t
  | _=>exact absurd (show false=true from fx) Bool.false_ne_true
 | _=>exact absurd (show false=true from fy) Bool.false_ne_true
def eqU (x:V)(u:Value):Bool:=match u with
 | .none=>eqV .non x
 | .bool b=>eqV (.bl b) x
 | .int i _=>eqV (.int i) x
 | .str z _=>eqV (.str z) x
 | _=>false
theorem Ax_ {x y:V}{u:Value}(r:RelV y u)(f:Ia y=true):eqU x u=eqV y x:=by
 cases y with
 | non=>cases r;rfl
 | bl b=>cases r;rfl
 | int i=>obtain⟨t,rfl⟩:=r;rfl
 | str z=>obtain⟨t,rfl⟩:=r;rfl
 | _=>exact absurd (show false=true from f) Bool.false_ne_true
theorem U8 {x:V}:∀ {xs:List V} {us:List Value},Vals xs us->xs.all Ia=true->us.any (eqU x)=xs.any fun y=>eqV y x
 | _,_,.nil,_=>rfl
 | y::xs,u::us,.cons r t,f=>by
  rw[List.all_cons,Bool.and_eq_true] at f
  rw[List.any_cons,List.any_cons,Ax_ r f.1,U8 t f.2]
theorem RO {A:Around}{s:Shared}{x:V}{v:Value}(rx:RelV x v)(fx:Ia x=true):∀ {xs:List V} {us:List Value},Vals xs us->xs.all Ia=true->∀ u∈us,SeqAt.EqAt A s u v (eqU x u)
 | _,_,.nil,_=>fun u hu=>by cases hu
 | y::xs,u::us,.cons r t,f=>fun u' hu=>by
  rw[List.all_cons,Bool.and_eq_true] at f
  rcases List.mem_cons.mp hu with rfl | hu
  ·rw[Ax_ r f.1];exact Yk r rx f.1 fx
  ·exact RO rx fx t f.2 u' hu
def inV (x:V)(xs:List V):Bool:=xs.any fun y=>eqV y x
def rIn (K:PySem.W.Frag)(neg:Bool):R2:=fun x y H Q=>∃ p xs,y=.ref p/\(SqL K H p xs\/SqT K H p xs)/\Ia x=true/\xs.all Ia=true/\Q (.bl (if neg then !inV x xs else inV x xs)) H
theorem T9:OpR X (compareOp .NotIn) (rIn X.K true):=by
 intro pins s σ H x y v u Q I rx ry h
 obtain⟨p,xs,rfl,hq,fx,fs,q⟩:=h
 cases ry
 rcases hq with hq | hq
 ·obtain⟨its,r,pl,hz⟩:=I.list hq
  refine SeqAt.notIn_listAt (eqU x) pl.isList (fun w hw=>RO rx fx r fs w (by simpa using hw)) ⟨.bl _,H,I,rfl,?_⟩
  rw[show its.toArray.any (eqU x)=its.any (eqU x) by simp,U8 r fs]
  exact q
 ·obtain⟨its,r,pl,hz⟩:=I.tuple hq
  refine SeqAt.notIn_tupleAt (eqU x) pl (fun w hw=>RO rx fx r fs w (by simpa using hw)) ⟨.bl _,H,I,rfl,?_⟩
  rw[show its.toArray.any (eqU x)=its.any (eqU x) by simp,U8 r fs]
  exact q
theorem AT:IJ X (.builtin "len") (fun xs H Q=>∃ p ys,xs=[.ref p]/\(SqL X.K H p ys\/SqT X.K H p ys)/\Q (.int ys.length) H):=by
 intro pins s σ H xs us Q I r h
 obtain⟨p,ys,rfl,hq,q⟩:=h
 obtain⟨u,rfl,rx⟩:=vals1 r
 cases rx
 have hn:=Wh
 rcases hq with hq | hq
 ·obtain⟨its,r',pl,hz⟩:=I.list hq
  have hlen:=r'.length
  exact Calls.call_len_list pl.isList (by simp only[List.size_toArray]<;>omega) ⟨.int ys.length,H,I.tok _,⟨s.toks+1,by rw[List.size_toArray,hlen]⟩,q⟩
 ·obtain⟨its,r',pl,hz⟩:=I.tuple hq
  have hlen:=r'.length
  exact len_tuple pl (by simp only[List.size_toArray]<;>omega) ⟨.int ys.length,H,I.tok _,⟨s.toks+1,by rw[List.size_toArray,hlen]⟩,q⟩
theorem Nh:IJ X (.type "list") (fun xs H Q=>∃ p ys,xs=[.ref p]/\(SqL X.K H p ys\/SqT X.K H p ys)/\∀ l,H l=none->Q (.ref l) (upd H l (.lst ys))):=by
 intro pins s σ H xs us Q I r h
 obtain⟨p,ys,rfl,hq,q⟩:=h
 obtain⟨u,rfl,rx⟩:=vals1 r
 cases rx
 have fin:∀ (its:List Value),Vals ys its->ys.length<=sizeLine->∀ (h':Heap) (c':Nat),(∀ b o',s.heap.get? b=some o'->h'.get? b=some o') ->
   h'.get? s.heap.objs.size=some {cls:=.type "list",dict:=none,data:=.seq its.toArray c',slots := #[]}->EP X pins σ Q (.ref s.heap.objs.size) {s with heap:=h' }:=fun its r' hz h' c' kp e =>
  ⟨.ref s.heap.objs.size,_,I.laid (t':=s.toks) kp (Nat.le_refl _) (show CC X.prog X.w _ h' _ (.lst ys) from ⟨hz,its,c',r',e⟩),rfl,q _ (I.hok.fresh (Nat.le_refl _))⟩
 rcases hq with hq | hq
 ·obtain⟨its,r',pl,hz⟩:=I.list hq
  have hlen:=r'.length
  obtain⟨o,ho,hc,n,hd⟩:=pl.isList
  exact call_list_seq p (.inl rfl) ho hc hd (fun h' c' kp e=>fin its r' hz h' c' kp e) (by simp only[List.size_toArray]<;>omega)
 ·obtain⟨its,r',pl,hz⟩:=I.tuple hq
  have hlen:=r'.length
  obtain⟨o,ho,hc,n,hd⟩:=pl
  exact call_list_seq p (.inr rfl) ho hc hd (fun h' c' kp e=>fin its r' hz h' c' kp e) (by simp only[List.size_toArray]<;>omega)
theorem C5:IJ X (.type "tuple") (fun xs H Q=>∃ p ys,xs=[.ref p]/\((SqL X.K H p ys/\∀ l,H l=none->Q (.ref l) (upd H l (.tup ys)))\/(SqT X.K H p ys/\Q (.ref p) H))):=by
 intro pins s σ H xs us Q I r h
 obtain⟨p,ys,rfl,h⟩:=h
 obtain⟨u,rfl,rx⟩:=vals1 r
 cases rx
 rcases h with ⟨hq,q⟩ | ⟨hq,q⟩
 ·obtain⟨its,r',pl,hz⟩:=I.list hq
  have hlen:=r'.length
  refine call_tuple_list pl.isList (fun h' kp=>?_) (by simp only[List.size_toArray]<;>omega)
  have I1:Inv X pins σ H {s with heap:=h' }:=I.kept (t':=s.toks) kp
  have I2:Inv X pins σ (upd H h'.objs.size (.tup ys)) {s with heap:=h'.push {cls:=.type "tuple",data:=.seq its.toArray} } :=
   I1.laid (t':=s.toks) (fun b o e=>Heap.get?_push_of_some _ e) (Nat.le_refl _) (show CC X.prog X.w _ _ _ (.tup ys) from ⟨hz,its,r',IsTup.new _ _⟩)
  exact⟨.ref h'.objs.size,_,I2,rfl,q _ (I1.hok.fresh (Nat.le_refl _))⟩
 ·obtain⟨its,r',pl,hz⟩:=I.tuple hq
  exact call_tuple_same pl ⟨.ref p,H,I,rfl,q⟩
def tyV (K:PySem.W.Frag)(T:String)(x:V)(H:Hp):Prop:=match x with
 | .str _=>T = "str"
 | .int _=>T = "int"
 | .ref p=>(T = "list" /\ ∃ xs,SqL K H p xs)\/(T = "tuple" /\ ∃ o,K.lookup p=some o/\o.cls=.type "tuple" /\ o.dict=none) \/
   (T = "dict" /\ ((∃ kvs,H p=some (.dK kvs)) \/ ∃ kvs,H p=some (.dT kvs)))\/(T = "set" /\ ∃ S n,H p=some (.set S n))
 | _=>False
theorem Cx_ {pins:List (Addr×Obj)}{σ:St}{H:Hp}{s:Shared}{T:String}{x:V}{v:Value}(I:Inv X pins σ H s)(r:RelV x v)(ty:tyV X.K T x H) :
  s.TypeIs v T/\∀ a,v=.ref a->∃ ob,s.heap.get? a=some ob/\ob.dict=none:=by
 cases x with
 | str z =>
  obtain⟨t,rfl⟩:=r
  cases (show T = "str" from ty)
  exact⟨typeIs_str s z t,fun _ e=>nomatch e⟩
 | int i =>
  obtain⟨t,rfl⟩:=r
  cases (show T = "int" from ty)
  exact⟨typeIs_int s i t,fun _ e=>nomatch e⟩
 | ref p =>
  cases r
  rcases ty with ⟨rfl,xs,hq⟩ | ⟨rfl,o,hk,hc,hd⟩ | ⟨rfl,hk⟩ | ⟨rfl,S,n,hk⟩
  ·obtain⟨its,_,pl,_⟩:=I.list hq
   refine⟨pl.isList.typeIs,fun a e=>?_⟩
   cases e
   obtain⟨o,n,e,c,hd,_⟩:=pl
   exact⟨o,e,hd⟩
  ·refine⟨⟨o,I.kIn p o hk,hc⟩,fun a e=>?_⟩
   cases e
   exact⟨o,I.kIn _ o hk,hd⟩
  ·have z:∃ o,s.heap.get? p=some o/\o.ExactDict:=by
    rcases hk with ⟨kvs,hk⟩ | ⟨kvs,hk⟩
    ·obtain⟨_,_,_,_,o,_,_,e,ex,_⟩:=I.hok p _ hk
     exact⟨o,e,ex⟩
    ·obtain⟨_,_,_,_,o,_,_,e,ex,_⟩:=I.hok p _ hk
     exact⟨o,e,ex⟩
   obtain⟨o,e,ex⟩:=z
   refine⟨⟨o,e,ex.1⟩,fun a e2=>?_⟩
   cases e2
   exact⟨o,e,ex.2.1⟩
  ·obtain⟨o,_,_,_,e,ex,_⟩:=I.hok p _ hk
   refine⟨⟨o,e,ex.1⟩,fun a e2=>?_⟩
   cases e2
   exact⟨o,e,ex.2.1⟩
 | _=>exact False.elim ty
def tBM (K:PySem.W.Frag)(T:String)(r:V->List V->Hp->VK->Prop)(to:TE)(t:TA):TE:=fun σ H Q=>to σ H fun x H1=>tyV K T x H1/\t σ H1 fun xs H2=>r x xs H2 Q
variable {o e:Expr} {es:List Expr} {to:TE} {t:TA} {name:Str} {apos cpos:Pos} {T id:String} {r:V->List V->Hp->VK->Prop}
theorem RP (pa:PlainAttrs T)(slot:Slot T name id)(hty:typeOf (.builtin id)=pure (.type "method_descriptor"))(hm:MtR X id r)(ho:PE X o to)(ha:PA X (e::es) t)
  (hbase:attributeBase o name X.env (eval o X.env)=eval o X.env:=by rfl)
  (hfew:((backTo cpos (starEach (e::es) X.env)).all (fun x => !x.1)&&(backToKw cpos (keywordEach [] X.env)).all (fun x=>x.1.isSome)
   && decide ((e::es).length+([]:List Keyword).length+(if ([]:List Keyword).isEmpty then 0 else 1)<30))=true:=by rfl)
  (hline:(apos.endLine == cpos.line)=true:=by rfl) (hs:starEach (e::es) X.env=(false,eval e X.env)::starEach es X.env:=by rfl) (hplain:(backTo cpos (starEach es X.env)).any (·.1)=false:=by rfl) :
  PE X (.Call (.Attribute o name apos) (e::es) [] cpos) (tBM X.K T r to t):=by
 intro pins s σ H Q I h
 refine wpAny_Call_method_late hbase hfew hline rfl (thn (ho pins s σ H _ I h) fun v s1 ⟨x,H1,I1,r1,ty,q1⟩=>?_)
 obtain⟨h1,h2⟩:=Cx_ I1 r1 ty
 refine⟨T,id,pa,slot,hty,h1,h2,?_⟩
 have hA:=ha cpos pins s1 σ H1 _ I1 q1
 rw[hs] at hA ⊢
 refine Calls.callWith_builtin (by show (false||(backTo cpos (starEach es X.env)).any (·.1))=false;rw[hplain]<;>rfl) (Calls.evalArgs_plain ?_)
 exact thn hA fun us s2 ⟨vs,H2,I2,r2,q2⟩=>hm pins s2 σ H2 x vs v us Q I2 r1 r2 q2
/- xs.append(e),list.index on a module's tuple .. are MtR facts of 06m -/
end
end L2
namespace L2
open PySem PySem.Spec PyProof.Rows
def MtM (X:Cx)(id:String)(r:V->List V->Hp->VK->Prop):Prop :=
 ∀ (pins:List (Addr×Obj)) (s:Shared) (σ:St) (H:Hp) (x:V) (xs:List V) (v:Value) (us:List Value) (Q:VK),Inv X pins σ H s->RelV x v->Vals xs us->r x xs H Q ->
  wpAny (model X.prog X.w) X.A (call (.builtin id) (v::us)) (EP X pins σ Q) X.xe s
theorem Vals.one:∀ {x:V} {us:List Value},Vals [x] us->∃ u,us=[u]/\RelV x u
 | _,_,.cons r .nil=>⟨_,rfl,r⟩
theorem Vals.eraseIdx:∀ {xs:List V} {us:List Value} (i:Nat),Vals xs us->Vals (xs.eraseIdx i) (us.eraseIdx i)
 | _,_,_,.nil=>.nil
 | _,_,0,.cons _ t=>t
 | _,_,i+1,.cons r t=>.cons r (Vals.eraseIdx i t)
theorem Ua {α:Type}:∀ (l:List α) (i:Nat),(l.eraseIdx i).length<=l.length
 | [],_=>Nat.le_refl _
 | _::_,0=>Nat.le_succ _
 | _::r,i+1=>Nat.succ_le_succ (Ua r i)
section
variable {X:Cx} {pins:List (Addr×Obj)} {σ:St} {H:Hp} {s:Shared} {l b:Addr} {xs ys zs:List V}
theorem Inv.lset {its its':List Value}{n:Nat}{f:Array Value->Array Value}{t':Nat}(I:Inv X pins σ H s)(hH:H l=some (.lst xs))
  (e:s.heap.get? l=some {cls:=.type "list",data:=.seq its.toArray n}) (hf:f its.toArray=its'.toArray) (hv:Vals ys its') (hz:ys.length<=sizeLine) :
  Inv X pins σ (upd H l (.lst ys)) {s with heap:=s.heap.update l (Obj.mapSeq f),toks:=t' }:=by
 have q:=PySem.IsL.update e f
 rw[hf] at q
 refine I.write (x:=l) (e:=l) (by rw[hH];exact trivial) (.inl rfl) (fun b' u hb hu=>(Heap.get?_update_other s.heap (Obj.mapSeq f) (Ne.symm hb)).trans hu) ⟨_,q⟩ ?_
 exact⟨hz,its',_,hv,q⟩
theorem Inv.lnew {its:List Value}{t':Nat}(I:Inv X pins σ H s)(hv:Vals ys its)(hz:ys.length<=sizeLine) :
  Inv X pins σ (upd H s.heap.objs.size (.lst ys)) {s with heap:=s.heap.push {cls:=.type "list",data:=.seq its.toArray},toks:=t' } :=
 I.laid (fun _ _ q=>Heap.get?_push_of_some _ q) (Nat.le_refl _) ⟨hz,its,0,hv,Heap.get?_push_size _ rfl⟩
theorem Inv.fresh (I:Inv X pins σ H s):H s.heap.objs.size=none:=I.hok.fresh (Nat.le_refl _)
theorem Inv.lstM (I:Inv X pins σ H s)(hH:H l=some (.lst xs)):xs.length<=sizeLine/\∃ (its:List Value) (n:Nat),Vals xs its/\xs.length=its.length/\s.heap.get? l=some {cls:=.type "list",data:=.seq its.toArray n}:=by
 obtain⟨z,its,n,r,e⟩:=I.hok l _ hH
 exact⟨z,its,n,r,r.length,e⟩
end
section
variable {X:Cx}
def Yl:V->List V->Hp->VK->Prop:=fun x vs H Q=>∃ l xs y,x=.ref l/\vs=[y]/\H l=some (.lst xs)/\xs.length<sizeLine/\Q .non (upd H l (.lst (xs ++ [y])))
theorem FU:MtM X "list.append" Yl:=by
 intro pins s σ H x vs v us Q I rx rv h
 obtain⟨l,xs,y,rfl,rfl,hH,hz,q⟩:=h
 cases rx
 obtain⟨u,rfl,ru⟩:=rv.one
 obtain⟨z,its,n,r,hl,e⟩:=I.lstM hH
 refine call_meets F.slot_list_append ⟨_,e,rfl⟩ F.entry_list_append (F.args_list_append_2 _ _) (PySem.list_append l its.toArray n u (by rw[List.size_toArray];omega)) ⟨e,?_⟩
 refine⟨.non,_,I.lset (its':=its ++ [u]) hH e (by simp) (r.append (.cons ru .nil)) ?_,rfl,q⟩
 rw[List.length_append,List.length_singleton]
 omega
def Ay_:V->List V->Hp->VK->Prop:=fun x vs H Q=>∃ l xs i k y,x=.ref l/\vs=[.int i]/\H l=some (.lst xs) /\ -(2 ^ 63)<=i/\i<2 ^ 63/\seqIndex? i xs.length=some k/\xs[k]?=some y/\Q y (upd H l (.lst (xs.eraseIdx k)))
theorem ZB:MtM X "list.pop" Ay_:=by
 intro pins s σ H x vs v us Q I rx rv h
 obtain⟨l,xs,i,k,y,rfl,rfl,hH,h1,h2,hk,hy,q⟩:=h
 cases rx
 obtain⟨u,rfl,ru⟩:=rv.one
 obtain⟨t,rfl⟩:=ru
 obtain⟨z,its,n,r,hl,e⟩:=I.lstM hH
 obtain⟨w,hw,rw'⟩:=r.get hy
 refine call_meets F.slot_list_pop ⟨_,e,rfl⟩ F.entry_list_pop (F.args_list_pop_2 _ _)
  (MeetsSeq.list_pop_at l its.toArray n i t k w (fitsIndex_both h1 h2) (by rw[List.size_toArray,<- hl];exact hk) (by rw[<- Array.getElem?_toList];exact hw) (by rw[List.size_toArray];omega)) ⟨e,?_⟩
 refine⟨y,_,I.lset (its':=its.eraseIdx k) hH e ?_ (r.eraseIdx k) ?_,rw',q⟩
 ·show its.toArray.eraseIdxIfInBounds k=(its.eraseIdx k).toArray
  rw[List.eraseIdxIfInBounds_toArray]
 ·have:=Ua xs k
  omega
def rCat:R2:=fun x y H Q=>∃ l b xs zs,x=.ref l/\y=.ref b/\H l=some (.lst xs)/\H b=some (.lst zs)/\xs.length+zs.length<=sizeLine/\∀ p,H p=none->Q (.ref p) (upd H p (.lst (xs++zs)))
theorem Cy_:OpR X (binaryOp .Add) rCat:=by
 intro pins s σ H x y v u Q I rx ry h
 obtain⟨l,b,xs,zs,rfl,rfl,hH,hB,hz,q⟩:=h
 cases rx
 cases ry
 obtain⟨z,its,n,r,hl,e⟩:=I.lstM hH
 obtain⟨z2,its2,n2,r2,hl2,e2⟩:=I.lstM hB
 refine PySem.P.add_list e e2 ?_ (by rw[List.size_toArray,List.size_toArray];omega)
 have ea:its.toArray++its2.toArray=(its++its2).toArray:=by simp
 rw[ea]
 exact⟨.ref _,_,I.lnew (t':=s.toks) (r.append r2) (by rw[List.length_append];omega),rfl,q _ I.fresh⟩
end
end L2
namespace Att
open PySem PySem.W PySem.Calls PyProof.Rows
theorem N6 {P:Params}{h:Heap}:∀ (ns:List Int) (vs:List Value),WellAll P h vs (ns.map WData.int)->IntsAre vs ns:=by
 intro ns
 induction ns with
 | nil =>
  intro vs w
  rw[List.map_nil] at w
  cases w
  exact .nil
 | cons n ns ih =>
  intro vs w
  rw[List.map_cons] at w
  cases w with
  | cons a b =>
   cases a
   exact .cons _ _ (ih _ b)
theorem Ym {l:OpenLaw}{n:Nat}(hn:l.most=some n){P:Params}{h:Heap}{args:List WData}{vals:List Value}
  (hpre:l.row.toRowW.claim.pre args=true) (hwl:WellAll P h vals args) :
  ∃ a vs ns,vals=[Value.ref a]/\args=[WData.list (ns.map WData.int)]/\h.get? a=some {cls:=.type "list",data:=.seq vs.toArray}/\IntsAre vs ns/\ns.length<=n:=by
 have hsh:WShape.hasAll [] args [.list .int]=true:=(pre_splitW hpre).1
 have hc:l.pre.holds [] {args:=args}=true:=(pre_splitW hpre).2
 obtain⟨d,r,rfl,h1,h2⟩:=hasAllW_cons hsh
 obtain rfl:=hasAllW_nil h2
 obtain⟨xs,rfl,h3⟩:=hasW_list h1
 obtain⟨ns,rfl⟩:=items_int h3
 have hlen:ns.length<=n:=by
  unfold OpenLaw.pre at hc
  have h4:(WTm.not (.lt (.lit (.int (n:Int))) (.len (.arg 0)))).holds [] {args:=[.list (ns.map .int)]}=true:=by
   have h4:=(holds_andW hc).1
   rw[hn] at h4
   exact h4
  have h5:=condW_of h4 (w_not (w_lt w_lit (w_len_list (w_arg rfl))))
  rw[List.length_map] at h5
  refine Nat.le_of_not_lt fun q=>?_
  have q':(n:Int)<((ns.length:Nat):Int):=by omega
  first
   | (rw[decide_eq_true q'] at h5;exact absurd h5 (by decide))
   | (simp at h5;omega)
 cases hwl with
 | cons w1 w2 =>
  cases w2
  cases w1 with
  | list ho hall=>exact⟨_,_,ns,rfl,rfl,ho,N6 ns _ hall,hlen⟩
theorem Yn (l:OpenLaw)(args:List WData):l.row.toRowW.claim.post args (.bool true) args=true :=
 postW_of (r:=l.row.toRowW) (X:=(true == true))
  (show WShape.has [] (.bool true) .bool=true by first | rfl | decide | simp[WShape.has,WShape.arms,WShape.armsAll])
  (show (WTm.eq .res (.lit (.bool true))).value [] {args:=args,res:=some (.bool true),after:=args}=some (.bool (true == true)) from w_eq_bool (w_res rfl) w_lit) rfl
theorem attach_call {l:OpenLaw}{n:Nat}{q:Program}{loose:List Str}{XP:(Str->Option Value)->Heap->Prop}{YP:World->Heap->Prop}{d:DefRec}
  (hn:l.most=some n) (hdf:d.params.defaults=[])
  (call:∀ (w:World) (s₀ s₁:Shared) (mg mb:Str->Option Value) (fa:Addr) (o:Obj) (pm cd doc:Value) (a:Addr) (vs:List Value) (ns:List Int),
   Ground q loose [] XP w s₀ mg mb s₁.heap->YP w s₁.heap ->
   s₁.heap.get? fa=some o->o.data=.func (docDef d.name d.params d.body d.scope pm cd doc)->s₁.heap.CodeRec cd d.name->mg d.name=some (.ref fa) ->
   s₁.heap.get? a=some {cls:=.type "list",data:=.seq vs.toArray}->IntsAre vs ns->ns.length<=n->s₁.gens = #[] ->
   codeAny (model l.prog w) callerA (.call (.ref fa) ⟨[.ref a],[]⟩) (fun r s'=>r=.ok (.ret (.bool true))/\OldK s₁.heap s'.heap/\s'.os=s₁.os/\AllBare s'.gens) s₁) :
  WalkO q loose XP YP l.row.toRowW d [] (fun f vs=>PySem.call f vs):=by
 intro w s₀ s₁ mg mb G Y fa o pm cd doc dV kV ho hd hcd hD hmg hg args vals as hpre hlay hrd hwl hlo
 obtain rfl:dV=.none:=Dflts.none hD hdf
 obtain rfl:kV=.none:=Dflts.noKw hD
 obtain⟨a,vs,ns,rfl,rfl,hobj,hints,hlen⟩:=Ym hn hpre hwl
 refine enter_call (codeAny_mono (call w s₀ s₁ mg mb fa o pm cd doc a vs ns G Y ho (fd_plain hd) hcd hmg hobj hints hlen hg) fun r s' hq=>?_)
 obtain⟨rfl,h2,h3,h4⟩:=hq
 exact⟨.inl ⟨.bool true,.bool true,[],rfl,fun _=>rfl,.bool true,Yn l _,fun _=>⟨List.Pairwise.nil,fun _ hm=>(nomatch hm)⟩⟩,h2,h3,h4⟩
end Att
namespace L2
open PySem PySem.Spec PyProof.Rows
theorem Ub:∀ {vs:List Value} {ns:List Int},IntsAre vs ns->Vals (ns.map V.int) vs
 | _,_,.nil=>.nil
 | _,_,.cons n t h=>.cons ⟨t,rfl⟩ (Ub h)
def Only (H:Hp):Prop:=∀ b,H b=none \/ ∃ o xs,H b=some (.frz o (.lst xs))
theorem ZC {P:Program}{w:World}{K:PySem.W.Frag}{mg mb:Str->Option Value}{CX:CXT}{k:Nat}{fa a:Addr}{fd:FuncData}{x:Str}{sp:Sp}{s₁:Shared}{vs:List Value}{ns:List Int}
  (KX:K.In s₁.heap) (hns:s₁.heap.Ns mainGlobals mg) (hb:s₁.heap.Ns builtinsNs mb) (hbb:∀ x:Str,x ≠ "__name__" -> mb x=bootBuiltins x) (hlim:s₁.heap.NoLimit) (hg:s₁.gens = #[])
  (ha:s₁.heap.get? a=some {cls:=.type "list",data:=.seq vs.toArray}) (hi:IntsAre vs ns) (hl:ns.length<=sizeLine) (hr:Room k callerA)
  (F:∀ base:Heap,K.In base->base.Ns mainGlobals mg->FnOk P w K mg base CX k fa fd [x] sp) (hbind:∀ (s:Shared) (u:Value),BindsTo s fd ⟨[u],[]⟩ [(x,u)])
  (hsp:∀ H:Hp,Only H->SqL K H a (ns.map V.int)->sp [.ref a] H (fun v _=>v=.bl true) fun _ _ _=>False)
  (hCX:∀ H e s',CX [] H s₁ (fun _ _ _=>False) e s'->False) :
  codeAny (model P w) callerA (.call (.ref fa) ⟨[.ref a],[]⟩) (fun r s'=>r=.ok (.ret (.bool true))/\OldK s₁.heap s'.heap/\s'.os=s₁.os/\AllBare s'.gens) s₁:=by
 have rv:=Ub hi
 have lenV:=hi.length
 -- from an abstract heap in which nothing but the script may be tracked
 have core:∀ H:Hp,Only H->SqL K H a (ns.map V.int)->HOk P w H s₁.heap->(∀ b,H b≠none->b=a)->(H a≠none->K.lookup a=none) ->
   codeAny (model P w) callerA (.call (.ref fa) ⟨[.ref a],[]⟩) (fun r s'=>r=.ok (.ret (.bool true))/\OldK s₁.heap s'.heap/\s'.os=s₁.os/\AllBare s'.gens) s₁:=by
  intro H hO hS hok hA hK
  have base_of:∀ {b:Addr} {o:Obj},s₁.heap.get? b=some o->H b=none->(hidT s₁.heap H).get? b=some o:=fun e n=>Zr e n
  have noA:∀ {b:Addr} {o:Obj} {es:Array DictEntry} {ep:Nat},s₁.heap.get? b=some o->o.data=.dict es ep->H b=none:=fun {b o es ep} e d=>by
   cases q:H b with
   | none=>rfl
   | some u =>
    have e':b=a:=hA b (by rw[q];simp)
    subst e'
    rw[ha] at e;cases e
    have d':Data.seq vs.toArray _=Data.dict es ep:=d
    cases d'
  have nsK:∀ {b:Addr} {m:Str->Option Value},s₁.heap.Ns b m->(hidT s₁.heap H).Ns b m:=fun {b m} ⟨o,es,ep,e,d,r⟩=>⟨o,es,ep,base_of e (noA e d),d,r⟩
  have hKb:K.In (hidT s₁.heap H):=fun b o e=>base_of (KX b o e) (by
   cases q:H b with
   | none=>rfl
   | some u =>
    have e':b=a:=hA b (by rw[q];simp)
    subst e'
    rw[hK (by rw[q];simp)] at e;cases e)
  have hM:Mod K mg (hidT s₁.heap H):=⟨hKb,nsK hns,⟨mb,nsK hb,hbb⟩,let ⟨mc,h1,h2⟩:=hlim;⟨mc,nsK h1,h2⟩⟩
  have e0:Env0 P w K mg (hidT s₁.heap H) callerA [] s₁ H:=⟨rfl,hM,fun b o e=>Bn_ e,Nat.le_of_eq (XX _ _),trivial,fun b hb=>absurd (show b∈([]:List Addr) from hb) (by simp),hok,.of_eq hg⟩
  refine codeAny_mono ((F _ hKb (nsK hns)).run callerA [] s₁ H ⟨[.ref a],[]⟩ [.ref a] [.ref a] _ _ hr e0 (hbind s₁ (.ref a)) (.cons rfl .nil) (hsp H hO hS)) fun r s' h=>?_
  cases r with
  | error e=>exact (hCX H e s' h).elim
  | ok fl =>
   cases fl with
   | next=>exact False.elim h
   | brk=>exact False.elim h
   | cont=>exact False.elim h
   | ret u =>
    obtain⟨v,H',os,bare,un,hok',r',q⟩:=h
    have q':v=.bl true:=q
    subst q'
    obtain rfl:u=Value.bool true:=r'
    refine⟨rfl,OldK.of_keep fun b o e=>?_,os,bare⟩
    cases q:H b with
    | none=>exact un.keep b o e q (by intro z;exact absurd (show b∈([]:List Addr) from z) (by simp)) (by simp)
    | some u =>
     rcases hO b with z | ⟨ob,xs,z⟩
     ·rw[q] at z;cases z
     ·have z2:=un.frzs b ob _ z
      obtain⟨e1,_⟩:=hok b _ z
      obtain⟨e2,_⟩:=hok' b _ z2
      rw[e] at e1;cases e1
      exact e2
 cases hk:K.lookup a with
 | some o =>
  -- the script is one of the module's own objects
  have e:=KX a o hk
  rw[ha] at e
  cases e
  refine core (fun _=>none) (fun _=>.inl rfl) (.inr ⟨_,vs.toArray,_,hk,rfl,rfl,rfl,by rw[List.size_toArray,lenV];exact hl,by simpa using rv⟩) (fun b u z=>by have z':(none:Option HO)=some u:=z;cases z') (fun b z=>absurd rfl z) fun z=>absurd rfl z
 | none =>
  refine core (fun b=>if b=a then some (.frz {cls:=.type "list",data:=.seq vs.toArray} (.lst (ns.map V.int))) else none) (fun b=>?_) (.inl (.inr ⟨{cls:=.type "list",data:=.seq vs.toArray},if_pos rfl⟩)) (fun b u z=>?_) (fun b z=>?_) fun _=>hk
  ·by_cases hb:b=a
   ·exact .inr ⟨_,_,if_pos hb⟩
   ·exact .inl (if_neg hb)
  ·by_cases hb:b=a
   ·have z':=(if_pos hb).symm.trans z
    cases z'
    subst hb
    exact⟨ha,by rw[List.length_map];exact hl,vs,_,rv,ha⟩
   ·have z':=(if_neg hb).symm.trans z
    cases z'
  ·by_cases hb:b=a
   ·exact hb
   ·exact absurd (if_neg hb) z
theorem walk_of {l:PySem.W.OpenLaw}{n k:Nat}{q:Program}{loose:List Str}{XP:(Str->Option Value)->Heap->Prop}{YP:World->Heap->Prop}{d:DefRec}{K:Params->PySem.W.Frag}{CX:World->CXT}{sp:World->Sp}{x:Str}
  (hn:l.most=some n) (hn2:n<=sizeLine) (hdf:d.params.defaults=[]) (hr:Room k callerA)
  (hY:∀ (w:World) (h:Heap),YP w h->(K w.params).In h)
  (F:∀ (w:World) (mg:Str->Option Value) (fa:Addr) (h:Heap),(K w.params).In h->h.Ns mainGlobals mg->mg d.name=some (.ref fa) ->
   ∃ fd:FuncData,(∀ (s:Shared) (u:Value),BindsTo s fd ⟨[u],[]⟩ [(x,u)]) /\
    ∀ base:Heap,(K w.params).In base->base.Ns mainGlobals mg->FnOk l.prog w (K w.params) mg base (CX w) k fa fd [x] (sp w))
  (hsp:∀ (w:World) (H:Hp) (a:Addr) (ns:List Int),ns.length<=n->Only H->SqL (K w.params) H a (ns.map V.int)->sp w [.ref a] H (fun v _=>v=.bl true) fun _ _ _=>False)
  (hCX:∀ (w:World) (H:Hp) (s:Shared) (e:Value) (s':Shared),CX w [] H s (fun _ _ _=>False) e s'->False) :
  PySem.W.WalkO q loose XP YP l.row.toRowW d [] (fun f vs=>PySem.call f vs):=by
 refine Att.attach_call hn hdf fun w s₀ s₁ mg mb fa o pm cd doc a vs ns G Y ho hd hcd hmg hobj hints hlen hg=>?_
 have KX:=hY w _ Y
 obtain⟨fd,hb,hF⟩:=F w mg fa _ KX G.T.g hmg
 exact ZC KX G.T.g G.T.b G.T.builtins G.T.nolimit hg hobj hints (Nat.le_trans hlen hn2) hr hF hb (fun H hO hS=>hsp w H a ns hlen hO hS) fun H e s'=>hCX w H s₁ e s'
def BH (s:Stmt)(j:Nat):Stmt:=match s with
 | .ClassDef _ _ _ body _ _ _ _ _ _ _=>body.getD j (.Pass ⟨0,0,0,0⟩)
 | _=>.Pass ⟨0,0,0,0⟩
def Am (s:Stmt):Arguments:=match s with
 | .FunctionDef _ a _ _ _ _ _ _ _ _=>a
 | _=>{posonlyargs:=[],args:=[],vararg:=none,kwonlyargs:=[],kw_defaults:=[],kwarg:=none,defaults:=[]}
def Al (s:Stmt):List Stmt:=match s with
 | .FunctionDef _ _ b _ _ _ _ _ _ _=>b
 | _=>[]
def Ad (s:Stmt):Scope:=match s with
 | .FunctionDef _ _ _ _ _ _ sc _ _ _=>sc
 | _=>{kind:=.function,names:=[],isGenerator:=false,isCoroutine:=false}
abbrev CX0:CXT:=fun _ _ _ _ _ _=>False
abbrev E0:XK:=fun _ _ _=>False
theorem Bn {X:Cx}:IL CX0 X E0:=fun _ _ _ _ _ _ _ h=>h.elim
structure Fun (K:PySem.W.Frag)(x qual:Str)(st:Stmt)(f:Addr)(fd:FuncData):Prop where
 ex:∃ (oc:Value) (od:Option Addr) (kV doc pm:Value) (an:Option Addr) (cdv ct:Value) (osl:Array (Option Value)),
  fd=PySem.W.fnOf x qual (Am st) (Al st) (Ad st) .none kV doc pm an cdv ct/\K.lookup f=some ⟨oc,od,.func fd,osl⟩/\PySem.W.codeIn K cdv qual=true
 kp:PySem.W.keepIn K (.ref f)=true
section
variable {P:Program} {w:World} {K:PySem.W.Frag} {mg:Str->Option Value} {base:Heap}
theorem Fun.ok {x qual:Str}{st:Stmt}{f:Addr}{fd:FuncData}{N ps:List Str}{k:Nat}{sp:Sp}(F:Fun K x qual st f fd)(S:FnScope N ps (Ad st))(len:∀ vs H Q E,sp vs H Q E->vs.length=ps.length)
  (hbody:∀ (cdv:Value) (A:Around) (outer:List Env) (s:Shared) (H:Hp) (vs:List V) (Q:VK) (E:XK),Room k (A.deeper (envOfC qual (Ad st) s.heap.objs.size f cdv))->sp vs H Q E ->
   ∃ t,PSs (cxOf CX0 P w K mg base N qual (Ad st) f cdv A outer s H E).nox (Al st) t/\t {nx:=fun _ H'=>Q .non H',rt:=Q} (start N vs) H):FnOk P w K mg base CX0 (k+1) f fd ps sp:=by
 obtain⟨oc,od,kV,doc,pm,an,cdv,ct,osl,rfl,lk,hcd⟩:=F.ex
 refine Ct_ lk hcd S len fun A outer s H vs Q E hr hsp=>?_
 obtain⟨t,h,q⟩:=hbody cdv A outer s H vs Q E hr hsp
 exact⟨t,h.nox,q⟩
theorem Fun.binds {x qual:Str}{st:Stmt}{f:Addr}{fd:FuncData}{ps:List Str}(F:Fun K x qual st f fd)
  (h:∀ (kV doc pm:Value) (an:Option Addr) (cdv ct:Value) (us:List Value),us.length=ps.length->bindArgs (PySem.W.fnOf x qual (Am st) (Al st) (Ad st) .none kV doc pm an cdv ct) ⟨us,[]⟩=pure (ps.zip us)):Binds K fd ps []:=by
 obtain⟨oc,od,kV,doc,pm,an,cdv,ct,osl,rfl,lk,hcd⟩:=F.ex
 exact .all (h kV doc pm an cdv ct)
theorem AI {x qual:Str}{st:Stmt}{f:Addr}{oc:Value}{od an:Option Addr}{osl:Array (Option Value)}{kV doc pm cdv ct:Value}(l:K.lookup f=some ⟨oc,od,.func (PySem.W.fnOf x qual (Am st) (Al st) (Ad st) .none kV doc pm an cdv ct),osl⟩)
  (c:PySem.W.codeIn K cdv qual=true) (k:PySem.W.keepIn K (.ref f)=true):Fun K x qual st f (PySem.W.fnOf x qual (Am st) (Al st) (Ad st) .none kV doc pm an cdv ct):=⟨⟨oc,od,kV,doc,pm,an,cdv,ct,osl,rfl,l,c⟩,k⟩
end
theorem Hg {A:Around}{k:Nat}(hr:Room k A):A.units+1<cLine:=Nat.lt_of_le_of_lt (Nat.add_le_add_left (by decide:1<=64) _) hr.units
section
variable {X:Cx}
theorem pv (i:Nat){x:Str}{pos:Pos}(hN:X.N[i]?=some x:=by rfl)(hv:Vis X.env.scope x:=by first | exact Or.inl rfl | exact Or.inr (Or.inl rfl) | exact Or.inr (Or.inr rfl))(hd:(x == ("__debug__" : Str))=false:=by decide)
  (hcd:(x == ("__classdict__" : Str))=false:=by decide):PE X (.Name x pos) (tVar i):=Ch_ hN hv hd hcd
end
theorem ite2 {c A B:Prop}[Decidable c](h1:c->A)(h2:¬ c->B):if c then A else B:=by
 by_cases h:c
 ·rw[if_pos h]
  exact h1 h
 ·rw[if_neg h]
  exact h2 h
def Same (H H':Hp):Prop:=∀ b o,H b=some o->H' b=some o
theorem Same.refl (H:Hp):Same H H:=fun _ _ h=>h
theorem Same.trans {H H1 H2:Hp}(a:Same H H1)(b:Same H1 H2):Same H H2:=fun c o h=>b c o (a c o h)
theorem Same.free {H H':Hp}(e:Same H H'){l:Addr}(h:H' l=Option.none):H l=Option.none:=by
 cases q:H l with
 | none=>rfl
 | some o =>
  rw[e l o q] at h
  cases h
theorem Same.seq {K:PySem.W.Frag}{H H':Hp}{a:Addr}{xs:List V}(e:Same H H')(h:SqL K H a xs):SqL K H' a xs:=by
 rcases h with (h | ⟨o,h⟩) | h
 ·exact .inl (.inl (e _ _ h))
 ·exact .inl (.inr ⟨o,e _ _ h⟩)
 ·exact .inr h
end L2
set_option maxHeartbeats 4000000
namespace L2
open PySem PySem.Spec PyProof.Rows
section
variable {κ:Type} [DecidableEq κ]
def valV (kvs:List (κ×V))(k:κ):Option V:=(kvs.find? fun kv=>decide (kv.1=k)).map (·.2)
def putK (kvs:List (κ×V))(k:κ)(v:V):List (κ×V) :=
 if (kvs.any fun kv=>decide (kv.1=k))=true then kvs.map (fun kv=>if kv.1=k then (kv.1,v) else kv) else kvs ++ [(k,v)]
theorem NQ {p:κ×V}{r:List (κ×V)}{k:κ}(e:p.1=k):valV (p::r) k=some p.2:=by simp[valV,List.find?_cons,e]
theorem NR {p:κ×V}{r:List (κ×V)}{k:κ}(e:¬ p.1=k):valV (p::r) k=valV r k:=by simp[valV,List.find?_cons,e]
theorem Hh (k:κ):∀ kvs:List (κ×V),(kvs.any fun kv=>decide (kv.1=k))=(valV kvs k).isSome
 | []=>rfl
 | p::r=>by
  rw[List.any_cons]
  by_cases e:p.1=k
  ·simp only[NQ e,decide_eq_true e,Bool.true_or,Option.isSome_some]
  ·rw[NR e,decide_eq_false e,Bool.false_or];exact Hh k r
theorem N7 (kvs:List (κ×V))(k:κ)(v:V):(putK kvs k v).length<=kvs.length+1:=by
 unfold putK
 split
 ·rw[List.length_map];omega
 ·rw[List.length_append,List.length_cons,List.length_nil];omega
theorem Wj {kvs:List (κ×V)}{k:κ}(v:V)(h:valV kvs k=none):putK kvs k v=kvs ++ [(k,v)]:=by
 unfold putK
 rw[Hh,h]
 exact if_neg (by decide)
theorem RelO.isSome_eq {o:Option V}{u:Option Value}(r:RelO o u):o.isSome=u.isSome:=by
 cases o with
 | none=>cases u with
  | none=>rfl
  | some _=>exact (show False from r).elim
 | some _=>cases u with
  | none=>exact (show False from r).elim
  | some _=>rfl
theorem RelO.getD {o:Option V}{u:Option Value}{d:V}{d':Value}(r:RelO o u)(rd:RelV d d'):RelV (o.getD d) (u.getD d'):=by
 cases o with
 | none=>cases u with
  | none=>exact rd
  | some _=>exact (show False from r).elim
 | some _=>cases u with
  | none=>exact (show False from r).elim
  | some _=>exact r
theorem KV.val {kvs:List (κ×V)}{vs:List (κ×Value)}(r:KV kvs vs)(k:κ):RelO (valV kvs k) (valueAt vs k):=by
 unfold KV at r
 induction r with
 | nil=>exact True.intro
 | @cons p q ps qs h t ih =>
  obtain⟨h1,h2⟩:=h
  by_cases e:p.1=k
  ·have e':q.1=k:=h1.symm.trans e
   have b:valueAt (q::qs) k=some q.2:=by simp[valueAt,List.find?_cons,e']
   rw[NQ e,b];exact h2
  ·have e':¬ q.1=k:=fun z=>e (h1.trans z)
   have b:valueAt (q::qs) k=valueAt qs k:=by simp[valueAt,List.find?_cons,e']
   rw[NR e,b];exact ih
theorem KV.any {kvs:List (κ×V)}{vs:List (κ×Value)}(r:KV kvs vs)(k:κ):(kvs.any fun kv=>decide (kv.1=k))=vs.any fun kv=>decide (kv.1=k):=by
 unfold KV at r
 induction r with
 | nil=>rfl
 | cons h t ih=>rw[List.any_cons,List.any_cons,ih,h.1]
theorem KV.repl {kvs:List (κ×V)}{vs:List (κ×Value)}(r:KV kvs vs)(k:κ){y:V}{u:Value}(ry:RelV y u) :
  KV (kvs.map fun kv=>if kv.1=k then (kv.1,y) else kv) (vs.map fun kv=>if kv.1=k then (kv.1,u) else kv):=by
 unfold KV at r ⊢
 induction r with
 | nil=>exact .nil
 | @cons p q ps qs h t ih =>
  rw[List.map_cons,List.map_cons]
  refine .cons ?_ ih
  obtain⟨h1,h2⟩:=h
  by_cases e:p.1=k
  ·rw[if_pos e,if_pos (h1.symm.trans e)];exact⟨h1,ry⟩
  ·rw[if_neg e,if_neg (fun z=>e (h1.trans z))];exact⟨h1,h2⟩
theorem KV.put {kvs:List (κ×V)}{vs:List (κ×Value)}(r:KV kvs vs)(k:κ){y:V}{u:Value}(ry:RelV y u):KV (putK kvs k y) (stored vs k u):=by
 unfold putK stored
 rw[r.any k]
 by_cases e:(vs.any fun kv=>decide (kv.1=k))=true
 ·rw[if_pos e,if_pos e];exact r.repl k ry
 ·rw[if_neg e,if_neg e];exact Paired.snoc r ⟨rfl,ry⟩
theorem KV.length {kvs:List (κ×V)}{vs:List (κ×Value)}(r:KV kvs vs):kvs.length=vs.length:=Paired.length r
end
theorem W8 {P:Program}{w:World}{k:Key}{u:Value}(r:RelV (kV k) u):(CV P w).is k u=true:=by
 cases k with
 | inl i=>obtain⟨t,e⟩:=(show ∃ t,u=Value.int i t from r);subst e;exact U3 P w i t
 | inr x=>obtain⟨t,e⟩:=(show ∃ t,u=Value.str x t from r);subst e;exact U4 P w x t
theorem Uc {P:Program}{w:World}:∀ {ks:List Key} {us:List Value},Vals (ks.map kV) us->ItemsAre (CV P w) ks us
 | [],_,r=>by rw[List.map_nil] at r;cases r;exact .nil
 | k::ks,_,r=>by
  rw[List.map_cons] at r
  cases r with
  | cons h t=>exact .cons (W8 h) (Uc t)
abbrev KT (H:Hp):List (List Key×V)->List (List Key×Addr×Value)->Prop:=Paired fun p q=>p.1=q.1/\H q.2.1=some (.tup (p.1.map kV))/\RelV p.2 q.2.2
theorem KT.val {H:Hp}{kvs:List (List Key×V)}{xs:List (List Key×Addr×Value)}(r:KT H kvs xs)(k:List Key):RelO (valV kvs k) ((atKey xs k).map (·.2)):=by
 induction r with
 | nil=>exact True.intro
 | @cons p q ps qs h t ih =>
  obtain⟨h1,_,h2⟩:=h
  by_cases e:p.1=k
  ·have e':q.1=k:=h1.symm.trans e
   have b:atKey (q::qs) k=some q.2:=by simp[atKey,List.find?_cons,e']
   rw[NQ e,b];exact h2
  ·have e':¬ q.1=k:=fun z=>e (h1.trans z)
   have b:atKey (q::qs) k=atKey qs k:=by simp[atKey,List.find?_cons,e']
   rw[NR e,b];exact ih
theorem KT.repl {H:Hp}{kvs:List (List Key×V)}{xs:List (List Key×Addr×Value)}(r:KT H kvs xs)(k:List Key){y:V}{u:Value}(ry:RelV y u) :
  KT H (kvs.map fun kv=>if kv.1=k then (kv.1,y) else kv) (xs.map (putAt k u)):=by
 induction r with
 | nil=>exact .nil
 | @cons p q ps qs h t ih =>
  rw[List.map_cons,List.map_cons]
  refine .cons ?_ ih
  obtain⟨h1,h2,h3⟩:=h
  unfold putAt
  by_cases e:p.1=k
  ·rw[if_pos e,if_pos (h1.symm.trans e)];exact⟨h1,h2,ry⟩
  ·rw[if_neg e,if_neg (fun z=>e (h1.trans z))];exact⟨h1,h2,h3⟩
theorem KT.put {H:Hp}{kvs:List (List Key×V)}{xs:List (List Key×Addr×Value)}(r:KT H kvs xs)(k:List Key){b:Addr}{y:V}{u:Value}(hb:H b=some (.tup (k.map kV)))(ry:RelV y u) :
  KT H (putK kvs k y) (storedH xs k b u):=by
 have e:(kvs.any fun kv=>decide (kv.1=k))=(atKey xs k).isSome:=by
  rw[Hh,(r.val k).isSome_eq,Option.isSome_map]
 unfold putK storedH
 rw[e]
 by_cases q:(atKey xs k).isSome=true
 ·rw[if_pos q,if_pos q];exact r.repl k ry
 ·rw[if_neg q,if_neg q];exact Paired.snoc r ⟨rfl,hb,ry⟩
theorem KT.keeps {H H':Hp}{kvs:List (List Key×V)}{xs:List (List Key×Addr×Value)}(r:KT H kvs xs)(ht:∀ b ys,H b=some (.tup ys)->H' b=some (.tup ys)):KT H' kvs xs :=
 Paired.mapP r fun _ _ z=>⟨z.1,ht _ _ z.2.1,z.2.2⟩
section
variable {P:Program} {w:World} {H:Hp} {h:Heap} {a:Addr}
theorem ZD {u:HO}(ok:HOk P w H h)(e:Rd H a u):CC P w H h a u:=e.ok ok
theorem U9 {kvs:List (Key×V)}(ok:HOk P w H h)(e:Rd H a (.dK kvs)):kvs.length<=sizeLine/\(a == sysModules)=false/\∃ vs,KV kvs vs/\h.DictOf (CV P w) a vs :=
 show CC P w H h a (.dK kvs) from ZD ok e
theorem Dw_ {kvs:List (Key×V)}(ok:HOk P w H h)(e:H a=some (.dK kvs)):kvs.length<=sizeLine/\(a == sysModules)=false/\∃ vs,KV kvs vs/\h.DictOf (CV P w) a vs:=U9 ok (.inl e)
theorem N8 {ks:List Key}(ok:HOk P w H h)(e:H a=some (.tup (ks.map kV))):(tupleKind (CV P w)).is h ks a:=by
 obtain⟨_,its,r,o,h1,h2,n,h3⟩:=(show CC P w H h a (.tup (ks.map kV)) from ok a _ e)
 exact⟨o,its.toArray,n,h1,h2,h3,by simpa using Uc r⟩
theorem Va {kvs:List (List Key×V)}(ok:HOk P w H h)(e:Rd H a (.dT kvs)):kvs.length<=sizeLine/\(a == sysModules)=false /\
  ∃ xs,KT H kvs xs/\h.DictOfH (tupleKind (CV P w)) a xs:=by
 obtain⟨z,y,xs,r,o,es,ep,h1,h2,h3,h4,h5⟩:=(show CC P w H h a (.dT kvs) from ZD ok e)
 refine⟨z,y,xs,r,o,es,ep,h1,h2,h3,h4,fun x hx=>?_,h5⟩
 have all:∀ {l:List (List Key×V)} {m:List (List Key×Addr×Value)},KT H l m->∀ x∈m,(tupleKind (CV P w)).is h x.1 x.2.1:=by
  intro l m q
  induction q with
  | nil=>intro x hx;exact nomatch hx
  | @cons p q ps qs hq t ih =>
   intro x hx
   rcases List.mem_cons.mp hx with e | hx
   ·subst e
    exact N8 ok (by rw[<- hq.1];exact hq.2.1)
   ·exact ih x hx
 exact all r x hx
theorem Cz_ {kvs:List (List Key×V)}(ok:HOk P w H h)(e:H a=some (.dT kvs)):kvs.length<=sizeLine/\(a == sysModules)=false /\
  ∃ xs,KT H kvs xs/\h.DictOfH (tupleKind (CV P w)) a xs:=Va ok (.inl e)
end
def DGet (H:Hp)(a:Addr)(y:V)(r:Option V):Prop :=
 (∃ kvs k,Rd H a (.dK kvs)/\y=kV k/\r=valV kvs k) \/ ∃ kvs k b,Rd H a (.dT kvs)/\y=.ref b/\H b=some (.tup (k.map kV))/\r=valV kvs k
def DPut (H:Hp)(a:Addr)(y v:V)(H':Hp):Prop :=
 (∃ kvs k,H a=some (.dK kvs)/\y=kV k/\kvs.length<sizeLine/\H'=upd H a (.dK (putK kvs k v))) \/
 ∃ kvs k b,H a=some (.dT kvs)/\y=.ref b/\H b=some (.tup (k.map kV))/\kvs.length<sizeLine/\H'=upd H a (.dT (putK kvs k v))
theorem DGet.t {H:Hp}{a b:Addr}{kvs:List (List Key×V)}{k:List Key}(e:H a=some (.dT kvs))(eb:H b=some (.tup (k.map kV))):DGet H a (.ref b) (valV kvs k):=.inr ⟨kvs,k,b,.inl e,rfl,eb,rfl⟩
theorem DPut.t {H:Hp}{a b:Addr}{kvs:List (List Key×V)}{k:List Key}{v:V}(e:H a=some (.dT kvs))(eb:H b=some (.tup (k.map kV)))(hl:kvs.length<sizeLine) :
  DPut H a (.ref b) v (upd H a (.dT (putK kvs k v))):=.inr ⟨kvs,k,b,e,rfl,eb,hl,rfl⟩
section
variable {X:Cx} {pins:List (Addr×Obj)} {σ:St} {H:Hp} {s:Shared} {a:Addr} {y v:V} {u r:Value} {o:Option V} {A:Around} {E:Value->Shared->Prop}
theorem Inv.big (I:Inv X pins σ H s):sysModules<s.heap.objs.size:=by
 have h:mainGlobals<s.heap.objs.size:=(I.mod.glob.keeps I.bk).lt
 exact Nat.lt_trans (by decide) h
theorem Yo {Q:Value->Shared->Prop}(hu:A.units+1<cLine)(I:Inv X pins σ H s)(g:DGet H a y (some v))(ry:RelV y u)(h:∀ w' s',Inv X pins σ H s'->RelV v w'->Q w' s') :
  wpAny (model X.prog X.w) A (getItem (.ref a) u) Q E s:=by
 rcases g with ⟨kvs,k,e,ey,l⟩ | ⟨kvs,k,b,e,ey,eb,l⟩
 ·subst ey
  obtain⟨z,hd,vs,rel,dd⟩:=U9 I.hok e
  obtain⟨w',hw,rw'⟩:=RelO.some_of (v:=v) (o:=valueAt vs k) (by rw[l];exact rel.val k)
  exact wpAny_getItem_of (W8 ry) dd.mapOf hw (h w' _ (I.tok _) rw')
 ·subst ey
  cases (show u=Value.ref b from ry)
  obtain⟨z,hd,xs,rel,dd⟩:=Va I.hok e
  obtain⟨w',hw,rw'⟩:=RelO.some_of (v:=v) (o:=(atKey xs k).map (·.2)) (by rw[l];exact rel.val k)
  obtain⟨p,hp,hp2⟩:=Option.map_eq_some_iff.mp hw
  refine wpAny_getItem_heap (tupleKind_room_in1 hu) (N8 I.hok eb) dd hp ?_
  rw[hp2]
  exact h w' _ (I.tok _) rw'
theorem Bz_ {Q:Value->Shared->Prop}(hu:A.units+1<cLine)(I:Inv X pins σ H s)(g:DGet H a y o)(ry:RelV y u)(h:∀ s',Inv X pins σ H s'->Q (.bool (!o.isSome)) s') :
  wpAny (model X.prog X.w) A (compareOp .NotIn u (.ref a)) Q E s:=by
 rcases g with ⟨kvs,k,e,ey,l⟩ | ⟨kvs,k,b,e,ey,eb,l⟩
 ·subst ey
  obtain⟨z,hd,vs,rel,dd⟩:=U9 I.hok e
  refine wpAny_notIn_of (W8 ry) hd dd.mapOf ?_
  rw[<- (rel.val k).isSome_eq,<- l]
  exact h _ (I.tok _)
 ·subst ey
  cases (show u=Value.ref b from ry)
  obtain⟨z,hd,xs,rel,dd⟩:=Va I.hok e
  refine wpAny_notIn_heap (tupleKind_room_in1 hu) (N8 I.hok eb) hd dd ?_
  have q:=(rel.val k).isSome_eq
  rw[Option.isSome_map] at q
  rw[<- q,<- l]
  exact h _ (I.tok _)
theorem RQ {h':Heap}{t':Nat}{ob:HO}(I:Inv X pins σ H s)(mu:Mut (H a))(hs:Heap.SameBut a s.heap h')(he:∃ q,h'.get? a=some q)(new:CC X.prog X.w (upd H a ob) h' a ob) :
  Inv X pins σ (upd H a ob) {s with heap:=h',toks:=t' } :=
 I.write (x:=a) (e:=a) mu (.inl rfl) (fun b q hb z=>(hs.2 b hb).trans z) he new
theorem CA_ {P:Program}{w:World}{H':Hp}{h':Heap}{kvs:List (Key×V)}{vs:List (Key×Value)}(z:kvs.length<=sizeLine)(hd:(a == sysModules)=false)(rel:KV kvs vs)(dd:h'.DictOf (CV P w) a vs) :
  CC P w H' h' a (.dK kvs):=⟨z,hd,vs,rel,dd⟩
theorem Yp {H':Hp}{Q:Unit->Shared->Prop}(hu:A.units+1<cLine)(I:Inv X pins σ H s)(g:DPut H a y v H')(ry:RelV y u)(rv:RelV v r)(h:∀ s',Inv X pins σ H' s'->Q () s') :
  wpAny (model X.prog X.w) A (setItem (.ref a) u r) Q E s:=by
 rcases g with ⟨kvs,k,e,ey,l,eH⟩ | ⟨kvs,k,b,e,ey,eb,l,eH⟩
 ·subst ey eH
  obtain⟨z,hd,vs,rel,dd⟩:=Dw_ I.hok e
  have hz:vs.length<=sizeLine:=by rw[<- rel.length];exact z
  have hl:(putK kvs k v).length<=sizeLine:=by have:=N7 kvs k v;omega
  refine wpAny_setItem_pairs (hsz:=hz) (W8 ry) dd fun h' dd' hs=>h _ ?_
  have he:∃ q,h'.get? a=some q:=let ⟨q,_,_,hq,_⟩:=dd';⟨q,hq⟩
  exact RQ I (by rw[e];exact True.intro) hs he (CA_ hl hd (rel.put k rv) dd')
 ·subst ey eH
  cases (show u=Value.ref b from ry)
  obtain⟨z,hd,xs,rel,dd⟩:=Cz_ I.hok e
  have hz:xs.length<=sizeLine:=by rw[<- Paired.length rel];exact z
  have hl:(putK kvs k v).length<=sizeLine:=by have:=N7 kvs k v;omega
  refine wpAny_setItem_heap (hsz:=hz) (tupleKind_room_in1 hu) (N8 I.hok eb) dd fun h' dd' hs=>h _ ?_
  obtain⟨q,es,ep,hq,h2,h3,h4,_,h5⟩:=dd'
  refine RQ I (by rw[e];exact True.intro) hs ⟨q,hq⟩ ⟨hl,hd,_,(rel.put k eb rv).keeps fun c ys ec=>?_,q,es,ep,hq,h2,h3,h4,h5⟩
  rw[Ah (Cg_ ec e (fun z=>nomatch z))]
  exact ec
end
def NoSl (i:Expr):Prop:=∀ ov iv,subscripted i false ov iv=operate [ov,iv] (getItem ov iv)
theorem BA_ {prog:Program}{w:World}{A:Around}{E:Value->Shared->Prop}{s:Shared}{env:Env}{value slice:Expr}{pos:Pos}{T id:String}{Q:Value->Shared->Prop}
  (hl:typeLookup (.type T) "__getitem__" = pure (some (.builtin id))) (hs:NoSl slice)
  (h:wpAny (model prog w) A (eval value env) (fun o s₁=>wpAny (model prog w) A (eval slice env) (fun i s₂=>s₂.TypeIs o T/\wpAny (model prog w) A (getItem o i) Q E s₂) E s₁) E s) :
  wpAny (model prog w) A (eval (.Subscript value slice pos) env) Q E s:=by
 refine Subscript_ (wpAny_mono h (fun o s₁ h₁=>wpAny_mono h₁ (fun i s₂ h₂=>?_) fun _ _ x=>x) fun _ _ x=>x)
 obtain⟨hT,h₂⟩:=h₂
 unfold subscriptTail
 refine wpAny_bind ?_
 rw[getitemInPython_of_ne hT.not_modules]
 refine wpAny_bind (wpAny_specialOf hT hl ?_)
 have fin:wpAny (model prog w) A (subscripted slice false o i) (fun r s₃=>wpAny (model prog w) A (letTemporaryGo value o r >>= fun _=>pure r) Q E s₃) E s₂:=by
  rw[hs o i]
  exact wpAny_operating (wpAny_mono h₂ (fun r s₃ h₃=>wpAny_bind (wpAny_letTemporaryGo (wpAny_pure h₃))) fun _ _ x=>x)
 first
  | exact wpAny_pure (wpAny_bind fin)
  | exact wpAny_bind (wpAny_pure (wpAny_bind fin))
  | exact wpAny_bind fin
theorem Vb {X:Cx}{pins:List (Addr×Obj)}{σ:St}{H:Hp}{s:Shared}{a:Addr}{y:V}{o:Option V}(I:Inv X pins σ H s)(g:DGet H a y o):s.TypeIs (.ref a) "dict" := by
 rcases g with ⟨kvs,k,e,_,_⟩ | ⟨kvs,k,b,e,_,_,_⟩
 ·obtain⟨_,_,vs,_,dd⟩:=U9 I.hok e
  exact dd.typeIs
 ·obtain⟨_,_,xs,_,dd⟩:=Va I.hok e
  exact dd.typeIs
def CB_ (td ty:TE):TE:=fun σ H Q=>td σ H fun x H1=>ty σ H1 fun y H2=>∃ a v,x=.ref a/\DGet H2 a y (some v)/\Q v H2
def Yq (ty td:TE):TE:=fun σ H Q=>ty σ H fun y H1=>td σ H1 fun x H2=>∃ a o,x=.ref a/\DGet H2 a y o/\Q (.bl (!o.isSome)) H2
def CC_ (td ty tv:TE):TS:=fun D σ H=>tv σ H fun v H1=>td σ H1 fun x H2=>ty σ H2 fun y H3=>∃ a H4,x=.ref a/\DPut H3 a y v H4/\D.nx σ H4
section
variable {X:Cx} {o i e value:Expr} {pos pos' tpos:Pos} {td ty tv:TE}
theorem Mh (hu:X.A.units+1<cLine)(ho:PE X o td)(hi:PE X i ty)(hs:NoSl i):PE X (.Subscript o i pos) (CB_ td ty):=by
 intro pins s σ H Q I h
 refine BA_ PySem.F.slot_dict_getitem.lookup hs (thn (ho pins s σ H _ I h) fun u s1 ⟨x,H1,I1,rx,q1⟩=>thn (hi pins s1 σ H1 _ I1 q1) fun iv s2 ⟨y,H2,I2,ry,a,v,ex,g,q2⟩=>?_)
 subst ex
 obtain rfl:u=Value.ref a:=rx
 exact⟨Vb I2 g,Yo hu I2 g ry fun w' s3 I3 rw'=>⟨v,H2,I3,rw',q2⟩⟩
theorem Yr (hu:X.A.units+1<cLine)(hi:PE X i ty)(ho:PE X o td):PC X .NotIn i o (Yq ty td):=by
 intro pins s σ H Q I h
 refine thn (hi pins s σ H _ I h) fun iv s1 ⟨y,H1,I1,ry,q1⟩=>thn (ho pins s1 σ H1 _ I1 q1) fun u s2 ⟨x,H2,I2,rx,a,ov,ex,g,q2⟩=>?_
 subst ex
 obtain rfl:u=Value.ref a:=rx
 exact Bz_ hu I2 g ry fun s3 I3=>⟨.bl (!ov.isSome),H2,I3,rfl,q2⟩
theorem IM (hu:X.A.units+1<cLine)(ho:PE X o td)(hi:PE X i ty)(hv:PE X value tv)(hs:swapsWith value (some (.Subscript o i pos')) pos.line X.env=pure false) :
  PS X (.Assign [.Subscript o i pos'] value pos) (CC_ td ty tv):=by
 intro pins s σ H D I h
 refine wpAny_Assign_Subscript (thn (hv pins s σ H _ I h) fun r s1 ⟨v,H1,I1,rv,q1⟩=>thn (ho pins s1 σ H1 _ I1 q1) fun u s2 ⟨x,H2,I2,rx,q2⟩=>thn (hi pins s2 σ H2 _ I2 q2) fun iv s3 ⟨y,H3,I3,ry,a,H4,ex,g,q3⟩=>?_) hs
 subst ex
 obtain rfl:u=Value.ref a:=rx
 exact Yp hu I3 g ry rv fun s4 I4=>⟨σ,H4,I4,q3⟩
end
theorem Wk {P:Program}{w:World}{H:Hp}(h:Heap)(hb:sysModules<h.objs.size):CC P w H (h.push {cls:=.type "dict",data:=.dict #[]}) h.objs.size (.dT []) :=
 ⟨Nat.zero_le _,beq_eq_false_iff_ne.mpr (Ne.symm (Nat.ne_of_lt hb)),[],.nil,_,#[],0,Heap.get?_push_size _ rfl,⟨rfl,rfl,rfl⟩,rfl,rfl,List.nodup_nil⟩
def Az_:TE:=fun _ H Q=>∀ p,H p=none->Q (.ref p) (upd H p (.dT []))
section
variable {X:Cx} {pos:Pos}
theorem JU:PE X (.Dict [] [] pos) Az_:=fun pins s σ H Q I h =>
 wpAny_Dict_empty ⟨.ref s.heap.objs.size,_,I.laid (a:=s.heap.objs.size) (o:=.dT []) (t':=s.toks) (fun _ _ q=>Heap.get?_push_of_some _ q) (Nat.le_refl _) (Wk s.heap I.big),rfl,h _ (I.hok.fresh (Nat.le_refl _))⟩
end
structure M1 (X:Cx)(o:Expr)(m:Str)(apos:Pos)(e:Expr)(cpos:Pos):Prop where
 base:attributeBase o m X.env (eval o X.env)=eval o X.env
 few:((backTo cpos (starEach [e] X.env)).all (fun x => !x.1)&&(backToKw cpos (keywordEach [] X.env)).all (fun x=>x.1.isSome)
  && decide (([e]:List Expr).length+([]:List Keyword).length+(if ([]:List Keyword).isEmpty then 0 else 1)<30))=true
 line:(apos.endLine == cpos.line)=true
 trees:backTo cpos (starEach [e] X.env)=[(false,eval e X.env)]
structure M2 (X:Cx)(o:Expr)(m:Str)(apos:Pos)(e f:Expr)(cpos:Pos):Prop where
 base:attributeBase o m X.env (eval o X.env)=eval o X.env
 few:((backTo cpos (starEach [e,f] X.env)).all (fun x => !x.1)&&(backToKw cpos (keywordEach [] X.env)).all (fun x=>x.1.isSome)
  && decide (([e,f]:List Expr).length+([]:List Keyword).length+(if ([]:List Keyword).isEmpty then 0 else 1)<30))=true
 line:(apos.endLine == cpos.line)=true
 trees:backTo cpos (starEach [e,f] X.env)=[(false,eval e X.env),(false,eval f X.env)]
def IsD (H:Hp)(a:Addr):Prop:=(∃ kvs,Rd H a (.dK kvs)) \/ ∃ kvs,Rd H a (.dT kvs)
theorem AA_ {X:Cx}{pins:List (Addr×Obj)}{σ:St}{H:Hp}{s:Shared}{a:Addr}(I:Inv X pins σ H s)(d:IsD H a) :
  s.TypeIs (.ref a) "dict" /\ (∀ b,Value.ref a=.ref b->∃ ob,s.heap.get? b=some ob/\ob.dict=none)/\(a == sysModules)=false:=by
 rcases d with ⟨kvs,e⟩ | ⟨kvs,e⟩
 ·obtain⟨_,hd,vs,_,dd⟩:=U9 I.hok e
  refine⟨dd.typeIs,fun b q=>?_,hd⟩
  cases q
  obtain⟨ob,_,_,h1,h2,_⟩:=dd
  exact⟨ob,h1,h2.2.1⟩
 ·obtain⟨_,hd,xs,_,dd⟩:=Va I.hok e
  refine⟨dd.typeIs,fun b q=>?_,hd⟩
  cases q
  obtain⟨ob,_,_,h1,h2,_⟩:=dd
  exact⟨ob,h1,h2.2.1⟩
section
variable {X:Cx} {pins:List (Addr×Obj)} {σ:St} {H:Hp} {s:Shared} {a:Addr} {y d:V} {u r:Value} {o:Option V} {A:Around} {E:Value->Shared->Prop}
theorem CD_ {Q:Value->Shared->Prop}(hu:A.units+1<cLine)(I:Inv X pins σ H s)(g:DGet H a y o)(ry:RelV y u)(h:∀ w' s',Inv X pins σ H s'->RelV (o.getD .non) w'->Q w' s') :
  wpAny (model X.prog X.w) A (call (.builtin "dict.get") [.ref a,u]) Q E s:=by
 rcases g with ⟨kvs,k,e,ey,l⟩ | ⟨kvs,k,b,e,ey,eb,l⟩
 ·subst ey
  obtain⟨z,hd,vs,rel,dd⟩:=U9 I.hok e
  refine call_meetsIn PySem.F.slot_dict_get dd.typeIs PySem.F.entry_dict_get (PySem.F.args_dict_get_2 _ _) (meets_dict_get (CV X.prog X.w) a (W8 ry) hd) ⟨_,dd.mapOf,h _ _ (I.tok _) ?_⟩
  rw[l]
  exact (rel.val k).getD rfl
 ·subst ey
  cases (show u=Value.ref b from ry)
  obtain⟨z,hd,xs,rel,dd⟩:=Va I.hok e
  refine call_meetsIn PySem.F.slot_dict_get dd.typeIs PySem.F.entry_dict_get (PySem.F.args_dict_get_2 _ _) (meetsH_dict_get (tupleKind (CV X.prog X.w)) a b hd) ⟨tupleKind_room_in1 hu,k,xs,N8 I.hok eb,dd,h _ _ (I.tok _) ?_⟩
  rw[l]
  exact (rel.val k).getD rfl
theorem CE_ {Q:Value->Shared->Prop}(hu:A.units+1<cLine)(I:Inv X pins σ H s)(g:DGet H a y o)(ry:RelV y u)(rd:RelV d r)(h:∀ w' s',Inv X pins σ H s'->RelV (o.getD d) w'->Q w' s') :
  wpAny (model X.prog X.w) A (call (.builtin "dict.get") [.ref a,u,r]) Q E s:=by
 rcases g with ⟨kvs,k,e,ey,l⟩ | ⟨kvs,k,b,e,ey,eb,l⟩
 ·subst ey
  obtain⟨z,hd,vs,rel,dd⟩:=U9 I.hok e
  refine call_meetsIn PySem.F.slot_dict_get dd.typeIs PySem.F.entry_dict_get (PySem.F.args_dict_get_3 _ _ _) (meets_dict_get_default (CV X.prog X.w) a (W8 ry) hd r) ⟨_,dd.mapOf,h _ _ (I.tok _) ?_⟩
  rw[l]
  exact (rel.val k).getD rd
 ·subst ey
  cases (show u=Value.ref b from ry)
  obtain⟨z,hd,xs,rel,dd⟩:=Va I.hok e
  refine call_meetsIn PySem.F.slot_dict_get dd.typeIs PySem.F.entry_dict_get (PySem.F.args_dict_get_3 _ _ _) (meetsH_dict_get_default (tupleKind (CV X.prog X.w)) a b hd r) ⟨tupleKind_room_in1 hu,k,xs,N8 I.hok eb,dd,h _ _ (I.tok _) ?_⟩
  rw[l]
  exact (rel.val k).getD rd
end
def AB_ (td ty:TE):TE:=fun σ H Q=>td σ H fun x H1=>∃ a,x=.ref a/\IsD H1 a/\ty σ H1 fun y H2=>∃ o,DGet H2 a y o/\Q (o.getD .non) H2
def AC_ (td ty tx:TE):TE:=fun σ H Q=>td σ H fun x H1=>∃ a,x=.ref a/\IsD H1 a/\ty σ H1 fun y H2=>tx σ H2 fun z H3=>∃ o,DGet H3 a y o/\Q (o.getD z) H3
section
variable {X:Cx} {o e f:Expr} {apos cpos:Pos} {td ty tx:TE}
theorem Wl (hu:X.A.units+1<cLine)(ho:PE X o td)(he:PE X e ty)(m:M1 X o "get" apos e cpos):PE X (.Call (.Attribute o "get" apos) [e] [] cpos) (AB_ td ty):=by
 intro pins s σ H Q I h
 refine wpAny_Call_method m.base m.few m.line PySem.F.plainAttrs_dict PySem.F.slot_dict_get PySem.F.type_dict_get (thn (ho pins s σ H _ I h) fun u s1 ⟨x,H1,I1,rx,a,ex,d,q1⟩=>?_)
 subst ex
 obtain rfl:u=Value.ref a:=rx
 obtain⟨t1,t2,_⟩:=AA_ I1 d
 refine⟨t1,t2,?_⟩
 rw[m.trees]
 refine Calls.callWith_builtin rfl (Calls.evalArgs_plain (Calls.spliced_cons (thn (he pins s1 σ H1 _ I1 q1) fun iv s2 ⟨y,H2,I2,ry,ov,g,q2⟩=>Calls.spliced_nil ?_)))
 exact CD_ hu I2 g ry fun w' s3 I3 rw'=>⟨_,H2,I3,rw',q2⟩
theorem ZE (hu:X.A.units+1<cLine)(ho:PE X o td)(he:PE X e ty)(hf:PE X f tx)(m:M2 X o "get" apos e f cpos):PE X (.Call (.Attribute o "get" apos) [e,f] [] cpos) (AC_ td ty tx):=by
 intro pins s σ H Q I h
 refine wpAny_Call_method m.base m.few m.line PySem.F.plainAttrs_dict PySem.F.slot_dict_get PySem.F.type_dict_get (thn (ho pins s σ H _ I h) fun u s1 ⟨x,H1,I1,rx,a,ex,d,q1⟩=>?_)
 subst ex
 obtain rfl:u=Value.ref a:=rx
 obtain⟨t1,t2,_⟩:=AA_ I1 d
 refine⟨t1,t2,?_⟩
 rw[m.trees]
 refine Calls.callWith_builtin rfl (Calls.evalArgs_plain (Calls.spliced_cons (thn (he pins s1 σ H1 _ I1 q1) fun iv s2 ⟨y,H2,I2,ry,q2⟩ =>
  Calls.spliced_cons (thn (hf pins s2 σ H2 _ I2 q2) fun fv s3 ⟨z,H3,I3,rz,ov,g,q3⟩=>Calls.spliced_nil ?_))))
 exact CE_ hu I3 g ry rz fun w' s4 I4 rw'=>⟨_,H3,I4,rw',q3⟩
end
end L2
namespace L2
open PySem PySem.Spec PyProof.Rows
def clOf (env:Env):List (Str×NameKind)->List (Str×Addr)->List (Str×Addr)
 | [],acc=>acc
 | (n,k)::r,acc=>if (k == .free)=true then clOf env r ((n,(env.cells.lookup n).getD 0)::acc) else clOf env r acc
theorem Rx {env:Env}{scope:Scope}(h:∀ p∈scope.names,p.2=.free->∃ c,env.cells.lookup p.1=some c):closureFor scope env=pure (clOf env scope.names []):=by
 have go:∀ (l:List (Str×NameKind)) (acc:List (Str×Addr)),(∀ p∈l,p.2=.free->∃ c,env.cells.lookup p.1=some c) ->
   (forIn l acc fun (x:Str×NameKind) (cs:List (Str×Addr))=>(if (x.2 == .free)=true then do let c <- cellOf env x.1;pure (ForInStep.yield ((x.1,c)::cs)) else pure (ForInStep.yield cs):Sem (ForInStep (List (Str×Addr)))))=(pure (clOf env l acc):Sem (List (Str×Addr))):=by
  intro l
  induction l with
  | nil=>intro acc _;rfl
  | cons p r ih =>
   intro acc hl
   obtain⟨n,k⟩:=p
   rw[List.forIn_cons]
   by_cases hk:(k == .free)=true
   ·obtain⟨c,hc⟩:=hl (n,k) List.mem_cons_self (by simpa using hk)
    have e1:cellOf env n=pure c:=by unfold cellOf;rw[hc]
    have ih':=ih ((n,c)::acc) fun q hq=>hl q (List.mem_cons_of_mem _ hq)
    show ((if (k == .free)=true then do let c <- cellOf env n;pure (ForInStep.yield ((n,c)::acc)) else pure (ForInStep.yield acc):Sem _) >>= _)=_
    rw[if_pos hk,e1]
    show (forIn r ((n,c)::acc) _:Sem _)=_
    rw[clOf,if_pos hk,hc]
    exact ih'
   ·have ih':=ih acc fun q hq=>hl q (List.mem_cons_of_mem _ hq)
    show ((if (k == .free)=true then do let c <- cellOf env n;pure (ForInStep.yield ((n,c)::acc)) else pure (ForInStep.yield acc):Sem _) >>= _)=_
    rw[if_neg hk]
    show (forIn r acc _:Sem _)=_
    rw[clOf,if_neg hk]
    exact ih'
 have e:=go scope.names [] h
 unfold closureFor
 show (forIn scope.names [] _ >>= fun cs=>pure cs:Sem _)=_
 have e2:(forIn scope.names [] (fun (x:Str×NameKind) (r:List (Str×Addr))=>(match x with
   | (name,kind)=>if (kind == .free)=true then do let c <- cellOf env name;pure (ForInStep.yield ((name,c)::r)) else do pure PUnit.unit;pure (ForInStep.yield r):Sem (ForInStep (List (Str×Addr))))))=(pure (clOf env scope.names []):Sem (List (Str×Addr))):=e
 exact congrArg (fun z=>z >>= fun cs=>pure cs) e2
theorem RS {env:Env}:∀ (l:List (Str×NameKind)) (acc:List (Str×Addr)),(∀ p∈l,p.2=.free->∃ c,env.cells.lookup p.1=some c)->(∀ q∈acc,env.cells.lookup q.1=some q.2)->∀ q∈clOf env l acc,env.cells.lookup q.1=some q.2
 | [],_,_,ha,q,hq=>ha q hq
 | (n,k)::r,acc,hl,ha,q,hq=>by
  unfold clOf at hq
  by_cases hk:(k == .free)=true
  ·rw[if_pos hk] at hq
   obtain⟨c,hc⟩:=hl (n,k) List.mem_cons_self (by simpa using hk)
   refine RS r _ (fun p hp=>hl p (List.mem_cons_of_mem _ hp)) (fun p hp=>?_) q hq
   rcases List.mem_cons.mp hp with rfl | hp
   ·show env.cells.lookup n=some ((env.cells.lookup n).getD 0)
    rw[hc];rfl
   ·exact ha p hp
  ·rw[if_neg hk] at hq
   exact RS r _ (fun p hp=>hl p (List.mem_cons_of_mem _ hp)) ha q hq
theorem NS {env:Env}:∀ (l:List (Str×NameKind)) (acc:List (Str×Addr)) (x:Str),((x,NameKind.free)∈l \/ ∃ c,(x,c)∈acc)->∃ c,(x,c)∈clOf env l acc
 | [],_,_,h=>by
  rcases h with h | h
  ·cases h
  ·exact h
 | (n,k)::r,acc,x,h=>by
  unfold clOf
  by_cases hk:(k == .free)=true
  ·rw[if_pos hk]
   refine NS r _ x ?_
   rcases h with h | ⟨c,h⟩
   ·rcases List.mem_cons.mp h with h | h
    ·cases h
     exact .inr ⟨_,List.mem_cons_self⟩
    ·exact .inl h
   ·exact .inr ⟨c,List.mem_cons_of_mem _ h⟩
  ·rw[if_neg hk]
   refine NS r _ x ?_
   rcases h with h | h
   ·rcases List.mem_cons.mp h with h | h
    ·cases h
     exact absurd rfl hk
    ·exact .inl h
   ·exact .inr h
theorem EI {β:Type}:∀ {l:List (Str×β)} {x:Str} {c:β},(x,c)∈l->∃ c',l.lookup x=some c'
 | [],_,_,h=>by cases h
 | (n,d)::r,x,c,h=>by
  by_cases hx:(x == n)=true
  ·exact⟨d,by rw[List.lookup_cons,hx]⟩
  ·rcases List.mem_cons.mp h with h | h
   ·cases h;exact absurd (beq_self_eq_true _) hx
   ·obtain⟨c',e⟩:=EI h
    exact⟨c',by rw[List.lookup_cons];simp only[Bool.not_eq_true] at hx;rw[hx];exact e⟩
def relF (env:Env):Str×NameKind->Str×NameKind:=fun (n,k)=>if (k == NameKind.free&&env.scope.kind == .function&&env.kindOf n == some .cell) then (n,NameKind.cell) else (n,k)
theorem RT {env:Env}{n:Str}{k:NameKind}(h:(k == NameKind.free&&env.scope.kind == .function&&env.kindOf n == some .cell)=true):relF env (n,k)=(n,.cell):=if_pos h
theorem Vc {env:Env}{n:Str}{k:NameKind}(h:¬ (k == NameKind.free&&env.scope.kind == .function&&env.kindOf n == some .cell)=true):relF env (n,k)=(n,k):=if_neg h
theorem IN {env:Env}:∀ {names:List (Str×NameKind)} {x:Str} {k:NameKind},(∀ y∈names,y.2 ≠ .cell) ->
  (names.map (relF env)).lookup x=some k->(k=.cell\/k=.free)->(x,NameKind.free)∈names
 | [],_,_,_,h,_=>by simp at h
 | (n,k')::r,x,k,hc,h,hk=>by
  have ih := @IN env r x k (fun y hy=>hc y (List.mem_cons_of_mem _ hy))
  rw[List.map_cons] at h
  by_cases hb:(k' == NameKind.free&&env.scope.kind == .function&&env.kindOf n == some .cell)=true
  ·rw[RT hb,List.lookup_cons] at h
   cases hx:x == n with
   | true =>
    have e:x=n:=by simpa using hx
    subst e
    have e2:k'=.free:=by
     simp only[Bool.and_eq_true] at hb
     simpa using hb.1.1
    subst e2
    exact List.mem_cons_self
   | false =>
    rw[hx] at h
    exact List.mem_cons_of_mem _ (ih h hk)
  ·rw[Vc hb,List.lookup_cons] at h
   cases hx:x == n with
   | true =>
    rw[hx] at h
    have e:x=n:=by simpa using hx
    subst e
    have e2:k'=k:=Option.some.inj h
    subst e2
    rcases hk with rfl | rfl
    ·exact absurd rfl (hc _ List.mem_cons_self)
    ·exact List.mem_cons_self
   | false =>
    rw[hx] at h
    exact List.mem_cons_of_mem _ (ih h hk)
theorem Ni {env:Env}:∀ {names:List (Str×NameKind)} {x:Str},names.lookup x=some .free ->
  ∃ k,(k=NameKind.cell\/k=NameKind.free)/\(names.map (relF env)).lookup x=some k
 | [],_,h=>by simp at h
 | (n,k')::r,x,h=>by
  have ih := @Ni env r x
  rw[List.lookup_cons] at h
  rw[List.map_cons]
  cases hx:x == n with
  | true =>
   rw[hx] at h
   have e2:k'=.free:=Option.some.inj h
   subst e2
   by_cases hb:((NameKind.free:NameKind) == NameKind.free&&env.scope.kind == .function&&env.kindOf n == some .cell)=true
   ·exact⟨.cell,.inl rfl,by rw[RT hb,List.lookup_cons,hx]⟩
   ·exact⟨.free,.inr rfl,by rw[Vc hb,List.lookup_cons,hx]⟩
  | false =>
   rw[hx] at h
   obtain⟨k,hk,e⟩:=ih h
   refine⟨k,hk,?_⟩
   by_cases hb:(k' == NameKind.free&&env.scope.kind == .function&&env.kindOf n == some .cell)=true
   ·rw[RT hb,List.lookup_cons,hx];exact e
   ·rw[Vc hb,List.lookup_cons,hx];exact e
end L2
namespace L2
open PySem PySem.Spec PyProof.Rows
section
variable {prog:Program} {w:World} {A:Around} {R:Result->Shared->Prop} {s:Shared}
theorem Ud {elt target iter:Expr}{ifs:List Expr}{scope:Scope}{pos:Pos}{it acc:Value}{env:Env}(I:Nat->Shared->Prop)
  (turn:∀ n s,I n s->wpAny (model prog w) A (pyNext it) (fun r s₁=>match r with
   | none=>R (.ok .next) s₁
   | some v=>wpAny (model prog w) A (letOwnedTupleGo target it v) (fun _ s₁'=>wpAny (model prog w) A (assign target env v) (fun _ s₂ =>
     wpAny (model prog w) A (forIn ifs true fun c r=>if r=true then do let ok <- isTrue c env (eval c env);pure (ForInStep.yield ok) else pure (ForInStep.yield r)) (fun ok s₃ =>
      if ok=true then wpAny (model prog w) A (eval elt env) (fun x s₄ =>
       wpAny (model prog w) A (call (.builtin "list.append") [acc,x]) (fun _ s₅=>∃ m,m<n/\I m s₅) (notedBy (model prog w) A env fun e s'=>R (.error e) s') s₄) (notedBy (model prog w) A env fun e s'=>R (.error e) s') s₃
      else ∃ m,m<n/\I m s₃) (notedBy (model prog w) A env fun e s'=>R (.error e) s') s₂) (notedBy (model prog w) A env fun e s'=>R (.error e) s') s₁') (notedBy (model prog w) A env fun e s'=>R (.error e) s') s₁) (notedBy (model prog w) A env fun e s'=>R (.error e) s') s)
  (n:Nat) (h:I n s) :
  codeAny (model prog w) A (.compLoop (.ListComp elt [⟨target,iter,ifs,0⟩] scope pos) 0 it acc env) R s:=by
 refine codeAny_loop rfl I (fun n s hI=>?_) n h
 show wpAny _ A ((compTurn (.ListComp elt [⟨target,iter,ifs,0⟩] scope pos) 0 it acc env).onRaise (fun x=>do noteFrame x env;theTreesLotGoes x)) _ _ s
 refine wpAny_noted ?_
 rw[compTurn_list]
 refine wpAny_bind (wpAny_standAt (wpAny_bind (wpAny_mono (turn n s hI) (fun r s₁ h₁=>?_) fun _ _ h'=>h')))
 cases r with
 | none=>exact wpAny_pure h₁
 | some v =>
  refine wpAny_bind (wpAny_mono h₁ (fun _ s₁' h₁'=>?_) fun _ _ h'=>h')
  refine wpAny_bind (wpAny_mono h₁' (fun _ s₂ h₂=>wpAny_bind (wpAny_mono h₂ (fun ok s₃ h₃=>?_) fun _ _ h'=>h')) fun _ _ h'=>h')
  cases ok with
  | false=>exact wpAny_pure ⟨rfl,h₃⟩
  | true =>
   exact wpAny_bind (wpAny_bind (wpAny_mono h₃ (fun x s₄ h₄=>wpAny_bind (wpAny_mono h₄ (fun _ s₅ h₅=>wpAny_pure (wpAny_pure ⟨rfl,h₅⟩)) fun _ _ h'=>h')) fun _ _ h'=>h'))
end
abbrev Cx.blk (X:Cx)(N:List Str)(sc:Scope)(C:Addr)(s₀:Shared)(H₀:Hp)(ex:List Addr):Cx :=
 {X with N:=N,env:=compEnvC sc (clOf X.env sc.names []) C X.env,outer:=X.stack,s₀:=s₀,H₀:=H₀,ex:=ex,fn:=fun _=>false,pn:=[],xe:=fun _ _=>False}
structure BlkSc (X:Cx)(sc:Scope):Prop where
 kind:sc.kind=.function
 nocell:∀ y∈sc.names,y.2 ≠ .cell
 loc:∀ y∈sc.names,y.2=.local->sc.names.lookup y.1=some .local
 free:∀ y∈sc.names,y.2=.free->X.env.kindOf y.1=some .cell\/X.env.kindOf y.1=some .free
abbrev Caps:=List (Str×Option Nat)
def Caps.names (c:Caps):List Str:=c.map (·.1)
def Caps.st (c:Caps)(σ:St):St:=c.map fun p=>p.2.bind fun j=>(σ[j]?).join
def IO (N:List Str)(sc:Scope):Caps->Prop
 | []=>True
 | (_,none)::r=>IO N sc r
 | (x,some j)::r=>(N[j]?=some x/\sc.names.lookup x=some .free)/\IO N sc r
theorem IO.get {N:List Str}{sc:Scope}:∀ {c:Caps} {i:Nat} {x:Str} {j:Nat},IO N sc c->c[i]?=some (x,some j)->N[j]?=some x/\sc.names.lookup x=some .free
 | [],_,_,_,_,h=>by simp at h
 | (y,none)::r,0,x,j,_,h=>by simp at h
 | (y,none)::r,i+1,x,j,ok,h=>IO.get (c:=r) (i:=i) ok (by simpa using h)
 | (y,some k)::r,0,x,j,ok,h=>by
  simp only[List.getElem?_cons_zero,Option.some.injEq,Prod.mk.injEq] at h
  obtain⟨rfl,rfl⟩:=h
  exact ok.1
 | (y,some k)::r,i+1,x,j,ok,h=>IO.get (c:=r) (i:=i) ok.2 (by simpa using h)
section
variable {X:Cx} {pins:List (Addr×Obj)} {σ:St} {H:Hp} {s:Shared} {sc:Scope} {fp:List Addr}
theorem N9 (I:Inv X pins σ H s)(S:BlkSc X sc):∀ p∈sc.names,p.2=.free->∃ c,X.env.cells.lookup p.1=some c:=fun p hp e=>I.ok.has p.1 (S.free p hp e)
theorem Eu (I:Inv X pins σ H s)(S:BlkSc X sc){x:Str}{c:Addr}(h:(clOf X.env sc.names []).lookup x=some c):X.env.cells.lookup x=some c :=
 RS sc.names [] (N9 I S) (fun q hq=>by cases hq) (x,c) (PySem.mem_of_lookup h)
theorem CF_ {N:List Str}{C:Addr}(I:Inv X pins σ H s)(S:BlkSc X sc)(hC:s.heap.objs.size<=C)(hf:∀ b∈fp,FpOk X pins H b)(ho:∀ b∈fp,∃ o,s.heap.get? b=some o):(X.blk N sc C s H fp).Ok where
 mod:=I.ok.mod
 kind:=S.kind
 glob:=I.ok.glob
 blt:=I.ok.blt
 above:=hC
 inj:=fun x y c h1 h2=>I.ok.inj x y c (Eu I S h1) (Eu I S h2)
 has:=fun x hx=>by
  have hx':(x,NameKind.free)∈sc.names:=by
   rcases hx with hx | hx
   ·exact IN (env:=X.env) S.nocell hx (.inl rfl)
   ·exact IN (env:=X.env) S.nocell hx (.inr rfl)
  obtain⟨c,hc⟩:=NS (env:=X.env) sc.names [] x (.inl hx')
  exact EI hc
 cab:=fun x c h=>absurd (show false=true from h) Bool.false_ne_true
 hd:=I.ok.hd
 frames:=I.ok.frames
 stk:=.inl rfl
 exf:=fun b hb=>by
  obtain⟨o,ho⟩:=ho b hb
  refine⟨Nat.ne_of_lt (Nat.lt_of_lt_of_le (Heap.lt_size ho) hC),fun x c h=>(hf b hb).2.2.2.2.1 x c (Eu I S h)⟩
 bs:=I.bs
 bsz:=Nat.le_trans I.ok.bsz I.sz
 noex:=fun b o e hb=>by
  rcases (hf b hb).2.2.2.1 with z | z
  ·exact I.ok.noex b o e z
  ·exact absurd (Nat.lt_of_lt_of_le (Heap.lt_size (I.ok.bs b o e).1) z) (Nat.lt_irrefl _)
 exfs:=fun b hb z=>by
  rcases List.mem_cons.mp (I.stkSub b z) with e | e
  ·exact (hf b hb).2.1 e
  ·exact (hf b hb).2.2.1 e
 funs:=I.stack
 frf:=I.stkFree
theorem Ys {c:Caps}{C:Addr}{s4:Shared}{m:Str->Option Value}(I:Inv X pins σ H s)(S:BlkSc X sc)(hc:IO X.N sc c)(hC:s.heap.objs.size<=C)(hf:∀ b∈fp,FpOk X pins H b)(ho:∀ b∈fp,∃ o,s.heap.get? b=some o)
  (hos:s4.os=s.os) (hb:s4.gens=s.gens) (hk:∀ b o,s.heap.get? b=some o->s4.heap.get? b=some o) (hn:s4.heap.Ns C m):Inv (X.blk c.names sc C s H fp) [] (c.st σ) H s4 where
 ok:=CF_ I S hC hf ho
 os:=hos
 bare:=by rw[hb];exact I.bare
 base:=Un.kept hk
 loc:=by
  refine⟨m,hn,fun i x v h1 h2 hv=>?_⟩
  have h1':(c.map (·.1))[i]?=some x:=h1
  have h2':(c.map fun p=>p.2.bind fun j=>(σ[j]?).join)[i]?=some (some v):=h2
  rw[List.getElem?_map] at h1' h2'
  cases e:c[i]? with
  | none=>rw[e] at h1';cases h1'
  | some p =>
   obtain⟨y,oj⟩:=p
   rw[e] at h1' h2'
   have e1:y=x:=Option.some.inj h1'
   subst e1
   have e2:(oj.bind fun j=>(σ[j]?).join)=some v:=Option.some.inj h2'
   cases oj with
   | none=>cases e2
   | some j =>
    have e3:(σ[j]?).join=some v:=e2
    have e4:σ[j]?=some (some v):=by
     cases q:σ[j]? with
     | none=>rw[q] at e3;cases e3
     | some z=>rw[q] at e3;exact congrArg some e3
    obtain⟨k1,k2⟩:=IO.get hc e
    have k3:X.env.kindOf y=some .cell\/X.env.kindOf y=some .free:=S.free (y,.free) (PySem.mem_of_lookup k2) rfl
    have vis:Vis X.env.scope y:=by
     rcases k3 with k | k
     ·exact .inr (.inl k)
     ·exact .inr (.inr k)
    obtain⟨mX,hnX,hl⟩:=I.loc
    obtain⟨u,r,l⟩:=hl j y v k1 e4 vis
    refine⟨u,r,?_⟩
    rcases l with ⟨k,_⟩ | ⟨_,ca,hca,z⟩
    ·rcases k3 with k' | k'<;>(rw[k] at k';cases k')
    ·obtain⟨kd,hkd,ek⟩:=Ni (env:=X.env) k2
     have hk2:(compEnvC sc (clOf X.env sc.names []) C X.env).kindOf y=some kd:=ek
     obtain⟨c',hc'⟩:=NS (env:=X.env) sc.names [] y (.inl (PySem.mem_of_lookup k2))
     obtain⟨c2,hc2⟩:=EI hc'
     have e5:=Eu I S hc2
     rw[hca] at e5
     have e6:ca=c2:=Option.some.inj e5
     subst e6
     refine .inr ⟨?_,ca,hc2,?_⟩
     ·rcases hkd with rfl | rfl
      ·exact .inl hk2
      ·exact .inr hk2
     ·obtain⟨oc,hoc,hd⟩:=z
      exact⟨oc,hk _ _ hoc,hd⟩
 cell:=fun x ca h=>by
  obtain⟨v,oc,hoc,hd⟩:=I.cell x ca (Eu I S h)
  exact⟨v,oc,hk _ _ hoc,hd⟩
 free:=I.hok.fresh hC
 freeC:=fun x ca h=>I.freeC x ca (Eu I S h)
 pin:=fun p hp=>absurd (show p∈([]:List (Addr×Obj)) from hp) (by simp)
 hok:=I.hok.kept hk
 len:=by show (c.map _).length=(c.map _).length;rw[List.length_map,List.length_map]
theorem HOk.track {P:Program}{w:World}{H:Hp}{h:Heap}{a:Addr}{o:HO}(x:HOk P w H h)(hn:H a=none)(new:CC P w (upd H a o) h a o):HOk P w (upd H a o) h:=fun b u e=>by
 by_cases hb:b=a
 ·subst hb;rw[Ac] at e;cases e;exact new
 ·rw[Ah hb] at e
  exact (x b u e).stay (fun c v _ q=>q) (fun c q=>by rw[Ah (B7 q hn)];exact q) fun c xs q=>by rw[Ah (B7 q hn)];exact q
theorem Un.track {fs ex:List Addr}{H H':Hp}{h h':Heap}{a:Addr}{o:HO}(u:Un fs ex H H' h h')(ha:h.objs.size<=a)(hn:H' a=none):Un fs ex H (upd H' a o) h h' where
 keep:=u.keep
 slot:=u.slot
 free:=fun b ob q n hx=>by rw[Ah (Nat.ne_of_lt (Nat.lt_of_lt_of_le (Heap.lt_size q) ha))];exact u.free b ob q n hx
 there:=u.there
 tups:=fun b xs q=>by rw[Ah (B7 (u.tups b xs q) hn)];exact u.tups b xs q
 frzs:=fun b ob xs q=>by rw[Ah (B7 (u.frzs b ob xs q) hn)];exact u.frzs b ob xs q
 tbls:=fun b ps q=>by
  obtain⟨more,e⟩:=u.tbls b ps q
  exact⟨more,by rw[Ah (B7 e hn)];exact e⟩
theorem BB_ {c:Caps}{C D:Addr}{s':Shared}{σ':St}{H':Hp}{o:HO}(I:Inv X pins σ H s)(J:Inv (X.blk c.names sc C s H fp) [] σ' H' s')(hf:∀ b∈fp,FpOk X pins H b)(hD:s.heap.objs.size<=D)(hn:H' D=none)
  (new:CC X.prog X.w (upd H' D o) s'.heap D o):Inv X pins σ (upd H' D o) s':=by
 have u:Un (frs X.stack) fp H H' s.heap s'.heap:=J.base
 exact I.call' J.os (u.track hD hn) (J.hok.track hn new) J.bare fun b hb=>⟨(hf b hb).2.2.2.1,(hf b hb).2.1,(hf b hb).2.2.2.2.1,(hf b hb).2.2.2.2.2⟩
end
def PF (X:Cx)(ifs:List Expr)(t:TT):Prop :=
 ∀ (pins:List (Addr×Obj)) (s:Shared) (σ:St) (H:Hp) (Q:Bool->Hp->Prop),Inv X pins σ H s->t σ H Q ->
  wpAny (model X.prog X.w) X.A (forIn ifs true fun c r=>if r=true then do let ok <- isTrue c X.env (eval c X.env);pure (ForInStep.yield ok) else pure (ForInStep.yield r)) (TP X pins σ Q) X.xe s
def ZF:TT:=fun _ H Q=>Q true H
theorem HN {X:Cx}:PF X [] ZF:=fun _ _ _ H _ I h=>wpAny_tests_nil ⟨H,I,h⟩
def BC_ (wi:TI)(cp:Caps)(g:TG)(tc:TT)(te:TE):TE:=fun σ H Q=>wi σ H fun J H1=>∃ W:Nat->Nat->List V->St->Hp->Prop,(∃ m,W 0 m [] (cp.st σ) H1)/\∀ i m ys σ' H',W i m ys σ' H' ->
 ys.length<sizeLine/\((J.stop i H'/\∀ D,H' D=none->Q (.ref D) (upd H' D (.lst ys)))\/(J.go i H'/\∃ N:List V->St->Hp->Prop,(∀ zs σ2 H2,N zs σ2 H2->∃ m',m'<m/\W (i+1) m' zs σ2 H2)/\∀ x H2,J.yld i H' x H2->g x σ' H2 fun σ2 H3=>tc σ2 H3 fun b H4 =>
  if b=true then te σ2 H4 fun v H5=>N (ys ++ [v]) σ2 H5 else N ys σ2 H4))
section
variable {X:Cx} {tg iter elt:Expr} {ifs:List Expr} {sc:Scope} {pos:Pos} {wi:TI} {cp:Caps} {g:TG} {tc:TT} {te:TE}
theorem Ue (hc:X.calm=true)(S:BlkSc X sc)(hcp:IO X.N sc cp)
  (hg:∀ C s₀ H₀ ex,PG (X.blk cp.names sc C s₀ H₀ ex) tg g) (hf:∀ C s₀ H₀ ex,PF (X.blk cp.names sc C s₀ H₀ ex) ifs tc) (he:∀ C s₀ H₀ ex,PE (X.blk cp.names sc C s₀ H₀ ex) elt te)
  {pins:List (Addr×Obj)} {σ:St} {H:Hp} {s:Shared} {J:It} {it:Addr} {fp:List Addr} {tn:Nat->Heap->Prop} {Q:VK} {RR:Value->Addr->Result->Shared->Prop} {E:Value->Shared->Prop}
  (I:Inv X pins σ H s) (T:Turn X.prog X.w X.K tg J fp it tn) (st:tn 0 s.heap) (fpo:∀ b∈fp,FpOk X pins H b)
  (hw:∃ W:Nat->Nat->List V->St->Hp->Prop,(∃ m,W 0 m [] (cp.st σ) H)/\∀ i m ys σ' H',W i m ys σ' H' ->
   ys.length<sizeLine/\((J.stop i H'/\∀ D,H' D=none->Q (.ref D) (upd H' D (.lst ys)))\/(J.go i H'/\∃ N:List V->St->Hp->Prop,(∀ zs σ2 H2,N zs σ2 H2->∃ m',m'<m/\W (i+1) m' zs σ2 H2)/\∀ x H2,J.yld i H' x H2->g x σ' H2 fun σ2 H3=>tc σ2 H3 fun b H4 =>
    if b=true then te σ2 H4 fun v H5=>N (ys ++ [v]) σ2 H5 else N ys σ2 H4)))
  (hR:∀ D C s' H' (m:Str->Option Value),Inv X pins σ H' s'->Q (.ref D) H'->s'.heap.Ns C m->H' C=none->C≠X.env.locals->X.s₀.heap.objs.size<=C->(∀ x c,X.env.cells.lookup x=some c->c≠C)->(∀ p∈X.pn++pins,p.1≠C)->RR (.ref D) C (.ok .next) s') :
  wpAny (model X.prog X.w) X.A (newList []) (fun acc s₃=>wpAny (model X.prog X.w) X.A (newFunctionEnv sc X.env.globals (clOf X.env sc.names []) [] X.env.qual none .none (some X.env)) (fun cenv s₄ =>
   codeAny (model X.prog X.w) X.A (.compStart (.ListComp elt [⟨tg,iter,ifs,0⟩] sc pos) 0 (.ref it) acc {cenv with scope:=relabel sc X.env}) (RR acc cenv.locals) s₄) E s₃) E s:=by
 obtain⟨W,⟨m0,w0⟩,turn⟩:=hw
 refine wpAny_newObj_type (wpAny_newFunctionEnv S.nocell (by intro y hy;simp at hy) (fun h₁ hns₁ hsb₁=>?_) S.kind)
 dsimp only at hns₁ hsb₁ ⊢
 generalize hH2:s.heap.push {cls:=.type "list",dict:=none,data:=.seq ([]:List Value).toArray}=H2 at hns₁ hsb₁ ⊢
 have hC:H2.objs.size=s.heap.objs.size+1:=by rw[<- hH2,Heap.size_push]
 have hDC:s.heap.objs.size≠H2.objs.size:=by rw[hC];exact Nat.ne_of_lt (Nat.lt_succ_self _)
 have hCle:s.heap.objs.size<=H2.objs.size:=by rw[hC];exact Nat.le_succ _
 have below:∀ b,b<s.heap.objs.size->b≠H2.objs.size:=fun b hb=>by rw[hC];exact Nat.ne_of_lt (Nat.lt_succ_of_lt hb)
 have old:∀ b o,s.heap.get? b=some o->h₁.get? b=some o:=fun b o e=>hsb₁.extBut b o (below b (Heap.lt_size e)) (Heap.get?_push_of_some _ (hH2 ▸ Heap.get?_push_of_some _ e))
 have hacc:h₁.get? s.heap.objs.size=some {cls:=.type "list",data:=.seq ([]:List Value).toArray 0}:=hsb₁.extBut _ _ hDC (Heap.get?_push_of_some _ (hH2 ▸ Heap.get?_push_size _ rfl))
 have hst₁:tn 0 h₁:=T.keep 0 _ _ st fun b _ o e=>old b o e
 have hobj:∀ b∈fp,∃ o,s.heap.get? b=some o:=fun b hb=>let ⟨o,e,_⟩:=T.obj 0 _ st b hb;⟨o,e⟩
 have J0:Inv (X.blk cp.names sc H2.objs.size s H fp) [] (cp.st σ) H {s with heap:=h₁,toks:=s.toks+([]:List (Str×Value)).length}:=Ys I S hcp hCle fpo hobj rfl rfl old hns₁
 have nfs:∀ b,s.heap.objs.size<=b->b∉frs X.stack:=fun b hb z=>by
  rcases List.mem_cons.mp (I.stkSub b z) with e | e
  ·exact absurd (Nat.lt_of_lt_of_le I.lt (by rw[<- e];exact hb)) (Nat.lt_irrefl _)
  ·exact I.nofs hb e
 have ncell:∀ b,s.heap.objs.size<=b->∀ x c,X.env.cells.lookup x=some c->c≠b:=fun b hb x c e z=>by
  obtain⟨v,q⟩:=I.cell x c e
  exact absurd (Nat.lt_of_lt_of_le q.lt (by rw[z];exact hb)) (Nat.lt_irrefl _)
 have fpb:∀ {pins':List (Addr×Obj)} {H':Hp},(∀ b∈fp,H' b=none)->(∀ p∈pins',p.1∉fp)->∀ b∈fp,FpOk (X.blk cp.names sc H2.objs.size s H fp) pins' H' b:=fun {pins' H'} hn hp b hb=>by
  obtain⟨o,e⟩:=hobj b hb
  refine⟨hn b hb,below b (Heap.lt_size e),fun z=>?_,.inl hb,fun x c h=>(fpo b hb).2.2.2.2.1 x c (Eu I S h),fun p hp' z=>?_⟩
  ·rcases List.mem_cons.mp (I.stkSub b z) with e | e
   ·exact (fpo b hb).2.1 e
   ·exact (fpo b hb).2.2.1 e
  ·have hp'':p∈pins':=by simpa using hp'
   exact hp p hp'' (by rw[z];exact hb)
 have loop:∀ s₃:Shared,s₃={s with heap:=h₁,toks:=s.toks+([]:List (Str×Value)).length} ->
   codeAny (model X.prog X.w) X.A (.compLoop (.ListComp elt [⟨tg,iter,ifs,0⟩] sc pos) 0 (.ref it) (.ref s.heap.objs.size) (compEnvC sc (clOf X.env sc.names []) H2.objs.size X.env))
    (RR (.ref s.heap.objs.size) H2.objs.size) s₃:=by
  rintro s₃ rfl
  refine Ud (fun n s'=>∃ i σ' H' ys its k,Inv (X.blk cp.names sc H2.objs.size s H fp) [] σ' H' s'/\tn i s'.heap/\(∀ b∈fp,H' b=none)/\H' s.heap.objs.size=none /\
   s'.heap.get? s.heap.objs.size=some {cls:=.type "list",data:=.seq its.toArray k}/\Vals ys its/\W i n ys σ' H') ?_ m0
   ⟨0,_,H,[],[],0,J0,hst₁,fun b hb=>(fpo b hb).1,I.hok.fresh (Nat.le_refl _),hacc,.nil,w0⟩
  rintro n s3 ⟨i,σ3,H3,ys,its,k,I3,st3,fr3,hD3,e3,rv,w3⟩
  obtain⟨hz,tr⟩:=turn i n ys σ3 H3 w3
  have hlen:=rv.length
  -- the accumulator stands still while anything else runs
  have dpin:∀ p ∈ [(s.heap.objs.size,({cls:=.type "list",data:=.seq its.toArray k}:Obj))],p.1∉fp:=fun p hp z=>by
   have e:p=_:=List.mem_singleton.mp hp
   subst e
   obtain⟨o,e⟩:=hobj _ z
   exact absurd (Heap.lt_size e) (Nat.lt_irrefl _)
  have I3':Inv (X.blk cp.names sc H2.objs.size s H fp) [(s.heap.objs.size,({cls:=.type "list",data:=.seq its.toArray k}:Obj))] σ3 H3 s3:=I3.pins_of fun p hp=>by
   have e:p=_:=List.mem_singleton.mp hp
   subst e
   exact⟨e3,hD3,hDC,nfs _ (Nat.le_refl _),fun v z=>by cases z⟩
  have stat:∀ b∈fp,FpOk (X.blk cp.names sc H2.objs.size s H fp) [(s.heap.objs.size,({cls:=.type "list",data:=.seq its.toArray k}:Obj))] H3 b:=fpb fr3 dpin
  rcases tr with ⟨stop,qn⟩ | ⟨go,N,hN,step⟩
  ·refine thn (T.done (X.blk cp.names sc H2.objs.size s H fp) rfl rfl rfl hc i _ s3 σ3 H3 _ I3' stat st3 stop) fun r s4 ⟨hr,I4⟩=>?_
   subst hr
   obtain⟨e4,n4,_⟩:=I4.pin (s.heap.objs.size,({cls:=.type "list",data:=.seq its.toArray k}:Obj)) (by simp)
   have new:CC X.prog X.w (upd H3 s.heap.objs.size (.lst ys)) s4.heap s.heap.objs.size (.lst ys):=⟨Nat.le_of_lt hz,its,k,rv,e4⟩
   obtain⟨mC,hnC,_⟩:=I4.loc
   have I4':Inv (X.blk cp.names sc H2.objs.size s H fp) [] σ3 H3 s4:=I4.pins_of fun p hp=>by cases hp
   have I5:=BB_ I I4' fpo (Nat.le_refl _) n4 new
   refine hR _ _ s4 _ mC I5 (qn _ n4) hnC ?_ (Nat.ne_of_gt (Nat.lt_of_lt_of_le I.lt hCle)) (Nat.le_trans I.sz hCle) (ncell _ hCle) fun p hp z=>?_
   ·rw[Ah (Ne.symm hDC)];exact I4.free
   ·exact absurd (Nat.lt_of_lt_of_le (Heap.lt_size (I.pin p hp).1) (by rw[z];exact hCle)) (Nat.lt_irrefl _)
  ·refine thn (T.item (X.blk cp.names sc H2.objs.size s H fp) rfl rfl rfl hc i _ s3 σ3 H3 _ I3' stat st3 go) fun r s4 ⟨u,hr,h4⟩=>?_
   subst hr
   refine thn h4 fun _ s5 ⟨x,H5,I5,r5,y5,st5,fr5⟩=>?_
   have I5':=I5.pinned (fpb fr5 dpin) (T.obj _ _ st5)
   have fin:∀ {σ7:St} {H7:Hp} {s7:Shared},Inv (X.blk cp.names sc H2.objs.size s H fp) ([(s.heap.objs.size,({cls:=.type "list",data:=.seq its.toArray k}:Obj))]++T1 fp s5.heap) σ7 H7 s7 ->
     s7.heap.get? s.heap.objs.size=some {cls:=.type "list",data:=.seq its.toArray k}/\H7 s.heap.objs.size=none/\(∀ b∈fp,H7 b=none)/\∀ b∈fp,∀ o,s5.heap.get? b=some o->s7.heap.get? b=some o:=fun {σ7 H7 s7} I7=>by
    obtain⟨e7,n7,_⟩:=I7.pin (s.heap.objs.size,({cls:=.type "list",data:=.seq its.toArray k}:Obj)) (by simp)
    refine⟨e7,n7,fun b hb=>?_,fun b hb o e=>?_⟩
    ·obtain⟨o,e,_⟩:=T.obj _ _ st5 b hb
     exact (I7.pin (b,o) (List.mem_append_right _ (List.mem_append_right _ (JT hb e)))).2.1
    ·exact (I7.pin (b,o) (List.mem_append_right _ (List.mem_append_right _ (JT hb e)))).1
   refine wpAny_mono (hg _ _ _ _ _ s5 σ3 H5 x u _ I5' r5 (step x H5 y5)) (fun _ s6 ⟨σ6,H6,I6,q6⟩=>?_) fun _ _ z=>False.elim z
   refine wpAny_mono (hf _ _ _ _ _ s6 σ6 H6 _ I6 q6) (fun ok s7 ⟨H7,I7,q7⟩=>?_) fun _ _ z=>False.elim z
   cases ok with
   | false =>
    rw[if_neg Bool.false_ne_true]
    rw[if_neg Bool.false_ne_true] at q7
    obtain⟨m',hm,w7⟩:=hN _ _ _ q7
    obtain⟨e7,n7,fr7,k7⟩:=fin I7
    exact⟨m',hm,i+1,σ6,H7,ys,its,k,I7.pins_of (fun p hp=>by cases hp),T.keep _ _ _ st5 k7,fr7,n7,e7,rv,w7⟩
   | true =>
    rw[if_pos rfl]
    rw[if_pos rfl] at q7
    refine wpAny_mono (he _ _ _ _ _ s7 σ6 H7 _ I7 q7) (fun v s8 ⟨y,H8,I8,r8,q8⟩=>?_) fun _ _ z=>False.elim z
    obtain⟨m',hm,w8⟩:=hN _ _ _ q8
    obtain⟨e8,n8,fr8,k8⟩:=fin I8
    refine call_meets F.slot_list_append ⟨_,e8,rfl⟩ F.entry_list_append (F.args_list_append_2 _ _) (PySem.list_append s.heap.objs.size its.toArray k v (by rw[List.size_toArray];omega)) ⟨e8,?_⟩
    obtain⟨k',q⟩:∃ k',(s8.heap.update s.heap.objs.size (Obj.mapSeq fun x=>x.push v)).get? s.heap.objs.size=some {cls:=.type "list",data:=.seq (its ++ [v]).toArray k' }:=⟨_,by
     have q:=PySem.IsL.update e8 fun x=>x.push v
     have e:(its ++ [v]).toArray=its.toArray.push v:=by simp
     rw[e]
     exact q⟩
    have I8':Inv (X.blk cp.names sc H2.objs.size s H fp) [] σ6 H8 s8:=I8.pins_of fun p hp=>by cases hp
    have I9:Inv (X.blk cp.names sc H2.objs.size s H fp) [] σ6 H8 {s8 with heap:=s8.heap.update s.heap.objs.size (Obj.mapSeq fun x=>x.push v),toks:=s8.toks} :=
     I8'.turned (it:=s.heap.objs.size) (fun b o hb e=>(Heap.get?_update_other _ _ (Ne.symm hb)).trans e) n8 hDC (.inr (Nat.le_refl _)) (fun x c e=>ncell _ (Nat.le_refl _) x c (Eu I S e)) (fun p hp=>by cases hp)
    refine⟨m',hm,i+1,σ6,H8,ys ++ [y],its ++ [v],k',I9,T.keep (i+1) s5.heap _ st5 (fun b hb o e=>?_),fr8,n8,q,rv.append (.cons r8 .nil),w8⟩
    ·refine (Heap.get?_update_other _ _ ?_).trans (k8 b hb o e)
     intro z
     obtain⟨ob,eb⟩:=hobj b hb
     exact absurd (Heap.lt_size eb) (by rw[<- z];exact Nat.lt_irrefl _)
 exact codeAny_compStart_list (loop _ rfl) (T.self _ 0 _ _ _ hst₁ (loop _ rfl))
theorem Gy (hc:X.calm=true)(S:BlkSc X sc)(hcp:IO X.N sc cp)(hi:PI X tg iter wi)
  (hg:∀ C s₀ H₀ ex,PG (X.blk cp.names sc C s₀ H₀ ex) tg g) (hf:∀ C s₀ H₀ ex,PF (X.blk cp.names sc C s₀ H₀ ex) ifs tc) (he:∀ C s₀ H₀ ex,PE (X.blk cp.names sc C s₀ H₀ ex) elt te)
  (hs:∀ x,foldedSetIterable iter X.env x=pure x:=by intro _;rfl):PE X (.ListComp elt [⟨tg,iter,ifs,0⟩] sc pos) (BC_ wi cp g tc te):=by
 intro pins s σ H Q I h
 rw[eval_ListComp]
 refine wpAny_comprehension_free (use:=none) rfl hs (Rx (N9 I S)) S.kind S.loc (thn (hi pins s σ H _ I h) fun xv s₁ h₁=>thn h₁ fun itv s₂ h₂=>?_)
 obtain⟨it,fp,tn,J,H2,e,I2,T,st2,f2,hw⟩:=h₂
 subst e
 refine Ue (RR:=fun acc C=>compPost (model X.prog X.w) X.A X.xe none (EP X pins σ Q) acc C) hc S hcp hg hf he I2 T st2 f2 hw ?_
 intro D C s' H' m I' q hn hC hL hz hcl hp
 exact⟨m,hn,fun h' hs'=>⟨.ref D,H',I'.turned (t':=s'.toks) (it:=C) (fun b o hb e=>hs'.extBut b o hb e) hC hL (.inr hz) hcl hp,rfl,q⟩⟩
theorem Yt {i:Nat}{x:Str}{px spos:Pos}(hN:X.N.Nodup)(hi:X.N[i]?=some x)(hx:X.env.scope.names.lookup x=some .local)(hc:X.calm=true)(S:BlkSc X sc)(hcp:IO X.N sc cp)(hit:PI X tg iter wi)
  (hg:∀ C s₀ H₀ ex,PG (X.blk cp.names sc C s₀ H₀ ex) tg g) (hf:∀ C s₀ H₀ ex,PF (X.blk cp.names sc C s₀ H₀ ex) ifs tc) (he:∀ C s₀ H₀ ex,PE (X.blk cp.names sc C s₀ H₀ ex) elt te)
  (hsw:swapsWith (.ListComp elt [⟨tg,iter,ifs,0⟩] sc pos) (some (.Name x px)) spos.line X.env=pure true:=by rfl)
  (hs:∀ x,foldedSetIterable iter X.env x=pure x:=by intro _;rfl):PS X (.Assign [.Name x px] (.ListComp elt [⟨tg,iter,ifs,0⟩] sc pos) spos) (tAsg (BC_ wi cp g tc te) (T0 i)):=by
 intro pins s σ H D I h
 rw[exec_Assign_Name_used _ _ _ _ hsw]
 refine wpAny_bind (wpAny_standAt (wpAny_bind ?_))
 show wpAny _ X.A (do let _ <- comprehension (.ListComp elt [⟨tg,iter,ifs,0⟩] sc pos) sc X.env _ (newList []) false (eval iter X.env) (some (assign (.Name x px) X.env))) _ _ s
 refine wpAny_bind (wpAny_mono (wpAny_comprehension_free (use:=some (assign (.Name x px) X.env)) (Q:=fun _ s'=>SP X pins D .next s') rfl hs (Rx (N9 I S)) S.kind S.loc
  (thn (hit pins s σ H _ I h) fun xv s₁ h₁=>thn h₁ fun itv s₂ h₂=>?_)) (fun _ s' hq=>wpAny_pure (wpAny_pure hq)) fun _ _ e=>e)
 obtain⟨it,fp,tn,J,H2,e,I2,T,st2,f2,hw⟩:=h₂
 subst e
 refine Ue (RR:=fun acc C=>compPost (model X.prog X.w) X.A X.xe (some (assign (.Name x px) X.env)) (fun _ s'=>SP X pins D .next s') acc C) (Q:=fun v H1=>T0 i v σ H1 D.nx) hc S hcp hg hf he I2 T st2 f2 hw ?_
 intro Dl C s' H' m I' q hn hC hL hz hcl hp
 show wpAny _ X.A (assign (.Name x px) X.env (.ref Dl)) _ _ _
 refine wpAny_assign_Name (TY I' hN hi (.inl hx) (v:=.ref Dl) rfl (fun s'' I'' ⟨a,hsb,ha⟩=>?_) (.inr hx))
 have hne:C≠a:=by
  rcases ha with rfl | ha
  ·exact hL
  ·exact fun z=>hcl _ _ ha z.symm
 refine⟨m,hn.sameBut hsb hne,fun h' hs'=>⟨_,H',I''.turned (t':=s''.toks) (it:=C) (fun b o hb e=>hs'.extBut b o hb e) hC hL (.inr hz) hcl hp,q⟩⟩
end
theorem Yu {K:PySem.W.Frag}{a:Addr}{xs:List V}{g:TG}{tc:TT}{te:TE}{Q:VK}{σ:St}{H:Hp}(Pv:Nat->List V->St->Hp->Prop)(h0:Pv 0 [] σ H)(hz:xs.length<sizeLine)
  (hl:∀ i ys σ H,i<=xs.length->Pv i ys σ H->SqL K H a xs/\ys.length<=i)
  (hs:∀ i x ys σ H,xs[i]?=some x->Pv i ys σ H->g x σ H fun σ2 H2=>tc σ2 H2 fun b H3=>if b=true then te σ2 H3 fun v H4=>Pv (i+1) (ys ++ [v]) σ2 H4 else Pv (i+1) ys σ2 H3)
  (hd:∀ ys σ H,Pv xs.length ys σ H->∀ D,H D=none->Q (.ref D) (upd H D (.lst ys))) :
  ∃ W:Nat->Nat->List V->St->Hp->Prop,(∃ m,W 0 m [] σ H)/\∀ i m ys σ' H',W i m ys σ' H' ->
   ys.length<sizeLine/\(((Itl K a).stop i H'/\∀ D,H' D=none->Q (.ref D) (upd H' D (.lst ys)))\/((Itl K a).go i H'/\∃ N:List V->St->Hp->Prop,(∀ zs σ2 H2,N zs σ2 H2->∃ m',m'<m/\W (i+1) m' zs σ2 H2)/\∀ x H2,(Itl K a).yld i H' x H2->g x σ' H2 fun σ2 H3=>tc σ2 H3 fun b H4 =>
    if b=true then te σ2 H4 fun v H5=>N (ys ++ [v]) σ2 H5 else N ys σ2 H4)):=by
 refine⟨fun i m ys σ H=>m=xs.length-i/\i<=xs.length/\Pv i ys σ H,⟨xs.length,by simp,Nat.zero_le _,h0⟩,?_⟩
 rintro i m ys σ H ⟨rfl,hi,p⟩
 obtain⟨q,ly⟩:=hl i ys σ H hi p
 refine⟨by omega,?_⟩
 by_cases hlt:i<xs.length
 ·refine .inr ⟨⟨xs,xs[i],q,by simp[hlt]⟩,Pv (i+1),fun zs σ' H' p'=>⟨xs.length-(i+1),by omega,rfl,hlt,p'⟩,fun x H' y=>?_⟩
  obtain⟨e,y⟩:=y
  subst e
  exact hs i x ys σ _ (y xs q) p
 ·have e:i=xs.length:=by omega
  subst e
  exact .inl ⟨⟨xs,q,Nat.le_refl _⟩,hd ys σ H p⟩
theorem ZG {K:PySem.W.Frag}{a:Addr}{xs:List V}{g:TG}{tc:TT}{te:TE}{Q:VK}{σ:St}{H:Hp}(Pv:Nat->List V->St->Hp->Prop)(h0:Pv 0 [] σ H)(hz:xs.length<sizeLine)
  (hl:∀ i ys σ H,i<=xs.length->Pv i ys σ H->SqT K H a xs/\ys.length<=i)
  (hs:∀ i x ys σ H,xs[i]?=some x->Pv i ys σ H->g x σ H fun σ2 H2=>tc σ2 H2 fun b H3=>if b=true then te σ2 H3 fun v H4=>Pv (i+1) (ys ++ [v]) σ2 H4 else Pv (i+1) ys σ2 H3)
  (hd:∀ ys σ H,Pv xs.length ys σ H->∀ D,H D=none->Q (.ref D) (upd H D (.lst ys))) :
  ∃ W:Nat->Nat->List V->St->Hp->Prop,(∃ m,W 0 m [] σ H)/\∀ i m ys σ' H',W i m ys σ' H' ->
   ys.length<sizeLine/\(((Itt K a).stop i H'/\∀ D,H' D=none->Q (.ref D) (upd H' D (.lst ys)))\/((Itt K a).go i H'/\∃ N:List V->St->Hp->Prop,(∀ zs σ2 H2,N zs σ2 H2->∃ m',m'<m/\W (i+1) m' zs σ2 H2)/\∀ x H2,(Itt K a).yld i H' x H2->g x σ' H2 fun σ2 H3=>tc σ2 H3 fun b H4 =>
    if b=true then te σ2 H4 fun v H5=>N (ys ++ [v]) σ2 H5 else N ys σ2 H4)):=by
 refine⟨fun i m ys σ H=>m=xs.length-i/\i<=xs.length/\Pv i ys σ H,⟨xs.length,by simp,Nat.zero_le _,h0⟩,?_⟩
 rintro i m ys σ H ⟨rfl,hi,p⟩
 obtain⟨q,ly⟩:=hl i ys σ H hi p
 refine⟨by omega,?_⟩
 by_cases hlt:i<xs.length
 ·refine .inr ⟨⟨xs,xs[i],q,by simp[hlt]⟩,Pv (i+1),fun zs σ' H' p'=>⟨xs.length-(i+1),by omega,rfl,hlt,p'⟩,fun x H' y=>?_⟩
  obtain⟨e,y⟩:=y
  subst e
  exact hs i x ys σ _ (y xs q) p
 ·have e:i=xs.length:=by omega
  subst e
  exact .inl ⟨⟨xs,q,Nat.le_refl _⟩,hd ys σ H p⟩
theorem W9 {lo:Int}{n:Nat}{g:TG}{tc:TT}{te:TE}{Q:VK}{σ:St}{H:Hp}(Pv:Nat->List V->St->Hp->Prop)(h0:Pv 0 [] σ H)(hz:n<sizeLine)
  (hl:∀ i ys σ H,i<=n->Pv i ys σ H->ys.length<=i)
  (hs:∀ i ys σ H,i<n->Pv i ys σ H->g (.int (lo+i)) σ H fun σ2 H2=>tc σ2 H2 fun b H3=>if b=true then te σ2 H3 fun v H4=>Pv (i+1) (ys ++ [v]) σ2 H4 else Pv (i+1) ys σ2 H3)
  (hd:∀ ys σ H,Pv n ys σ H->∀ D,H D=none->Q (.ref D) (upd H D (.lst ys))) :
  ∃ W:Nat->Nat->List V->St->Hp->Prop,(∃ m,W 0 m [] σ H)/\∀ i m ys σ' H',W i m ys σ' H' ->
   ys.length<sizeLine/\(((Itr lo n).stop i H'/\∀ D,H' D=none->Q (.ref D) (upd H' D (.lst ys)))\/((Itr lo n).go i H'/\∃ N:List V->St->Hp->Prop,(∀ zs σ2 H2,N zs σ2 H2->∃ m',m'<m/\W (i+1) m' zs σ2 H2)/\∀ x H2,(Itr lo n).yld i H' x H2->g x σ' H2 fun σ2 H3=>tc σ2 H3 fun b H4 =>
    if b=true then te σ2 H4 fun v H5=>N (ys ++ [v]) σ2 H5 else N ys σ2 H4)):=by
 refine⟨fun i m ys σ H=>m=n-i/\i<=n/\Pv i ys σ H,⟨n,by simp,Nat.zero_le _,h0⟩,?_⟩
 rintro i m ys σ H ⟨rfl,hi,p⟩
 have ly:=hl i ys σ H hi p
 refine⟨by omega,?_⟩
 by_cases hlt:i<n
 ·refine .inr ⟨hlt,Pv (i+1),fun zs σ' H' p'=>⟨n-(i+1),by omega,rfl,hlt,p'⟩,fun x H' y=>?_⟩
  obtain⟨e,y⟩:=y
  subst e y
  exact hs i ys σ _ hlt p
 ·have e:i=n:=by omega
  subst e
  exact .inl ⟨Nat.le_refl _,hd ys σ H p⟩
end L2
namespace L2
open PySem PySem.Spec PyProof.Rows
section
variable {X:Cx}
theorem RU {bs:List Bool}{its:List Value}(r:Vals (bs.map V.bl) its){i:Nat}{v:Value}(h:its[i]?=some v):∃ b,bs[i]?=some b/\v=.bool b:=by
 have hi:i<its.length:=(List.getElem?_eq_some_iff.mp h).1
 have hl:=r.length
 rw[List.length_map] at hl
 obtain⟨u,hu,ru⟩:=r.get (i:=i) (x:=V.bl bs[i]) (by rw[List.getElem?_map];simp[show i<bs.length by omega])
 rw[h] at hu
 cases hu
 exact⟨bs[i],by simp[show i<bs.length by omega],ru⟩
theorem range_all {bs:List Bool}:(List.range bs.length).all (fun i=>bs.getD i false)=bs.all id:=by
 rw[Bool.eq_iff_iff,List.all_eq_true,List.all_eq_true]
 constructor
 ·intro h x hx
  obtain⟨i,hi,e⟩:=List.getElem_of_mem hx
  have:=h i (List.mem_range.mpr hi)
  rw[List.getD_eq_getElem?_getD] at this
  simp[hi] at this
  rw[e] at this
  exact this
 ·intro h i hi
  have hi:=List.mem_range.mp hi
  rw[List.getD_eq_getElem?_getD]
  simp[hi]
  exact h _ (List.getElem_mem hi)
theorem Vd {bs:List Bool}{its:List Value}{A:Around}{P:Program}{w:World}(r:Vals (bs.map V.bl) its):TruthOf P w A (fun i v=>its.toArray[i]?=some v) (fun i=>bs.getD i false):=by
 intro i v s Q E hv hq
 obtain⟨b,hb,e⟩:=RU r (by simpa using hv)
 subst e
 refine wpAny_truthy_bool ?_
 have e:bs.getD i false=b:=by rw[List.getD_eq_getElem?_getD,hb];rfl
 have hq':Q (bs.getD i false) s:=hq
 rw[e] at hq'
 exact hq'
theorem ZH (hc:X.calm=true):IJ X (.builtin "all") (fun xs H Q=>∃ (p:Addr) (bs:List Bool),xs=[.ref p]/\SqL X.K H p (bs.map V.bl)/\Q (.bl (bs.all id)) H):=by
 intro pins s σ H xs us Q I r h
 obtain⟨p,bs,rfl,hq,q⟩:=h
 obtain⟨u,rfl,ru⟩:=vals1 r
 cases ru
 obtain⟨its,rv,pl,hz⟩:=I.list hq
 have hlen:=rv.length
 rw[List.length_map] at hlen
 have hh:X.A.in1.handled=none:=I.ok.hd hc
 obtain⟨o,ho,_⟩:=id pl.isList
 have hne:p≠s.heap.objs.size:=Nat.ne_of_lt (Heap.lt_size ho)
 refine call_all_walk (wpAny_pyIter_list pl.isList ?_)
 refine⟨s.heap.objs.size,_,_,its.toArray.size,_,_,fun i=>bs.getD i false,rfl,Walks.list hh _ p hne its.toArray,⟨⟨_,Heap.get?_push_size _ rfl,rfl,rfl⟩,pl.isList.at fun o e=>Heap.get?_push_of_some _ e⟩,Vd rv,fun h' tk hk=>?_⟩
 refine⟨.bl (bs.all id),H,I.kept (t':=tk) fun b o e=>hk b o ?_ (Heap.get?_push_of_some _ e),?_,q⟩
 ·intro hb
  have e':b=s.heap.objs.size:=by simpa using hb
  exact absurd (Heap.lt_size e) (by rw[e'];exact Nat.lt_irrefl _)
 ·rw[List.size_toArray,<- hlen,range_all];rfl
theorem Hi:IJ X (.builtin "isinstance") (fun xs H Q=>∃ x c cv t b,xs=[x,c]/\TyOf X.K H x t/\(∀ u,RelV c u->u=cv)/\PySem.W.kitOne X.K t cv=some b/\Q (.bl b) H):=by
 intro pins s σ H xs us Q I r h
 obtain⟨x,c,cv,t,b,rfl,ty,hc,hk,q⟩:=h
 obtain⟨u,w',rfl,rx,rc⟩:=vals2 r
 rw[hc _ rc]
 exact Yc I rx ty hk fun tk=>⟨.bl b,H,I.tok tk,rfl,q⟩
def EqD (K:PySem.W.Frag)(H:Hp):Nat->V->V->Bool->Prop
 | 0,x,y,b=>Ia x=true/\Ia y=true/\b=eqV x y
 | n+1,x,y,b=>(Ia x=true/\Ia y=true/\b=eqV x y) \/ ∃ a c xs ys,x=.ref a/\y=.ref c/\((SqL K H a xs/\SqL K H c ys)\/(SqT K H a xs/\SqT K H c ys)) /\
   ∃ e:Nat->Bool,(∀ i x y,xs[i]?=some x->ys[i]?=some y->EqD K H n x y (e i))/\b=(decide (xs.length=ys.length)&&(List.range (min xs.length ys.length)).all e)
theorem in1_units (A:Around):A.in1.units=A.units+1:=rfl
theorem Wm {x:V}(h:Ia x=true):eqV x x=true:=by
 cases x<;>first | rfl | (simp[eqV];done) | exact absurd (show false=true from h) Bool.false_ne_true
theorem EqD.self {pins:List (Addr×Obj)}{s:Shared}{σ:St}{H:Hp}(I:Inv X pins σ H s):∀ (n:Nat) {x:V} {b:Bool},EqD X.K H n x x b->b=true:=by
 intro n
 induction n with
 | zero =>
  rintro x b ⟨fx,_,rfl⟩
  exact Wm fx
 | succ n ih =>
  rintro x b (⟨fx,_,rfl⟩ | ⟨a,c,xs,ys,rfl,e2,hq,e,he,rfl⟩)
  ·exact Wm fx
  ·cases e2
   have exy:xs=ys:=by
    rcases hq with ⟨h1,h2⟩ | ⟨h1,h2⟩
    ·exact I.list_inj h1 h2
    ·exact I.tuple_inj h1 h2
   subst exy
   simp only[decide_true,Bool.true_and,Nat.min_self,List.all_eq_true,List.mem_range]
   intro i hi
   exact ih (he i xs[i] xs[i] (by simp[hi]) (by simp[hi]))
theorem BD_ {n m:Nat}{e:Nat->Bool}:((List.range (min n m)).all e&&n == m)=(decide (n=m)&&(List.range (min n m)).all e):=by
 rw[Bool.and_comm]
 congr 1
theorem EqD.at {pins:List (Addr×Obj)}{s:Shared}{σ:St}{H:Hp}(I:Inv X pins σ H s):∀ (n:Nat) (A:Around) {x y:V} {u v:Value} {b:Bool},A.units+n<cLine->RelV x u->RelV y v->EqD X.K H n x y b ->
  SeqAt.EqAt A s u v b/\∀ a c,x=.ref a->y=.ref c->SeqAt.RcAt A s u v b:=by
 intro n
 induction n with
 | zero =>
  intro A x y u v b hu rx ry h
  obtain⟨fx,fy,rfl⟩:=h
  refine⟨Yk rx ry fx fy,?_⟩
  rintro a c rfl rfl
  exact absurd (show false=true from fx) Bool.false_ne_true
 | succ n ih =>
  intro A x y u v b hu rx ry h
  have hself:=h
  rcases h with ⟨fx,fy,rfl⟩ | ⟨a,c,xs,ys,rfl,rfl,hq,e,he,rfl⟩
  ·refine⟨Yk rx ry fx fy,?_⟩
   rintro a c rfl rfl
   exact absurd (show false=true from fx) Bool.false_ne_true
  ·cases rx
   cases ry
   have key:∀ (its its2:List Value),Vals xs its->Vals ys its2->∀ j (h1:j<its.toArray.size) (h2:j<its2.toArray.size),SeqAt.EqAt A.in1 s its.toArray[j] its2.toArray[j] (e j):=fun its its2 r1 r2 j h1 h2=>by
    have l1:=r1.length
    have l2:=r2.length
    rw[List.size_toArray] at h1 h2
    obtain⟨u1,g1,q1⟩:=r1.get (i:=j) (x:=xs[j]'(by omega)) (by simp[show j<xs.length by omega])
    obtain⟨u2,g2,q2⟩:=r2.get (i:=j) (x:=ys[j]'(by omega)) (by simp[show j<ys.length by omega])
    have k1:its.toArray[j]'(by rw[List.size_toArray];exact h1)=u1:=by
     have:=(List.getElem?_eq_some_iff.mp g1).2
     simpa using this
    have k2:its2.toArray[j]'(by rw[List.size_toArray];exact h2)=u2:=by
     have:=(List.getElem?_eq_some_iff.mp g2).2
     simpa using this
    rw[k1,k2]
    exact (ih A.in1 (by rw[in1_units];omega) q1 q2 (he j _ _ (by simp[show j<xs.length by omega]) (by simp[show j<ys.length by omega]))).1
   have rc:SeqAt.RcAt A s (.ref a) (.ref c) (decide (xs.length=ys.length)&&(List.range (min xs.length ys.length)).all e):=by
    rcases hq with ⟨h1,h2⟩ | ⟨h1,h2⟩
    ·obtain⟨its,r1,p1,_⟩:=I.list h1
     obtain⟨its2,r2,p2,_⟩:=I.list h2
     have l1:=r1.length
     have l2:=r2.length
     by_cases hl:xs.length=ys.length
     ·have:=SeqAt.RcAt.lists (e:=e) p1.isList p2.isList (by rw[List.size_toArray,List.size_toArray];omega) (by omega) (key its its2 r1 r2)
      rw[List.size_toArray,<- l1] at this
      rw[decide_eq_true hl,Bool.true_and,<- hl,Nat.min_self]
      exact this
     ·rw[decide_eq_false hl,Bool.false_and]
      exact SeqAt.RcAt.lists_lengths p1.isList p2.isList (by rw[List.size_toArray,List.size_toArray];simp;omega) (by omega)
    ·obtain⟨its,r1,p1,_⟩:=I.tuple h1
     obtain⟨its2,r2,p2,_⟩:=I.tuple h2
     have l1:=r1.length
     have l2:=r2.length
     have:=SeqAt.RcAt.tuples (e:=e) (show s.heap.IsTuple a its.toArray from p1) (show s.heap.IsTuple c its2.toArray from p2) (by omega) (key its its2 r1 r2)
     rw[List.size_toArray,List.size_toArray,<- l1,<- l2,BD_] at this
     exact this
   refine⟨?_,fun a' c' _ _=>rc⟩
   by_cases hac:a=c
   ·subst hac
    rw[EqD.self I (n+1) hself]
    exact SeqAt.EqAt.same _
   ·exact SeqAt.EqAt.of_refs hac rc
def rEqD (K:PySem.W.Frag)(n:Nat):R2:=fun x y H Q=>∃ a c b,x=.ref a/\y=.ref c/\EqD K H n x y b/\Q (.bl b) H
theorem CG_ (n:Nat)(hu:X.A.units+n<cLine):OpR X (compareOp .Eq) (rEqD X.K n):=by
 intro pins s σ H x y v u Q I rx ry h
 obtain⟨a,c,b,ex,ey,h,q⟩:=h
 exact (EqD.at I n X.A hu rx ry h).2 a c ex ey _ _ _ _ ⟨.bl b,H,I,rfl,q⟩
theorem EqD.flat {K:PySem.W.Frag}{H:Hp}{a c:Addr}{xs ys:List V}(hq:(SqL K H a xs/\SqL K H c ys)\/(SqT K H a xs/\SqT K H c ys))(fx:∀ x∈xs,Ia x=true)(fy:∀ y∈ys,Ia y=true)(hi:∀ x∈xs,∀ y∈ys,eqV x y=decide (x=y))(n:Nat) :
  EqD K H (n+1) (.ref a) (.ref c) (decide (xs=ys)):=by
 have base:∀ m i x y,xs[i]?=some x->ys[i]?=some y->EqD K H m x y (decide (x=y)):=fun m i x y h1 h2=>by
  have m1:=List.mem_of_getElem? h1
  have m2:=List.mem_of_getElem? h2
  cases m with
  | zero=>exact⟨fx _ m1,fy _ m2,(hi _ m1 _ m2).symm⟩
  | succ m=>exact .inl ⟨fx _ m1,fy _ m2,(hi _ m1 _ m2).symm⟩
 refine .inr ⟨a,c,xs,ys,rfl,rfl,hq,fun i=>match xs[i]?,ys[i]? with | some x,some y=>decide (x=y) | _,_=>true,fun i x y h1 h2=>?_,?_⟩
 ·simp only[h1,h2]
  exact base n i x y h1 h2
 ·rw[Bool.eq_iff_iff]
  simp only[decide_eq_true_eq,Bool.and_eq_true,List.all_eq_true,List.mem_range]
  constructor
  ·rintro rfl
   refine⟨rfl,fun i hi=>?_⟩
   have hi:i<xs.length:=by omega
   simp[hi]
  ·rintro⟨hl,h⟩
   refine List.ext_getElem? fun i=>?_
   by_cases hi:i<xs.length
   ·have:=h i (by omega)
    simp[hi,show i<ys.length by omega] at this
    simp[hi,show i<ys.length by omega,this]
   ·rw[List.getElem?_eq_none (by omega),List.getElem?_eq_none (by omega)]
end
end L2
namespace L2
open PySem PySem.Spec PyProof.Rows
def CH_ (outer:List (Str×NameKind))(sc:Scope):Bool :=
 sc.kind == .function&&sc.names.all (fun y=>y.2 != .cell&&(y.2 != .local||sc.names.lookup y.1 == some .local)&&(y.2 != .free||outer.lookup y.1 == some .cell||outer.lookup y.1 == some .free))
theorem HP {X:Cx}{sc:Scope}(h:CH_ X.env.scope.names sc=true):BlkSc X sc:=by
 unfold CH_ at h
 rw[Bool.and_eq_true,List.all_eq_true] at h
 obtain⟨h1,h2⟩:=h
 refine⟨by simpa using h1,fun y hy z=>?_,fun y hy z=>?_,fun y hy z=>?_⟩
 ·have:=h2 y hy
  simp only[Bool.and_eq_true] at this
  have:=this.1.1
  rw[z] at this
  exact absurd this (by decide)
 ·have:=h2 y hy
  simp only[Bool.and_eq_true] at this
  have:=this.1.2
  rw[z] at this
  simpa using this
 ·have:=h2 y hy
  simp only[Bool.and_eq_true] at this
  have:=this.2
  rw[z] at this
  have t:(X.env.scope.names.lookup y.1 == some .cell||X.env.scope.names.lookup y.1 == some .free)=true:=by simpa using this
  rw[Bool.or_eq_true] at t
  rcases t with t | t
  ·exact .inl (by show X.env.scope.names.lookup y.1=some .cell;simpa using t)
  ·exact .inr (by show X.env.scope.names.lookup y.1=some .free;simpa using t)
section
variable {t u:TS} {te ta tb tc':TE} {tt tu:TT} {A B:TA} {D:Ends} {σ:St} {H:Hp} {Q:VK} {R:Bool->Hp->Prop} {S:List V->Hp->Prop} {i:Nat} {v:V} {g:TG} {r r':R2} {K:PySem.W.Frag} {wi:TI} {cp:Caps}
theorem CI_:tSeq t u D σ H=t {D with nx:=u D} σ H:=rfl
theorem AD_:Ck_ D σ H=D.nx σ H:=rfl
theorem CJ_:tAsg te g D σ H=te σ H fun x H1=>g x σ H1 D.nx:=rfl
theorem Yv {N:St->Hp->Prop}:T0 i v σ H N=N (σ.set i (some v)) H:=rfl
theorem CK_:tVar i σ H Q=∃ v,σ[i]?=some (some v)/\Q v H:=rfl
theorem r_c:tC v σ H Q=Q v H:=rfl
theorem r_op:tOp r ta tb σ H Q=ta σ H fun x H1=>tb σ H1 fun y H2=>r x y H2 Q:=rfl
theorem r_un {f:V->Hp->VK->Prop}:tUn f ta σ H Q=ta σ H fun x H1=>f x H1 Q:=rfl
theorem r_I {C:Int->Int->Prop}{f:Int->Int->V}{x y:V}:rI C f x y H Q=∃ i j,x=.int i/\y=.int j/\C i j/\Q (f i j) H:=rfl
theorem r_I0 {f:Int->Int->V}{x y:V}:rI0 f x y H Q=∃ i j,x=.int i/\y=.int j/\Q (f i j) H:=rfl
theorem r_U {f:Int->V}{x:V}:rU f x H Q=∃ i,x=.int i/\Q (f i) H:=rfl
theorem AE_ {sp:Sp}{dvs:List V}{E:XK}:Bu_ sp dvs E A σ H Q=A σ H fun vs H1=>sp (vs++dvs) H1 Q E:=rfl
theorem AF_:Cr_ te A σ H S=te σ H fun x H1=>A σ H1 fun xs H2=>S (x::xs) H2:=rfl
theorem CL_:tNil σ H S=S [] H:=rfl
theorem CM_:tRet te D σ H=te σ H D.rt:=rfl
theorem AG_:Cl_ te D σ H=te σ H fun _ H1=>D.nx σ H1:=rfl
theorem r_if:tIfS tt t u D σ H=tt σ H fun b H1=>if b=true then t D σ H1 else u D σ H1:=rfl
theorem r_B:tB te σ H R=te σ H fun x H1=>∃ c,x=.bl c/\R c H1:=rfl
theorem AH_:Cq_ te σ H R=te σ H fun x H1=>∃ c,x=.bl c/\R c H1:=rfl
theorem r_or:tOr tt tu σ H R=tt σ H fun c H1=>if c=true then R true H1 else tu σ H1 R:=rfl
theorem CN_:tNot tt σ H R=tt σ H fun c H1=>R (!c) H1:=rfl
theorem AI_:Cj_ ta tb σ H Q=ta σ H fun x H1=>∃ c,x=.bl c/\if c=true then tb σ H1 Q else Q (.bl false) H1:=rfl
theorem Yw:Aw_ r r' ta tb tc' σ H Q=ta σ H fun x H1=>tb σ H1 fun y H2=>r x y H2 fun z H3=>∃ k,z=.bl k/\(if k=true then tc' σ H3 fun w' H4=>r' y w' H4 Q else Q (.bl false) H3):=rfl
theorem r_CB {f:List V->Hp->VK->Prop}:tCB f A σ H Q=A σ H fun vs H1=>f vs H1 Q:=rfl
theorem CO_:tLst A σ H Q=A σ H fun xs H1=>xs.length<=sizeLine/\∀ p,H1 p=none->Q (.ref p) (upd H1 p (.lst xs)):=rfl
theorem CP_:tTup A σ H Q=A σ H fun xs H1=>xs.length<=sizeLine/\∀ p,H1 p=none->Q (.ref p) (upd H1 p (.tup xs)):=rfl
theorem CQ_ {x y:V}:rIxL K x y H Q=∃ p xs i v,x=.ref p/\y=.int i/\SqL K H p xs/\atI xs i=some v/\Q v H:=rfl
theorem CR_ {x y:V}:rIxT K x y H Q=∃ p xs i v,x=.ref p/\y=.int i/\SqT K H p xs/\atI xs i=some v/\Q v H:=rfl
theorem r_sl {f:V->Option Int->Option Int->Hp->VK->Prop}{tl th:TO}:tSl f te tl th σ H Q=te σ H fun x H1=>tl σ H1 fun l H2=>th σ H2 fun u H3=>f x l u H3 Q:=rfl
theorem AJ_ {U:Option Int->Hp->Prop}:Cv_ te σ H U=te σ H fun x H1=>∃ i,x=.int i/\U (some i) H1:=rfl
theorem Wn {U:Option Int->Hp->Prop}:Yg σ H U=U none H:=rfl
theorem CS_ {x:V}{lo hi:Option Int}:rSlL K x lo hi H Q=∃ a xs,x=.ref a/\SqL K H a xs/\∀ p,H p=none->Q (.ref p) (upd H p (.lst (cutV xs lo hi))):=rfl
theorem r_BM {T:String}{f:V->List V->Hp->VK->Prop}:tBM K T f te A σ H Q=te σ H fun x H1=>tyV K T x H1/\A σ H1 fun xs H2=>f x xs H2 Q:=rfl
theorem Wo {x:V}{vs:List V}:Yl x vs H Q=∃ l xs y,x=.ref l/\vs=[y]/\H l=some (.lst xs)/\xs.length<sizeLine/\Q .non (upd H l (.lst (xs ++ [y]))):=rfl
theorem AK_ {to ti:TE}{ts:TSet}{N:St->Hp->Prop}:gSub to ti ts v σ H N=to σ H fun o H1=>ti σ H1 fun i H2=>ts o i v H2 fun H3=>N σ H3:=rfl
theorem AL_ {o k:V}{N:Hp->Prop}:Cw_ o k v H N=∃ p xs m j,o=.ref p/\k=.int m/\H p=some (.lst xs)/\ixN xs.length m=some j/\N (upd H p (.lst (xs.set j v))):=rfl
theorem r_Eq {x y:V}:rEq x y H Q=(scal x y=true/\Q (.bl (decide (x=y))) H):=rfl
theorem r_Ne {x y:V}:rNe x y H Q=(scal x y=true/\Q (.bl (!decide (x=y))) H):=rfl
theorem CT_ {n:Nat}{x y:V}:rEqD K n x y H Q=∃ a c b,x=.ref a/\y=.ref c/\EqD K H n x y b/\Q (.bl b) H:=rfl
theorem Yx {Z:It->Hp->Prop}:Cn_ K te σ H Z=te σ H fun x H1=>∃ a,x=.ref a/\(∃ xs,SqL K H1 a xs)/\Z (Itl K a) H1:=rfl
theorem AM_ {Z:It->Hp->Prop}:iTup K te σ H Z=te σ H fun x H1=>∃ a,x=.ref a/\(∃ xs,SqT K H1 a xs)/\Z (Itt K a) H1:=rfl
theorem Yy {Z:It->Hp->Prop}:Co_ A σ H Z=A σ H fun vs H1=>∃ j:Int,vs=[.int j] /\ -(2 ^ 62)<=j/\j<2 ^ 62/\Z (Itr 0 j.toNat) H1:=rfl
theorem AN_:ZF σ H R=R true H:=rfl
end
theorem Same.new {H:Hp}{p:Addr}{o:HO}(h:H p=none):Same H (upd H p o):=fun b u e=>by rw[Ah (B7 e h)];exact e
theorem Same.newT {H H':Hp}{p:Addr}{o:HO}(s:Same H H')(h:H' p=none):Same H (upd H' p o):=s.trans (Same.new h)
theorem Same.over {H H':Hp}{p:Addr}{o:HO}(s:Same H H')(h:H p=none):Same H (upd H' p o):=fun b u e=>by rw[Ah (B7 e h)];exact s b u e
theorem Ku {H:Hp}{p D:Addr}{o:HO}(h:upd H p o D=none):H D=none/\D≠p:=by
 by_cases e:D=p
 ·subst e;rw[Ac] at h;cases h
 ·rw[Ah e] at h;exact⟨h,e⟩
theorem Same.seqT {K:PySem.W.Frag}{H H':Hp}{a:Addr}{xs:List V}(e:Same H H')(h:SqT K H a xs):SqT K H' a xs:=by
 rcases h with (h | ⟨o,h⟩) | h
 ·exact .inl (.inl (e _ _ h))
 ·exact .inl (.inr ⟨o,e _ _ h⟩)
 ·exact .inr h
theorem hu9 {k:Nat}{A:Around}(hr:Room k A):A.units+8<cLine:=by have:=hr.units;omega
section
variable {K:PySem.W.Frag} {wi:TI} {cp:Caps} {g:TG} {tc:TT} {te:TE} {σ:St} {H:Hp} {Q:VK}
theorem CU_ {CX:CXT}{P:Program}{w:World}{mg:Str->Option Value}{base:Heap}{N:List Str}{qual:Str}{scope:Scope}{f:Addr}{cd:Value}{A:Around}{outer:List Env}{s:Shared}{E:XK}:(cxOf CX P w K mg base N qual scope f cd A outer s H E).K=K:=rfl
def Xa (J:It)(cp:Caps)(g:TG)(tc:TT)(te:TE)(σ:St)(H1:Hp)(Q:VK):Prop:=∃ W:Nat->Nat->List V->St->Hp->Prop,(∃ m,W 0 m [] (cp.st σ) H1)/\∀ i m ys σ' H',W i m ys σ' H' ->
 ys.length<sizeLine/\((J.stop i H'/\∀ D,H' D=none->Q (.ref D) (upd H' D (.lst ys)))\/(J.go i H'/\∃ N:List V->St->Hp->Prop,(∀ zs σ2 H2,N zs σ2 H2->∃ m',m'<m/\W (i+1) m' zs σ2 H2)/\∀ x H2,J.yld i H' x H2->g x σ' H2 fun σ2 H3=>tc σ2 H3 fun b H4 =>
  if b=true then te σ2 H4 fun v H5=>N (ys ++ [v]) σ2 H5 else N ys σ2 H4))
theorem AO_:BC_ wi cp g tc te σ H Q=wi σ H fun J H1=>Xa J cp g tc te σ H1 Q:=rfl
def ForW (J:It)(g:TG)(tb:TS)(D:Ends)(σ:St)(H1:Hp):Prop:=∃ W:Nat->Nat->St->Hp->Prop,(∃ m,W 0 m σ H1)/\∀ i m σ H,W i m σ H ->
 (J.stop i H/\D.nx σ H)\/(J.go i H/\∃ N:St->Hp->Prop,(∀ σ' H',N σ' H'->∃ m',m'<m/\W (i+1) m' σ' H')/\∀ x H',J.yld i H x H'->g x σ H' fun σ2 H2=>tb {D with nx:=N,ct:=N,bk:=D.nx} σ2 H2)
theorem CV_ {tb:TS}{D:Ends}:tFor wi g tb D σ H=wi σ H fun J H1=>ForW J g tb D σ H1:=rfl
theorem forL {a:Addr}{xs:List V}{g:TG}{tb:TS}{D:Ends}{σ:St}{H:Hp}(Pv:Nat->St->Hp->Prop)(h0:Pv 0 σ H)(hl:∀ i σ H,i<=xs.length->Pv i σ H->SqL K H a xs)
  (hs:∀ i x σ H,xs[i]?=some x->Pv i σ H->g x σ H fun σ2 H2=>tb {D with nx:=Pv (i+1),ct:=Pv (i+1),bk:=D.nx} σ2 H2) (hd:∀ σ H,Pv xs.length σ H->D.nx σ H):ForW (Itl K a) g tb D σ H:=Zv Pv h0 hl hs hd
theorem forT {a:Addr}{xs:List V}{g:TG}{tb:TS}{D:Ends}{σ:St}{H:Hp}(Pv:Nat->St->Hp->Prop)(h0:Pv 0 σ H)(hl:∀ i σ H,i<=xs.length->Pv i σ H->SqT K H a xs)
  (hs:∀ i x σ H,xs[i]?=some x->Pv i σ H->g x σ H fun σ2 H2=>tb {D with nx:=Pv (i+1),ct:=Pv (i+1),bk:=D.nx} σ2 H2) (hd:∀ σ H,Pv xs.length σ H->D.nx σ H):ForW (Itt K a) g tb D σ H:=Bp_ Pv h0 hl hs hd
theorem forR {lo:Int}{n:Nat}{g:TG}{tb:TS}{D:Ends}{σ:St}{H:Hp}(Pv:Nat->St->Hp->Prop)(h0:Pv 0 σ H)
  (hs:∀ i σ H,i<n->Pv i σ H->g (.int (lo+i)) σ H fun σ2 H2=>tb {D with nx:=Pv (i+1),ct:=Pv (i+1),bk:=D.nx} σ2 H2) (hd:∀ σ H,Pv n σ H->D.nx σ H):ForW (Itr lo n) g tb D σ H:=X3 Pv h0 hs hd
theorem Yz {a:Addr}{xs:List V}(Pv:Nat->List V->St->Hp->Prop)(h0:Pv 0 [] (cp.st σ) H)(hz:xs.length<sizeLine)
  (hl:∀ i ys σ H,i<=xs.length->Pv i ys σ H->SqL K H a xs/\ys.length<=i)
  (hs:∀ i x ys σ H,xs[i]?=some x->Pv i ys σ H->g x σ H fun σ2 H2=>tc σ2 H2 fun b H3=>if b=true then te σ2 H3 fun v H4=>Pv (i+1) (ys ++ [v]) σ2 H4 else Pv (i+1) ys σ2 H3)
  (hd:∀ ys σ H,Pv xs.length ys σ H->∀ D,H D=none->Q (.ref D) (upd H D (.lst ys))):Xa (Itl K a) cp g tc te σ H Q:=Yu Pv h0 hz hl hs hd
theorem Dx_ {a:Addr}{xs:List V}(Pv:Nat->List V->St->Hp->Prop)(h0:Pv 0 [] (cp.st σ) H)(hz:xs.length<sizeLine)
  (hl:∀ i ys σ H,i<=xs.length->Pv i ys σ H->SqT K H a xs/\ys.length<=i)
  (hs:∀ i x ys σ H,xs[i]?=some x->Pv i ys σ H->g x σ H fun σ2 H2=>tc σ2 H2 fun b H3=>if b=true then te σ2 H3 fun v H4=>Pv (i+1) (ys ++ [v]) σ2 H4 else Pv (i+1) ys σ2 H3)
  (hd:∀ ys σ H,Pv xs.length ys σ H->∀ D,H D=none->Q (.ref D) (upd H D (.lst ys))):Xa (Itt K a) cp g tc te σ H Q:=ZG Pv h0 hz hl hs hd
theorem ZI {lo:Int}{n:Nat}(Pv:Nat->List V->St->Hp->Prop)(h0:Pv 0 [] (cp.st σ) H)(hz:n<sizeLine)
  (hl:∀ i ys σ H,i<=n->Pv i ys σ H->ys.length<=i)
  (hs:∀ i ys σ H,i<n->Pv i ys σ H->g (.int (lo+i)) σ H fun σ2 H2=>tc σ2 H2 fun b H3=>if b=true then te σ2 H3 fun v H4=>Pv (i+1) (ys ++ [v]) σ2 H4 else Pv (i+1) ys σ2 H3)
  (hd:∀ ys σ H,Pv n ys σ H->∀ D,H D=none->Q (.ref D) (upd H D (.lst ys))):Xa (Itr lo n) cp g tc te σ H Q:=W9 Pv h0 hz hl hs hd
theorem Wp {a:Addr}{xs:List V}{σ':St}(f:V->V)(e:cp.st σ=none::σ')(hl:SqT K H a xs)(hz:xs.length<sizeLine)(hs:∀ x∈xs,∀ R:VK,R (f x) H->te (some x::σ') H R)(hd:∀ D,H D=none->Q (.ref D) (upd H D (.lst (xs.map f)))) :
  Xa (Itt K a) cp (T0 0) ZF te σ H Q:=by
 refine Dx_ (xs:=xs) (fun i ys σ2 H2=>H2=H/\ys=(xs.take i).map f/\∃ o,σ2=o::σ') ⟨rfl,by simp,none,e⟩ hz (fun i ys σ2 H2 hi h=>?_) (fun i x ys σ2 H2 hx h=>?_) (fun ys σ2 H2 h=>?_)
 ·obtain⟨rfl,rfl,_⟩:=h
  exact⟨hl,by rw[List.length_map,List.length_take];omega⟩
 ·obtain⟨rfl,rfl,o,rfl⟩:=h
  refine hs x (List.mem_of_getElem? hx) _ ⟨rfl,?_,some x,rfl⟩
  rw[List.take_add_one,hx];simp
 ·obtain⟨rfl,rfl,_⟩:=h
  rw[List.take_length]
  exact hd
theorem Wq {a:Addr}{xs:List V}{σ':St}(f:V->V)(e:cp.st σ=none::σ')(hl:SqL K H a xs)(hz:xs.length<sizeLine)(hs:∀ x∈xs,∀ R:VK,R (f x) H->te (some x::σ') H R)(hd:∀ D,H D=none->Q (.ref D) (upd H D (.lst (xs.map f)))) :
  Xa (Itl K a) cp (T0 0) ZF te σ H Q:=by
 refine Yz (xs:=xs) (fun i ys σ2 H2=>H2=H/\ys=(xs.take i).map f/\∃ o,σ2=o::σ') ⟨rfl,by simp,none,e⟩ hz (fun i ys σ2 H2 hi h=>?_) (fun i x ys σ2 H2 hx h=>?_) (fun ys σ2 H2 h=>?_)
 ·obtain⟨rfl,rfl,_⟩:=h
  exact⟨hl,by rw[List.length_map,List.length_take];omega⟩
 ·obtain⟨rfl,rfl,o,rfl⟩:=h
  refine hs x (List.mem_of_getElem? hx) _ ⟨rfl,?_,some x,rfl⟩
  rw[List.take_add_one,hx];simp
 ·obtain⟨rfl,rfl,_⟩:=h
  rw[List.take_length]
  exact hd
end
def tCut (t u:TS):TS:=fun D σ H=>∃ R:St->Hp->Prop,t {D with nx:=R} σ H/\∀ σ' H',R σ' H'->u D σ' H'
theorem BE_ {X:Cx}{st:Stmt}{rest:List Stmt}{t u:TS}(h1:PS X st t)(h2:PSs X rest u):PSs X (st::rest) (tCut t u):=by
 intro pins s σ H D I h
 obtain⟨R,ha,hb⟩:=h
 refine wpAny_execs_cons (thn (h1 pins s σ H {D with nx:=R} I ha) fun f s1 q=>?_)
 cases f with
 | next =>
  obtain⟨σ',H',I',q⟩:=q
  exact h2 pins s1 σ' H' D I' (hb σ' H' q)
 | ret v=>exact q
 | brk=>exact q
 | cont=>exact q
theorem Ap:1000000<sizeLine:=by rw[sizeLine_eq];decide
theorem LN {ns:List Int}{x:V}(h:x∈ns.map V.int):∃ n,n∈ns/\x=.int n:=by
 obtain⟨n,hn,e⟩:=List.mem_map.mp h
 exact⟨n,hn,e.symm⟩
theorem JV {ns:List Int}{i:Nat}{x:V}(h:(ns.map V.int)[i]?=some x):∃ n,ns[i]?=some n/\x=.int n:=by
 rw[List.getElem?_map] at h
 cases e:ns[i]? with
 | none=>rw[e] at h;cases h
 | some n=>rw[e] at h;exact⟨n,rfl,(Option.some.inj h).symm⟩
def cutI (ns:List Int)(lo hi:Option Int):List Int:=(ns.drop (HT.sIx ns.length 0 lo)).take (HT.sIx ns.length ns.length hi-HT.sIx ns.length 0 lo)
theorem ZJ (ns:List Int)(lo hi:Option Int):cutV (ns.map V.int) lo hi=(cutI ns lo hi).map V.int:=by
 unfold cutV cutI
 rw[List.length_map,<- List.map_drop,<- List.map_take]
theorem CW_ {n:Nat}{i:Int}(h0:0<=i)(h1:i<n):ixN n i=some i.toNat:=by
 unfold ixN;rw[if_pos h0,if_pos h1]
theorem AP_ {α:Type}{xs:List α}{i:Int}{v:α}(h0:0<=i)(h:xs[i.toNat]?=some v):atI xs i=some v:=by
 have:=Mg h
 rwa [show ((i.toNat:Nat):Int)=i by omega] at this
theorem LO {K:PySem.W.Frag}{t:Value}:PySem.W.kitOne K t t=some true:=by unfold PySem.W.kitOne;rw[if_pos (by simp)]
theorem Uf {K:PySem.W.Frag}:PySem.W.kitOne K (.type "int") (.type "bool")=some false:=by
 first | rfl | decide +kernel | (unfold PySem.W.kitOne;kernel_rfl)
end L2
namespace L2
open PySem PySem.W PySem.Spec PySem.Calls PyProof.Rows
section
variable {prog:Program} {w:World} {A:Around} {E:Value->Shared->Prop} {s:Shared} {K:Frag} {x D:Addr} {ox:Obj}
structure ExcCls (K:Frag)(D:Addr):Prop where
 ga:findIn K (.ref D) "__getattribute__" = some (some (.builtin "BaseException.__getattribute__"))
 hk:findIn K (.ref D) "__getattr__" = some none
 cl:(clsIn K D).isSome=true
 ca:findIn K (.ref D) "__class__" = some (some (.builtin "object.__class__"))
 gs:specialIn K (.builtin "object.__class__") "__get__" = some (some (.builtin "getset_descriptor.__get__"))
 tk:takesIn K (.builtin "object.__class__")=some true
 mo:mroIn K D (.type "object")=some true
 mb:mroIn K D (.type "BaseException")=some true
def ExcAt (x D:Addr)(h:Heap):Prop:=∃ ox,h.get? x=some ox/\ox.cls=.ref D
theorem ExcAt.type {M:Model}{h:Heap}(I:ExcAt x D h):Looks M h (typeOf (.ref x)) (.ref D):=by
 obtain⟨ox,h1,h2⟩:=I
 exact h2 ▸ (Looks.ld h1).andThen .now
theorem ZK {M:Model}{h:Heap}(X:K.In h)(C:ExcCls K D):Looks M h (Builtin.ObjectAttr.find (.ref x) (.ref D) "__class__") (.bind (.builtin "getset_descriptor.__get__") (.builtin "object.__class__")) :=
 (looks_findIn X C.ca).andThen ((show Looks M h (Builtin.ObjectAttr.getOf (some (.builtin "object.__class__"))) _ from looks_specialIn X C.gs).andThen
  ((show Looks M h (Builtin.ObjectAttr.dataDescriptor? (some (.builtin "object.__class__")) (some (.builtin "getset_descriptor.__get__"))) (some (.builtin "getset_descriptor.__get__",.builtin "object.__class__")) from (looks_takesIn X C.tk).andThen .now).andThen (Looks.tag .now)))
open Builtin Builtin.ObjectAttr Builtin.Getset_descriptor in
theorem BF_ {R:Result->Shared->Prop}{tp:Value}(X:K.In s.heap)(I:ExcAt x D s.heap)(hm:mroIn K D (.type "object")=some true)
  (h:R (.ok (.ret (.ref D))) s):codeAny (model prog w) A (.call (.builtin "getset_descriptor.__get__") ⟨[.builtin "object.__class__",.ref x,tp],[]⟩) R s:=by
 obtain⟨hh,g,dr,t,os⟩:=s
 have L0:=I.type (M:=model prog w)
 have L1:=looks_mroIn (M:=model prog w) X hm
 refine codeAny_call_builtin KF.slot_gs.plain KF.entry_gs (KF.slot_gs.check _ _ _ _ _ _ _ _ KF.type_class (KF.args_gs _ _ _) ?_)
 unfold Builtin.«getset_descriptor.__get__» descrGet
 rw[dga_obj]
 refine wpAny_bind (wpAny_pure ?_)
 unfold descrGetter descrCheckInstance descrNameAndClass isInstance
 simp only[KF.owner_class]
 repeat lk
 refine⟨Code.quiet_builtin _ (by decide +kernel),codeAny_builtin KF.entry_class ?_⟩
 unfold Builtin.«object.__class__» shownTypeOf
 repeat lk
 exact h
theorem YA {M:Model}{nameV:Value}{Q:Unit->Shared->Prop}(X:K.In s.heap)(I:ExcAt x D s.heap)(C:ExcCls K D)(hq:Q () s):wpAny M A (checkBuiltinCall "BaseException.__getattribute__" ⟨[.ref x,nameV],[]⟩) Q E s:=by
 obtain⟨hh,g,d,t,os⟩:=s
 have hk:builtinKind "BaseException.__getattribute__" = some .slot:=by decide +kernel
 have hsplit:splitId "BaseException.__getattribute__" = some ("BaseException", "__getattribute__"):=by decide +kernel
 have ha:=F.args_bexc_ga (.ref x) nameV
 have L0:=I.type (M:=M)
 have L1:=looks_mroIn (M:=M) X C.mb
 simp only[checkBuiltinCall,hk,hsplit]
 refine wpAny_bind ?_
 unfold isInstance
 repeat (first | lk | wp_step)
 exact hq
theorem YB {tk:Tok}{Q:Fin->Shared->Prop}(X:K.In s.heap)(I:ExcAt x D s.heap)(C:ExcCls K D)(hq:Q (.done (.ret (.ref D))) s):wpAny (model prog w) A (Builtin.«object.__getattribute__» ⟨[.ref x,.str "__class__" tk],[]⟩) Q E s:=by
 obtain⟨hh,g,d,t,os⟩:=s
 have L0:=I.type (M:=model prog w)
 have L1:=ZK (M:=model prog w) (x:=x) X C
 unfold Builtin.«object.__getattribute__»
 refine wpAny_bind (wpAny_pure ?_)
 refine wpAny_bind (wpAny_pure ?_)
 refine wpAny_bind (L0.at ?_)
 refine wpAny_bind (L1.at ?_)
 show wpAny _ _ (Builtin.ObjectAttr.bindTo _ _ _ _) _ _ _
 unfold Builtin.ObjectAttr.bindTo
 dsimp only
 refine wpAny_bind (wpAny_holding (wpAny_call (BF_ (K:=K) (s:=⟨hh,g,d,t,os⟩) X I C.mo ?_)))
 exact wpAny_pure hq
theorem YC {Q:Option Value->Shared->Prop}(X:K.In s.heap)(I:ExcAt x D s.heap)(C:ExcCls K D)(h:Q (some (.ref D)) {s with toks:=s.toks+1}):wpAny (model prog w) A (getAttr? (.ref x) "__class__") Q E s:=by
 obtain⟨hh,g,d,t,os⟩:=s
 have L0:=I.type (M:=model prog w)
 have L1:=looks_findIn (M:=model prog w) X C.ga
 have L2:=looks_findIn (M:=model prog w) X C.hk
 unfold getAttr? getAttrBy? getAttrBy
 refine wpAny_bind (wpAny_mkText (wpAny_bind (wpAny_attempt (wpAny_holding (wpAny_bind (L0.at (wpAny_bind (L1.at ?_))))))))
 show wpAny _ _ (getAttrByItsOwn _ _ _ _ _ _) _ _ _
 unfold getAttrByItsOwn hookBefore
 refine wpAny_bind ?_
 rw[if_pos (by rfl)]
 refine L2.at (wpAny_bind (wpAny_attempt (wpAny_holding ?_)))
 unfold callGetattribute
 rw[if_neg (by decide)]
 unfold boundAndCalled
 have f3:=PySem.F.attr_ValueError.ga.bind (.ref x)
 refine wpAny_bind (wpAny_of_eq f3 ?_)
 refine wpAny_call (codeAny_call_builtin PySem.F.attr_ValueError.ga.plain F.entry_bexc_ga (YA (K:=K) (s:=⟨hh,g,d,t+1,os⟩) X I C (YB (K:=K) (s:=⟨hh,g,d,t+1,os⟩) X I C ?_)))
 exact wpAny_pure (wpAny_pure h)
theorem ZL (C:ExcCls K D):KitX K (.ref x) (.ref D) (ExcAt x D) where
 ty:=fun _ _ _ I=>I.type
 it:=fun _ _ X _=>by
  obtain⟨cdD,hcD⟩:=Option.isSome_iff_exists.mp C.cl
  unfold clsIn at hcD
  split at hcD
  ·rename_i c' d' cd' sl' ho
   intro A' Q' E' s' k q
   unfold isType loadHead
   exact wpAny_bind (wpAny_loadPart (k _ _ (X _ _ ho)) (wpAny_pure q))
  ·cases hcD
 ne:=fun h tp dd its n sl X htp=>by
  obtain⟨cdD,hcD⟩:=Option.isSome_iff_exists.mp C.cl
  refine Bool.eq_false_iff.mpr fun q=>?_
  have e:D=tp:=Value.ref.inj (beq_iff_eq.mp q)
  subst e
  unfold clsIn at hcD
  split at hcD
  ·rename_i c' d' cd' sl' ho
   have z:=(X _ _ ho).symm.trans htp
   cases z
  ·cases hcD
 ca:=fun X I k=>YC X I C k
end
section
variable {P:Program} {w:World}
theorem CC.there {H:Hp}{h:Heap}{a:Addr}{o:HO}(x:CC P w H h a o):∃ ob,h.get? a=some ob:=by
 induction o with
 | lst xs=>obtain⟨_,_,_,_,e⟩:=x;exact⟨_,e⟩
 | tup xs=>obtain⟨_,_,_,ob,e,_⟩:=x;exact⟨_,e⟩
 | dK kvs=>obtain⟨_,_,_,_,o,_,_,e,_⟩:=x;exact⟨_,e⟩
 | dT kvs=>obtain⟨_,_,_,_,o,_,_,e,_⟩:=x;exact⟨_,e⟩
 | set S n=>obtain⟨o,_,_,_,e,_⟩:=x;exact⟨_,e⟩
 | ins C dx fs=>obtain⟨_,_,_,e,_⟩:=x;exact⟨_,e⟩
 | own y=>obtain⟨_,e⟩:=x;exact⟨_,e⟩
 | xd fs=>obtain⟨_,⟨_,_,_,e,_⟩,_⟩:=x;exact⟨_,e⟩
 | rng lo hi=>obtain⟨_,_,_,e⟩:=x;exact⟨_,e⟩
 | frz ob u ih=>obtain⟨e,_⟩:=x;exact⟨_,e⟩
 | tbl ps=>exact⟨_,(show h.get? a=some _ from x)⟩
 | met f y=>exact⟨_,(show h.get? a=some _ from x)⟩
 | ext φ=>obtain⟨_,⟨_,e⟩,_⟩:=x;exact⟨_,e⟩
structure Fly (P:Program)(w:World)(fs:List Addr)(H1 H':Hp)(h1 g B:Heap):Prop where
 un:Un fs [] H1 H' h1 g
 hok:HOk P w H' g
 cov:∀ b o,g.get? b=some o->(H' b≠none \/ ∃ o',h1.get? b=some o')->b∉fs->B.get? b=some o
theorem Fly.move {fs:List Addr}{H1 H':Hp}{h1 g B h2:Heap}(x:Fly P w fs H1 H' h1 g B)(frees:∀ b∈fs,H' b=none)(st:B.StaysIn h2)(up:∀ b∈fs,∀ o,g.get? b=some o->∃ sl,h2.get? b=some {o with slots:=sl}):Fly P w fs H1 H' h1 h2 B:=by
 have keep:∀ b o,g.get? b=some o->(H' b≠none \/ ∃ o',h1.get? b=some o')->b∉fs->h2.get? b=some o:=fun b o e h n=>st b o (x.cov b o e h n)
 have nfs:∀ b u,H' b=some u->b∉fs:=fun b u e z=>by rw[frees b z] at e;cases e
 refine⟨⟨fun b o e n hb hx=>?_,fun b o e n hb hx=>?_,fun b o e n hx=>x.un.free b o e n hx,fun b o e hx=>?_,x.un.tups,x.un.frzs,x.un.tbls⟩,fun b u e=>?_,fun b o e h n=>?_⟩
 ·exact keep b o (x.un.keep b o e n hb hx) (.inr ⟨o,e⟩) hb
 ·obtain⟨sl,e1⟩:=x.un.slot b o e n hb hx
  obtain⟨sl',e2⟩:=up b hb _ e1
  exact⟨sl',e2⟩
 ·obtain⟨o',e1⟩:=x.un.there b o e hx
  by_cases hb:b∈fs
  ·obtain⟨sl',e2⟩:=up b hb _ e1
   exact⟨_,e2⟩
  ·exact⟨o',keep b o' e1 (.inr ⟨o,e⟩) hb⟩
 ·refine (x.hok b u e).stay (fun c v hc q=>?_) (fun _ q=>q) fun _ _ q=>q
  rcases hc with rfl | hc
  ·exact keep c v q (.inl (by rw[e];simp)) (nfs c u e)
  ·exact keep c v q (.inl (by rw[hc];simp)) (nfs c _ hc)
 ·-- B has it still
  have ⟨o1,e1⟩:∃ o1,g.get? b=some o1:=by
   rcases h with h | ⟨o',h⟩
   ·cases q:H' b with
    | none=>exact absurd q h
    | some u=>exact (x.hok b u q).there
   ·exact x.un.there b o' h (by simp)
  have e2:=x.cov b o1 e1 h n
  have e3:=st b o1 e2
  rw[e] at e3
  cases e3
  exact e2
def CXe (P:Program)(w:World):CXT:=fun outer H s E e s'=>∃ (ea:Addr) (cls a0:Value) (H':Hp) (B:Heap),e=.ref ea/\s'.os=s.os/\AllBare s'.gens/\Fly P w (frs outer) H H' s.heap s'.heap B/\Heap.FlyingW B outer ea cls a0 s'.heap/\E cls none H'
theorem Ug {X:Cx}{pins:List (Addr×Obj)}{σ:St}{H1 H':Hp}{s1:Shared}{g B:Heap}(I:Inv X pins σ H1 s1)(x:Fly P w (frs X.stack) H1 H' s1.heap g B):∀ b∈frs X.stack,H' b=none:=fun b hb=>by
 obtain⟨_,o,ho,_⟩:=I.stack.mem hb
 exact x.un.free b o ho (I.stkFree b hb) (by simp)
theorem LP {K:PySem.W.Frag}{mg:Str->Option Value}{base:Heap}{N:List Str}{qual:Str}{scope:Scope}{f:Addr}{cd:Value}{A:Around}{outer:List Env}{s:Shared}{H:Hp}{E E':XK}(hE:∀ c d H',E' c d H'->E c d H') :
  IL (CXe P w) (cxOf (CXe P w) P w K mg base N qual scope f cd A outer s H E) E':=by
 intro pins σ H1 s1 e s' I hc
 obtain⟨ea,cls,a0,H',B,rfl,os,bare,fl,fw,q⟩:=hc
 have fr:(cxOf (CXe P w) P w K mg base N qual scope f cd A outer s H E).A.frames=some (envOfC qual scope s.heap.objs.size f cd::outer):=I.ok.frames
 refine wpAny_leaves_onW fr rfl fw fun h' fw' ups=>?_
 have fl2:=fl.move (Ug I fl) fw'.1 (fun b hb o e=>by
  obtain⟨_,o',ho',nf⟩:=fw.2.2.1.mem hb
  rw[e] at ho';cases ho'
  exact ups b o e nf)
 have I2:Inv (cxOf (CXe P w) P w K mg base N qual scope f cd A outer s H E) pins σ H' {s' with heap:=h' }:=I.call' (s':={s' with heap:=h' }) os fl2.un fl2.hok bare (fun b hb=>by cases hb)
 refine⟨ea,cls,a0,H',B,rfl,I2.os,I2.bare,⟨I2.base,I2.hok,fun b o e h n=>fl2.cov b o e ?_ (fun z=>?_)⟩,fw',hE _ _ _ q⟩
 ·rcases h with h | ⟨o',h⟩
  ·exact .inl h
  ·obtain⟨o2,e2⟩:=I.base.there b o' h (by show b∉([]:List Addr);simp)
   exact .inr ⟨o2,e2⟩
 ·rcases List.mem_cons.mp (I.stkSub b z) with e' | e'
  ·rcases h with h | ⟨o',h⟩
   ·exact h (by rw[e'];exact I2.free)
   ·have:=Heap.lt_size h
    rw[e'] at this
    exact absurd (Nat.lt_of_lt_of_le this I.ok.above) (Nat.lt_irrefl _)
  ·exact n e'
theorem CX_ {K:PySem.W.Frag}{mg:Str->Option Value}{base:Heap}{N:List Str}{qual:Str}{scope:Scope}{f:Addr}{cd:Value}{A:Around}{outer:List Env}{s:Shared}{H:Hp}{E:XK}
  {pins:List (Addr×Obj)} {σ:St} {H1:Hp} {s1:Shared} {h':Heap} {ea:Addr} {cls:Value} {vs:List Value}
  (I:Inv (cxOf (CXe P w) P w K mg base N qual scope f cd A outer s H E) pins σ H1 s1) (hx:Heap.MadeExcOf s1.heap h' ea cls vs) (q:E cls none H1) :
  (cxOf (CXe P w) P w K mg base N qual scope f cd A outer s H E).xe (.ref ea) {s1 with heap:=h' }:=by
 have fr:(cxOf (CXe P w) P w K mg base N qual scope f cd A outer s H E).A.frames=some (envOfC qual scope s.heap.objs.size f cd::outer):=I.ok.frames
 have hin:∀ env∈(envOfC qual scope s.heap.objs.size f cd::outer),∀ b,env.frame=some b->b∈frs (envOfC qual scope s.heap.objs.size f cd::outer):=fun env he b hb=>List.mem_filterMap.mpr ⟨env,he,hb⟩
 have stk:=I.stack
 have fl:Fly P w (frs (envOfC qual scope s.heap.objs.size f cd::outer)) H1 H1 s1.heap s1.heap (PySem.W.hideAll s1.heap (frs (envOfC qual scope s.heap.objs.size f cd::outer))):=⟨Un.refl,I.hok,fun b o e _ n=>PySem.W.hideAll_get _ e n⟩
 refine wpAny_leaves_madeW (base:=PySem.W.hideAll s1.heap (frs (envOfC qual scope s.heap.objs.size f cd::outer))) (h:=s1.heap) fr rfl (fun b o q=>PySem.W.of_hideAll _ q) ?_ hx fun h'' t fw' ht hnt ups=>?_
 ·exact PySem.W.funFrames_hide stk hin
 ·have fl2:=fl.move (Ug (X:=cxOf (CXe P w) P w K mg base N qual scope f cd A outer s H E) I fl) fw'.1 (fun b hb o e=>by
   obtain⟨_,o',ho',nf⟩:=stk.mem hb
   rw[e] at ho';cases ho'
   exact ups b o (hx.keeps b o e) nf)
  have I2:Inv (cxOf (CXe P w) P w K mg base N qual scope f cd A outer s H E) pins σ H1 {s1 with heap:=h'' }:=I.call' (s':={s1 with heap:=h'' }) rfl fl2.un fl2.hok I.bare (fun b hb=>by cases hb)
  refine⟨ea,cls,.ref t,H1,_,rfl,I2.os,I2.bare,⟨I2.base,I2.hok,fun b o e h n=>fl2.cov b o e ?_ (fun z=>?_)⟩,fw',q⟩
  ·rcases h with h | ⟨o',h⟩
   ·exact .inl h
   ·obtain⟨o2,e2⟩:=I.base.there b o' h (by show b∉([]:List Addr);simp)
    exact .inr ⟨o2,e2⟩
  ·rcases List.mem_cons.mp (I.stkSub b z) with e' | e'
   ·rcases h with h | ⟨o',h⟩
    ·exact h (by rw[e'];exact I2.free)
    ·have:=Heap.lt_size h
     rw[e'] at this
     exact absurd (Nat.lt_of_lt_of_le this I.ok.above) (Nat.lt_irrefl _)
   ·exact n e'
end
theorem BG_ {K:Frag}{h:Heap}{C:Addr}{bmB:List Value}{newId:String}(X:K.In h)(q:excIn K C bmB newId=true) :
  ∃ bm N nm q bs hdct sn sub ab col dd k0 k1 k2 k3 k5 mN,h.get? C=some (excClassObj nm q C N bs bm hdct sn sub ab col dd k0 k1 k2 k3 k5 newId)/\h.Ns N mN/\mN "__init__" = none/\OwnTail h bmB bm:=by
 unfold excIn at q
 split at q
 ·rename_i dd cd sl ho
  split at q
  ·rename_i C' bm k0 k1 k2 k3 n k5 hm hs
   simp only[Bool.and_eq_true,beq_iff_eq,Bool.not_eq_true'] at q
   obtain⟨⟨⟨⟨⟨rfl,rfl⟩,hdel⟩,ht⟩,hok⟩,hni⟩:=q
   obtain⟨nm,bs,mro,ns,qn,hd,sn,sub,ab,col,del⟩:=cd
   dsimp only at hm hdel hok hni
   subst hm hdel
   have hsl:sl = #[k0,k1,k2,k3,some (.builtin n),k5]:=by
    obtain⟨l⟩:=sl
    simp only at hs
    rw[hs]
   subst hsl
   exact⟨bm,ns,nm,qn,bs,hd,sn,sub,ab,col,dd,k0,k1,k2,k3,k5,_,X _ _ ho,.of_isNs (isNs_of_in X hok),nsMap_none_of_in X hok hni,tail_of_in X ht⟩
  ·cases q
 ·cases q
def bmV:List Value:=[.type "ValueError",.type "Exception",.type "BaseException",.type "object"]
section
variable {P:Program} {w:World} {K:PySem.W.Frag} {mg:Str->Option Value} {base:Heap} {N:List Str} {qual:Str} {scope:Scope} {f:Addr} {cd:Value} {A:Around} {outer:List Env} {s:Shared} {H:Hp} {E:XK}
def AQ_ (C:Addr)(E:XK)(ta:TA):TS:=fun _ σ H=>ta σ H fun vs H1=>vs.length<=sizeLine/\E (.ref C) none H1
theorem LQ {x:Str}{C:Addr}{newId:String}{np cpos pos:Pos}{e₀:Expr}{rest:List Expr}{ta:TA}(hm:mg x=some (.ref C))(hx:excIn K C bmV newId=true)(hg:Gl (cxOf (CXe P w) P w K mg base N qual scope f cd A outer s H E) x)
  (hn:newId = "ValueError.__new__") (ha:PA (cxOf (CXe P w) P w K mg base N qual scope f cd A outer s H E) (e₀::rest) ta)
  (he:starEach (e₀::rest) (cxOf (CXe P w) P w K mg base N qual scope f cd A outer s H E).env=(false,eval e₀ (cxOf (CXe P w) P w K mg base N qual scope f cd A outer s H E).env)::starEach rest (cxOf (CXe P w) P w K mg base N qual scope f cd A outer s H E).env:=by rfl)
  (hplain:(backTo cpos (starEach rest (cxOf (CXe P w) P w K mg base N qual scope f cd A outer s H E).env)).any (·.1)=false:=by rfl) (hd:(x == ("__debug__" : Str))=false:=by decide) :
  PS (cxOf (CXe P w) P w K mg base N qual scope f cd A outer s H E) (.Raise (some (.Call (.Name x np) (e₀::rest) [] cpos)) none pos) (AQ_ C E ta):=by
 intro pins s1 σ H1 D I h
 subst hn
 obtain⟨bm,Nc,nm,q,bs,hdct,sn,sub,ab,col,dd,k0,k1,k2,k3,k5,mN,hC,hN,hni,T⟩:=BG_ I.mod.kin hx
 refine wpAny_Raise_call_subU (C:=C) (nm:=nm) (q:=q) (N:=Nc) (bs:=bs) (bm:=bm) (hdct:=hdct) (sn:=sn) (sub:=sub) (ab:=ab) (col:=col) (dd:=dd) (k0:=k0) (k1:=k1) (k2:=k2) (k3:=k3) (k5:=k5)
  PySem.F.excBase_ValueError (bmB:=bmV) (by decide +kernel) PySem.F.excBase_ValueError (mN:=mN) (T.hasType PySem.F.excBase_ValueError.hasBase) (I.ok.hd rfl) (by rw[he];show (false||(backTo cpos (starEach rest _)).any (·.1))=false;rw[hplain];rfl) hni (NY I hg hm ⟨rfl,?_⟩ hd)
 have hA:=ha cpos pins s1 σ H1 _ I h
 rw[he] at hA ⊢
 refine Calls.evalArgs_plain (thn hA fun us s2 ⟨vs,H2,I2,r2,hz,q2⟩=>⟨rfl,by rw[<- r2.length];exact hz,I2.bk _ _ hC,hN.keeps I2.bk,T.keeps I2.bk,fun h' e hm=>CX_ I2 hm q2⟩)
end
end L2
namespace L2
open PySem PySem.Spec PyProof.Rows
def excO (ea C:Addr):HO:=.ext (ExcAt ea C)
theorem Uh {X:Cx}:IJ X (.builtin "isinstance") (fun xs H Q=>∃ ea C c cv b,xs=[.ref ea,c]/\H ea=some (excO ea C)/\ExcCls X.K C/\(∀ u,RelV c u->u=cv)/\PySem.W.kitOne X.K (.ref C) cv=some b/\Q (.bl b) H):=by
 intro pins s σ H xs us Q I r h
 obtain⟨ea,C,c,cv,b,rfl,hea,hC,hc,hk,q⟩:=h
 obtain⟨u,w',rfl,rx,rc⟩:=vals2 r
 rw[hc _ rc]
 cases rx
 obtain⟨p,_,_⟩:=(show CC X.prog X.w H s.heap ea (.ext (ExcAt ea C)) from I.hok ea _ hea)
 exact PySem.W.kia_one (ZL hC) I.kIn p hk (fun z=>nomatch z) fun tk=>⟨.bl b,H,I.tok tk,rfl,q⟩
end L2
namespace HT
open PySem PySem.Spec PyProof.Rows
open PySem.AutoSeq1 (wpAny_loadPart')
section
open PySem.SeqAt PySem.MeetsSeq PySem.MeetsSeq2 PySem.MeetsSeq3
theorem tuple_addW0 (l b:Addr)(items items2:Array Value)(n n2:Nat)(dd dd2:Option Addr)(sl sl2:Array (Option Value))(hc0:items.isEmpty=true) :
  Meets (Builtin.«tuple.__add__» ⟨[.ref l,.ref b],[]⟩) (fun _ R s=>s.heap.get? l=some {cls:=.type "tuple",dict:=dd,data:=.seq items n,slots:=sl}/\s.heap.get? b=some {cls:=.type "tuple",dict:=dd2,data:=.seq items2 n2,slots:=sl2}/\R (.ok (.ret (Value.ref b))) {s with heap:=s.heap,toks:=s.toks}) :=
 .of_wp fun prog w A R s h=>by obtain⟨hp,g,d,tk,os⟩:=s;obtain⟨hl,hb,h⟩:=h;have f1:=AutoSeq1.idx_int;have f2:=AutoSeq1.sub_tuple_tuple;have f3:=AutoSeq1.sub_list_list;have f4:=AutoSeq1.sub_tuple_list;have f5:=AutoSeq1.sub_list_tuple;wp_walk using wpAny_loadPart' hl,wpAny_loadPart' hb;exact⟨_,rfl,h⟩
end
end HT
namespace L2
open PySem PySem.Spec PyProof.Rows
section
variable {X:Cx}
def IP (K:PySem.W.Frag):R2:=fun x y H Q=>∃ a b xs ys,x=.ref a/\y=.ref b/\SqT K H a xs/\SqT K H b ys/\xs.length+ys.length<=sizeLine /\
 (xs=[]->Q (.ref b) H)/\(xs ≠ []->ys=[]->Q (.ref a) H)/\(xs ≠ []->ys ≠ []->∀ p,H p=none->Q (.ref p) (upd H p (.tup (xs++ys))))
theorem JW:OpR X (binaryOp .Add) (IP X.K):=by
 intro pins s σ H x y v u Q I rx ry h
 obtain⟨a,b,xs,ys,rfl,rfl,ha,hb,hz,q0,q1,q2⟩:=h
 by_cases hx:xs=[]
 ·subst hx
  cases rx
  cases ry
  obtain⟨its,r1,p1,_⟩:=I.tuple ha
  obtain⟨its2,r2,p2,_⟩:=I.tuple hb
  have:its=[]:=r1.nil_iff.mpr rfl
  subst this
  obtain⟨⟨cls,dd,data,sl⟩,ho,hc,n,hd⟩:=id p1
  obtain⟨⟨cls2,dd2,data2,sl2⟩,ho2,hc2,n2,hd2⟩:=id p2
  simp only at hc hd hc2 hd2
  subst hc hd hc2 hd2
  exact concat_meets ⟨_,ho,rfl⟩ ⟨_,ho2,rfl⟩ noFill_tuple_add seq_tuple_add PySem.F.slot_tuple_add PySem.F.entry_tuple_add (PySem.F.args_tuple_add_2 _ _)
   (HT.tuple_addW0 a b _ _ n n2 dd dd2 sl sl2 rfl) ⟨ho,ho2,⟨.ref b,H,I,rfl,q0 rfl⟩⟩
 ·exact Bw_ pins s σ H _ _ v u Q I rx ry ⟨a,b,xs,ys,rfl,rfl,ha,hb,hx,hz,q1 hx,q2 hx⟩
end
theorem YD {c:TT}{tb:TS}{D:Ends}{σ:St}{H:Hp}(Pv:Nat->St->Hp->Prop)(h0:∃ m,Pv m σ H)
  (hs:∀ m σ H,Pv m σ H->c σ H fun b H1=>if b=true then ∃ N:St->Hp->Prop,(∀ σ' H',N σ' H'->∃ m',m'<m/\Pv m' σ' H')/\tb {D with nx:=N,ct:=N,bk:=D.nx} σ H1 else D.nx σ H1):As_ c tb D σ H:=⟨Pv,h0,hs⟩
theorem CY_ {K:PySem.W.Frag}{H:Hp}{Q:VK}{x:V}{lo hi:Option Int}:rSlT K x lo hi H Q=∃ a xs,x=.ref a/\SqT K H a xs /\
 ¬ (HT.sIx xs.length 0 lo=0/\HT.sIx xs.length xs.length hi=xs.length)/\∀ p,H p=none->Q (.ref p) (upd H p (.tup (cutV xs lo hi))):=rfl
inductive TyW (K:PySem.W.Frag)(H:Hp):V->Value->Prop where
 | non:TyW K H .non (.type "NoneType")
 | bl (x:Bool):TyW K H (.bl x) (.type "bool")
 | int (i:Int):TyW K H (.int i) (.type "int")
 | str (x:Str):TyW K H (.str x) (.type "str")
 | lst {a:Addr} {xs:List V} (e:SqL K H a xs):TyW K H (.ref a) (.type "list")
 | tup {a:Addr} {xs:List V} (e:SqT K H a xs):TyW K H (.ref a) (.type "tuple")
 | exc {a C:Addr} (e:H a=some (excO a C)) (c:ExcCls K C):TyW K H (.ref a) (.ref C)
theorem Ev {X:Cx}:IJ X (.builtin "isinstance") (fun xs H Q=>∃ x c cv t b,xs=[x,c]/\TyW X.K H x t/\(∀ u,RelV c u->u=cv)/\PySem.W.kitOne X.K t cv=some b/\Q (.bl b) H):=by
 intro pins s σ H xs us Q I r h
 obtain⟨x,c,cv,t,b,rfl,ty,hc,hk,q⟩:=h
 cases ty with
 | non=>exact Hi pins s σ H _ us Q I r ⟨_,c,cv,_,b,rfl,.non,hc,hk,q⟩
 | bl y=>exact Hi pins s σ H _ us Q I r ⟨_,c,cv,_,b,rfl,.bl y,hc,hk,q⟩
 | int y=>exact Hi pins s σ H _ us Q I r ⟨_,c,cv,_,b,rfl,.int y,hc,hk,q⟩
 | str y=>exact Hi pins s σ H _ us Q I r ⟨_,c,cv,_,b,rfl,.str y,hc,hk,q⟩
 | exc e hC=>exact Uh pins s σ H _ us Q I r ⟨_,_,c,cv,b,rfl,e,hC,hc,hk,q⟩
 | @lst a xs e =>
  obtain⟨u,w',rfl,rx,rc⟩:=vals2 r
  rw[hc _ rc]
  cases rx
  obtain⟨its,_,pl,_⟩:=I.list e
  obtain⟨o,ho,hcl,_⟩:=pl.isList
  exact PySem.W.kia_one PySem.W.kitx_list I.kIn ⟨o,ho,hcl⟩ hk (fun z=>nomatch z) fun tk=>⟨.bl b,H,I.tok tk,rfl,q⟩
 | @tup a xs e =>
  obtain⟨u,w',rfl,rx,rc⟩:=vals2 r
  rw[hc _ rc]
  cases rx
  obtain⟨its,_,⟨o,ho,hcl,_⟩,_⟩:=I.tuple e
  exact PySem.W.kia_one PySem.W.kitx_tuple I.kIn ⟨o,ho,hcl⟩ hk (fun z=>nomatch z) fun tk=>⟨.bl b,H,I.tok tk,rfl,q⟩
end L2
namespace GW
def CZ_ (L:Int):List Int->List Int
 | []=>[0]
 | x::r=>if x=L-1 then 0::CZ_ L r else (x+1)::r
def Df (L:Int)(w:List Int):List Int:=(CZ_ L w.reverse).reverse
def Wr (L:Int):List Int->Int
 | []=>0
 | x::r=>Wr L r*L+x+1
def place (L:Int)(w:List Int):Int:=Wr L w.reverse
def inW (L x:Int):Bool:=decide (0<=x)&&decide (x<L)
def isW (L:Int)(ws:List Int):Bool:=ws.all (inW L)
theorem BH_ {L x:Int}:inW L x=true↔0<=x/\x<L:=by simp[inW]
theorem Ao {L:Int}{ws:List Int}:isW L ws=true ↔ ∀ x∈ws,0<=x/\x<L:=by simp[isW,BH_]
def val (L:Int):List Int->Int
 | []=>0
 | x::r=>val L r*L+x
theorem Mi (L:Int)(w:List Int)(x:Int):place L (w ++ [x])=place L w*L+x+1:=by
 unfold place
 rw[List.reverse_append];rfl
end GW
namespace L2
open PySem PySem.Spec PyProof.Rows
section
variable {P:Program} {w:World} {K:PySem.W.Frag} {mg:Str->Option Value} {base:Heap}
theorem Fun.okE {x qual:Str}{st:Stmt}{f:Addr}{fd:FuncData}{N ps:List Str}{k:Nat}{sp:Sp}(F:Fun K x qual st f fd)(S:FnScope N ps (Ad st))(len:∀ vs H Q E,sp vs H Q E->vs.length=ps.length)
  (hbody:∀ (cdv:Value) (A:Around) (outer:List Env) (s:Shared) (H:Hp) (vs:List V) (Q:VK) (E:XK),Room k (A.deeper (envOfC qual (Ad st) s.heap.objs.size f cdv))->sp vs H Q E ->
   ∃ t,PSs (cxOf (CXe P w) P w K mg base N qual (Ad st) f cdv A outer s H E) (Al st) t/\t {nx:=fun _ H'=>Q .non H',rt:=Q} (start N vs) H):FnOk P w K mg base (CXe P w) (k+1) f fd ps sp:=by
 obtain⟨oc,od,kV,doc,pm,an,cdv,ct,osl,rfl,lk,hcd⟩:=F.ex
 exact Ct_ lk hcd S len fun A outer s H vs Q E hr hsp=>hbody cdv A outer s H vs Q E hr hsp
theorem Mj {X:Cx}:IL (CXe P w) X E0:=fun _ _ _ _ _ _ _ h=>by
 obtain⟨_,_,_,_,_,_,_,_,_,_,q⟩:=h
 exact q.elim
end
section
variable {te ta tb:TE} {A:TA} {D:Ends} {σ:St} {H:Hp} {Q:VK} {K:PySem.W.Frag} {tbd ts:TS}
theorem Da_ {x y:V}:rCat x y H Q=∃ l b xs zs,x=.ref l/\y=.ref b/\H l=some (.lst xs)/\H b=some (.lst zs)/\xs.length+zs.length<=sizeLine/\∀ p,H p=none->Q (.ref p) (upd H p (.lst (xs++zs))):=rfl
theorem YE {C:Addr}{E:XK}:AQ_ C E A D σ H=A σ H fun vs H1=>vs.length<=sizeLine/\E (.ref C) none H1:=rfl
end
end L2
namespace L2
open PySem PySem.Spec PyProof.Rows
theorem BI_ (x y:Int):eqV (.int x) (.int y)=decide (V.int x=V.int y):=by
 by_cases h:x=y
 ·subst h;simp[eqV]
 ·rw[decide_eq_false (fun z=>h (by injection z))];simp[eqV,h]
theorem EqD.ints {K:PySem.W.Frag}{H:Hp}{a c:Addr}{xs ys:List Int}(hq:(SqL K H a (xs.map V.int)/\SqL K H c (ys.map V.int))\/(SqT K H a (xs.map V.int)/\SqT K H c (ys.map V.int)))(n:Nat):EqD K H (n+1) (.ref a) (.ref c) (decide (xs=ys)):=by
 have:=EqD.flat hq (fun x hx=>by obtain⟨_,_,rfl⟩:=LN hx;rfl) (fun x hx=>by obtain⟨_,_,rfl⟩:=LN hx;rfl) (fun x hx y hy=>by obtain⟨_,_,rfl⟩:=LN hx;obtain⟨_,_,rfl⟩:=LN hy;exact BI_ _ _) n
 have e:decide (xs.map V.int=ys.map V.int)=decide (xs=ys):=by
  rw[Bool.eq_iff_iff]
  simp only[decide_eq_true_eq]
  constructor
  ·intro h
   exact (List.map_inj_right (fun a b h=>by injection h)).mp h
  ·intro h;rw[h]
 rw[e] at this
 exact this
end L2
namespace L2
open PySem PySem.Spec PyProof.Rows
theorem Db_ {X:Cx}{K:PySem.W.Frag}{T id:String}{name:Str}{r:V->List V->Hp->VK->Prop}{o e:Expr}{es:List Expr}{to:TE}{t:TA}{apos cpos:Pos}(hK:X.K=K)(pa:PlainAttrs T)(slot:Slot T name id)(hty:typeOf (.builtin id)=pure (.type "method_descriptor"))(hm:MtR X id r)(ho:PE X o to)(ha:PA X (e::es) t)
  (hbase:attributeBase o name X.env (eval o X.env)=eval o X.env:=by rfl)
  (hfew:((backTo cpos (starEach (e::es) X.env)).all (fun x => !x.1)&&(backToKw cpos (keywordEach [] X.env)).all (fun x=>x.1.isSome)
   && decide ((e::es).length+([]:List Keyword).length+(if ([]:List Keyword).isEmpty then 0 else 1)<30))=true:=by rfl)
  (hline:(apos.endLine == cpos.line)=true:=by rfl) (hs:starEach (e::es) X.env=(false,eval e X.env)::starEach es X.env:=by rfl) (hplain:(backTo cpos (starEach es X.env)).any (·.1)=false:=by rfl) :
  PE X (.Call (.Attribute o name apos) (e::es) [] cpos) (tBM K T r to t):=by
 subst hK
 exact RP pa slot hty hm ho ha hbase hfew hline hs hplain
section
variable {X:Cx} {K:PySem.W.Frag}
theorem YF (h:X.K=K):IxR X (rIxT K):=by subst h;exact AF
theorem LR (h:X.K=K):IxR X (rIxL K):=by subst h;exact Fa
end
end L2
namespace GW
def EJ (ways:List (List Int))(r x:Int):Int:=(ways.getD r.toNat []).getD x.toNat 0
def Ak (ways:List (List Int))(ws:List Int):Int:=ws.foldl (EJ ways) 0
def Nj (ways:List (List Int))(ws:List Int):List Int:=(List.range (ws.length+1)).map fun j=>Ak ways (ws.take j)
structure Wf (L:Int)(marks:List Int)(ways:List (List Int)):Prop where
 l1:1<=L
 l6:L<=6
 n1:1<=marks.length
 n40:marks.length<=40
 len:ways.length=marks.length
 rows:∀ row∈ways,(row.length:Int)=L/\∀ x∈row,0<=x/\x<marks.length
 mks:∀ m∈marks,0<=m/\m<=1000000000
theorem LS {ways:List (List Int)}{r x:Int}{row:List Int}{g:Int}(h1:ways[r.toNat]?=some row)(h2:row[x.toNat]?=some g):EJ ways r x=g:=by
 unfold EJ
 have e:ways.getD r.toNat []=row:=by rw[List.getD_eq_getElem?_getD,h1];rfl
 rw[e,List.getD_eq_getElem?_getD,h2];rfl
theorem Wf.row {L:Int}{marks:List Int}{ways:List (List Int)}(wf:Wf L marks ways){r:Int}(h0:0<=r)(h1:r<marks.length):∃ row,ways[r.toNat]?=some row/\row∈ways/\(row.length:Int)=L:=by
 have hlt:r.toNat<ways.length:=by rw[wf.len];omega
 exact⟨ways[r.toNat],by simp[hlt],List.getElem_mem hlt,(wf.rows _ (List.getElem_mem hlt)).1⟩
theorem Wf.step {L:Int}{marks:List Int}{ways:List (List Int)}(wf:Wf L marks ways){r x:Int}(h0:0<=r)(h1:r<marks.length)(x0:0<=x)(x1:x<L):∃ row g,ways[r.toNat]?=some row/\row[x.toNat]?=some g/\EJ ways r x=g/\0<=g/\g<marks.length:=by
 obtain⟨row,hr,hm,hl⟩:=wf.row h0 h1
 have hlt:x.toNat<row.length:=by omega
 have hg:row[x.toNat]?=some row[x.toNat]:=by simp[hlt]
 exact⟨row,row[x.toNat],hr,hg,LS hr hg,(wf.rows row hm).2 _ (List.getElem_mem hlt)⟩
theorem Ml (ways:List (List Int))(ws:List Int)(x:Int):Ak ways (ws ++ [x])=EJ ways (Ak ways ws) x:=by
 unfold Ak
 rw[List.foldl_append];rfl
theorem JX {ways:List (List Int)}{ws:List Int}{i:Nat}{x:Int}(h:ws[i]?=some x):Ak ways (ws.take (i+1))=EJ ways (Ak ways (ws.take i)) x:=by
 rw[List.take_add_one,h]
 exact Ml _ _ _
theorem Wf.walk {L:Int}{marks:List Int}{ways:List (List Int)}(wf:Wf L marks ways){ws:List Int}(hw:isW L ws=true):∀ i,0<=Ak ways (ws.take i)/\Ak ways (ws.take i)<marks.length:=by
 intro i
 induction i with
 | zero=>have:=wf.n1;simp[Ak];omega
 | succ i ih =>
  cases e:ws[i]? with
  | none =>
   have hle:=List.getElem?_eq_none_iff.mp e
   rw[List.take_of_length_le (by omega)]
   rw[List.take_of_length_le hle] at ih
   exact ih
  | some x =>
   rw[JX e]
   have hx:=Ao.mp hw x (List.mem_of_getElem? e)
   obtain⟨_,g,_,_,h,h0,h1⟩:=wf.step ih.1 ih.2 hx.1 hx.2
   rw[h];exact⟨h0,h1⟩
theorem RW (ways:List (List Int))(ws:List Int):(Nj ways ws).length=ws.length+1:=by simp[Nj]
theorem Xb {ways:List (List Int)}{ws:List Int}{i:Nat}(h:i<=ws.length):(Nj ways ws)[i]?=some (Ak ways (ws.take i)):=by
 unfold Nj
 rw[List.getElem?_map,List.getElem?_range (by omega)];rfl
theorem Ve (ways:List (List Int))(ws:List Int):(Nj ways ws)[ws.length]?=some (Ak ways ws):=by
 rw[Xb (Nat.le_refl _),List.take_length]
end GW
namespace L2
open PySem PySem.Spec PyProof.Rows GW
def Rows (K:PySem.W.Frag)(H:Hp)(w:Addr)(ways:List (List Int)):Prop:=∃ ts:List Addr,SqT K H w (ts.map V.ref)/\ts.length=ways.length/\∀ (i:Nat) (t:Addr) (row:List Int),ts[i]?=some t->ways[i]?=some row->SqT K H t (row.map V.int)
def GX (K:PySem.W.Frag)(H:Hp)(h:Addr)(L:Int)(marks:List Int)(ways:List (List Int)):Prop:=∃ m w:Addr,SqT K H h [.int L,.ref m,.ref w]/\SqT K H m (marks.map V.int)/\Rows K H w ways
theorem Rows.mono {K:PySem.W.Frag}{H H':Hp}{w:Addr}{ways:List (List Int)}(h:Rows K H w ways)(e:Same H H'):Rows K H' w ways:=by
 obtain⟨ts,h1,h2,h3⟩:=h
 exact⟨ts,e.seqT h1,h2,fun i t r a b=>e.seqT (h3 i t r a b)⟩
theorem GX.mono {K:PySem.W.Frag}{H H':Hp}{h:Addr}{L:Int}{marks:List Int}{ways:List (List Int)}(x:GX K H h L marks ways)(e:Same H H'):GX K H' h L marks ways:=by
 obtain⟨m,w,h1,h2,h3⟩:=x
 exact⟨m,w,e.seqT h1,e.seqT h2,h3.mono e⟩
theorem Rows.at {K:PySem.W.Frag}{H:Hp}{w:Addr}{ways:List (List Int)}(h:Rows K H w ways){i:Nat}{row:List Int}(hr:ways[i]?=some row):∃ xs t,SqT K H w xs/\atI xs (i:Int)=some (V.ref t)/\SqT K H t (row.map V.int):=by
 obtain⟨ts,h1,h2,h3⟩:=h
 have hlt:i<ts.length:=by rw[h2];exact (List.getElem?_eq_some_iff.mp hr).1
 have ht:ts[i]?=some ts[i]:=by simp[hlt]
 exact⟨_,ts[i],h1,Mg (by rw[List.getElem?_map,ht];rfl),h3 i _ _ ht hr⟩
theorem Rows.atZ {K:PySem.W.Frag}{H:Hp}{w:Addr}{ways:List (List Int)}(h:Rows K H w ways){r:Int}{row:List Int}(h0:0<=r)(hr:ways[r.toNat]?=some row):∃ xs t,SqT K H w xs/\atI xs r=some (V.ref t)/\SqT K H t (row.map V.int):=by
 obtain⟨xs,t,a,b,c⟩:=h.at hr
 exact⟨xs,t,a,by rw[<- b];congr 1;omega,c⟩
theorem YG {α:Type}{xs:List α}{v:α}(h:xs[xs.length-1]?=some v):atI xs (-1)=some v:=by
 have hlt:=(List.getElem?_eq_some_iff.mp h).1
 unfold atI ixN
 rw[if_neg (by omega),if_pos (by omega)]
 show xs[(-1+(xs.length:Int)).toNat]?=some v
 rw[show (-1+(xs.length:Int)).toNat=xs.length-1 by omega]
 exact h
theorem FV {ns:List Int}{i:Int}{v:Int}(h0:0<=i)(h:ns[i.toNat]?=some v):atI (ns.map V.int) i=some (V.int v):=AP_ h0 (by rw[List.getElem?_map,h];rfl)
theorem ZM {K:PySem.W.Frag}{H:Hp}{p t:Addr}{xs ys zs:List V}(hp:H p=some (.lst zs))(h:SqT K H t xs):SqT K (upd H p (.lst ys)) t xs:=by
 rcases h with (q | ⟨o,q⟩) | q
 ·refine .inl (.inl ?_)
  rw[Ah (fun z=>by rw[z,hp] at q;cases q)];exact q
 ·refine .inl (.inr ⟨o,?_⟩)
  rw[Ah (fun z=>by rw[z,hp] at q;cases q)];exact q
 ·exact .inr q
def Nu (K:PySem.W.Frag)(H:Hp)(l:Addr)(ws:List (List Int)):Prop:=∃ ts:List Addr,H l=some (.lst (ts.map V.ref))/\ts.length=ws.length/\∀ (i:Nat) (t:Addr) (w:List Int),ts[i]?=some t->ws[i]?=some w->SqT K H t (w.map V.int)
theorem Nu.mono {K:PySem.W.Frag}{H H':Hp}{l:Addr}{ws:List (List Int)}(h:Nu K H l ws)(e:Same H H'):Nu K H' l ws:=by
 obtain⟨ts,h1,h2,h3⟩:=h
 exact⟨ts,e _ _ h1,h2,fun i t w a b=>e.seqT (h3 i t w a b)⟩
theorem Nu.push {K:PySem.W.Frag}{H:Hp}{l t:Addr}{ws:List (List Int)}{w:List Int}(h:Nu K H l ws)(hw:SqT K H t (w.map V.int)):∃ xs,H l=some (.lst xs)/\xs.length=ws.length/\Nu K (upd H l (.lst (xs ++ [V.ref t]))) l (ws ++ [w]):=by
 obtain⟨ts,h1,h2,h3⟩:=h
 refine⟨ts.map V.ref,h1,by rw[List.length_map,h2],ts ++ [t],by rw[Ac,List.map_append];rfl,by simp[h2],fun i t' w' a b=>ZM h1 ?_⟩
 by_cases hi:i<ts.length
 ·rw[List.getElem?_append_left hi] at a
  rw[List.getElem?_append_left (by omega)] at b
  exact h3 i t' w' a b
 ·have ht:=(List.getElem?_eq_some_iff.mp a).1
  rw[List.length_append,List.length_singleton] at ht
  have e:i=ts.length:=by omega
  subst e
  rw[List.getElem?_append_right (Nat.le_refl _),Nat.sub_self] at a
  rw[List.getElem?_append_right (by omega),h2,Nat.sub_self] at b
  simp at a b
  subst a b
  exact hw
theorem Nu.nil {K:PySem.W.Frag}{H:Hp}{l:Addr}(h:H l=some (.lst [])):Nu K H l []:=⟨[],h,rfl,fun i t w a _=>by simp at a⟩
theorem Nu.rows {K:PySem.W.Frag}{H:Hp}{l:Addr}{ws:List (List Int)}(h:Nu K H l ws):∃ xs,H l=some (.lst xs)/\∀ t,H t=none->Rows K (upd H t (.tup xs)) t ws:=by
 obtain⟨ts,h1,h2,h3⟩:=h
 exact⟨_,h1,fun t ht=>⟨ts,SqT.of Ac,h2,fun i t' w a b=>(Same.new ht).seqT (h3 i t' w a b)⟩⟩
end L2
namespace L2
open PySem PySem.Spec PyProof.Rows
section
variable {X:Cx} {pins:List (Addr×Obj)} {σ:St} {H:Hp} {s:Shared}
theorem Inv.un2 {h':Heap}{e it:Addr}(I:Inv X pins σ H s)(k:∀ b o,b≠e->b≠it->s.heap.get? b=some o->h'.get? b=some o)(f1:FpOk X pins H e)(f2:FpOk X pins H it):Un (frs X.stack) [e,it] H H s.heap h'/\HOk X.prog X.w H h':=by
 have ne:∀ b u,H b=some u->b≠e/\b≠it:=fun b u q=>⟨(fun z=>by rw[z,f1.1] at q;cases q),(fun z=>by rw[z,f2.1] at q;cases q)⟩
 have nch:∀ {b:Addr},b ∉ [e,it]->b≠e/\b≠it:=fun hb=>by simpa using hb
 refine⟨⟨fun b o q _ _ hb=>k b o (nch hb).1 (nch hb).2 q,fun b o q _ _ hb=>⟨o.slots,k b o (nch hb).1 (nch hb).2 q⟩,fun _ _ _ n _=>n,fun b o q hb=>⟨o,k b o (nch hb).1 (nch hb).2 q⟩,fun _ _ q=>q,fun _ _ _ q=>q,fun b ps q=>⟨#[],by rw[q];simp⟩⟩,fun b u q=>?_⟩
 refine (I.hok b u q).stay (fun c v hc qv=>?_) (fun _ q=>q) fun _ _ q=>q
 have hne:c≠e/\c≠it:=by
  rcases hc with rfl | hc
  ·exact ne _ _ q
  ·exact ne _ _ hc
 exact k c v hne.1 hne.2 qv
theorem FpOk.ch {b:Addr}(f:FpOk X pins H b):(b∈X.ex\/X.s₀.heap.objs.size<=b)/\b≠X.env.locals/\(∀ x c,X.env.cells.lookup x=some c->c≠b)/\∀ p∈X.pn++pins,p.1≠b:=⟨f.2.2.2.1,f.2.1,f.2.2.2.2.1,f.2.2.2.2.2⟩
end
theorem AR_ {K:PySem.W.Frag}{n:Nat}{t:TGs}{v:V}{σ:St}{H:Hp}{N:St->Hp->Prop}:gTup K n t v σ H N=∃ a xs,v=.ref a/\SqT K H a xs/\xs.length=n/\t xs σ H N:=rfl
theorem YH {t:TG}{u:TGs}{vs:List V}{σ:St}{H:Hp}{N:St->Hp->Prop}:Cm_ t u vs σ H N=∃ v r,vs=v::r/\t v σ H fun σ' H'=>u r σ' H' N:=rfl
theorem AS_ {vs:List V}{σ:St}{H:Hp}{N:St->Hp->Prop}:gNil vs σ H N=(vs=[]/\N σ H):=rfl
section
variable {td ty tv tx:TE} {D:Ends} {σ:St} {H:Hp} {Q:VK}
theorem AT_:CB_ td ty σ H Q=td σ H fun x H1=>ty σ H1 fun y H2=>∃ a v,x=.ref a/\DGet H2 a y (some v)/\Q v H2:=rfl
theorem Ws:Yq ty td σ H Q=ty σ H fun y H1=>td σ H1 fun x H2=>∃ a o,x=.ref a/\DGet H2 a y o/\Q (.bl (!o.isSome)) H2:=rfl
theorem AU_:CC_ td ty tv D σ H=tv σ H fun v H1=>td σ H1 fun x H2=>ty σ H2 fun y H3=>∃ a H4,x=.ref a/\DPut H3 a y v H4/\D.nx σ H4:=rfl
theorem YI:AB_ td ty σ H Q=td σ H fun x H1=>∃ a,x=.ref a/\IsD H1 a/\ty σ H1 fun y H2=>∃ o,DGet H2 a y o/\Q (o.getD .non) H2:=rfl
end
end L2
namespace GW
def AV_ (w:List Int):List (Int×List Int)->Nat->List Int->List (Int×List Int)
 | ents,_,[]=>ents
 | ents,x,g::r=>AV_ w (if g∈ents.map (·.1) then ents else ents ++ [(g,w ++ [(x:Int)])]) (x+1) r
def bfs (ways:List (List Int)):Nat->List (Int×List Int)->Nat->List (Int×List Int)
 | 0,ents,_=>ents
 | f+1,ents,i=>match ents[i]? with
  | none=>ents
  | some e=>bfs ways f (AV_ e.2 ents 0 (ways.getD e.1.toNat [])) (i+1)
def YJ (ways:List (List Int)):List (Int×List Int):=bfs ways (ways.length+1) [(0,[])] 0
theorem Ft:∀ (n:Nat) {l:List Int},l.Nodup->(∀ x∈l,0<=x/\x<(n:Int))->l.length<=n
 | 0,l,_,h=>by
  cases l with
  | nil=>simp
  | cons x r=>have:=h x List.mem_cons_self;omega
 | n+1,l,hn,h=>by
  by_cases hm:(n:Int)∈l
  ·have e:=List.length_erase_of_mem hm
   have:=Ft n (l:=l.erase (n:Int)) (hn.erase _) (fun x hx=>by
    have h1:=(hn.mem_erase_iff).mp hx
    have h2:=h x h1.2
    have h3:=h1.1
    omega)
   omega
  ·have:=Ft n hn (fun x hx=>by
    have h2:=h x hx
    have:x≠n:=fun z=>hm (z ▸ hx)
    omega)
   omega
end GW
namespace L2
open PySem PySem.Spec PyProof.Rows
def ups (n:Nat):List Int:=(List.range n).map fun i:Nat=>(i:Int)
end L2
namespace L2
open PySem GW
def mkW (marks:List Int)(r:Int):Int:=marks.getD r.toNat 0
theorem Dc_ {marks:List Int}{r:Int}(h0:0<=r)(h1:r<marks.length):mkW marks r∈marks:=by
 have hlt:r.toNat<marks.length:=by omega
 unfold mkW
 rw[List.getD_eq_getElem?_getD,List.getElem?_eq_getElem hlt]
 exact List.getElem_mem hlt
theorem YK {marks:List Int}{r:Int}(h0:0<=r)(h1:r<marks.length):atI (marks.map V.int) r=some (V.int (mkW marks r)):=by
 have hlt:r.toNat<marks.length:=by omega
 refine FV h0 ?_
 unfold mkW
 rw[List.getD_eq_getElem?_getD,List.getElem?_eq_getElem hlt];rfl
end L2
namespace L2
open PySem PySem.Spec PyProof.Rows
theorem Vals.ofIx:∀ {xs:List V} {us:List Value},us.length=xs.length->(∀ (i:Nat) (v:Value),us[i]?=some v->∃ x,xs[i]?=some x/\RelV x v)->Vals xs us
 | [],[],_,_=>.nil
 | [],_::_,h,_=>by simp at h
 | _::_,[],h,_=>by simp at h
 | x::xs,u::us,h,k=>by
  refine .cons ?_ (Vals.ofIx (by simpa using h) fun i v hv=>?_)
  ·obtain⟨y,e,r⟩:=k 0 u rfl
   cases e
   exact r
  ·obtain⟨y,e,r⟩:=k (i+1) v (by simpa using hv)
   exact⟨y,by simpa using e,r⟩
end L2
namespace L2
theorem r_in {K:PySem.W.Frag}{neg:Bool}{x y:V}{H:Hp}{Q:VK}:rIn K neg x y H Q=∃ p xs,y=.ref p/\(SqL K H p xs\/SqT K H p xs)/\Ia x=true/\xs.all Ia=true/\Q (.bl (if neg then !inV x xs else inV x xs)) H:=rfl
theorem Wt (g:Int)(ns:List Int):inV (.int g) (ns.map V.int)=decide (g∈ns):=by
 unfold inV
 rw[List.any_map,Bool.eq_iff_iff,List.any_eq_true,decide_eq_true_eq]
 constructor
 ·rintro⟨n,hn,e⟩
  have e:decide (n=g)=true:=by simpa [eqV] using e
  rw[<- of_decide_eq_true e];exact hn
 ·exact fun h=>⟨g,h,by simp[eqV]⟩
end L2
namespace L2
open PySem PySem.Spec PyProof.Rows
def Itm (K:PySem.W.Frag)(a:Addr)(xs:List V):It:=⟨fun i H=>i<xs.length/\SqL K H a xs,fun i H x H'=>∃ t v,H t=none/\xs[i]?=some v/\x=.ref t/\H'=upd H t (.tup [.int i,v]),fun i H=>i=xs.length/\SqL K H a xs⟩
theorem Xc {P:Program}{w:World}{K:PySem.W.Frag}{elts:List Expr}{x1}{tpos:Pos}(a e it:Addr)(hei:e≠it)(hai:a≠it)(hae:a≠e)(xs:List V):Turn P w K (.Tuple elts x1 tpos) (Itm K a xs) [e,it] e (fun i h=>∃ old,IsEnum h e it (i:Nat) old/\h.IsListIter it a i) where
 mem:=by simp
 obj:=fun i h st b hb=>by
  obtain⟨old,h1,o,h2,c,d⟩:=st
  rcases List.mem_cons.mp hb with rfl | hb
  ·exact⟨_,h1,fun v z=>by cases z⟩
  ·rw[List.mem_singleton.mp hb]
   exact⟨o,h2,fun v z=>by rw[d] at z;cases z⟩
 keep:=fun i h h' st k=>by
  obtain⟨old,h1,h2⟩:=st
  exact⟨old,k e (by simp) _ h1,h2.at fun o q=>k it (by simp) o q⟩
 item:=by
  intro X hP hw hK hc i pins s σ H E I hf st hg
  subst hP hw hK
  obtain⟨hi,hq⟩:=hg
  obtain⟨old,he,hit⟩:=st
  obtain⟨its,rv,p,hz⟩:=I.list hq
  have hl:=rv.length
  have pt:s.heap.IsList a its.toArray:=p.isList
  have f1:=hf e (by simp)
  have f2:=hf it (by simp)
  have Dw:=Draws.list (prog:=X.prog) (w:=X.w) (A:=X.A.in1) (I.ok.hd hc) it a hai its.toArray
  refine wpAny_pyNext_enum_itemD Dw he ⟨hit,pt⟩ (by simp;omega) hei (by simp[hei,Ne.symm hae]) fun u h' tk hu heo hst' hget hsz hk=>?_
  have hT:s.heap.objs.size≠e:=Nat.ne_of_gt (Heap.lt_size he)
  refine⟨_,rfl,wpAny_letOwnedTupleGo_enum heo fun h2 he2 hs2=>?_⟩
  have hk2:∀ b o,b≠e->b≠it->s.heap.get? b=some o->h2.get? b=some o:=fun b o h1 h3 q=>(hs2.2 b h1).trans (hk b o h1 h3 q)
  obtain⟨un,hok⟩:=I.un2 hk2 f1 f2
  have hn:H s.heap.objs.size=none:=I.hok.fresh (Nat.le_refl _)
  have hv:xs[i]?=some xs[i]:=by simp[hi]
  obtain⟨u',hu',ru⟩:=rv.get hv
  have eu:u'=u:=by
   have hu2:its[i]?=some u:=by simpa using hu
   rw[hu'] at hu2
   exact Option.some.inj hu2
  subst eu
  have hget2:h2.get? s.heap.objs.size=some {cls:=.type "tuple",data:=.seq #[.int i tk,u']}:=(hs2.2 _ hT).trans hget
  have new:CC X.prog X.w (upd H s.heap.objs.size (.tup [.int i,xs[i]])) h2 s.heap.objs.size (.tup [.int i,xs[i]]):=⟨by have:=Ap;simp;omega,[.int i tk,u'],.cons ⟨tk,rfl⟩ (.cons ru .nil),_,hget2,rfl,_,rfl⟩
  refine⟨.ref s.heap.objs.size,upd H s.heap.objs.size (.tup [.int i,xs[i]]),I.call' (s':={s with heap:=h2,toks:=tk+1}) (ch:=[e,it]) rfl (un.track (Nat.le_refl _) hn) (hok.track hn new) I.bare (fun b hb=>?_),rfl,⟨_,_,hn,hv,rfl,rfl⟩,?_,fun b hb=>?_⟩
  ·exact (hf b hb).ch
  ·refine⟨u',by simpa using he2,?_⟩
   exact hst'.1.at fun o q=>(hs2.2 it (Ne.symm hei)).trans q
  ·have hb':=hf b hb
   have:∃ o,s.heap.get? b=some o:=by
    rcases List.mem_cons.mp hb with rfl | hb
    ·exact⟨_,he⟩
    ·rw[List.mem_singleton.mp hb]
     obtain⟨o,ho,_⟩:=hit
     exact⟨o,ho⟩
   obtain⟨o,ho⟩:=this
   rw[Ah (Nat.ne_of_lt (Heap.lt_size ho))]
   exact hb'.1
 done:=by
  intro X hP hw hK hc i pins s σ H E I hf st hg
  subst hP hw hK
  obtain⟨hi,hq⟩:=hg
  subst hi
  obtain⟨old,he,hit⟩:=st
  obtain⟨its,rv,p,hz⟩:=I.list hq
  have hl:=rv.length
  have pt:s.heap.IsList a its.toArray:=p.isList
  have Dw:=Draws.list (prog:=X.prog) (w:=X.w) (A:=X.A.in1) (I.ok.hd hc) it a hai its.toArray
  obtain⟨f0,f1,f2,f3,f4,f5⟩:=hf it (by simp)
  refine wpAny_pyNext_enum_endD Dw he ⟨by rw[List.size_toArray,<- hl];exact hit,pt⟩ fun h' eb=>⟨rfl,I.turned (t':=s.toks) (fun b o hb e=>eb b o hb e) f0 f1 f3 f4 f5⟩
 self:=fun A i s Q E st h=>by
  obtain⟨old,he,_⟩:=st
  exact wpAny_pyIter_enum he h
def AW_ (K:PySem.W.Frag)(tl:TE):TI:=fun σ H R=>tl σ H fun x H1=>∃ a xs,x=.ref a/\SqL K H1 a xs/\R (Itm K a xs) H1
theorem Wu {K:PySem.W.Frag}{te:TE}{σ:St}{H:Hp}{Z:It->Hp->Prop}:AW_ K te σ H Z=te σ H fun x H1=>∃ a xs,x=.ref a/\SqL K H1 a xs/\Z (Itm K a xs) H1:=rfl
theorem Wv {X:Cx}{elts:List Expr}{x1}{tpos:Pos}{e:Expr}{te:TE}{p pos:Pos}(hg:Gl X "enumerate")(hm:X.mg "enumerate" = none)(he:PE X e te)(hs:starEach [e] X.env=[(false,eval e X.env)]:=by rfl):PI X (.Tuple elts x1 tpos) (.Call (.Name "enumerate" p) [e] [] pos) (AW_ X.K te):=by
 intro pins s σ H R I h
 refine Call_ (TZ I hg hm boot_enumerate (PyProof.Rows.callWith_type1 (thn (Aa he Ae hs pos pins s σ H (fun vs H1=>∃ a xs,vs=[.ref a]/\SqL X.K H1 a xs/\R (Itm X.K a xs) H1) I ?_) fun us s1 ⟨vs,H1,I1,r1,q1⟩=>?_) hs rfl))
 ·show te σ H _
  have:(fun x H1=>∃ a xs,x=V.ref a/\SqL X.K H1 a xs/\R (Itm X.K a xs) H1)=(fun x H1=>tNil σ H1 fun xs H2=>∃ a ys,x::xs=[V.ref a]/\SqL X.K H2 a ys/\R (Itm X.K a ys) H2):=by
   funext x H1
   simp[tNil]
  rw[<- this]
  exact h
 ·obtain⟨a,xs,rfl,hq,q⟩:=q1
  cases r1 with
  | cons r rr =>
   cases rr
   cases r
   obtain⟨its,rv,p,hz⟩:=I1.list hq
   have pt:s1.heap.IsList a its.toArray:=p.isList
   obtain⟨oa,hoa,_⟩:=id pt
   have ha:=Heap.lt_size hoa
   refine call_enumerate_list pt fun h' he' hit' hsz hk=>?_
   refine wpAny_pyIter_enum (s:={s1 with heap:=h' }) he' ?_
   have I2:Inv X pins σ H1 {s1 with heap:=h' }:=I1.kept (t':=s1.toks) hk
   refine⟨s1.heap.objs.size+1,[s1.heap.objs.size+1,s1.heap.objs.size],_,_,H1,rfl,I2,Xc a (s1.heap.objs.size+1) s1.heap.objs.size (Nat.succ_ne_self _) (Nat.ne_of_lt ha) (Nat.ne_of_lt (Nat.lt_succ_of_lt ha)) xs,⟨_,he',hit'⟩,fun b hb=>?_,q⟩
   have hle:s1.heap.objs.size<=b:=by
    rcases List.mem_cons.mp hb with rfl | hb
    ·omega
    ·rw[List.mem_singleton.mp hb];exact Nat.le_refl _
   exact I1.fpOk hle (I1.hok.fresh hle)
theorem forM {K:PySem.W.Frag}{a:Addr}{xs:List V}{g:TG}{tb:TS}{D:Ends}{σ:St}{H:Hp}(Pv:Nat->St->Hp->Prop)(h0:Pv 0 σ H)(hl:∀ i σ H,i<=xs.length->Pv i σ H->SqL K H a xs)
  (hs:∀ i v σ H t,xs[i]?=some v->Pv i σ H->H t=none->g (.ref t) σ (upd H t (.tup [.int i,v])) fun σ2 H2=>tb {D with nx:=Pv (i+1),ct:=Pv (i+1),bk:=D.nx} σ2 H2) (hd:∀ σ H,Pv xs.length σ H->D.nx σ H):ForW (Itm K a xs) g tb D σ H:=by
 refine⟨fun i m σ H=>m=xs.length-i/\i<=xs.length/\Pv i σ H,⟨xs.length,by simp,Nat.zero_le _,h0⟩,?_⟩
 rintro i m σ H ⟨rfl,hi,p⟩
 by_cases hlt:i<xs.length
 ·refine .inr ⟨⟨hlt,hl i σ H hi p⟩,Pv (i+1),fun σ' H' p'=>⟨xs.length-(i+1),by omega,rfl,hlt,p'⟩,fun x H' y=>?_⟩
  obtain⟨t,v,hn,hv,rfl,rfl⟩:=y
  exact hs i v σ H t hv p hn
 ·have e:i=xs.length:=by omega
  subst e
  exact .inl ⟨⟨rfl,hl _ σ H hi p⟩,hd σ H p⟩
theorem YL {x:V}{vs:List V}{H:Hp}{Q:VK}:Ay_ x vs H Q=∃ l xs i k y,x=.ref l/\vs=[.int i]/\H l=some (.lst xs) /\ -(2 ^ 63)<=i/\i<2 ^ 63/\seqIndex? i xs.length=some k/\xs[k]?=some y/\Q y (upd H l (.lst (xs.eraseIdx k))):=rfl
def rng (i j:Int):List Int:=(List.range (j-i).toNat).map fun k:Nat=>i+(k:Int)
end L2
namespace PySem
open Sem (wp)
def Heap.DEnt (h:Heap)(d:Addr)(es:Array DictEntry)(ep:Nat):Prop:=∃ o,h.get? d=some o/\o.ExactDict/\o.data=.dict es ep
section
variable {prog:Program} {w:World} {A:Around} {E:Value->Shared->Prop} {s:Shared} {d it:Addr} {es:Array DictEntry} {i ep:Nat}
theorem Heap.DEnt.typeIs (h:s.heap.DEnt d es ep):s.TypeIs (.ref d) "dict" := let ⟨o,ho,hc,_⟩:=h;⟨o,ho,hc.1⟩
theorem Heap.DEnt.at {h h':Heap}(x:h.DEnt d es ep)(e:∀ o,h.get? d=some o->h'.get? d=some o):h'.DEnt d es ep:=let ⟨o,ho,r⟩:=x;⟨o,e _ ho,r⟩
theorem Heap.DEnt.lt_size {h:Heap}(x:h.DEnt d es ep):d<h.objs.size:=let ⟨_,ho,_⟩:=x;Heap.lt_size ho
theorem Oa {Q:Value->Shared->Prop}(hd:(d == sysModules)=false)(hm:s.heap.DEnt d es ep)
  (hQ:Q (.ref s.heap.objs.size) {s with heap:=s.heap.push {cls:=.type "dict_keyiterator",data:=.fields #[.ref d,.int 0 0,.int es.size 0,.int ep 0]} }):wpAny (model prog w) A (pyIter (.ref d)) Q E s:=by
 have hT:=hm.typeIs
 obtain⟨o,ho,hc,hdat⟩:=id hm
 refine wpAny_pyIter_slot hT F.slot_dict_iter (wpAny_call_entry F.slot_dict_iter hT F.entry_dict_iter (?_:wpAny _ _ (Builtin.«dict.__iter__» _) _ _ s) (F.args_dict_iter_1 _))
 unfold Builtin.«dict.__iter__»;refine wpAny_bind ?_
 unfold Builtin.Dict.dictSlotNone;refine wpAny_bind (wpAny_notOrdered_dict hT ?_)
 show wpAny _ _ (pure (Value.ref d)) _ _ s;refine wpAny_pure ?_
 show wpAny _ _ (Builtin.Dict.showsAll d >>= _) _ _ s;unfold Builtin.Dict.showsAll
 rw[if_neg (fun z=>by rw[hd] at z;cases z)]
 refine wpAny_bind (wpAny_pure (wpAny_bind (wpAny_dictEntries ho hdat (wpAny_bind (wpAny_dictEpoch ho hdat ?_)))))
 refine wpAny_bind (wpAny_newObj_type (wpAny_pure ⟨_,rfl, "dict_keyiterator",_,⟨_,Heap.get?_push_size _ rfl,rfl⟩,F.slot_dict_keyiterator_next.lookup,?_⟩));simpa [rawInt] using hQ
theorem HQ {Q:Option Value->Shared->Prop}(hit:s.heap.IsKeyIter it d i es.size ep)(hm:s.heap.DEnt d es ep)(hlt:i<es.size)
  (hQ:∀ h',h'.IsKeyIter it d (i+1) es.size ep->Heap.SameBut it s.heap h'->Q (some es[i].key) {s with heap:=h' }):wpAny (model prog w) A (pyNext (.ref it)) Q E s:=by
 obtain⟨o,ho,hc,hd⟩:=id hit
 obtain⟨od,hod,hcd,hdd⟩:=id hm
 have hown:Builtin.Dict_items.ownsTuple "dict_keyiterator" = false:=by decide
 unfold pyNext
 refine wpAny_bind (wpAny_attempt (wpAny_callSpecial?_slot (name:=Str.ofString "__next__") hit.typeIs F.slot_dict_keyiterator_next (wpAny_call_entry F.slot_dict_keyiterator_next hit.typeIs F.entry_dict_keyiterator_next ?_ (F.args_dict_keyiterator_next_1 _))))
 refine wpAny_bind (wpAny_pure (wpAny_bind (wpAny_bind ?_)))
 first | refine wpAny_bind (wpAny_typeNameOfWhole_keyiter hit.typeIs (wpAny_pure (wpAny_bind (wpAny_fieldsOf ho hd ?_)))) | refine wpAny_bind (wpAny_typeNameOf_keyiter hit.typeIs (wpAny_pure (wpAny_bind (wpAny_fieldsOf ho hd ?_))))
 simp only[hown,Bool.false_eq_true,if_false];show wpAny _ _ (if (Value.ref d == Value.none)=true then _ else _) _ _ s
 rw[if_neg (show ¬ ((Value.ref d == Value.none)=true) from fun z=>Bool.false_ne_true z)]
 refine wpAny_bind (wpAny_pure (wpAny_bind (wpAny_dictEntries hod hdd ?_)))
 rw[if_neg (by simp)];refine wpAny_bind (wpAny_pure (wpAny_bind (wpAny_dictEpoch hod hdd ?_)))
 rw[if_neg (by simp)];refine wpAny_pure ?_
 simp only[show ¬ ((i:Int)<0) from by omega,if_false,Int.toNat_natCast,Array.getElem?_eq_getElem hlt];refine wpAny_bind ?_
 first | refine wpAny_bind (wpAny_typeNameOfWhole_keyiter hit.typeIs (wpAny_pure (wpAny_bind (wpAny_isOneOf_keyiter hit.typeIs ?_)))) | refine wpAny_bind (wpAny_typeNameOf_keyiter hit.typeIs (wpAny_pure (wpAny_bind (wpAny_isOneOf_keyiter hit.typeIs ?_))))
 show wpAny _ _ (setField (.ref it) 1 (rawInt ((i:Int)+1)) >>= _) _ _ s;refine wpAny_bind (wpAny_setField ho hd (by simp) ?_)
 have hit':(s.heap.update it (Obj.mapFields (·.setIfInBounds 1 (rawInt ((i:Int)+1))))).IsKeyIter it d (i+1) es.size ep:=⟨_,Heap.get?_update_self _ ho (Obj.isFreed_of_fields (Obj.data_mapFields hd _)),(Obj.cls_mapFields ..).trans hc,by rw[Obj.data_mapFields hd];simp[rawInt]⟩
 refine wpAny_bind (wpAny_holding (wpAny_bind (wpAny_isOneOf_keyiter (s:={s with heap:=s.heap.update it (Obj.mapFields (·.setIfInBounds 1 (rawInt ((i:Int)+1))))}) hit'.typeIs ?_)))
 show wpAny _ _ (pure es[i].key) _ _ _;exact wpAny_pure (wpAny_pure ⟨_,rfl,wpAny_pure (hQ _ hit' (Heap.SameBut.update ..))⟩)
theorem IQ {Q:Option Value->Shared->Prop}(hh:A.handled=none)(hit:s.heap.IsKeyIter it d i es.size ep)(hm:s.heap.DEnt d es ep)(hge:es.size<=i)
  (hQ:∀ h',Heap.ExtBut it s.heap h'->Q none {s with heap:=h' }):wpAny (model prog w) A (pyNext (.ref it)) Q E s:=by
 obtain⟨o,ho,hc,hd⟩:=id hit
 obtain⟨od,hod,hcd,hdd⟩:=id hm
 have hown:Builtin.Dict_items.ownsTuple "dict_keyiterator" = false:=by decide
 unfold pyNext
 refine wpAny_bind (wpAny_attempt (wpAny_callSpecial?_slot (name:=Str.ofString "__next__") hit.typeIs F.slot_dict_keyiterator_next (wpAny_call_entry F.slot_dict_keyiterator_next hit.typeIs F.entry_dict_keyiterator_next ?_ (F.args_dict_keyiterator_next_1 _))))
 refine wpAny_bind (wpAny_pure (wpAny_bind (wpAny_bind ?_)))
 first | refine wpAny_bind (wpAny_typeNameOfWhole_keyiter hit.typeIs (wpAny_pure (wpAny_bind (wpAny_fieldsOf ho hd ?_)))) | refine wpAny_bind (wpAny_typeNameOf_keyiter hit.typeIs (wpAny_pure (wpAny_bind (wpAny_fieldsOf ho hd ?_))))
 simp only[hown,Bool.false_eq_true,if_false];show wpAny _ _ (if (Value.ref d == Value.none)=true then _ else _) _ _ s
 rw[if_neg (show ¬ ((Value.ref d == Value.none)=true) from fun z=>Bool.false_ne_true z)]
 refine wpAny_bind (wpAny_pure (wpAny_bind (wpAny_dictEntries hod hdd ?_)))
 rw[if_neg (by simp)];refine wpAny_bind (wpAny_pure (wpAny_bind (wpAny_dictEpoch hod hdd ?_)))
 rw[if_neg (by simp)];refine wpAny_pure ?_
 simp only[show ¬ ((i:Int)<0) from by omega,if_false,Int.toNat_natCast,Array.getElem?_eq_none hge];refine wpAny_bind ?_
 first | refine wpAny_bind (wpAny_typeNameOfWhole_keyiter hit.typeIs (wpAny_pure ?_)) | refine wpAny_bind (wpAny_typeNameOf_keyiter hit.typeIs (wpAny_pure ?_))
 show wpAny _ _ (setField (.ref it) 0 .none >>= _) _ _ s;refine wpAny_bind (wpAny_setField ho hd (by simp) ?_)
 show wpAny _ _ (newExc (.type "StopIteration") [] >>= _) _ _ _;refine wpAny_bind ?_
 simp only[newExc,newTuple];refine wpAny_bind (wpAny_newObj_type ?_ (by size_fits))
 refine wpAny_bind (m:=firstArgMember _ _) (wpAny_of_eq (a:=Value.none) (by first | rfl | (simp only[firstArgMember];rfl)) (wpAny_newObj_type ?_ (by size_fits)))
 simp only[raiseNew];refine wpAny_bind (wpAny_handled ?_)
 rw[show A.in1.handled=none from hh];refine wpAny_bind (wpAny_pure (wpAny_throw ?_))
 refine wpAny_bind (wpAny_isInstance (T := "StopIteration") (b:=true) ⟨_,Heap.get?_push_size _ rfl,rfl⟩ isSubtype_stop (wpAny_pure (hQ _ (((Heap.SameBut.update ..).extBut.push _).push _))))
theorem Walks.dent (hh:A.handled=none)(I:Addr)(hne:d≠I):Walks prog w A I [I,d] [I] es.size (fun i v=>∃ e,es[i]?=some e/\v=e.key) (fun i h=>h.IsKeyIter I d i es.size ep/\h.DEnt d es ep) where
 sub:=fun b hb=>by simp at hb;simp[hb]
 frame:=fun _ _ _ st hk=>⟨st.1.at fun o e=>hk I (by simp) o e,st.2.at fun o e=>hk d (by simp) o e⟩
 item:=fun i s Q E hi st hQ=>by
  refine HQ st.1 st.2 hi fun h' hit' hs'=>?_
  exact hQ _ h' s.toks ⟨es[i],by simp[hi],rfl⟩ ⟨hit',st.2.at fun o e=>hs'.extBut d o hne e⟩ fun b o hb e=>hs'.extBut b o (fun z=>hb (by simp[z])) e
 done:=fun s Q E st hQ=>IQ hh st.1 st.2 (Nat.le_refl _) fun h' he'=>hQ h' s.toks fun b o hb e=>he' b o (fun z=>hb (by simp[z])) e
 self:=fun _ _ _ _ st hQ=>wpAny_pyIter_keyiter st.1 hQ
theorem ZN (lo:(d == sysModules)=false):PySem.W.KdlSrc prog w "dict" d d es.size (fun i v=>∃ e,es[i]?=some e/\v=e.key) (fun h=>h.DEnt d es ep) where
 type:=fun _ hm=>hm.typeIs
 there:=fun _ hm=>⟨hm.lt_size,hm.lt_size⟩
 keep:=fun _ _ hm hk=>hm.at fun o e=>hk d (.inl rfl) o e
 notList:=by decide
 notTuple:=by decide
 hint:=fun _ _ _ _ hm hq=>PySem.W.kdl_hint_dict hm.typeIs hq
 iter:=fun _ _ hh hm=>⟨_,_,(fun _ _ hq=>Oa lo hm hq),Walks.dent hh _ (Nat.ne_of_lt hm.lt_size),⟨⟨_,Heap.get?_push_size _ rfl,rfl,rfl⟩,hm.at fun o e=>Heap.get?_push_of_some _ e⟩⟩
end
end PySem
namespace L2
open PySem PySem.Spec PyProof.Rows
theorem Mm {α β:Type}{F:α->β->Prop}:∀ {l:List α} {m:List β} {i:Nat} {a:α},Paired F l m->l[i]?=some a->∃ b,m[i]?=some b/\F a b
 | _,_,_,_,.nil,e=>by simp at e
 | _,_,0,_,.cons r _,e=>by simp at e;subst e;exact⟨_,rfl,r⟩
 | _,_,i+1,a,.cons _ t,e=>by
  obtain⟨b,h1,h2⟩:=Mm (i:=i) (a:=a) t (by simpa using e)
  exact⟨b,by simpa using h1,h2⟩
theorem Vf {P:Program}{w:World}{H:Hp}{h:Heap}{a:Addr}{kvs:List (List Key×V)}(ok:HOk P w H h)(e:Rd H a (.dT kvs)) :
  ∃ o es ep,h.get? a=some o/\o.ExactDict/\o.data=.dict es ep/\es.size=kvs.length/\(a == sysModules)=false/\kvs.length<=sizeLine /\
   ∀ (i:Nat) (k:List Key) (v:V),kvs[i]?=some (k,v)->∃ b en,es[i]?=some en/\en.key=.ref b/\H b=some (.tup (k.map kV)):=by
 obtain⟨z,y,xs,r,o,es,ep,h1,h2,h3,h4,h5⟩:=(show CC P w H h a (.dT kvs) from ZD ok e)
 have hl:=Paired.length r
 have hs:es.size=kvs.length:=by rw[<- Array.length_toList,h4,List.length_map,hl]
 refine⟨o,es,ep,h1,h2,h3,hs,y,z,fun i k v hk=>?_⟩
 obtain⟨q,hq,e1,e2,_⟩:=Mm r hk
 refine⟨q.2.1,entryOfKey (tupleKind (CV P w)) q,?_,rfl,e2⟩
 rw[<- Array.getElem?_toList,h4,List.getElem?_map,hq];rfl
section
variable {X:Cx} {pins:List (Addr×Obj)} {σ:St} {H:Hp} {s:Shared} {a:Addr}
theorem Inv.freeze {kvs:List (List Key×V)}{o:Obj}(I:Inv X pins σ H s)(e:H a=some (.dT kvs))(ho:s.heap.get? a=some o):Inv X pins σ (upd H a (.frz o (.dT kvs))) s:=by
 refine RQ (h':=s.heap) (t':=s.toks) I (by rw[e];exact True.intro) ⟨rfl,fun _ _=>rfl⟩ ⟨o,ho⟩ ?_
 obtain⟨z,y,xs,r,q⟩:=(show CC X.prog X.w H s.heap a (.dT kvs) from I.hok a _ e)
 refine⟨ho,z,y,xs,Paired.mapP r fun p x hx=>⟨hx.1,?_,hx.2.2⟩,q⟩
 rw[Ah (fun z=>by have h1:=hx.2.1;rw[z,e] at h1;cases h1)]
 exact hx.2.1
end
def Itd (o:Obj)(a:Addr)(kvs:List (List Key×V)):It:=⟨fun i H=>i<kvs.length/\H a=some (.frz o (.dT kvs)),fun i H x H'=>H'=H/\∃ b k v,kvs[i]?=some (k,v)/\x=.ref b/\H b=some (.tup (k.map kV)),fun i H=>kvs.length<=i/\H a=some (.frz o (.dT kvs))⟩
theorem Xd {P:Program}{w:World}{K:PySem.W.Frag}{tg:Expr}{o:Obj}{a it:Addr}{kvs:List (List Key×V)}{es:Array DictEntry}{ep:Nat}(hai:a≠it)(hc:o.ExactDict)(hd:o.data=.dict es ep)(hs:es.size=kvs.length) :
  Turn P w K tg (Itd o a kvs) [it] it (fun i h=>h.IsKeyIter it a i es.size ep) where
 mem:=by simp
 obj:=fun i h st b hb=>by
  have e:b=it:=by simpa using hb
  subst e
  obtain⟨o,e,c,d⟩:=st
  exact⟨o,e,fun v z=>by rw[d] at z;cases z⟩
 keep:=fun i h h' st k=>st.at fun o e=>k it (by simp) o e
 item:=by
  intro X hP hw hK hcm i pins s σ H E I hf st hg
  subst hP hw hK
  obtain⟨hi,hq⟩:=hg
  obtain⟨hko,_⟩:=(show CC X.prog X.w H s.heap a (.frz o (.dT kvs)) from I.hok a _ hq)
  obtain⟨o',es',ep',g1,g2,g3,g4,g5,g6,g7⟩:=Vf I.hok (.inr ⟨o,hq⟩)
  rw[hko] at g1
  cases g1
  rw[hd] at g3
  cases g3
  obtain⟨kv,hkv⟩:∃ kv,kvs[i]?=some kv:=⟨kvs[i],by simp[hi]⟩
  obtain⟨k,v⟩:=kv
  obtain⟨b,en,e1,e2,e3⟩:=g7 i k v hkv
  obtain⟨f0,f1,f2,f3,f4,f5⟩:=hf it (by simp)
  have hlt:i<es.size:=by omega
  have ee:es[i]=en:=by rw[Array.getElem?_eq_getElem hlt] at e1;exact Option.some.inj e1
  refine HQ st ⟨o,hko,hc,hd⟩ hlt fun h' st' sb=>?_
  have I1:Inv X pins σ H {s with heap:=h' }:=I.turned (t':=s.toks) (fun b o hb e=>(sb.2 b hb).trans e) f0 f1 f3 f4 f5
  obtain⟨io,e,c,d⟩:=id st'
  exact⟨_,rfl,Zt (s:={s with heap:=h' }) e c d (by decide) ⟨.ref b,H,I1,(by rw[ee,e2];rfl),⟨rfl,b,k,v,hkv,rfl,e3⟩,st',fun b hb=>(hf b hb).1⟩⟩
 done:=by
  intro X hP hw hK hcm i pins s σ H E I hf st hg
  subst hP hw hK
  obtain⟨hi,hq⟩:=hg
  obtain⟨hko,_⟩:=(show CC X.prog X.w H s.heap a (.frz o (.dT kvs)) from I.hok a _ hq)
  obtain⟨f0,f1,f2,f3,f4,f5⟩:=hf it (by simp)
  exact IQ (I.ok.hd hcm) st ⟨o,hko,hc,hd⟩ (by omega) fun h' eb=>⟨rfl,I.turned (t':=s.toks) (fun b o hb e=>eb b o hb e) f0 f1 f3 f4 f5⟩
 self:=fun _ _ _ _ _ st h=>wpAny_pyIter_keyiter st h
def AX_ (td:TE):TI:=fun σ H R=>td σ H fun x H1=>∃ a kvs,x=.ref a/\H1 a=some (.dT kvs)/\∀ o,R (Itd o a kvs) (upd H1 a (.frz o (.dT kvs)))
theorem Ww {te:TE}{σ:St}{H:Hp}{Z:It->Hp->Prop}:AX_ te σ H Z=te σ H fun x H1=>∃ a kvs,x=.ref a/\H1 a=some (.dT kvs)/\∀ o,Z (Itd o a kvs) (upd H1 a (.frz o (.dT kvs))):=rfl
theorem ZO {X:Cx}{tg:Expr}{l:Expr}{tl:TE}(hl:PE X l tl):PI X tg l (AX_ tl):=by
 intro pins s σ H R I h
 refine thn (hl pins s σ H _ I h) fun v s1 ⟨x,H1,I1,r1,q1⟩=>?_
 obtain⟨a,kvs,e,hq,q⟩:=q1
 subst e
 cases r1
 obtain⟨o,es,ep,g1,g2,g3,g4,g5,g6,g7⟩:=Vf I1.hok (.inl hq)
 have I2:=I1.freeze hq g1
 refine Oa g5 ⟨o,g1,g2,g3⟩ ?_
 refine⟨s1.heap.objs.size,[s1.heap.objs.size],_,_,_,rfl,I2.kept (t':=s1.toks) fun b o e=>Heap.get?_push_of_some _ e,Xd (o:=o) (kvs:=kvs) (Nat.ne_of_lt (Heap.lt_size g1)) g2 g3 g4,⟨_,Heap.get?_push_size _ rfl,rfl,rfl⟩,fun b hb=>?_,q o⟩
 have e:b=s1.heap.objs.size:=by simpa using hb
 subst e
 exact I2.fpOk (Nat.le_refl _) (I2.hok.fresh (Nat.le_refl _))
theorem forD {o:Obj}{a:Addr}{kvs:List (List Key×V)}{g:TG}{tb:TS}{D:Ends}{σ:St}{H:Hp}(Pv:Nat->St->Hp->Prop)(h0:Pv 0 σ H)(hl:∀ i σ H,i<=kvs.length->Pv i σ H->H a=some (.frz o (.dT kvs)))
  (hs:∀ i k v b σ H,kvs[i]?=some (k,v)->Pv i σ H->H b=some (.tup (k.map kV))->g (.ref b) σ H fun σ2 H2=>tb {D with nx:=Pv (i+1),ct:=Pv (i+1),bk:=D.nx} σ2 H2) (hd:∀ σ H,Pv kvs.length σ H->D.nx σ H):ForW (Itd o a kvs) g tb D σ H:=by
 refine⟨fun i m σ H=>m+i=kvs.length/\Pv i σ H,⟨kvs.length,by omega,h0⟩,fun i m σ H ⟨hm,hp⟩=>?_⟩
 have hq:=hl i σ H (by omega) hp
 by_cases hi:i<kvs.length
 ·refine .inr ⟨⟨hi,hq⟩,Pv (i+1),fun σ' H' h=>⟨m-1,by omega,by omega,h⟩,fun x H' hy=>?_⟩
  obtain⟨rfl,b,k,v,hk,rfl,hb⟩:=hy
  exact hs i k v b σ _ hk hp hb
 ·have e:i=kvs.length:=by omega
  subst e
  exact .inl ⟨⟨Nat.le_refl _,hq⟩,hd σ H hp⟩
theorem FW {X:Cx}(hc:X.calm=true):IJ X (.type "list") (fun xs H Q=>∃ p kvs,xs=[.ref p]/\Rd H p (.dT kvs)/\∀ l rs,H l=none->rs.length=kvs.length ->
  (∀ (i:Nat) (k:List Key) (v:V),kvs[i]?=some (k,v)->∃ b,rs[i]?=some (V.ref b)/\H b=some (.tup (k.map kV)))->Q (.ref l) (upd H l (.lst rs))):=by
 intro pins s σ H xs us Q I r h
 obtain⟨p,kvs,rfl,hp,q⟩:=h
 obtain⟨u,rfl,rx⟩:=vals1 r
 cases rx
 obtain⟨o,es,ep,g1,g2,g3,g4,g5,g6,g7⟩:=Vf I.hok hp
 refine PySem.W.kdl_call (ZN (es:=es) (ep:=ep) g5) (I.ok.hd hc) ⟨o,g1,g2,g3⟩ (by omega) fun h' tk acc' c' hk hD hacc=>?_
 let f:DictEntry->V:=fun e=>match e.key with | .ref b=>V.ref b | _=>.non
 have hat:∀ (i:Nat) (k:List Key) (v:V),kvs[i]?=some (k,v)->∃ b,(es.toList.map f)[i]?=some (V.ref b)/\H b=some (.tup (k.map kV)):=fun i k v hkv=>by
  obtain⟨b,en,e1,e2,e3⟩:=g7 i k v hkv
  refine⟨b,?_,e3⟩
  rw[List.getElem?_map,Array.getElem?_toList,e1]
  show some (f en)=_
  simp only[f,e2]
 have hlen:(es.toList.map f).length=kvs.length:=by rw[List.length_map,Array.length_toList,g4]
 have hv:Vals (es.toList.map f) acc'.toList:=by
  refine Vals.ofIx (by rw[hlen,<- g4];simpa using hacc.1) fun i v hv=>?_
  obtain⟨e,he,rfl⟩:=hacc.2 i v (by simpa using hv)
  have hi:i<kvs.length:=by rw[<- g4];exact (Array.getElem?_eq_some_iff.mp he).1
  obtain⟨b,en,e1,e2,e3⟩:=g7 i kvs[i].1 kvs[i].2 (by simp[hi])
  rw[he] at e1
  cases e1
  refine⟨V.ref b,?_,by rw[e2];rfl⟩
  rw[List.getElem?_map,Array.getElem?_toList,he]
  show some (f e)=_
  simp only[f,e2]
 exact⟨.ref _,_,I.laid (t':=tk) hk (Nat.le_refl _) (show CC X.prog X.w _ h' _ (.lst (es.toList.map f)) from ⟨by rw[hlen];exact g6,acc'.toList,c',hv,by simpa using hD⟩),rfl,q _ _ (I.hok.fresh (Nat.le_refl _)) hlen hat⟩
def Vg (tk tv:TE):TE:=fun σ H Q=>∀ p,H p=none->tk σ (upd H p (.dT [])) fun x H1=>tv σ H1 fun y H2=>H2 p=some (.dT [])/\∃ b k,x=.ref b/\H2 b=some (.tup (k.map kV))/\Q (.ref p) (upd H2 p (.dT [(k,y)]))
theorem Wx {tk tv:TE}{σ:St}{H:Hp}{Q:VK}:Vg tk tv σ H Q=∀ p,H p=none->tk σ (upd H p (.dT [])) fun x H1=>tv σ H1 fun y H2=>H2 p=some (.dT [])/\∃ b k,x=.ref b/\H2 b=some (.tup (k.map kV))/\Q (.ref p) (upd H2 p (.dT [(k,y)])):=rfl
theorem YM {X:Cx}{pos:Pos}{k v:Expr}{tk tv:TE}(hu:X.A.units+1<cLine)(hk:PE X k tk)(hv:PE X v tv):PE X (.Dict [some k] [v] pos) (Vg tk tv):=by
 intro pins s σ H Q I q
 have hn:=I.hok.fresh (Nat.le_refl s.heap.objs.size)
 have I1:=I.laid (a:=s.heap.objs.size) (o:=.dT []) (h':=s.heap.push {cls:=.type "dict",data:=.dict #[]}) (t':=s.toks) (fun _ _ q=>Heap.get?_push_of_some _ q) (Nat.le_refl _) (Wk s.heap I.big)
 refine wpAny_Dict_any rfl rfl (by intro z;cases z) (by show 1<=15;decide) (pairTrees_cons_walk (thn (hk pins _ σ _ _ I1 (q _ hn)) fun u s1 ⟨x,H1,J1,rx,q1⟩=>thn (hv pins s1 σ H1 _ J1 q1) fun w2 s2 ⟨y,H2,J2,ry,q2⟩=>pairTrees_nil_walk ?_))
 obtain⟨e,b,ks,rfl,hb,q3⟩:=q2
 obtain rfl:u=Value.ref b:=rx
 obtain⟨z,hd,xs,rel,dd⟩:=Cz_ J2.hok e
 cases rel
 unfold storeAll
 rw[List.forIn_cons]
 refine wpAny_bind (wpAny_bind (wpAny_dictSet_heap (hsz:=by simp) (show (tupleKind (CV X.prog X.w)).room X.A from (show X.A.units<cLine by omega)) (N8 J2.hok hb) dd fun h' dd' hs=>wpAny_pure ?_))
 show wpAny _ _ (forIn [] PUnit.unit _) _ _ _
 rw[List.forIn_nil]
 refine wpAny_pure ⟨.ref s.heap.objs.size,_,?_,rfl,q3⟩
 obtain⟨qo,es,ep,hq,h2,h3,h4,_,h5⟩:=dd'
 have hl:([(ks,y)]:List (List Key×V)).length<=sizeLine:=by rw[sizeLine_eq];simp
 refine RQ J2 (by rw[e];exact True.intro) hs ⟨qo,hq⟩ ⟨hl,hd,_,KT.keeps (.cons ⟨rfl,hb,ry⟩ .nil) fun c ys ec=>?_,qo,es,ep,hq,h2,h3,h4,h5⟩
 rw[Ah (Cg_ ec e (fun z=>nomatch z))]
 exact ec
theorem ZP {X:Cx}{i:Nat}{x:Str}{k v:Expr}{tk tv:TE}{pos pos' dpos:Pos}(hu:X.A.units+1<cLine)(hN:X.N.Nodup)(hi:X.N[i]?=some x)(hx:Loc X.env.scope x)(hk:PE X k tk)(hv:PE X v tv)(hs:swapsWith (.Dict [some k] [v] dpos) (some (.Name x pos')) pos.line X.env=pure false)
  (hf:X.fn x=true\/X.env.scope.names.lookup x=some .local):PS X (.Assign [.Name x pos'] (.Dict [some k] [v] dpos) pos) (tAsg (Vg tk tv) (T0 i)):=As hN hi hx (YM hu hk hv) hs hf
end L2
namespace GB
open GW
variable {α:Type} [DecidableEq α]
def Mn (step:α->Int->α)(a:α)(ws:List Int):α:=ws.foldl step a
theorem Ry (step:α->Int->α)(a:α)(ws:List Int)(x:Int):Mn step a (ws ++ [x])=step (Mn step a ws) x:=by
 unfold Mn
 rw[List.foldl_append];rfl
theorem Xe (step:α->Int->α)(a:α)(ws:List Int)(x:Int):Mn step a (x::ws)=Mn step (step a x) ws:=rfl
def put (step:α->Int->α)(r:α)(w:List Int)(ents:List (α×List Int))(x:Nat):List (α×List Int):=if step r x∈ents.map (·.1) then ents else ents ++ [(step r x,w ++ [(x:Int)])]
structure B (L:Int)(step:α->Int->α)(st:α)(ok:α->Prop)(ents:List (α×List Int))(i:Nat)(top:Int):Prop where
 hd:ents[0]?=some (st,[])
 il:i<=ents.length
 sh:∀ (j:Nat) (e:α×List Int),ents[j]?=some e->e.2.length<=j
 nod:(ents.map (·.1)).Nodup
 rng:∀ e∈ents,ok e.1
 wd:∀ e∈ents,isW L e.2=true/\Mn step st e.2=e.1
 inc:∀ (j k:Nat) (a b:α×List Int),j<k->ents[j]?=some a->ents[k]?=some b->place L a.2<place L b.2
 bnd:∀ e∈ents,place L e.2<top
 don:∀ j,j<i->∀ e,ents[j]?=some e->∀ x:Int,0<=x->x<L->∃ e'∈ents,e'.1=step e.1 x/\place L e'.2<=place L (e.2 ++ [x])
variable {L:Int} {step:α->Int->α} {st:α} {ok:α->Prop} {ents:List (α×List Int)} {i:Nat} {top:Int}
theorem B.start (L:Int)(step:α->Int->α){st:α}{ok:α->Prop}(h:ok st):B L step st ok [(st,[])] 0 1:=by
 refine⟨rfl,by simp,(fun j e he=>by cases j with | zero=>(simp at he;subst he;simp) | succ j=>simp at he),by simp,fun e he=>?_,fun e he=>?_,fun j k a b h h1 h2=>?_,fun e he=>?_,fun j hj=>absurd hj (Nat.not_lt_zero _)⟩
 ·simp at he;subst he;exact h
 ·simp at he;subst he;exact⟨rfl,rfl⟩
 ·have:=(List.getElem?_eq_some_iff.mp h2).1;simp at this;omega
 ·simp at he;subst he;simp[place,Wr]
theorem B.up {top':Int}(h:B L step st ok ents i top)(ht:top<=top'):B L step st ok ents i top' :=
 ⟨h.hd,h.il,h.sh,h.nod,h.rng,h.wd,h.inc,fun e he=>Int.lt_of_lt_of_le (h.bnd e he) ht,h.don⟩
theorem B.add (h:B L step st ok ents i top){w:List Int}{r:α}{x:Int}(hw:(r,w)∈ents)(hx:0<=x/\x<L)(ht:top<=place L w*L+x+1)
  (hgr:ok (step r x)) (hno:step r x∉ents.map (·.1)):B L step st ok (ents ++ [(step r x,w ++ [x])]) i (place L w*L+x+2):=by
 obtain⟨v1,v2⟩:=h.wd _ hw
 have hp:=Mi L w x
 have hlen:0<ents.length:=by have:=(List.getElem?_eq_some_iff.mp h.hd).1;omega
 refine⟨?_,by have:=h.il;simp;omega,fun j e he=>?_,?_,fun e he=>?_,fun e he=>?_,fun j k a b hjk h1 h2=>?_,fun e he=>?_,fun j hj e he y hy0 hy1=>?_⟩
 ·rw[List.getElem?_append_left hlen];exact h.hd
 ·have hj:=(List.getElem?_eq_some_iff.mp he).1
  rw[List.length_append,List.length_singleton] at hj
  by_cases hjl:j<ents.length
  ·rw[List.getElem?_append_left hjl] at he
   exact h.sh j e he
  ·have e1:j=ents.length:=by omega
   subst e1
   rw[List.getElem?_append_right (Nat.le_refl _),Nat.sub_self] at he
   simp at he
   subst he
   obtain⟨j',hj',ej⟩:=List.getElem_of_mem hw
   have:=h.sh j' (r,w) (by rw[List.getElem?_eq_getElem hj',ej])
   have this':w.length<=j':=this
   show (w ++ [x]).length<=ents.length
   simp;omega
 ·rw[List.map_append,List.nodup_append]
  refine⟨h.nod,by simp,fun a ha b hb=>?_⟩
  simp at hb
  subst hb
  exact fun z=>hno (z ▸ ha)
 ·rcases List.mem_append.mp he with he | he
  ·exact h.rng e he
  ·rw[List.mem_singleton.mp he];exact hgr
 ·rcases List.mem_append.mp he with he | he
  ·exact h.wd e he
  ·rw[List.mem_singleton.mp he]
   refine⟨?_,?_⟩
   ·rw[Ao] at v1 ⊢
    intro z hz
    rcases List.mem_append.mp hz with hz | hz
    ·exact v1 z hz
    ·rw[List.mem_singleton.mp hz];exact hx
   ·show Mn step st (w ++ [x])=step r x
    rw[Ry]
    have v2':Mn step st w=r:=v2
    rw[v2']
 ·have hk:=(List.getElem?_eq_some_iff.mp h2).1
  rw[List.length_append,List.length_singleton] at hk
  by_cases hkl:k<ents.length
  ·rw[List.getElem?_append_left hkl] at h2
   rw[List.getElem?_append_left (by omega)] at h1
   exact h.inc j k a b hjk h1 h2
  ·have hke:k=ents.length:=by omega
   subst hke
   rw[List.getElem?_append_left (by omega)] at h1
   rw[List.getElem?_append_right (Nat.le_refl _),Nat.sub_self] at h2
   simp at h2
   subst h2
   have:=h.bnd a (List.mem_of_getElem? h1)
   show place L a.2<place L (w ++ [x])
   rw[hp];omega
 ·rcases List.mem_append.mp he with he | he
  ·have:=h.bnd e he;omega
  ·rw[List.mem_singleton.mp he]
   show place L (w ++ [x])<_
   rw[hp];omega
 ·have hjl:j<ents.length\/j=ents.length:=by
   have:=(List.getElem?_eq_some_iff.mp he).1
   rw[List.length_append,List.length_singleton] at this
   omega
  rcases hjl with hjl | hjl
  ·rw[List.getElem?_append_left hjl] at he
   obtain⟨e',m,q⟩:=h.don j hj e he y hy0 hy1
   exact⟨e',List.mem_append_left _ m,q⟩
  ·exact absurd hjl (by have:=h.il;omega)
def ZQ (L:Int)(step:α->Int->α)(ents:List (α×List Int))(r:α)(w:List Int)(x:Nat):Prop:=∀ y:Int,0<=y->y<x->∃ e'∈ents,e'.1=step r y/\place L e'.2<=place L (w ++ [y])
theorem B.letter {x:Nat}{w:List Int}{r:α}(h:B L step st ok ents i (place L w*L+x+1))(hs:ZQ L step ents r w x)(hw:(r,w)∈ents)(hx:(x:Int)<L)
  (hgr:ok (step r x)):B L step st ok (put step r w ents x) i (place L w*L+((x+1:Nat):Int)+1)/\ZQ L step (put step r w ents x) r w (x+1):=by
 unfold put
 by_cases hm:step r x∈ents.map (·.1)
 ·rw[if_pos hm]
  refine⟨h.up (by push_cast;omega),fun y hy0 hy1=>?_⟩
  by_cases hyx:y<x
  ·exact hs y hy0 hyx
  ·have e:y=x:=by push_cast at hy1;omega
   subst e
   obtain⟨e',he',e1⟩:=List.mem_map.mp hm
   refine⟨e',he',e1,?_⟩
   have:=h.bnd e' he'
   rw[Mi];omega
 ·rw[if_neg hm]
  refine⟨(h.add hw ⟨by omega,hx⟩ (Int.le_refl _) hgr hm).up (by push_cast;omega),fun y hy0 hy1=>?_⟩
  by_cases hyx:y<x
  ·obtain⟨e',m,q⟩:=hs y hy0 hyx
   exact⟨e',List.mem_append_left _ m,q⟩
  ·have e:y=x:=by push_cast at hy1;omega
   subst e
   exact⟨_,List.mem_append_right _ List.mem_cons_self,rfl,Int.le_refl _⟩
theorem B.next (hL:0<L){m:Nat}{w:List Int}{r:α}(h:B L step st ok ents i (place L w*L+m+1))(hm:(m:Int)=L)(hs:ZQ L step ents r w m)(hw:ents[i]?=some (r,w)) :
  B L step st ok ents (i+1) (place L w*L+L+1)/\∀ e,ents[i+1]?=some e->place L w*L+L+1<=place L e.2*L+1:=by
 have hi:=(List.getElem?_eq_some_iff.mp hw).1
 rw[hm] at h
 refine⟨⟨h.hd,hi,h.sh,h.nod,h.rng,h.wd,h.inc,h.bnd,fun j hj e he x h0 h1=>?_⟩,fun e he=>?_⟩
 ·by_cases hji:j<i
  ·exact h.don j hji e he x h0 h1
  ·have e1:j=i:=by omega
   subst e1
   rw[hw] at he
   cases he
   exact hs x h0 (by omega)
 ·have:=h.inc i (i+1) _ _ (Nat.lt_succ_self _) hw he
  have h2:=Int.mul_le_mul_of_nonneg_right (show place L w+1<=place L e.2 from this) (Int.le_of_lt hL)
  rw[Int.add_mul] at h2
  omega
theorem ZR {r:α}{w:List Int}{x j:Nat}{e:α×List Int}(h:ents[j]?=some e):(put step r w ents x)[j]?=some e:=by
 unfold put
 split
 ·exact h
 ·rw[List.getElem?_append_left (List.getElem?_eq_some_iff.mp h).1];exact h
theorem B.least (h:B L step st ok ents ents.length top){ws:List Int}(hv:isW L ws=true):∀ i,i<=ws.length->∃ w',(Mn step st (ws.take i),w')∈ents/\place L w'<=place L (ws.take i)
 | 0,_=>⟨[],by simpa [Mn] using List.mem_of_getElem? h.hd,by simp⟩
 | i+1,hi=>by
  obtain⟨w',m,hp⟩:=B.least h hv i (by omega)
  have hwi:ws[i]?=some ws[i]:=by simp
  have hin:=Ao.mp hv ws[i] (List.getElem_mem _)
  obtain⟨j,hj,ej⟩:=List.getElem_of_mem m
  obtain⟨e',me,e1,e2⟩:=h.don j hj _ (by rw[List.getElem?_eq_getElem hj,ej]) ws[i] hin.1 hin.2
  obtain⟨g,v⟩:=e'
  have e1:g=step (Mn step st (ws.take i)) ws[i]:=e1
  have e2:place L v<=place L (w' ++ [ws[i]]):=e2
  have et:ws.take (i+1)=ws.take i ++ [ws[i]]:=by rw[List.take_add_one,hwi];rfl
  have hL:0<=L:=by omega
  refine⟨v,?_,?_⟩
  ·rw[et,Ry,<- e1];exact me
  ·rw[et]
   rw[Mi] at e2 ⊢
   have:=Int.mul_le_mul_of_nonneg_right hp hL
   omega
theorem B.leastW (h:B L step st ok ents ents.length top){ws:List Int}(hv:isW L ws=true):∃ w',(Mn step st ws,w')∈ents/\place L w'<=place L ws:=by
 have:=h.least hv ws.length (Nat.le_refl _)
 rwa [List.take_length] at this
def RX (w1 w2:List (List Int))(p:Int×Int)(x:Int):Int×Int:=(EJ w1 p.1 x,EJ w2 p.2 x)
def okP (n m:Nat)(p:Int×Int):Prop:=(0<=p.1/\p.1<(n:Int))/\(0<=p.2/\p.2<(m:Int))
def Eh (ways:List (List Int))(r:Int)(ws:List Int):Int:=ws.foldl (EJ ways) r
theorem JY (ways:List (List Int))(ws:List Int):Eh ways 0 ws=Ak ways ws:=rfl
theorem Fb (ways:List (List Int))(r x:Int)(ws:List Int):Eh ways r (x::ws)=Eh ways (EJ ways r x) ws:=rfl
theorem Xf (ways:List (List Int))(r x:Int)(ws:List Int):Eh ways r (ws ++ [x])=EJ ways (Eh ways r ws) x:=by
 unfold Eh
 rw[List.foldl_append];rfl
theorem Xg {ways:List (List Int)}{ws:List Int}{i:Nat}{x r:Int}(h:ws[i]?=some x):Eh ways r (ws.take (i+1))=EJ ways (Eh ways r (ws.take i)) x:=by
 rw[List.take_add_one,h]
 exact Xf _ _ _ _
theorem BJ_ (w1 w2:List (List Int)):∀ (ws:List Int) (p:Int×Int),Mn (RX w1 w2) p ws=(Eh w1 p.1 ws,Eh w2 p.2 ws)
 | [],p=>rfl
 | x::ws,p=>by rw[Xe,BJ_ w1 w2 ws,Fb,Fb];rfl
theorem RY {L:Int}{marks:List Int}{ways:List (List Int)}(wf:Wf L marks ways):∀ (ws:List Int) {r:Int},isW L ws=true->0<=r->r<marks.length->0<=Eh ways r ws/\Eh ways r ws<marks.length
 | [],r,_,h0,h1=>⟨h0,h1⟩
 | x::ws,r,hv,h0,h1=>by
  have hx:=Ao.mp hv x List.mem_cons_self
  obtain⟨_,g,_,_,h,g0,g1⟩:=wf.step h0 h1 hx.1 hx.2
  rw[Fb,h]
  exact RY wf ws (Ao.mpr fun y hy=>Ao.mp hv y (List.mem_cons_of_mem _ hy)) g0 g1
theorem ZS (n m:Nat){l:List (Int×Int)}(hn:l.Nodup)(h:∀ p∈l,okP n m p):l.length<=n*m:=by
 have hk:∀ p∈l.map (fun p:Int×Int=>p.1*m+p.2),0<=p/\p<((n*m:Nat):Int):=fun q hq=>by
  obtain⟨p,hp,rfl⟩:=List.mem_map.mp hq
  obtain⟨⟨a0,a1⟩,b0,b1⟩:=h p hp
  have h1:=Int.mul_nonneg a0 (show (0:Int)<=m by omega)
  have h2:=Int.mul_le_mul_of_nonneg_right (show p.1<=(n:Int)-1 by omega) (show (0:Int)<=m by omega)
  rw[Int.sub_mul] at h2
  push_cast
  exact⟨by show 0<=p.1*m+p.2;omega,by show p.1*m+p.2<_;omega⟩
 have hd:(l.map (fun p:Int×Int=>p.1*m+p.2)).Nodup:=by
  refine List.pairwise_map.mpr (List.Pairwise.imp_of_mem (fun {a b} ha hb hab z=>hab ?_) hn)
  obtain⟨⟨a0,a1⟩,b0,b1⟩:=h a ha
  obtain⟨⟨c0,c1⟩,d0,d1⟩:=h b hb
  have z:a.1*m+a.2=b.1*m+b.2:=z
  have e1:a.1=b.1:=by
   have q1:(a.1*m+a.2) / m=a.1:=by rw[Int.add_comm,Int.add_mul_ediv_right _ _ (by omega),Int.ediv_eq_zero_of_lt b0 b1];omega
   have q2:(b.1*m+b.2) / m=b.1:=by rw[Int.add_comm,Int.add_mul_ediv_right _ _ (by omega),Int.ediv_eq_zero_of_lt d0 d1];omega
   rw[<- q1,<- q2,z]
  rw[e1] at z
  exact Prod.ext e1 (by omega)
 have:=Ft (n*m) hd hk
 simpa using this
theorem B.lenP {n m:Nat}{w1 w2:List (List Int)}{st:Int×Int}{ents:List ((Int×Int)×List Int)}{i:Nat}{top:Int}(h:B L (RX w1 w2) st (okP n m) ents i top):ents.length<=n*m:=by
 have:=ZS n m h.nod (fun p hp=>by
  obtain⟨e,he,rfl⟩:=List.mem_map.mp hp
  exact h.rng e he)
 simpa using this
end GB
namespace L2
open PySem PySem.Spec PyProof.Rows GW GB
def TK (H H':Hp):Prop:=∀ b xs,H b=some (.tup xs)->H' b=some (.tup xs)
theorem TK.refl (H:Hp):TK H H:=fun _ _ h=>h
theorem TK.of {H H':Hp}(s:Same H H'):TK H H':=fun b xs h=>s b _ h
theorem TK.trans {H H' H'':Hp}(a:TK H H')(b:TK H' H''):TK H H'':=fun c xs h=>b c xs (a c xs h)
theorem TK.new {H:Hp}{p:Addr}{o:HO}(h:H p=none):TK H (upd H p o):=TK.of (Same.new h)
theorem TK.lst {H:Hp}{p:Addr}{o:HO}{xs:List V}(h:H p=some (.lst xs)):TK H (upd H p o):=fun b ys e=>by rw[Ah (fun z=>by rw[z,h] at e;cases e)];exact e
theorem TK.dT {H:Hp}{p:Addr}{o:HO}{kvs:List (List Key×V)}(h:H p=some (.dT kvs)):TK H (upd H p o):=fun b ys e=>by rw[Ah (fun z=>by rw[z,h] at e;cases e)];exact e
def keyP (p:Int×Int):List Key:=[Sum.inl p.1,Sum.inl p.2]
theorem Wy {p q:Int×Int}(h:keyP p=keyP q):p=q:=by
 unfold keyP at h
 injection h with h1 h2
 injection h2 with h2 _
 injection h1 with h1
 injection h2 with h2
 exact Prod.ext h1 h2
theorem BK_ {κ:Type}[DecidableEq κ]{kvs:List (κ×V)}{i:Nat}{k:κ}{v:V}(hn:(kvs.map (·.1)).Nodup)(h:kvs[i]?=some (k,v)):valV kvs k=some v:=by
 induction kvs generalizing i with
 | nil=>simp at h
 | cons p r ih =>
  rw[List.map_cons,List.nodup_cons] at hn
  cases i with
  | zero=>simp at h;subst h;exact NQ rfl
  | succ i =>
   have h':r[i]?=some (k,v):=by simpa using h
   rw[NR (fun z=>hn.1 (List.mem_map.mpr ⟨(k,v),List.mem_of_getElem? h',z.symm⟩))]
   exact ih hn.2 h'
def LT (H:Hp)(ps:List (Int×Int))(rs:List V):Prop:=rs.length=ps.length/\∀ (i:Nat) (p:Int×Int),ps[i]?=some p->∃ b,rs[i]?=some (.ref b)/\H b=some (.tup [.int p.1,.int p.2])
theorem LT.mono {H H':Hp}{ps:List (Int×Int)}{rs:List V}(h:LT H ps rs)(k:TK H H'):LT H' ps rs:=by
 refine⟨h.1,fun i p hp=>?_⟩
 obtain⟨b,h1,h2⟩:=h.2 i p hp
 exact⟨b,h1,k _ _ h2⟩
theorem LT.snoc {H:Hp}{ps:List (Int×Int)}{rs:List V}(h:LT H ps rs){p:Int×Int}{b:Addr}(hb:H b=some (.tup [.int p.1,.int p.2])):LT H (ps ++ [p]) (rs ++ [.ref b]):=by
 refine⟨by rw[List.length_append,List.length_append,h.1];rfl,fun i q hi=>?_⟩
 by_cases hil:i<ps.length
 ·rw[List.getElem?_append_left hil] at hi
  rw[List.getElem?_append_left (by rw[h.1];exact hil)]
  exact h.2 i q hi
 ·have:=(List.getElem?_eq_some_iff.mp hi).1
  rw[List.length_append,List.length_singleton] at this
  have ei:i=ps.length:=by omega
  subst ei
  rw[List.getElem?_append_right (Nat.le_refl _),Nat.sub_self] at hi
  simp at hi
  subst hi
  refine⟨b,?_,hb⟩
  rw[List.getElem?_append_right (by rw[h.1];exact Nat.le_refl _),h.1,Nat.sub_self];rfl
end L2
namespace L2
theorem YN {σ:St}{H:Hp}{Q:VK}:Az_ σ H Q=∀ p,H p=none->Q (.ref p) (upd H p (.dT [])):=rfl
end L2
namespace GB
open GW
theorem ZT {L:Int}{w:List Int}(h:isW L w=true)(j:Nat):isW L (w.take j)=true:=Ao.mpr fun x hx=>Ao.mp h x (List.mem_of_mem_take hx)
end GB
namespace L2
open PySem PySem.Spec PyProof.Rows GW
def LLs (H0 H:Hp)(xs:List V)(ws:List (List Int)):Prop:=∃ ts:List Addr,xs=ts.map V.ref/\ts.length=ws.length/\ts.Nodup/\(∀ (i:Nat) (t:Addr) (w:List Int),ts[i]?=some t->ws[i]?=some w->H t=some (.lst (w.map V.int)))/\∀ t∈ts,H0 t=none
theorem LLs.nil (H0 H:Hp):LLs H0 H [] []:=⟨[],rfl,rfl,List.nodup_nil,fun i t w h=>by simp at h,fun t h=>by simp at h⟩
theorem LLs.mono {H0 H H':Hp}{xs:List V}{ws:List (List Int)}(h:LLs H0 H xs ws)(s:Same H H'):LLs H0 H' xs ws:=by
 obtain⟨ts,a,b,c,d,e⟩:=h
 exact⟨ts,a,b,c,fun i t w h1 h2=>s _ _ (d i t w h1 h2),e⟩
theorem LLs.len {H0 H:Hp}{xs:List V}{ws:List (List Int)}(h:LLs H0 H xs ws):xs.length=ws.length:=by
 obtain⟨ts,a,b,_⟩:=h
 rw[a,List.length_map,b]
theorem LLs.snoc {H0 H:Hp}{xs:List V}{ws:List (List Int)}{p:Addr}{w:List Int}(h:LLs H0 H xs ws)(h0:H0 p=none)(hp:H p=none):LLs H0 (upd H p (.lst (w.map V.int))) (xs ++ [.ref p]) (ws ++ [w]):=by
 obtain⟨ts,a,b,c,d,e⟩:=h
 have hts:∀ t∈ts,t≠p:=fun t ht z=>by
  obtain⟨i,hi,ei⟩:=List.getElem_of_mem ht
  have:=d i t ws[i] (by rw[List.getElem?_eq_getElem hi,ei]) (by simp[show i<ws.length by omega])
  rw[z,hp] at this;cases this
 refine⟨ts ++ [p],by rw[a];simp,by simp[b],?_,fun i t v h1 h2=>?_,fun t ht=>?_⟩
 ·rw[List.nodup_append]
  refine⟨c,by simp,fun x hx y hy=>?_⟩
  simp at hy;subst hy;exact hts x hx
 ·by_cases hi:i<ts.length
  ·rw[List.getElem?_append_left hi] at h1
   rw[List.getElem?_append_left (by omega)] at h2
   rw[Ah (hts t (List.mem_of_getElem? h1))]
   exact d i t v h1 h2
  ·have:=(List.getElem?_eq_some_iff.mp h1).1
   rw[List.length_append,List.length_singleton] at this
   have ei:i=ts.length:=by omega
   subst ei
   rw[List.getElem?_append_right (Nat.le_refl _),Nat.sub_self] at h1
   rw[b,List.getElem?_append_right (Nat.le_refl _),Nat.sub_self] at h2
   simp at h1 h2
   subst h1 h2
   exact Ac
 ·rcases List.mem_append.mp ht with ht | ht
  ·exact e t ht
  ·rw[List.mem_singleton.mp ht];exact h0
theorem Same.none {H H':Hp}(s:Same H H'){p:Addr}(h:H' p=none):H p=none:=by
 cases e:H p with
 | none=>rfl
 | some u=>rw[s _ _ e] at h;cases h
def AG (K:PySem.W.Frag)(H:Hp)(xs:List V)(ws:List (List Int)):Prop:=xs.length=ws.length/\∀ (i:Nat) (w:List Int),ws[i]?=some w->∃ t,xs[i]?=some (.ref t)/\H t=some (.tup (w.map V.int))
theorem AG.nil {K:PySem.W.Frag}{H:Hp}:AG K H [] []:=⟨rfl,fun i w h=>by simp at h⟩
theorem AG.mono {K:PySem.W.Frag}{H H':Hp}{xs:List V}{ws:List (List Int)}(h:AG K H xs ws)(k:TK H H'):AG K H' xs ws:=by
 refine⟨h.1,fun i w hw=>?_⟩
 obtain⟨t,a,b⟩:=h.2 i w hw
 exact⟨t,a,k _ _ b⟩
theorem AG.snoc {K:PySem.W.Frag}{H:Hp}{xs:List V}{ws:List (List Int)}(h:AG K H xs ws){t:Addr}{w:List Int}(ht:H t=some (.tup (w.map V.int))):AG K H (xs ++ [.ref t]) (ws ++ [w]):=by
 refine⟨by rw[List.length_append,List.length_append,h.1];rfl,fun i v hi=>?_⟩
 by_cases hil:i<ws.length
 ·rw[List.getElem?_append_left hil] at hi
  rw[List.getElem?_append_left (by rw[h.1];exact hil)]
  exact h.2 i v hi
 ·have:=(List.getElem?_eq_some_iff.mp hi).1
  rw[List.length_append,List.length_singleton] at this
  have ei:i=ws.length:=by omega
  subst ei
  rw[List.getElem?_append_right (Nat.le_refl _),Nat.sub_self] at hi
  simp at hi
  subst hi
  refine⟨t,?_,ht⟩
  rw[List.getElem?_append_right (by rw[h.1];exact Nat.le_refl _),h.1,Nat.sub_self];rfl
theorem AG.at {K:PySem.W.Frag}{H:Hp}{xs:List V}{ws:List (List Int)}(h:AG K H xs ws){i:Nat}{x:V}(hx:xs[i]?=some x):∃ t w,ws[i]?=some w/\x=.ref t/\H t=some (.tup (w.map V.int)):=by
 have hi:i<ws.length:=by rw[<- h.1];exact (List.getElem?_eq_some_iff.mp hx).1
 obtain⟨t,a,b⟩:=h.2 i ws[i] (by simp[hi])
 rw[hx] at a
 exact⟨t,ws[i],by simp[hi],Option.some.inj a,b⟩
def rInW (K:PySem.W.Frag)(neg:Bool):R2:=fun x y H Q=>∃ p t xs w ws,y=.ref p/\x=.ref t/\SqL K H p xs/\AG K H xs ws/\SqT K H t (w.map V.int)/\Q (.bl (if neg then !decide (w∈ws) else decide (w∈ws))) H
theorem Dd_ {K:PySem.W.Frag}{neg:Bool}{x y:V}{H:Hp}{Q:VK}:rInW K neg x y H Q=∃ p t xs w ws,y=.ref p/\x=.ref t/\SqL K H p xs/\AG K H xs ws/\SqT K H t (w.map V.int)/\Q (.bl (if neg then !decide (w∈ws) else decide (w∈ws))) H:=rfl
theorem ZU {X:Cx}{pins:List (Addr×Obj)}{σ:St}{H:Hp}{s:Shared}{p t:Addr}{xs:List V}{w:List Int}{ws:List (List Int)}(hu:X.A.units+8<cLine)(I:Inv X pins σ H s)(hp:SqL X.K H p xs)(hw:AG X.K H xs ws)(ht:SqT X.K H t (w.map V.int)) :
  ∃ (its:Array Value) (e:Value->Bool),s.heap.IsList p its/\(∀ y,y∈its->SeqAt.EqAt X.A.in1 s y (.ref t) (e y))/\its.any e=decide (w∈ws):=by
 obtain⟨its,r,pl,_⟩:=I.list hp
 have hl:=r.length
 let e:Value->Bool:=fun y => @decide (∃ (i:Nat) (a:Addr),y=.ref a/\xs[i]?=some (.ref a)/\ws[i]?=some w) (Classical.propDecidable _)
 have ee:∀ (i:Nat) (a:Addr) (v:List Int),xs[i]?=some (.ref a)->ws[i]?=some v->e (.ref a)=decide (v=w):=fun i a v hx hv=>by
  obtain⟨a',a1,a2⟩:=hw.2 i v hv
  rw[hx] at a1
  cases a1
  rw[Bool.eq_iff_iff]
  show @decide _ (Classical.propDecidable _)=true↔_
  rw[@decide_eq_true_iff _ (Classical.propDecidable _),decide_eq_true_eq]
  constructor
  ·rintro⟨j,b,hb,hxj,hwj⟩
   cases hb
   obtain⟨b',b1,b2⟩:=hw.2 j w hwj
   rw[hxj] at b1
   cases b1
   rw[a2] at b2
   have:=Option.some.inj b2
   injection this with this
   exact (List.map_inj_right (fun x y z=>V.int.inj z)).mp this
  ·rintro rfl
   exact⟨i,a,rfl,hx,hv⟩
 refine⟨its.toArray,e,pl.isList,fun y hy=>?_,?_⟩
 ·have hy':y∈its:=by simpa using hy
  obtain⟨i,hi,ei⟩:=List.getElem_of_mem hy'
  have hix:i<xs.length:=by omega
  obtain⟨u,hu',ru⟩:=r.get (i:=i) (x:=xs[i]) (by simp[hix])
  rw[List.getElem?_eq_getElem hi,ei] at hu'
  cases hu'
  obtain⟨a,v,e1,e2,e3⟩:=hw.at (i:=i) (x:=xs[i]) (by simp[hix])
  rw[e2] at ru
  cases ru
  rw[ee i a v (by rw[List.getElem?_eq_getElem hix,e2]) e1]
  exact (EqD.at (x:=V.ref a) (y:=V.ref t) I 2 X.A.in1 (by rw[in1_units];omega) rfl rfl (EqD.ints (xs:=v) (ys:=w) (.inr ⟨SqT.of e3,ht⟩) 1)).1
 ·rw[Bool.eq_iff_iff,decide_eq_true_eq]
  rw[show its.toArray.any e=its.any e by simp,List.any_eq_true]
  constructor
  ·rintro⟨y,hy,hey⟩
   obtain⟨j,b,_,_,hwj⟩:=(@decide_eq_true_iff _ (Classical.propDecidable _)).mp hey
   exact List.mem_of_getElem? hwj
  ·intro hm
   obtain⟨i,hi,ei⟩:=List.getElem_of_mem hm
   obtain⟨a,a1,a2⟩:=hw.2 i w (by rw[List.getElem?_eq_getElem hi,ei])
   obtain⟨u,hu',ru⟩:=r.get a1
   cases ru
   refine⟨.ref a,List.mem_of_getElem? hu',?_⟩
   rw[ee i a w a1 (by rw[List.getElem?_eq_getElem hi,ei])]
   simp
theorem YO {X:Cx}(hu:X.A.units+8<cLine):OpR X (compareOp .NotIn) (rInW X.K true):=by
 intro pins s σ H x y v u Q I rx ry h
 obtain⟨p,t,xs,w,ws,rfl,rfl,hp,hw,ht,q⟩:=h
 cases ry
 cases rx
 obtain⟨its,e,h1,h2,h3⟩:=ZU hu I hp hw ht
 refine SeqAt.notIn_listAt e h1 h2 ⟨.bl _,H,I,rfl,?_⟩
 rw[h3]
 exact q
theorem IP.ofS {K:PySem.W.Frag}{H:Hp}{Q:VK}{a b:Addr}{xs ys:List V}(ha:H a=some (.tup xs))(hb:H b=some (.tup ys))(hz:xs.length+ys.length<=sizeLine)(h:∀ p H',Same H H'->H' p=some (.tup (xs++ys))->Q (.ref p) H'):IP K (.ref a) (.ref b) H Q:=by
 refine⟨a,b,xs,ys,rfl,rfl,SqT.of ha,SqT.of hb,hz,fun e=>?_,fun _ e=>?_,fun _ _ p hp=>h p _ (Same.new hp) Ac⟩
 ·subst e;exact h b H (Same.refl _) (by simpa using hb)
 ·subst e;exact h a H (Same.refl _) (by simpa using ha)
end L2
namespace GW
def ins (s:List (List Int))(w:List Int):List (List Int):=if w∈s then s else s ++ [w]
theorem BL_ (s:List (List Int))(w:List Int):(ins s w).length<=s.length+1:=by
 unfold ins;split
 ·omega
 ·simp
theorem B8:∀ (l s:List (List Int)),(l.foldl ins s).length<=s.length+l.length
 | [],s=>by simp
 | w::l,s=>by
  have h1:=B8 l (ins s w)
  have h2:=BL_ s w
  rw[List.foldl_cons,List.length_cons];omega
def extW (n:Nat)(w:List Int):List (List Int):=(List.range n).map fun x:Nat=>w ++ [(x:Int)]
def Bo (n:Nat)(acc:List (List Int)):List (List Int):=(acc.flatMap (extW n)).foldl ins (acc.foldl ins [])
def FX (rows ends:List (List Int)):List (List Int):=(rows.flatMap fun r=>ends.map (r ++ ·)).foldl ins []
end GW
namespace L2
open PySem PySem.Spec PyProof.Rows GW
def wkey (w:List Int):List Key:=w.map Sum.inl
theorem DY (w:List Int):(wkey w).map kV=w.map V.int:=by unfold wkey;rw[List.map_map];rfl
theorem NT {v w:List Int}(h:wkey v=wkey w):v=w:=(List.map_inj_right (fun x y z=>Sum.inl.inj z)).mp h
def FB (ws:List (List Int))(kvs:List (List Key×V)):Prop:=kvs.map (·.1)=ws.map wkey
theorem FB.len {ws:List (List Int)}{kvs:List (List Key×V)}(h:FB ws kvs):kvs.length=ws.length:=by
 have:=congrArg List.length h
 simpa using this
theorem FB.some_iff {ws:List (List Int)}{kvs:List (List Key×V)}(h:FB ws kvs)(w:List Int):(valV kvs (wkey w)).isSome=decide (w∈ws):=by
 rw[<- Hh,Bool.eq_iff_iff,decide_eq_true_eq,List.any_eq_true]
 constructor
 ·rintro⟨kv,hkv,e⟩
  have e:=of_decide_eq_true e
  have:wkey w∈ws.map wkey:=by rw[<- h,<- e];exact List.mem_map.mpr ⟨kv,hkv,rfl⟩
  obtain⟨q,hq,e2⟩:=List.mem_map.mp this
  exact NT e2 ▸ hq
 ·intro hw
  have:wkey w∈kvs.map (·.1):=by rw[h];exact List.mem_map.mpr ⟨w,hw,rfl⟩
  obtain⟨kv,hkv,e⟩:=List.mem_map.mp this
  exact⟨kv,hkv,decide_eq_true e⟩
theorem FB.put {ws:List (List Int)}{kvs:List (List Key×V)}(h:FB ws kvs)(w:List Int)(v:V):FB (ins ws w) (putK kvs (wkey w) v):=by
 have hs:=h.some_iff w
 unfold putK ins
 rw[Hh,hs]
 by_cases hw:w∈ws
 ·rw[if_pos hw,if_pos (show decide (w∈ws)=true from decide_eq_true hw)]
  unfold FB
  rw[<- h,List.map_map]
  refine List.map_congr_left fun kv _=>?_
  show (if kv.1=wkey w then (kv.1,v) else kv).1=kv.1
  split<;>rfl
 ·rw[if_neg hw,if_neg (show ¬ decide (w∈ws)=true by simp[hw])]
  unfold FB
  rw[List.map_append,List.map_append,h];rfl
theorem FB.nil:FB [] []:=rfl
theorem FB.words {K:PySem.W.Frag}{H:Hp}{ws:List (List Int)}{kvs:List (List Key×V)}{rs:List V}(h:FB ws kvs)(hl:rs.length=kvs.length)(hr:∀ (i:Nat) (k:List Key) (v:V),kvs[i]?=some (k,v)->∃ b,rs[i]?=some (V.ref b)/\H b=some (.tup (k.map kV))):AG K H rs ws:=by
 refine⟨by rw[hl,h.len],fun i w hw=>?_⟩
 have hi:i<kvs.length:=by rw[h.len];exact (List.getElem?_eq_some_iff.mp hw).1
 have e:(kvs.map (·.1))[i]?=some (wkey w):=by rw[h,List.getElem?_map,hw];rfl
 rw[List.getElem?_map,List.getElem?_eq_getElem hi] at e
 have e:kvs[i].1=wkey w:=Option.some.inj e
 obtain⟨b,b1,b2⟩:=hr i kvs[i].1 kvs[i].2 (by simp[hi])
 exact⟨b,b1,by rw[b2,e,DY]⟩
end L2
namespace PySem.W
open PySem PySem.Calls PyProof.Rows PyProof.V PySem.Spec
def PairsV (es:List DictEntry)(kvs:List (Value×Value)):Prop:=es.map (fun e=>(e.key,e.val))=kvs
theorem PairsV.length {es:List DictEntry}{kvs:List (Value×Value)}(h:PairsV es kvs):es.length=kvs.length:=by rw[<- h,List.length_map]
theorem PairsV.get? {es:List DictEntry}{kvs:List (Value×Value)}(h:PairsV es kvs){i:Nat}{e:DictEntry}{k v:Value}(h1:es[i]?=some e)(h2:kvs[i]?=some (k,v)):k=e.key/\e.val=v:=by
 rw[<- h,List.getElem?_map,h1] at h2
 simp at h2
 exact⟨h2.1.symm,h2.2⟩
end PySem.W
namespace PySem
def Heap.DictV (h:Heap)(a:Addr)(kvs:List (Value×Value))(ep:Nat):Prop:=∃ o es,h.get? a=some o/\o.ExactDict/\o.data=.dict es ep/\True/\W.PairsV es.toList kvs/\True
theorem Heap.DictV.at' {h h':Heap}{a kvs ep}(x:h.DictV a kvs ep)(e:∀ o,h.get? a=some o->h'.get? a=some o):h'.DictV a kvs ep:=let ⟨o,es,ho,r⟩:=x;⟨o,es,e _ ho,r⟩
theorem Heap.DictV.lt_size {h:Heap}{a kvs ep}(x:h.DictV a kvs ep):a<h.objs.size:=let ⟨_,_,ho,_⟩:=x;Heap.lt_size ho
theorem Heap.DictV.push {h:Heap}{a kvs ep}(x:h.DictV a kvs ep)(o:Obj):(h.push o).DictV a kvs ep:=let ⟨o',es,ho,r⟩:=x;⟨o',es,Heap.get?_push_of_some o ho,r⟩
end PySem
namespace PySem.W
open PySem PySem.Calls PyProof.Rows PyProof.V PySem.Spec
section
variable {prog:Program} {w:World} {A:Around} {E:Value->Shared->Prop} {s:Shared}
theorem Kv {v d:Addr}{kvs:List (Value×Value)}{ep:Nat}{Q:Value->Shared->Prop}(hv:s.heap.IsItemsView v d)(hm:s.heap.DictV d kvs ep)
  (hQ:Q (.ref s.heap.objs.size) {s with heap:=s.heap.push {cls:=.type "dict_itemiterator",data:=.fields #[.none,.bool false,.ref d,.int 0 0,.int kvs.length 0,.int ep 0,.none,.none]} }) :
  wpAny (model prog w) A (pyIter (.ref v)) Q E s:=by
 obtain⟨ov,hov,hcv,hdv⟩:=id hv
 obtain⟨o,es,ho,hc,hdat,hk,hp,hn⟩:=id hm
 refine wpAny_pyIter_slot hv.typeIs PySem.F.slot_dict_items_iter (wpAny_call_entry PySem.F.slot_dict_items_iter hv.typeIs PySem.F.entry_dict_items_iter ?_ (PySem.F.args_dict_items_iter_1 _))
 unfold Builtin.«dict_items.__iter__»
 refine wpAny_bind (wpAny_pure ?_)
 refine wpAny_bind ?_
 unfold Builtin.Dict_items.dictOf
 refine wpAny_bind (wpAny_field hov hdv (x:=.ref d) rfl (wpAny_pure ?_))
 refine wpAny_bind ?_
 unfold Builtin.Dict_items.newIterator
 refine wpAny_bind (wpAny_dictEntries ho hdat ?_)
 refine wpAny_bind (wpAny_dictEpoch ho hdat ?_)
 have hsz:es.size=kvs.length:=by rw[<- hp.length];simp
 have hown:Builtin.Dict_items.ownsTuple "dict_itemiterator" = true:=by decide
 simp only[hown,if_true]
 refine wpAny_newObj_type (wpAny_pure ⟨_,rfl, "dict_itemiterator",_,⟨_,Heap.get?_push_size _ rfl,rfl⟩,PySem.F.slot_dict_itemiterator_next.lookup,?_⟩)
  (by simp only[sizeOk,Builtin.Dict_items.ownedTupleFields,List.size_toArray,List.length_append,List.length_cons,List.length_nil,sizeLine_eq];omega)
 simpa [rawInt,hsz,Builtin.Dict_items.ownedTupleFields] using hQ
theorem GY {it d:Addr}{i ep:Nat}{kvs:List (Value×Value)}{k:Value}{v ok ov:Value}{Q:Option Value->Shared->Prop}(hit:IsItemIter s.heap it d i kvs.length ep ok ov)
  (hm:s.heap.DictV d kvs ep) (hx:kvs[i]?=some (k,v))
  (hQ:∀ key h',k=key->IsItemIterOut h' it d (i+1) kvs.length ep key v s.heap.objs.size ->
   h'.get? s.heap.objs.size=some {cls:=.type "tuple",data:=.seq #[key,v]}->h'.objs.size=s.heap.objs.size+1 ->
   (∀ b o,b≠it->s.heap.get? b=some o->h'.get? b=some o)->Q (some (.ref s.heap.objs.size)) {s with heap:=h' }) :
  wpAny (model prog w) A (pyNext (.ref it)) Q E s:=by
 obtain⟨hp,g,dr,tk,os⟩:=s
 obtain⟨od,es,hod,hcd,hdd,hk,hpr,hn⟩:=id hm
 have hT:Shared.TypeIs ⟨hp,g,dr,tk,os⟩ (.ref it) "dict_itemiterator" := ⟨_,hit,rfl⟩
 unfold pyNext
 refine wpAny_bind (wpAny_attempt (wpAny_callSpecial?_slot (name:=Str.ofString "__next__") hT PySem.F.slot_dict_itemiterator_next
  (wpAny_call_entry PySem.F.slot_dict_itemiterator_next hT PySem.F.entry_dict_itemiterator_next ?_ (PySem.F.args_dict_itemiterator_next_1 _))))
 refine wpAny_bind (wpAny_pure ?_)
 refine wpAny_bind ?_
 refine wpAny_bind ?_
 first | refine wpAny_bind (wpAny_typeNameOfWhole_itemiter hT (wpAny_pure ?_)) | refine wpAny_bind (wpAny_typeNameOf_itemiter hT (wpAny_pure ?_))
 refine wpAny_bind (wpAny_fieldsOf hit rfl ?_)
 have hown:Builtin.Dict_items.ownsTuple "dict_itemiterator" = true:=by decide
 simp only[hown,if_true]
 show wpAny _ _ (if (Value.ref d == Value.none)=true then _ else _) _ _ _
 rw[if_neg (show ¬ ((Value.ref d == Value.none)=true) from Bool.false_ne_true)]
 refine wpAny_bind (wpAny_pure ?_)
 refine wpAny_bind (wpAny_dictEntries hod hdd ?_)
 have hsz:es.size=kvs.length:=by rw[<- hpr.length];simp
 rw[if_neg (by rw[hsz];simp)]
 refine wpAny_bind (wpAny_pure ?_)
 refine wpAny_bind (wpAny_dictEpoch hod hdd ?_)
 rw[if_neg (by simp)]
 refine wpAny_pure ?_
 have hlt:i<kvs.length:=by
  rcases Nat.lt_or_ge i kvs.length with h | h
  ·exact h
  ·simp[List.getElem?_eq_none h] at hx
 have hlt':i<es.size:=by rw[hsz];exact hlt
 obtain⟨hkey,hval⟩:=hpr.get? (e:=es[i]) (by simp[hlt']) hx
 simp only[show ¬ ((i:Int)<0) from by omega,if_false,Int.toNat_natCast,Array.getElem?_eq_getElem hlt']
 refine wpAny_bind ?_
 first | refine wpAny_bind (wpAny_typeNameOfWhole_itemiter hT (wpAny_pure ?_)) | refine wpAny_bind (wpAny_typeNameOf_itemiter hT (wpAny_pure ?_))
 refine wpAny_bind (wpAny_isOneOf_itemiter hT ?_)
 show wpAny _ _ (setField (.ref it) 3 (rawInt ((i:Int)+1)) >>= _) _ _ ⟨hp,g,dr,tk,os⟩
 refine wpAny_bind (wpAny_setField_rec hit (by simp) fun h₁ he₁ hs₁=>?_)
 replace hs₁:Heap.SameBut it hp h₁:=hs₁
 replace he₁:IsItemIter h₁ it d (i+1) kvs.length ep ok ov:=by
  have e:((i+1:Nat):Int)=(i:Int)+1:=by omega
  unfold IsItemIter;rw[e];simpa [rawInt] using he₁
 have hT₁:Shared.TypeIs ⟨h₁,g,dr,tk,os⟩ (.ref it) "dict_itemiterator" := ⟨_,he₁,rfl⟩
 refine wpAny_bind (wpAny_holding ?_)
 refine wpAny_bind (wpAny_isOneOf_itemiter hT₁ ?_)
 refine wpAny_bind (wpAny_isOneOf_itemiter hT₁ ?_)
 show wpAny _ _ (Builtin.Dict_items.pairFromOwner (.ref it) 6 es[i].key es[i].val) _ _ ⟨h₁,g,dr,tk,os⟩
 unfold Builtin.Dict_items.pairFromOwner
 refine wpAny_bind (wpAny_newTuple ?_)
 have he₂:IsItemIter (h₁.push {cls:=.type "tuple",data:=.seq #[es[i].key,es[i].val]}) it d (i+1) kvs.length ep ok ov:=Heap.get?_push_of_some _ he₁
 generalize hh₂:h₁.push {cls:=.type "tuple",data:=.seq #[es[i].key,es[i].val]}=h₂ at he₂
 have hz₁:h₁.objs.size=hp.objs.size:=hs₁.1
 have hil:it<hp.objs.size:=Heap.lt_size hit
 have ht₂:h₂.get? hp.objs.size=some {cls:=.type "tuple",data:=.seq #[es[i].key,es[i].val]}:=by rw[<- hh₂,<- hz₁];exact Heap.get?_push_size _ rfl
 have hz₂:h₂.objs.size=hp.objs.size+1:=by rw[<- hh₂,Heap.size_push,hz₁]
 have hk₂:∀ b o,b≠it->hp.get? b=some o->h₂.get? b=some o:=fun b o hb e=>by rw[<- hh₂];exact Heap.get?_push_of_some _ (hs₁.extBut b o hb e)
 show wpAny _ _ (Builtin.Dict_items.ownedTupleIsFree (.ref it) >>= _) _ _ ⟨h₂,g,dr,tk,os⟩
 rw[hz₁]
 clear hh₂ he₁ hs₁ hT₁ hz₁ h₁
 refine wpAny_bind ?_
 unfold Builtin.Dict_items.ownedTupleIsFree
 refine wpAny_bind (wpAny_field he₂ rfl (x:=.none) rfl (wpAny_pure ?_))
 simp only[if_true]
 refine wpAny_bind (wpAny_field he₂ rfl (x:=ok) rfl ?_)
 refine wpAny_bind (wpAny_field he₂ rfl (x:=ov) rfl ?_)
 refine wpAny_bind (wpAny_setField_rec he₂ (by simp) fun h₃ he₃ hs₃=>?_)
 replace hs₃:Heap.SameBut it h₂ h₃:=hs₃
 replace he₃:IsItemIter h₃ it d (i+1) kvs.length ep es[i].key ov:=he₃
 refine wpAny_bind (wpAny_setField_rec he₃ (by simp) fun h₄ he₄ hs₄=>?_)
 replace hs₄:Heap.SameBut it h₃ h₄:=hs₄
 replace he₄:IsItemIter h₄ it d (i+1) kvs.length ep es[i].key es[i].val:=he₄
 refine wpAny_bind (wpAny_setField_rec he₄ (by simp) fun h₅ he₅ hs₅=>?_)
 replace hs₅:Heap.SameBut it h₄ h₅:=hs₅
 replace he₅:IsItemIterOut h₅ it d (i+1) kvs.length ep es[i].key es[i].val hp.objs.size:=he₅
 refine wpAny_bind (wpAny_setField_rec he₅ (by simp) fun h₆ he₆ hs₆=>?_)
 replace hs₆:Heap.SameBut it h₅ h₆:=hs₆
 replace he₆:IsItemIterOut h₆ it d (i+1) kvs.length ep es[i].key es[i].val hp.objs.size:=he₆
 refine wpAny_bind (wpAny_letGo (wpAny_pure (wpAny_pure ⟨_,rfl,wpAny_pure (hQ es[i].key h₆ hkey (hval ▸ he₆) ?_ ?_ ?_)⟩)))
 ·rw[<- hval];exact hs₆.extBut _ _ (Nat.ne_of_gt hil) (hs₅.extBut _ _ (Nat.ne_of_gt hil) (hs₄.extBut _ _ (Nat.ne_of_gt hil) (hs₃.extBut _ _ (Nat.ne_of_gt hil) ht₂)))
 ·show h₆.objs.size=hp.objs.size+1
  rw[hs₆.1,hs₅.1,hs₄.1,hs₃.1,hz₂]
 ·exact fun b o hb e=>hs₆.extBut b o hb (hs₅.extBut b o hb (hs₄.extBut b o hb (hs₃.extBut b o hb (hk₂ b o hb e))))
theorem Hj {it d:Addr}{i ep:Nat}{kvs:List (Value×Value)}{ok ov:Value}{Q:Option Value->Shared->Prop}(hh:A.handled=none)(hit:IsItemIter s.heap it d i kvs.length ep ok ov)
  (hm:s.heap.DictV d kvs ep) (hx:kvs[i]?=none)
  (hQ:∀ h',Heap.ExtBut it s.heap h'->Q none {s with heap:=h' }):wpAny (model prog w) A (pyNext (.ref it)) Q E s:=by
 obtain⟨od,es,hod,hcd,hdd,hk,hpr,hn⟩:=id hm
 have hT:s.TypeIs (.ref it) "dict_itemiterator" := ⟨_,hit,rfl⟩
 unfold pyNext
 refine wpAny_bind (wpAny_attempt (wpAny_callSpecial?_slot (name:=Str.ofString "__next__") hT PySem.F.slot_dict_itemiterator_next
  (wpAny_call_entry PySem.F.slot_dict_itemiterator_next hT PySem.F.entry_dict_itemiterator_next ?_ (PySem.F.args_dict_itemiterator_next_1 _))))
 refine wpAny_bind (wpAny_pure ?_)
 refine wpAny_bind ?_
 refine wpAny_bind ?_
 first | refine wpAny_bind (wpAny_typeNameOfWhole_itemiter hT (wpAny_pure ?_)) | refine wpAny_bind (wpAny_typeNameOf_itemiter hT (wpAny_pure ?_))
 refine wpAny_bind (wpAny_fieldsOf hit rfl ?_)
 have hown:Builtin.Dict_items.ownsTuple "dict_itemiterator" = true:=by decide
 simp only[hown,if_true]
 show wpAny _ _ (if (Value.ref d == Value.none)=true then _ else _) _ _ s
 rw[if_neg (show ¬ ((Value.ref d == Value.none)=true) from Bool.false_ne_true)]
 refine wpAny_bind (wpAny_pure ?_)
 refine wpAny_bind (wpAny_dictEntries hod hdd ?_)
 have hsz:es.size=kvs.length:=by rw[<- hpr.length];simp
 rw[if_neg (by rw[hsz];simp)]
 refine wpAny_bind (wpAny_pure ?_)
 refine wpAny_bind (wpAny_dictEpoch hod hdd ?_)
 rw[if_neg (by simp)]
 refine wpAny_pure ?_
 have hge:es.size<=i:=by rw[hsz];simpa using hx
 simp only[show ¬ ((i:Int)<0) from by omega,if_false,Int.toNat_natCast,Array.getElem?_eq_none hge]
 refine wpAny_bind ?_
 first | refine wpAny_bind (wpAny_typeNameOfWhole_itemiter hT (wpAny_pure ?_)) | refine wpAny_bind (wpAny_typeNameOf_itemiter hT (wpAny_pure ?_))
 show wpAny _ _ (setField (.ref it) 2 .none >>= _) _ _ s
 refine wpAny_bind (wpAny_setField hit rfl (by simp) ?_)
 show wpAny _ _ (newExc (.type "StopIteration") [] >>= _) _ _ _
 refine wpAny_bind ?_
 simp only[newExc,newTuple]
 refine wpAny_bind (wpAny_newObj_type ?_ (by size_fits))
 refine wpAny_bind (m:=firstArgMember _ _) (wpAny_of_eq (a:=Value.none) (by first | rfl | (simp only[firstArgMember];rfl)) ?_)
 refine wpAny_newObj_type ?_ (by size_fits)
 simp only[raiseNew]
 refine wpAny_bind (wpAny_handled ?_)
 rw[show A.in1.handled=none from hh]
 refine wpAny_bind (wpAny_pure (wpAny_throw ?_))
 refine wpAny_bind (wpAny_isInstance (T := "StopIteration") (b:=true) ⟨_,Heap.get?_push_size _ rfl,rfl⟩ isSubtype_stop ?_)
 exact wpAny_pure (hQ _ (((Heap.SameBut.update ..).extBut.push _).push _))
theorem RZ {it d a:Addr}{f:Bool}{oa:Obj}{i ep:Nat}{kvs:List (Value×Value)}{k:Value}{v ok ov:Value}{Q:Option Value->Shared->Prop}(hit:KdxIt s.heap it d i kvs.length ep ok ov a f)(ha:s.heap.get? a=some oa)(hai:a≠it)
  (hm:s.heap.DictV d kvs ep) (hx:kvs[i]?=some (k,v))
  (hQ:∀ key h',k=key->KdxIt h' it d (i+1) kvs.length ep ok ov a true ->
   h'.get? s.heap.objs.size=some {cls:=.type "tuple",data:=.seq #[key,v]}->h'.objs.size=s.heap.objs.size+1 ->
   (∀ b o,b≠it->s.heap.get? b=some o->h'.get? b=some o)->Q (some (.ref s.heap.objs.size)) {s with heap:=h' }) :
  wpAny (model prog w) A (pyNext (.ref it)) Q E s:=by
 obtain⟨hp,g,dr,tk,os⟩:=s
 obtain⟨od,es,hod,hcd,hdd,hk,hpr,hn⟩:=id hm
 have hT:Shared.TypeIs ⟨hp,g,dr,tk,os⟩ (.ref it) "dict_itemiterator" := ⟨_,hit,rfl⟩
 unfold pyNext
 refine wpAny_bind (wpAny_attempt (wpAny_callSpecial?_slot (name:=Str.ofString "__next__") hT PySem.F.slot_dict_itemiterator_next
  (wpAny_call_entry PySem.F.slot_dict_itemiterator_next hT PySem.F.entry_dict_itemiterator_next ?_ (PySem.F.args_dict_itemiterator_next_1 _))))
 refine wpAny_bind (wpAny_pure ?_)
 refine wpAny_bind ?_
 refine wpAny_bind ?_
 first | refine wpAny_bind (wpAny_typeNameOfWhole_itemiter hT (wpAny_pure ?_)) | refine wpAny_bind (wpAny_typeNameOf_itemiter hT (wpAny_pure ?_))
 refine wpAny_bind (wpAny_fieldsOf hit rfl ?_)
 have hown:Builtin.Dict_items.ownsTuple "dict_itemiterator" = true:=by decide
 simp only[hown,if_true]
 show wpAny _ _ (if (Value.ref d == Value.none)=true then _ else _) _ _ _
 rw[if_neg (show ¬ ((Value.ref d == Value.none)=true) from Bool.false_ne_true)]
 refine wpAny_bind (wpAny_pure ?_)
 refine wpAny_bind (wpAny_dictEntries hod hdd ?_)
 have hsz:es.size=kvs.length:=by rw[<- hpr.length];simp
 rw[if_neg (by rw[hsz];simp)]
 refine wpAny_bind (wpAny_pure ?_)
 refine wpAny_bind (wpAny_dictEpoch hod hdd ?_)
 rw[if_neg (by simp)]
 refine wpAny_pure ?_
 have hlt:i<kvs.length:=by
  rcases Nat.lt_or_ge i kvs.length with h | h
  ·exact h
  ·simp[List.getElem?_eq_none h] at hx
 have hlt':i<es.size:=by rw[hsz];exact hlt
 obtain⟨hkey,hval⟩:=hpr.get? (e:=es[i]) (by simp[hlt']) hx
 simp only[show ¬ ((i:Int)<0) from by omega,if_false,Int.toNat_natCast,Array.getElem?_eq_getElem hlt']
 refine wpAny_bind ?_
 first | refine wpAny_bind (wpAny_typeNameOfWhole_itemiter hT (wpAny_pure ?_)) | refine wpAny_bind (wpAny_typeNameOf_itemiter hT (wpAny_pure ?_))
 refine wpAny_bind (wpAny_isOneOf_itemiter hT ?_)
 show wpAny _ _ (setField (.ref it) 3 (rawInt ((i:Int)+1)) >>= _) _ _ ⟨hp,g,dr,tk,os⟩
 refine wpAny_bind (wpAny_setField_rec hit (by simp) fun h₁ he₁ hs₁=>?_)
 replace hs₁:Heap.SameBut it hp h₁:=hs₁
 replace he₁:KdxIt h₁ it d (i+1) kvs.length ep ok ov a f:=by
  have e:((i+1:Nat):Int)=(i:Int)+1:=by omega
  unfold KdxIt;rw[e];simpa [rawInt] using he₁
 have hT₁:Shared.TypeIs ⟨h₁,g,dr,tk,os⟩ (.ref it) "dict_itemiterator" := ⟨_,he₁,rfl⟩
 refine wpAny_bind (wpAny_holding ?_)
 refine wpAny_bind (wpAny_isOneOf_itemiter hT₁ ?_)
 refine wpAny_bind (wpAny_isOneOf_itemiter hT₁ ?_)
 show wpAny _ _ (Builtin.Dict_items.pairFromOwner (.ref it) 6 es[i].key es[i].val) _ _ ⟨h₁,g,dr,tk,os⟩
 unfold Builtin.Dict_items.pairFromOwner
 refine wpAny_bind (wpAny_newTuple ?_)
 have he₂:KdxIt (h₁.push {cls:=.type "tuple",data:=.seq #[es[i].key,es[i].val]}) it d (i+1) kvs.length ep ok ov a f:=Heap.get?_push_of_some _ he₁
 generalize hh₂:h₁.push {cls:=.type "tuple",data:=.seq #[es[i].key,es[i].val]}=h₂ at he₂
 have hz₁:h₁.objs.size=hp.objs.size:=hs₁.1
 have hil:it<hp.objs.size:=Heap.lt_size hit
 have ht₂:h₂.get? hp.objs.size=some {cls:=.type "tuple",data:=.seq #[es[i].key,es[i].val]}:=by rw[<- hh₂,<- hz₁];exact Heap.get?_push_size _ rfl
 have hz₂:h₂.objs.size=hp.objs.size+1:=by rw[<- hh₂,Heap.size_push,hz₁]
 have hk₂:∀ b o,b≠it->hp.get? b=some o->h₂.get? b=some o:=fun b o hb e=>by rw[<- hh₂];exact Heap.get?_push_of_some _ (hs₁.extBut b o hb e)
 show wpAny _ _ (Builtin.Dict_items.ownedTupleIsFree (.ref it) >>= _) _ _ ⟨h₂,g,dr,tk,os⟩
 rw[hz₁]
 clear hh₂ he₁ hs₁ hT₁ hz₁ h₁
 have ha₂:h₂.get? a=some oa:=hk₂ a oa hai ha
 refine wpAny_bind ?_
 unfold Builtin.Dict_items.ownedTupleIsFree
 refine wpAny_bind (wpAny_field he₂ rfl (x:=rawInt a) rfl ?_)
 show wpAny _ _ (loadIfAlive ((a:Int).toNat) >>= _) _ _ _
 rw[Int.toNat_natCast]
 refine wpAny_bind (kdx_alive ha₂ ?_)
 simp only[Option.isNone_some,Bool.false_eq_true,if_false]
 refine wpAny_bind (wpAny_field he₂ rfl (x:=.bool f) rfl ?_)
 have fin:∀ h₃:Heap,KdxIt h₃ it d (i+1) kvs.length ep ok ov a true->Heap.SameBut it h₂ h₃->Q (some (.ref hp.objs.size)) ⟨h₃,g,dr,tk,os⟩:=fun h₃ he₃ hs₃ =>
  hQ es[i].key h₃ hkey he₃ (by rw[<- hval];exact hs₃.extBut _ _ (Nat.ne_of_gt hil) ht₂) (by show h₃.objs.size=hp.objs.size+1;rw[hs₃.1,hz₂]) fun b o hb e=>hs₃.extBut b o hb (hk₂ b o hb e)
 cases f with
 | true =>
  rw[if_neg (show ¬ ((Value.bool true != Value.bool true)=true) from Bool.false_ne_true)]
  refine wpAny_pure ?_
  simp only[Bool.false_eq_true,if_false]
  exact wpAny_pure (wpAny_pure ⟨_,rfl,wpAny_pure (fin h₂ he₂ (Heap.SameBut.refl _ _))⟩)
 | false =>
  rw[if_pos (show (Value.bool false != Value.bool true)=true from rfl)]
  refine wpAny_bind (wpAny_setField_rec he₂ (by simp) fun h₃ he₃ hs₃=>?_)
  replace hs₃:Heap.SameBut it h₂ h₃:=hs₃
  replace he₃:KdxIt h₃ it d (i+1) kvs.length ep ok ov a true:=he₃
  refine wpAny_pure ?_
  simp only[Bool.false_eq_true,if_false]
  exact wpAny_pure (wpAny_pure ⟨_,rfl,wpAny_pure (fin h₃ he₃ hs₃)⟩)
theorem Ui {it d a:Addr}{f:Bool}{i ep:Nat}{kvs:List (Value×Value)}{ok ov:Value}{Q:Option Value->Shared->Prop}(hh:A.handled=none)(hit:KdxIt s.heap it d i kvs.length ep ok ov a f)
  (hm:s.heap.DictV d kvs ep) (hx:kvs[i]?=none)
  (hQ:∀ h',Heap.ExtBut it s.heap h'->Q none {s with heap:=h' }):wpAny (model prog w) A (pyNext (.ref it)) Q E s:=by
 obtain⟨od,es,hod,hcd,hdd,hk,hpr,hn⟩:=id hm
 have hT:s.TypeIs (.ref it) "dict_itemiterator" := ⟨_,hit,rfl⟩
 unfold pyNext
 refine wpAny_bind (wpAny_attempt (wpAny_callSpecial?_slot (name:=Str.ofString "__next__") hT PySem.F.slot_dict_itemiterator_next
  (wpAny_call_entry PySem.F.slot_dict_itemiterator_next hT PySem.F.entry_dict_itemiterator_next ?_ (PySem.F.args_dict_itemiterator_next_1 _))))
 refine wpAny_bind (wpAny_pure ?_)
 refine wpAny_bind ?_
 refine wpAny_bind ?_
 first | refine wpAny_bind (wpAny_typeNameOfWhole_itemiter hT (wpAny_pure ?_)) | refine wpAny_bind (wpAny_typeNameOf_itemiter hT (wpAny_pure ?_))
 refine wpAny_bind (wpAny_fieldsOf hit rfl ?_)
 have hown:Builtin.Dict_items.ownsTuple "dict_itemiterator" = true:=by decide
 simp only[hown,if_true]
 show wpAny _ _ (if (Value.ref d == Value.none)=true then _ else _) _ _ s
 rw[if_neg (show ¬ ((Value.ref d == Value.none)=true) from Bool.false_ne_true)]
 refine wpAny_bind (wpAny_pure ?_)
 refine wpAny_bind (wpAny_dictEntries hod hdd ?_)
 have hsz:es.size=kvs.length:=by rw[<- hpr.length];simp
 rw[if_neg (by rw[hsz];simp)]
 refine wpAny_bind (wpAny_pure ?_)
 refine wpAny_bind (wpAny_dictEpoch hod hdd ?_)
 rw[if_neg (by simp)]
 refine wpAny_pure ?_
 have hge:es.size<=i:=by rw[hsz];simpa using hx
 simp only[show ¬ ((i:Int)<0) from by omega,if_false,Int.toNat_natCast,Array.getElem?_eq_none hge]
 refine wpAny_bind ?_
 first | refine wpAny_bind (wpAny_typeNameOfWhole_itemiter hT (wpAny_pure ?_)) | refine wpAny_bind (wpAny_typeNameOf_itemiter hT (wpAny_pure ?_))
 show wpAny _ _ (setField (.ref it) 2 .none >>= _) _ _ s
 refine wpAny_bind (wpAny_setField hit rfl (by simp) ?_)
 show wpAny _ _ (newExc (.type "StopIteration") [] >>= _) _ _ _
 refine wpAny_bind ?_
 simp only[newExc,newTuple]
 refine wpAny_bind (wpAny_newObj_type ?_ (by size_fits))
 refine wpAny_bind (m:=firstArgMember _ _) (wpAny_of_eq (a:=Value.none) (by first | rfl | (simp only[firstArgMember];rfl)) ?_)
 refine wpAny_newObj_type ?_ (by size_fits)
 simp only[raiseNew]
 refine wpAny_bind (wpAny_handled ?_)
 rw[show A.in1.handled=none from hh]
 refine wpAny_bind (wpAny_pure (wpAny_throw ?_))
 refine wpAny_bind (wpAny_isInstance (T := "StopIteration") (b:=true) ⟨_,Heap.get?_push_size _ rfl,rfl⟩ isSubtype_stop ?_)
 exact wpAny_pure (hQ _ (((Heap.SameBut.update ..).extBut.push _).push _))
theorem YQ {it d S:Addr}{i ep:Nat}{kvs:List (Value×Value)}{k:Value}{v:Value}{Q:Option Value->Shared->Prop}(hst:KdxSt s.heap it d S i kvs.length ep)(hS:S<s.heap.objs.size)
  (hm:s.heap.DictV d kvs ep) (hx:kvs[i]?=some (k,v))
  (hQ:∀ key h',k=key->KdxSt h' it d S (i+1) kvs.length ep->h'.get? s.heap.objs.size=some {cls:=.type "tuple",data:=.seq #[key,v]}->h'.objs.size=s.heap.objs.size+1 ->
   (∀ b o,b≠it->s.heap.get? b=some o->h'.get? b=some o)->Q (some (.ref s.heap.objs.size)) {s with heap:=h' }) :
  wpAny (model prog w) A (pyNext (.ref it)) Q E s:=by
 rcases hst with ⟨rfl,ok,ov,hit⟩ | ⟨ok,ov,a,f,oa,hit,ha,hai,haS⟩
 ·exact GY hit hm hx fun key h' hk hit' ht hz hkeep=>hQ key h' hk (.inr ⟨key,v,_,false,_,hit',ht,Nat.ne_of_gt (Heap.lt_size hit),Nat.ne_of_gt hS⟩) ht hz hkeep
 ·exact RZ hit ha hai hm hx fun key h' hk hit' ht hz hkeep=>hQ key h' hk (.inr ⟨ok,ov,a,true,oa,hit',hkeep a oa hai ha,hai,haS⟩) ht hz hkeep
theorem YR {it d S:Addr}{i ep:Nat}{kvs:List (Value×Value)}{Q:Option Value->Shared->Prop}(hh:A.handled=none)(hst:KdxSt s.heap it d S i kvs.length ep)(hm:s.heap.DictV d kvs ep)(hx:kvs[i]?=none)
  (hQ:∀ h',Heap.ExtBut it s.heap h'->Q none {s with heap:=h' }):wpAny (model prog w) A (pyNext (.ref it)) Q E s:=by
 rcases hst with ⟨rfl,ok,ov,hit⟩ | ⟨ok,ov,a,f,oa,hit,_,_,_⟩
 ·exact Hj hh hit hm hx hQ
 ·exact Ui hh hit hm hx hQ
structure KdxGV (kvs:List (Value×Value))(lo:Addr)(h:Heap)(as:List Addr):Prop where
 rise:as.Pairwise (· < ·)
 above:∀ a∈as,lo<a
 pairs:∀ (j:Nat) (a:Addr),as[j]?=some a->∃ key k x,kvs[j]?=some (k,x)/\k=key/\h.get? a=some {cls:=.type "tuple",data:=.seq #[key,x]}
theorem KdxGV.there {kvs:List (Value×Value)}{lo:Addr}{h:Heap}{as:List Addr}(g:KdxGV kvs lo h as){a:Addr}(ha:a∈as):a<h.objs.size:=by
 obtain⟨j,hj⟩:=List.mem_iff_getElem?.mp ha
 obtain⟨_,_,_,_,_,e⟩:=g.pairs j a hj
 exact Heap.lt_size e
end
section
variable {prog:Program} {w:World} {A:Around} {s:Shared} {R:Result->Shared->Prop} {kvs:List (Value×Value)} {ep:Nat}
theorem YS {S I d:Addr}(hh:A.handled=none)(hSI:S<I)(hSd:d≠S)(hId:d≠I)(hn:kvs.length<=sizeLine)(res:Value){h₁:Heap}
  (hR:∀ h' tk acc c as,(∀ b o,b≠S->b≠I->h₁.get? b=some o->h'.get? b=some o)->h'.get? S=some {cls:=.type "list",dict:=none,data:=.seq acc c,slots := #[]}->as.length=kvs.length->KdxGV kvs I h' as ->
   acc.toList=as.map Value.ref->R (.ok (.ret res)) {s with heap:=h',toks:=tk}) :
  ∀ (k i:Nat) (h:Heap) (tk c:Nat) (acc:Array Value) (as:List Addr),kvs.length-i=k->i<=kvs.length->KdxSt h I d S i kvs.length ep->h.DictV d kvs ep->(∀ b o,b≠S->b≠I->h₁.get? b=some o->h.get? b=some o) ->
   h.get? S=some {cls:=.type "list",dict:=none,data:=.seq acc c,slots := #[]}->acc.toList=as.map Value.ref->as.length=i->KdxGV kvs I h as->I<h.objs.size ->
   codeAny (model prog w) A (.builtin "list.extend.loop" ⟨[.ref S,.ref I,res],[]⟩) R {s with heap:=h,toks:=tk}:=by
 have hne:S≠I:=Nat.ne_of_lt hSI
 intro k
 induction k with
 | zero =>
  intro i h tk c acc as hk hi hst hD hkeep hS hacc hal hG hIs
  have hin:i=kvs.length:=by omega
  refine codeAny_builtin PySem.F.entry_extend_loop ?_
  rw[Around.under_plainId PySem.F.plain_extend_loop _]
  show wpAny _ A.in1 (pyNext (.ref I) >>= _) _ _ _
  refine wpAny_bind (YR (s:={s with heap:=h,toks:=tk}) (A:=A.in1) hh hst hD (List.getElem?_eq_none (by omega)) fun h' he=>?_)
  refine wpAny_pure (hR h' tk acc c as (fun b o h1 h2 e=>he b o h2 (hkeep b o h1 h2 e)) (he S _ hne hS) (by omega) ⟨hG.rise,hG.above,fun j a hj=>?_⟩ hacc)
  obtain⟨key,kk,x,e1,e2,e3⟩:=hG.pairs j a hj
  exact⟨key,kk,x,e1,e2,he a _ (Nat.ne_of_gt (hG.above a (List.mem_of_getElem? hj))) e3⟩
 | succ k ih =>
  intro i h tk c acc as hk hi hst hD hkeep hS hacc hal hG hIs
  have hlt:i<kvs.length:=by omega
  obtain⟨⟨kk,x⟩,hx⟩:∃ p,kvs[i]?=some p:=⟨kvs[i],List.getElem?_eq_getElem hlt⟩
  have hsz:acc.size=i:=by rw[<- Array.length_toList,hacc,List.length_map,hal]
  refine codeAny_builtin PySem.F.entry_extend_loop ?_
  rw[Around.under_plainId PySem.F.plain_extend_loop _]
  show wpAny _ A.in1 (pyNext (.ref I) >>= _) _ _ _
  refine wpAny_bind (YQ (s:={s with heap:=h,toks:=tk}) (S:=S) hst (Heap.lt_size hS) hD hx fun key h' hkey hst' ht hz hkp=>?_)
  dsimp only at ht hz hkp ⊢
  have hS':=hkp S _ hne hS
  have up:∀ b o,b≠S->h'.get? b=some o->(h'.update S (Obj.mapSeq (·.push (Value.ref h.objs.size)))).get? b=some o:=fun b o hb e=>(Heap.get?_update_other _ _ (Ne.symm hb)).trans e
  have hSl:S<h.objs.size:=Heap.lt_size hS
  show wpAny _ A.in1 (updateSeq S (·.push (Value.ref h.objs.size)) >>= _) _ _ _
  refine wpAny_bind ?_
  refine wpAny_updateSeq hS' rfl (wpAny_pure ⟨plainId_quiet PySem.F.plain_extend_loop _,ih (i+1) _ tk _ (acc.push (Value.ref h.objs.size)) (as ++ [h.objs.size]) (by omega) hlt (hst'.keep up (Ne.symm hne)) (hD.at' fun o e=>up d o hSd (hkp d o hId e))
   (fun b o h1 h2 e=>up b o h1 (hkp b o h2 (hkeep b o h1 h2 e))) (Heap.get?_update_self _ hS' rfl) (by rw[Array.toList_push,hacc,List.map_append];rfl) (by rw[List.length_append,hal];rfl) ⟨?_,?_,?_⟩ ?_⟩) (by rw[hsz];omega) (by show (acc.push (Value.ref h.objs.size)).size<=sizeLine+1;rw[Array.size_push,hsz];omega)
  ·refine List.pairwise_append.mpr ⟨hG.rise,List.pairwise_singleton _ _,fun a ha b hb=>?_⟩
   rw[List.mem_singleton.mp hb]
   exact hG.there ha
  ·intro a ha
   rcases List.mem_append.mp ha with ha | ha
   ·exact hG.above a ha
   ·rw[List.mem_singleton.mp ha];exact hIs
  ·intro j b hj
   rcases Nat.lt_trichotomy j as.length with h1 | h1 | h1
   ·rw[List.getElem?_append_left h1] at hj
    obtain⟨key',k',x',e1,e2,e3⟩:=hG.pairs j b hj
    have hb:=hG.above b (List.mem_of_getElem? hj)
    exact⟨key',k',x',e1,e2,up b _ (Nat.ne_of_gt (Nat.lt_trans hSI hb)) (hkp b _ (Nat.ne_of_gt hb) e3)⟩
   ·subst h1
    have hb:h.objs.size=b:=by simpa using hj
    subst hb
    exact⟨key,kk,x,by rw[hal];exact hx,hkey,up _ _ (Nat.ne_of_gt hSl) ht⟩
   ·have hnone:(as ++ [h.objs.size])[j]?=none:=List.getElem?_eq_none (by rw[List.length_append,List.length_singleton];omega)
    rw[hnone] at hj;cases hj
  ·have e:(h'.update S (Obj.mapSeq (·.push (Value.ref h.objs.size)))).get? h.objs.size=_:=up _ _ (Nat.ne_of_gt hSl) ht
   exact Nat.lt_trans hIs (Heap.lt_size e)
end
section
variable {prog:Program} {w:World} {A:Around} {E:Value->Shared->Prop} {s:Shared} {r d:Addr} {kvs:List (Value×Value)} {ep:Nat}
theorem Vh {R:Result->Shared->Prop}(hh:A.handled=none)(hv:s.heap.IsItemsView r d)(hm:s.heap.DictV d kvs ep)(S:Addr)(hSr:S≠r)(hSd:d≠S)(res:Value)(c₀:Nat)(hS:s.heap.get? S=some {cls:=.type "list",data:=.seq #[] c₀})
  (hR:∀ h' tk acc c as,(∀ b o,b≠S->s.heap.get? b=some o->h'.get? b=some o)->h'.get? S=some {cls:=.type "list",dict:=none,data:=.seq acc c,slots := #[]}->as.length=kvs.length->KdxGV kvs s.heap.objs.size h' as ->
   acc.toList=as.map Value.ref->R (.ok (.ret res)) {s with heap:=h',toks:=tk}) (hn:kvs.length<=sizeLine) :
  wpAny (model prog w) A.in1 (Builtin.List.listExtendWith (.ref S) (.ref r) res)
   (fun fin s'=>match fin with | .done f=>R (.ok f) s' | .again c'=>c'.quiet=true/\codeAny (model prog w) A c' R s') (fun e s'=>R (.error e) s') s:=by
 have hSI:S<s.heap.objs.size:=Heap.lt_size hS
 have hdI:d<s.heap.objs.size:=hm.lt_size
 have key:∀ (h:Heap) (c₁ tk:Nat),(∀ b o,b≠S->(s.heap.push {cls:=.type "dict_itemiterator",data:=.fields #[.none,.bool false,.ref d,.int 0 0,.int kvs.length 0,.int ep 0,.none,.none]}).get? b=some o->h.get? b=some o) ->
   h.get? S=some {cls:=.type "list",data:=.seq #[] c₁}->codeAny (model prog w) A (.builtin "list.extend.loop" ⟨[.ref S,.ref s.heap.objs.size,res],[]⟩) R {s with heap:=h,toks:=tk}:=by
  intro h c₁ tk hk hS₁
  have hI:=hk s.heap.objs.size _ (Nat.ne_of_gt hSI) (Heap.get?_push_size _ rfl)
  refine YS (kvs:=kvs) (ep:=ep) (s:=s) (h₁:=s.heap) hh hSI hSd (Nat.ne_of_lt hdI) hn res (fun h' tk' acc c as hk' hS' hl hG hacc=>hR h' tk' acc c as (fun b o hb e=>hk' b o hb (Nat.ne_of_lt (Heap.lt_size e)) e) hS' hl hG hacc)
   kvs.length 0 h tk c₁ #[] [] (Nat.sub_zero _) (Nat.zero_le _) (.inl ⟨rfl,.none,.none,hI⟩) (hm.at' fun o e=>hk d o hSd (Heap.get?_push_of_some _ e)) (fun b o hb _ e=>hk b o hb (Heap.get?_push_of_some _ e)) hS₁ rfl rfl
   ⟨List.Pairwise.nil,(fun _ ha=>nomatch ha),(fun j a hj=>by simp at hj)⟩ (Heap.lt_size hI)
 unfold Builtin.List.listExtendWith
 refine wpAny_bind (wpAny_typeOf (T := "dict_items") hv.typeIs ?_)
 have h1:Builtin.List.listSameRef (.ref S) (.ref r)=false:=by simp[Builtin.List.listSameRef,hSr]
 have h2:(Value.type "dict_items" == Value.type "list")=false:=by decide
 have h3:(Value.type "dict_items" == Value.type "tuple")=false:=by decide
 simp only[h1,h2,h3,Bool.or_false,Bool.false_eq_true,if_false]
 refine wpAny_bind (Kv hv hm ?_)
 have hS₁:=Heap.get?_push_of_some {cls:=.type "dict_itemiterator",data:=.fields #[.none,.bool false,.ref d,.int 0 0,.int kvs.length 0,.int ep 0,.none,.none]} hS
 refine wpAny_bind (wpAny_holding (kdx_hint (let ⟨o,ho,hc,_⟩:=hv;⟨o,Heap.get?_push_of_some _ ho,hc⟩) ?_))
 refine wpAny_ite_split (fun _=>?_) (fun _=>wpAny_pure ⟨plainId_quiet PySem.F.plain_extend_loop _,key _ c₀ _ (fun b o _ e=>e) hS₁⟩)
 refine wpAny_bind (wpAny_rule ?_)
 refine wpAny_bind ?_
 show wpAny _ _ (updateSeq S (·.push .none) >>= fun _=>updateSeq S (·.pop)) _ _ _
 refine wpAny_bind (wpAny_updateSeq hS₁ rfl ?_)
 have hS₂:=Heap.get?_update_self (Obj.mapSeq (·.push Value.none)) hS₁ rfl
 refine wpAny_updateSeq (hz:=by seq_fits) hS₂ rfl ?_
 have hS₃:=Heap.get?_update_self (Obj.mapSeq (·.pop)) hS₂ rfl
 refine wpAny_pure ⟨plainId_quiet PySem.F.plain_extend_loop _,key _ _ _ (fun b o hb e=>?_) hS₃⟩
 exact (Heap.get?_update_other _ _ (Ne.symm hb)).trans ((Heap.get?_update_other _ _ (Ne.symm hb)).trans e)
theorem KdxGV.low {kvs:List (Value×Value)}{lo lo':Addr}{h:Heap}{as:List Addr}(g:KdxGV kvs lo h as)(hl:lo'<=lo):KdxGV kvs lo' h as:=⟨g.rise,fun a ha=>Nat.lt_of_le_of_lt hl (g.above a ha),g.pairs⟩
theorem YT {R:Result->Shared->Prop}(hh:A.handled=none)(hv:s.heap.IsItemsView r d)(hm:s.heap.DictV d kvs ep)(S:Addr)(hSr:S≠r)(hSd:d≠S)(hS:s.heap.get? S=some {cls:=.type "list",data:=.seq #[]})
  (hR:∀ h' tk acc c as,(∀ b o,b≠S->s.heap.get? b=some o->h'.get? b=some o)->h'.get? S=some {cls:=.type "list",dict:=none,data:=.seq acc c,slots := #[]}->as.length=kvs.length->KdxGV kvs S h' as ->
   acc.toList=as.map Value.ref->R (.ok (.ret .none)) {s with heap:=h',toks:=tk}) (hn:kvs.length<=sizeLine) :
  wpAny (model prog w) A.in1 (Builtin.«list.__init__» ⟨[.ref S,.ref r],[]⟩)
   (fun fin s'=>match fin with | .done f=>R (.ok f) s' | .again c'=>c'.quiet=true/\codeAny (model prog w) A c' R s') (fun e s'=>R (.error e) s') s:=by
 show wpAny _ _ (do let old <- Builtin.List.listItems (.ref S);Builtin.List.listUpdate (.ref S) (fun _ => #[]);letGo old.toList.reverse;Builtin.List.listExtendWith (.ref S) (.ref r) .none) _ _ s
 refine wpAny_bind ?_
 unfold Builtin.List.listItems
 refine wpAny_bind (wpAny_seqItems hS rfl (wpAny_pure ?_))
 show wpAny _ _ (updateSeq S (fun _ => #[]) >>= fun _=>letGo (#[]:Array Value).toList.reverse >>= fun _=>Builtin.List.listExtendWith (.ref S) (.ref r) .none) _ _ s
 refine wpAny_bind (wpAny_updateSeq hS rfl ?_)
 have hS₂:=Heap.get?_update_self (Obj.mapSeq (fun _=>(#[]:Array Value))) hS rfl
 have oth:∀ b o,b≠S->s.heap.get? b=some o->(s.heap.update S (Obj.mapSeq (fun _=>(#[]:Array Value)))).get? b=some o :=
  fun b o hb e=>(Heap.get?_update_other _ _ (Ne.symm hb)).trans e
 refine wpAny_bind (wpAny_letGo ?_)
 refine Vh (kvs:=kvs) (ep:=ep) hh (let ⟨o,ho,x⟩:=hv;⟨o,oth r o hSr.symm ho,x⟩) (hm.at' fun o e=>oth d o hSd e) S hSr hSd .none _ hS₂ (fun h' tk acc c as hk hS' hl hG hacc=>?_) hn
 exact hR h' tk acc c as (fun b o hb e=>hk b o hb (oth b o hb e)) hS' hl (hG.low (Nat.le_of_lt (Heap.lt_size hS₂))) hacc
theorem kdx_callV {Q:Value->Shared->Prop}(hh:A.handled=none)(hv:s.heap.IsItemsView r d)(hm:s.heap.DictV d kvs ep)(hn:kvs.length<=sizeLine)
  (hQ:∀ h' tk acc c as,(∀ b o,s.heap.get? b=some o->h'.get? b=some o)->h'.get? s.heap.objs.size=some {cls:=.type "list",dict:=none,data:=.seq acc c,slots := #[]}->as.length=kvs.length->KdxGV kvs s.heap.objs.size h' as ->
   acc.toList=as.map Value.ref->Q (.ref s.heap.objs.size) {s with heap:=h',toks:=tk}) :
  wpAny (model prog w) A (call (.type "list") [.ref r]) Q E s:=by
 refine callType_codes (Q₁:=fun obj s₁=>obj=.ref s.heap.objs.size/\s₁={s with heap:=s.heap.push {cls:=.type "list",data:=.seq #[]} }) PySem.F.called_list (PySem.F.typeCall_list_1 _) PySem.F.entry_list_init
  (code_list_new _ ⟨rfl,rfl⟩) fun obj s₁ h₁=>?_
 obtain⟨rfl,rfl⟩:=h₁
 have hS:(s.heap.push {cls:=.type "list",data:=.seq #[]}).get? s.heap.objs.size=some {cls:=.type "list",data:=.seq #[]}:=Heap.get?_push_size _ rfl
 have hr:r<s.heap.objs.size:=let ⟨_,ho,_⟩:=hv;Heap.lt_size ho
 have hd:d<s.heap.objs.size:=hm.lt_size
 refine⟨⟨_,hS,rfl⟩,PySem.F.args_list_init_2 _ _,YT (kvs:=kvs) (ep:=ep) (A:=A.in1) hh (let ⟨o,ho,x⟩:=hv;⟨o,Heap.get?_push_of_some _ ho,x⟩) (hm.push _) _ (Nat.ne_of_gt hr) (Nat.ne_of_lt hd) hS (fun h' tk acc c as hk hS' hl hG hacc=>?_) hn⟩
 exact⟨rfl,hQ h' tk acc c as (fun b o e=>hk b o (Nat.ne_of_lt (Heap.lt_size e)) (Heap.get?_push_of_some _ e)) hS' hl hG hacc⟩
end
end PySem.W
namespace L2
open PySem PySem.Spec PyProof.Rows
theorem Wz {P:Program}{w:World}{H:Hp}{h:Heap}{a:Addr}{kvs:List (List Key×V)}(ok:HOk P w H h)(e:Rd H a (.dT kvs)) :
  ∃ o es ep,h.get? a=some o/\o.ExactDict/\o.data=.dict es ep/\es.size=kvs.length/\(a == sysModules)=false/\kvs.length<=sizeLine /\
   ∀ (i:Nat) (k:List Key) (v:V),kvs[i]?=some (k,v)->∃ b en,es[i]?=some en/\en.key=.ref b/\H b=some (.tup (k.map kV))/\RelV v en.val:=by
 obtain⟨z,y,xs,r,o,es,ep,h1,h2,h3,h4,h5⟩:=(show CC P w H h a (.dT kvs) from ZD ok e)
 have hl:=Paired.length r
 have hs:es.size=kvs.length:=by rw[<- Array.length_toList,h4,List.length_map,hl]
 refine⟨o,es,ep,h1,h2,h3,hs,y,z,fun i k v hk=>?_⟩
 obtain⟨q,hq,e1,e2,e3⟩:=Mm r hk
 refine⟨q.2.1,entryOfKey (tupleKind (CV P w)) q,?_,rfl,e2,e3⟩
 rw[<- Array.getElem?_toList,h4,List.getElem?_map,hq];rfl
def Vi (v d:Addr):HO:=.ext (fun h=>h.IsItemsView v d)
def AY_ (td:TE):TE:=fun σ H Q=>td σ H fun x H1=>∃ d kvs,x=.ref d/\Rd H1 d (.dT kvs)/\∀ v,H1 v=none->Q (.ref v) (upd H1 v (Vi v d))
theorem YU {td:TE}{σ:St}{H:Hp}{Q:VK}:AY_ td σ H Q=td σ H fun x H1=>∃ d kvs,x=.ref d/\Rd H1 d (.dT kvs)/\∀ v,H1 v=none->Q (.ref v) (upd H1 v (Vi v d)):=rfl
theorem ZV {X:Cx}{o:Expr}{td:TE}{apos cpos:Pos}(ho:PE X o td)(hbase:attributeBase o "items" X.env (eval o X.env)=eval o X.env:=by rfl)(hline:(apos.endLine == cpos.line)=true:=by rfl):PE X (.Call (.Attribute o "items" apos) [] [] cpos) (AY_ td):=by
 intro pins s σ H Q I h
 refine wpAny_Call_method0_late hbase hline (thn (ho pins s σ H _ I h) fun v s1 ⟨x,H1,I1,r1,d,kvs,ex,hd,q⟩=>?_)
 subst ex
 obtain rfl:v=Value.ref d:=r1
 obtain⟨od,es,ep,g1,g2,g3,g4,g5,g6,g7⟩:=Wz I1.hok hd
 have hT:s1.TypeIs (.ref d) "dict" := ⟨od,g1,g2.1⟩
 refine⟨"dict", "dict.items",PySem.F.plainAttrs_dict,PySem.F.slot_dict_items,PySem.F.type_dict_items,hT,fun b e=>?_,Calls.callWith_builtin rfl (PySem.evalArgs_none ?_)⟩
 ·cases e
  exact⟨od,g1,g2.2.1⟩
 refine wpAny_call_entry PySem.F.slot_dict_items hT PySem.F.entry_dict_items (?_:wpAny _ _ (Builtin.«dict.items» _) _ _ s1) (PySem.F.args_dict_items_1 _)
 unfold Builtin.«dict.items»
 refine wpAny_bind ?_
 unfold Builtin.Dict.noArgs
 refine wpAny_bind (wpAny_notOrdered_dict hT ?_)
 show wpAny _ _ (pure d) _ _ s1
 refine wpAny_pure ?_
 show wpAny _ _ (Builtin.Dict.showsAll d >>= _) _ _ s1
 unfold Builtin.Dict.showsAll
 rw[if_neg (by rw[g5];exact Bool.false_ne_true)]
 refine wpAny_bind (wpAny_pure ?_)
 refine wpAny_bind (wpAny_newObj_type (wpAny_pure ⟨_,rfl,?_⟩))
 have new:CC X.prog X.w (upd H1 s1.heap.objs.size (Vi s1.heap.objs.size d)) (s1.heap.push {cls:=.type "dict_items",data:=.fields #[.ref d]}) s1.heap.objs.size (Vi s1.heap.objs.size d) :=
  ⟨⟨_,Heap.get?_push_size _ rfl,rfl,rfl⟩,⟨_,Heap.get?_push_size _ rfl⟩,fun h1 h2 ⟨o,e,r⟩ k=>⟨o,k o e,r⟩⟩
 exact⟨.ref _,_,I1.laid (t':=s1.toks) (fun b u e=>Heap.get?_push_of_some _ e) (Nat.le_refl _) new,rfl,q _ (I1.hok.fresh (Nat.le_refl _))⟩
theorem WA {P:Program}{w:World}{fs:List Addr}{H0:Hp}{h0 h':Heap}:∀ (as:List (Addr×List V)),(as.map (·.1)).Nodup ->
  (∀ p∈as,h0.objs.size<=p.1/\p.2.length<=sizeLine/\∃ its:List Value,Vals p.2 its/\IsTup h' p.1 its.toArray)->∀ H,Un fs [] H0 H h0 h'->HOk P w H h'->(∀ p∈as,H p.1=none) ->
  ∃ H2,Un fs [] H0 H2 h0 h'/\HOk P w H2 h'/\Same H H2/\(∀ p∈as,H2 p.1=some (.tup p.2))/\∀ b,b∉as.map (·.1)->H2 b=H b
 | [],_,_,H,u,k,_=>⟨H,u,k,Same.refl _,(fun p hp=>by simp at hp),fun b _=>rfl⟩
 | p::r,nd,hp,H,u,k,hn=>by
  rw[List.map_cons,List.nodup_cons] at nd
  obtain⟨h1,h2,its,h3,h4⟩:=hp p List.mem_cons_self
  have hnp:=hn p List.mem_cons_self
  have k2:HOk P w (upd H p.1 (.tup p.2)) h':=k.track hnp ⟨h2,its,h3,h4⟩
  obtain⟨H2,e1,e2,e3,e4,e5⟩:=WA r nd.2 (fun q hq=>hp q (List.mem_cons_of_mem _ hq)) (upd H p.1 (.tup p.2)) (u.track h1 hnp) k2 (fun q hq=>by
   have hne:q.1≠p.1:=fun z=>nd.1 (by rw[<- z];exact List.mem_map_of_mem hq)
   rw[Ah hne]
   exact hn q (List.mem_cons_of_mem _ hq))
  refine⟨H2,e1,e2,(Same.new hnp).trans e3,fun q hq=>?_,fun b hb=>?_⟩
  ·rcases List.mem_cons.mp hq with rfl | hq
   ·exact e3 _ _ Ac
   ·exact e4 q hq
  ·rw[List.map_cons,List.mem_cons,not_or] at hb
   rw[e5 b hb.2,Ah hb.1]
theorem Vals.two' {x y:V}{u v:Value}(h1:RelV x u)(h2:RelV y v):Vals [x,y] [u,v]:=.cons h1 (.cons h2 .nil)
theorem Ob {X:Cx}(hc:X.calm=true):IJ X (.type "list") (fun xs H Q=>∃ v d kvs,xs=[.ref v]/\H v=some (Vi v d)/\Rd H d (.dT kvs)/\∀ l rs H',Same H H'->H' l=none->rs.length=kvs.length ->
  (∀ (i:Nat) (k:List Key) (x:V),kvs[i]?=some (k,x)->∃ t b,rs[i]?=some (V.ref t)/\H' t=some (.tup [.ref b,x])/\H b=some (.tup (k.map kV)))->Q (.ref l) (upd H' l (.lst rs))):=by
 intro pins s σ H xs us Q I r h
 obtain⟨p,d,kvs,rfl,hv,hp,q⟩:=h
 obtain⟨u,rfl,rx⟩:=vals1 r
 cases rx
 obtain⟨o,es,ep,g1,g2,g3,g4,g5,g6,g7⟩:=Wz I.hok hp
 obtain⟨hview,_⟩:=(show CC X.prog X.w H s.heap p (Vi p d) from I.hok p _ hv)
 refine PySem.W.kdx_callV (ep:=ep) (kvs:=es.toList.map fun e:DictEntry=>(e.key,e.val)) (I.ok.hd hc) hview ⟨o,es,g1,g2,g3,True.intro,show PySem.W.PairsV es.toList (es.toList.map fun e=>(e.key,e.val)) from rfl,True.intro⟩ (by rw[List.length_map,Array.length_toList,g4];exact g6) fun h' tk acc c as hk hS hl hG hacc=>?_
 have hal:as.length=kvs.length:=by rw[hl,List.length_map,Array.length_toList,g4]
 let f:DictEntry->V:=fun e=>match e.key with | .ref b=>V.ref b | _=>.non
 let cs:List (List V):=(es.toList.zip kvs).map fun q=>[f q.1,q.2.2]
 have hcl:cs.length=kvs.length:=by simp[cs,g4]
 have hci:∀ (i:Nat) (k:List Key) (v:V) (b:Addr) (en:DictEntry),kvs[i]?=some (k,v)->es[i]?=some en->en.key=.ref b->cs[i]?=some [V.ref b,v]:=fun i k v b en h1 h2 h3=>by
  simp only[cs]
  rw[List.getElem?_map,show (es.toList.zip kvs)[i]?=some (en,(k,v)) from List.getElem?_zip_eq_some.mpr ⟨by rw[Array.getElem?_toList];exact h2,h1⟩]
  show some [f en,v]=_
  simp only[f,h3]
 have hz:(as.zip cs).map (·.1)=as:=by rw[List.map_fst_zip];rw[hal,hcl];exact Nat.le_refl _
 have u0:Un X.fs [] H H s.heap h':=Un.kept hk
 have k0:HOk X.prog X.w H h':=I.hok.kept hk
 have hmem:∀ p∈as.zip cs,∃ i:Nat,as[i]?=some p.1/\cs[i]?=some p.2:=fun p hp=>by
  obtain⟨i,hi⟩:=List.mem_iff_getElem?.mp hp
  exact⟨i,List.getElem?_zip_eq_some.mp hi⟩
 obtain⟨H2,e1,e2,e3,e4,e5⟩:=WA (as.zip cs) (by rw[hz];exact hG.rise.imp fun a=>Nat.ne_of_lt a) (fun p hp=>by
  obtain⟨i,h1,h2⟩:=hmem p hp
  have hi:i<kvs.length:=by rw[<- hal];exact (List.getElem?_eq_some_iff.mp h1).1
  obtain⟨b,en,a1,a2,a3,a4⟩:=g7 i kvs[i].1 kvs[i].2 (by simp[hi])
  have hc:=hci i _ _ b en (show kvs[i]?=some (kvs[i].1,kvs[i].2) by simp[hi]) a1 a2
  rw[hc] at h2
  have h2':=Option.some.inj h2
  obtain⟨key,k,x,b1,b2,b3⟩:=hG.pairs i p.1 h1
  rw[List.getElem?_map,Array.getElem?_toList,a1] at b1
  simp only[Option.map_some,Option.some.injEq,Prod.mk.injEq] at b1
  obtain⟨b1,b1'⟩:=b1
  refine⟨Nat.le_of_lt (hG.above _ (List.mem_of_getElem? h1)),by rw[<- h2'];have:=Ap;simp;omega,[key,x],?_,⟨_,b3,rfl,0,rfl⟩⟩
  rw[<- h2',<- b2,<- b1,<- b1',a2]
  exact Vals.two' rfl a4) H u0 k0 (fun p hp=>by
  obtain⟨i,h1,h2⟩:=hmem p hp
  exact I.hok.fresh (Nat.le_of_lt (hG.above _ (List.mem_of_getElem? h1))))
 have hD:H2 s.heap.objs.size=none:=by
  rw[e5 _ (by rw[hz];exact fun z=>absurd (hG.above _ z) (Nat.lt_irrefl _))]
  exact I.hok.fresh (Nat.le_refl _)
 have hv:Vals (as.map V.ref) acc.toList:=by
  rw[hacc]
  clear hS hl hG hacc hal hz hmem e4 e5
  induction as with
  | nil=>exact .nil
  | cons a r ih=>exact .cons rfl ih
 have new:CC X.prog X.w (upd H2 s.heap.objs.size (.lst (as.map V.ref))) h' s.heap.objs.size (.lst (as.map V.ref)):=⟨by rw[List.length_map,hal];exact g6,acc.toList,c,hv,by simpa using hS⟩
 refine⟨.ref _,_,I.un (t':=tk) (e1.track (Nat.le_refl _) hD) (e2.track hD new),rfl,q _ _ H2 e3 hD (by rw[List.length_map,hal]) fun i k x hkx=>?_⟩
 obtain⟨b,en,a1,a2,a3,a4⟩:=g7 i k x hkx
 have hi:i<as.length:=by rw[hal];exact (List.getElem?_eq_some_iff.mp hkx).1
 have hai:as[i]?=some as[i]:=by simp[hi]
 refine⟨as[i],b,by rw[List.getElem?_map,hai];rfl,?_,a3⟩
 exact e4 (as[i],[V.ref b,x]) (List.mem_iff_getElem?.mpr ⟨i,List.getElem?_zip_eq_some.mpr ⟨hai,hci i k x b en hkx a1 a2⟩⟩)
theorem Dy_ {X:Cx}{x:Str}{n:Int}{pos:Pos}(hg:Gl X x)(hm:∃ t,X.mg x=some (.int n t))(hd:(x == ("__debug__" : Str))=false:=by decide):PE X (.Name x pos) (tC (.int n)):=by
 obtain⟨t,hm⟩:=hm
 exact XY hg hm ⟨_,rfl⟩ hd
section
variable {K:PySem.W.Frag} {ta tv td ty tx:TE} {t:TA} {f m:Str} {σ:St} {H:Hp} {Q:VK} {D:Ends} {C:Addr} {sp:Sp} {dvs:List V} {E:XK}
theorem De_:tFld K ta f σ H Q=ta σ H fun x H1=>∃ a C dx fs v,x=.ref a/\H1 a=some (.ins C dx fs)/\Cls K C/\Es K C f/\fs.lookup f=some v/\Q v H1:=rfl
theorem AZ_:sFld K ta tv f D σ H=tv σ H fun y H1=>ta σ H1 fun x H2=>∃ a C dx fs,x=.ref a/\H2 a=some (.ins C dx fs)/\Cls K C/\Es K C f/\fs.length<1000/\D.nx σ (upd H2 a (.ins C dx (putF f y fs))):=rfl
theorem Ba_:Bv_ C m sp dvs E ta t σ H Q=ta σ H fun x H1=>∃ a dx fs,x=.ref a/\H1 a=some (.ins C dx fs)/\fs.lookup m=none/\t σ H1 fun vs H2=>sp (x::(vs++dvs)) H2 Q E:=rfl
theorem Bb_:Cs_ C sp dvs E t σ H Q=t σ H fun vs H1=>∀ x dx,H1 x=none->H1 dx=none->dx≠x->sp (.ref x::(vs++dvs)) (upd (upd H1 dx (.own x)) x (.ins C dx [])) (fun v H2=>v=.non/\Q (.ref x) H2) E:=rfl
theorem YV:AC_ td ty tx σ H Q=td σ H fun x H1=>∃ a,x=.ref a/\IsD H1 a/\ty σ H1 fun y H2=>tx σ H2 fun z H3=>∃ o,DGet H3 a y o/\Q (o.getD z) H3:=rfl
end
def ents (es:List (List Int×Int)):List (List Key×V):=es.map fun e=>(wkey e.1,V.int e.2)
theorem YW (es:List (List Int×Int)):FB (es.map (·.1)) (ents es):=by unfold FB ents;rw[List.map_map,List.map_map];rfl
theorem Oc {es:List (List Int×Int)}{w:List Int}(h:w∉es.map (·.1)):valV (ents es) (wkey w)=none:=by
 have:=(YW es).some_iff w
 rw[decide_eq_false h] at this
 cases q:valV (ents es) (wkey w) with
 | none=>rfl
 | some v=>rw[q] at this;cases this
theorem Gq:∀ {es:List (List Int×Int)} {w:List Int} {m:Int},(es.map (·.1)).Nodup->(w,m)∈es->valV (ents es) (wkey w)=some (.int m)
 | [],_,_,_,h=>by cases h
 | e::r,w,m,nd,h=>by
  rw[List.map_cons,List.nodup_cons] at nd
  unfold valV ents
  rw[List.map_cons,List.find?_cons]
  by_cases hw:e.1=w
  ·have hem:e.2=m:=by
    rcases List.mem_cons.mp h with q | q
    ·rw[<- q]
    ·exact absurd (List.mem_map.mpr ⟨_,q,hw.symm⟩) nd.1
   rw[show decide ((wkey e.1,V.int e.2).1=wkey w)=true from decide_eq_true (by rw[hw]),<- hem];rfl
  ·rw[show decide ((wkey e.1,V.int e.2).1=wkey w)=false from decide_eq_false fun z=>hw (NT z)]
   rcases List.mem_cons.mp h with q | q
   ·exact absurd (by rw[<- q]) hw
   ·exact Gq nd.2 q
theorem WB {es:List (List Int×Int)}{w:List Int}{m:Int}(h:w∉es.map (·.1)):putK (ents es) (wkey w) (.int m)=ents (es ++ [(w,m)]):=by
 unfold putK
 rw[Hh,Oc h,if_neg (by simp)]
 unfold ents
 rw[List.map_append];rfl
theorem Xh:¬ (("letters" : Str) = "marks"):=by decide +kernel
def Vj (L:Int)(d:Addr):List (Str×V):=putF "marks" (.ref d) (putF "letters" (.int L) [])
theorem R0 (L:Int)(d:Addr):(Vj L d).lookup ("letters" : Str)=some (.int L):=by
 unfold Vj
 rw[Eg,if_neg Xh,Eg,if_pos rfl]
theorem Fc (L:Int)(d:Addr):(Vj L d).lookup ("marks" : Str)=some (.ref d):=by
 unfold Vj
 rw[Eg,if_pos rfl]
theorem Fn (L:Int)(d:Addr){m:Str}(h1:¬ m = "marks")(h2:¬ m = "letters"):(Vj L d).lookup m=none:=by
 unfold Vj
 rw[Eg,if_neg h1,Eg,if_neg h2]
 rfl
structure BookAt (C:Addr)(H:Hp)(p d:Addr)(L:Int)(es:List (List Int×Int)):Prop where
 ob:∃ dx,H p=some (.ins C dx (Vj L d))
 dc:H d=some (.dT (ents es))
 nd:(es.map (·.1)).Nodup
theorem BookAt.mono {C:Addr}{H H':Hp}{p d:Addr}{L:Int}{es:List (List Int×Int)}(h:BookAt C H p d L es)(s:Same H H'):BookAt C H' p d L es:=by
 obtain⟨⟨dx,a⟩,b,c⟩:=h
 exact⟨⟨dx,s _ _ a⟩,s _ _ b,c⟩
end L2
namespace L2
open PySem PySem.Spec PyProof.Rows
def Bc_ (i:Nat)(f:Addr)(sp:Sp)(dvs:List V)(E:XK)(t:TA):TE:=fun σ H Q=>tVar i σ H fun v H1=>v=.ref f/\t σ H1 fun vs H2=>sp (vs++dvs) H2 Q E
theorem YX {i:Nat}{f:Addr}{sp:Sp}{dvs:List V}{E:XK}{t:TA}{σ:St}{H:Hp}{Q:VK}:Bc_ i f sp dvs E t σ H Q=tVar i σ H fun v H1=>v=.ref f/\t σ H1 fun vs H2=>sp (vs++dvs) H2 Q E:=rfl
section
variable {X:Cx} {CX CX':CXT} {k k':Nat} {f f':Addr} {fd fd':FuncData} {ps ps':List Str} {sp sp':Sp} {dvs dvs':List V} {ds ds':List Value} {x:Str} {p pos:Pos} {e:Expr} {es:List Expr} {t:TA}
theorem ZW {E:XK}(i:Nat)(F:FnOk X.prog X.w X.K X.mg X.base CX k f fd ps sp)(hr:Room k X.A)(hk:PySem.W.keepIn X.K (.ref f)=true)(hb:Binds X.K fd ps ds)(hd:Vals dvs ds)(hx:IL CX X E)(ha:PA X (e::es) t)
  (hN:X.N[i]?=some x:=by rfl) (hv:Vis X.env.scope x:=by first | exact Or.inl rfl | exact Or.inr (Or.inl rfl) | exact Or.inr (Or.inr rfl)) (hdb:(x == ("__debug__" : Str))=false:=by decide) (hcd:(x == ("__classdict__" : Str))=false:=by decide)
  (he:starEach (e::es) X.env=(false,eval e X.env)::starEach es X.env:=by rfl) (hpl:(backTo pos (starEach es X.env)).any (·.1)=false:=by rfl) :
  PE X (.Call (.Name x p) (e::es) [] pos) (Bc_ i f sp dvs E t):=by
 intro pins s σ H Q I h
 refine wpAny_Call_Name_kw (thn (pv i hN hv hdb hcd pins s σ H _ I h) fun u s1 ⟨v,H1,I1,rv,ev,q⟩=>?_)
 subst ev
 obtain rfl:u=Value.ref f:=rv
 refine PySem.W.callWith_K (h₀:=X.base) I.ok.mod.kin hk (thn (ha pos pins s1 σ H1 _ I1 q) fun us s2 ⟨vs,H2,I2,r,q2⟩=>⟨I2.kIn,?_⟩) he hpl
 exact T3 F hr hb hd hx I2 r q2
end
end L2
namespace Nest
def sl (row:List Int)(b i:Nat):List Int:=(row.take i).drop b
def outF (p e:Int)(s:List Int×Int)(x:Int):List Int×Int:=if x=e then (s.1,s.2-1) else (if s.2=0 then s.1 ++ [x] else s.1,if p<=x then s.2+1 else s.2)
def outS (p e:Int)(l:List Int):List Int×Int:=l.foldl (outF p e) ([],0)
def outW (p e:Int)(l:List Int):List Int:=(outS p e l).1
def wd (p e:Int)(row:List Int)(i a:Nat):List Int:=outW p e (sl row (a+1) i)
end Nest
namespace L2
open PySem PySem.Spec PyProof.Rows GW
theorem BM_ {X:Cx}{K:PySem.W.Frag}{tg l:Expr}{tl:TE}(hK:X.K=K)(hl:PE X l tl):PI X tg l (iTup K tl):=by subst hK;exact N0 hl
end L2
namespace L2
open PySem PySem.Spec PyProof.Rows
theorem Uj {X:Cx}{K:PySem.W.Frag}(h:X.K=K):OpR X (binaryOp .Add) (IP K):=by subst h;exact JW
end L2
namespace L2
open PySem PySem.W PySem.Spec PySem.Calls PyProof.Rows
def Uk (K:PySem.W.Frag)(H:Hp)(xs:List V)(ws:List (List Int)):Prop:=xs.length=ws.length/\∀ (i:Nat) (w:List Int),ws[i]?=some w->∃ t,xs[i]?=some (.ref t)/\H t=some (.lst (w.map V.int))
theorem Uk.at {K:PySem.W.Frag}{H:Hp}{xs:List V}{ws:List (List Int)}(h:Uk K H xs ws){i:Nat}{x:V}(hx:xs[i]?=some x):∃ t w,ws[i]?=some w/\x=.ref t/\H t=some (.lst (w.map V.int)):=by
 have hi:i<ws.length:=by rw[<- h.1];exact (List.getElem?_eq_some_iff.mp hx).1
 obtain⟨t,a,b⟩:=h.2 i ws[i] (by simp[hi])
 rw[hx] at a
 exact⟨t,ws[i],by simp[hi],Option.some.inj a,b⟩
def R1 (K:PySem.W.Frag):V->List V->Hp->VK->Prop:=fun x vs H Q=>∃ l xs t w ws,x=.ref l/\vs=[.ref t]/\H l=some (.lst xs)/\Uk K H xs ws/\SqL K H t (w.map V.int)/\w∈ws/\xs.length<1000000/\Q (.int (ws.idxOf w:Nat)) H
theorem Ul {K:PySem.W.Frag}{x:V}{vs:List V}{H:Hp}{Q:VK}:R1 K x vs H Q=∃ l xs t w ws,x=.ref l/\vs=[.ref t]/\H l=some (.lst xs)/\Uk K H xs ws/\SqL K H t (w.map V.int)/\w∈ws/\xs.length<1000000/\Q (.int (ws.idxOf w:Nat)) H:=rfl
theorem WC:∀ {ws:List (List Int)} {m:Nat} {w:List Int},ws[m]?=some w->ws.idxOf w<=m
 | [],m,w,h=>by simp at h
 | v::ws,m,w,h=>by
  rw[List.idxOf_cons]
  cases m with
  | zero =>
   have:v=w:=by simpa using h
   simp[this]
  | succ m =>
   have:=WC (ws:=ws) (m:=m) (w:=w) (by simpa using h)
   cases e:(v == w) with
   | true=>exact Nat.zero_le _
   | false=>exact Nat.succ_le_succ this
theorem Xi {X:Cx}(hu:X.A.units+8<cLine):MtM X "list.index" (R1 X.K):=by
 intro pins s σ H x vs v us Q I rx rv h
 obtain⟨l,xs,t,w,ws,rfl,rfl,hH,hw,ht,hmem,hlt,q⟩:=h
 cases rx
 obtain⟨u,rfl,ry⟩:=vals1 rv
 cases ry
 obtain⟨zz,its,n,r,hl,e⟩:=I.lstM hH
 let ev:Value->Bool:=fun y => @decide (∃ (i:Nat) (a:Addr),y=.ref a/\xs[i]?=some (.ref a)/\ws[i]?=some w) (Classical.propDecidable _)
 have ee:∀ (i:Nat) (a:Addr) (v:List Int),xs[i]?=some (.ref a)->ws[i]?=some v->ev (.ref a)=decide (v=w):=fun i a v hx hv=>by
  obtain⟨a',a1,a2⟩:=hw.2 i v hv
  rw[hx] at a1
  cases a1
  rw[Bool.eq_iff_iff]
  show @decide _ (Classical.propDecidable _)=true↔_
  rw[@decide_eq_true_iff _ (Classical.propDecidable _),decide_eq_true_eq]
  constructor
  ·rintro⟨j,b,hb,hxj,hwj⟩
   cases hb
   obtain⟨b',b1,b2⟩:=hw.2 j w hwj
   rw[hxj] at b1
   cases b1
   rw[a2] at b2
   have:=Option.some.inj b2
   injection this with this
   exact (List.map_inj_right (fun x y z=>V.int.inj z)).mp this
  ·rintro rfl
   exact⟨i,a,rfl,hx,hv⟩
 have hlen:xs.length=ws.length:=hw.1
 have hrl:xs.length=its.length:=r.length
 have get:∀ (m:Nat) (hm:m<its.toArray.size),∃ (a:Addr) (v:List Int),its.toArray[m]=.ref a/\xs[m]?=some (.ref a)/\ws[m]?=some v/\H a=some (.lst (v.map V.int)):=fun m hm=>by
  have hm':m<xs.length:=by rw[List.size_toArray] at hm;omega
  obtain⟨a,v,e1,e2,e3⟩:=hw.at (i:=m) (x:=xs[m]) (by simp[hm'])
  have hx:xs[m]?=some (.ref a):=by rw[List.getElem?_eq_getElem hm',e2]
  obtain⟨w',f1,f2⟩:=r.get hx
  have e4:its.toArray[m]=w':=by
   have:its[m]?=some its.toArray[m]:=by simp at hm;simp[hm]
   rw[f1] at this
   exact (Option.some.inj this).symm
  cases f2
  exact⟨a,v,e4,hx,e1,e3⟩
 have hj:ws.idxOf w<ws.length:=List.idxOf_lt_length_of_mem hmem
 have hjs:ws.idxOf w<its.toArray.size:=by rw[List.size_toArray];omega
 refine call_meets F.slot_list_index ⟨_,e,rfl⟩ F.entry_list_index (F.args_list_index_2 _ _) (SeqAt.list_indexAt l its.toArray n none #[] (.ref t) ev (ws.idxOf w) hjs (by omega) ?_ fun m hm hmj=>?_) ⟨e,fun y hy=>?_,?_⟩
 ·obtain⟨a,v,e1,e2,e3,e4⟩:=get _ hjs
  rw[e1,ee _ a v e2 e3]
  have:ws[ws.idxOf w]?=some w:=by rw[List.getElem?_eq_getElem hj,List.getElem_idxOf]
  rw[this] at e3
  cases e3
  simp
 ·obtain⟨a,v,e1,e2,e3,e4⟩:=get m hm
  rw[e1,ee _ a v e2 e3,decide_eq_false_iff_not]
  intro z
  have hm':m<ws.length:=by omega
  have:ws[m]=w:=by rw[List.getElem?_eq_getElem hm'] at e3;rw[Option.some.inj e3];exact z
  have h2:=WC (ws:=ws) (m:=m) (w:=w) (by rw[List.getElem?_eq_getElem hm',this])
  omega
 ·obtain⟨m,hm,em⟩:=List.getElem_of_mem (show y∈its by simpa using hy)
  obtain⟨a,v,e1,e2,e3,e4⟩:=get m (by rw[List.size_toArray];exact hm)
  have:y=.ref a:=by rw[<- em,<- e1];simp
  rw[this,ee m a v e2 e3]
  exact (EqD.at (x:=V.ref a) (y:=V.ref t) I 2 _ (by rw[in1_units];omega) rfl rfl (EqD.ints (xs:=v) (ys:=w) (.inl ⟨SqL.of e4,ht⟩) 1)).1
 ·exact⟨.int (ws.idxOf w:Nat),H,I.tok _,⟨_,rfl⟩,q⟩
end L2
set_option maxHeartbeats 1000000
set_option maxHeartbeats 4000000
namespace L2
section
variable {α:Type} [DecidableEq α]
def ins1 (acc:List α)(x:α):List α:=if x∈acc then acc else acc ++ [x]
def BN_ (acc row:List α):List α:=row.foldl ins1 acc
def YY (row:List α):List α:=BN_ [] row
def num (row:List α):List Int:=row.map fun x=>((YY row).idxOf x:Int)
def ncl (row:List α):Nat:=(YY row).length
end
def rowB (n:Nat)(b:List Int->Nat->Int)(w:List Int):List Int:=(List.range n).map (b w)
abbrev StC:=List (List Int)×List Int
def Dz_ (n:Nat)(b:List Int->Nat->Int)(w:List Int)(st:StC)(x:Nat):StC:=if ncl st.2<ncl (st.2.zip (rowB n b ((x:Int)::w))) then (st.1 ++ [(x:Int)::w],num (st.2.zip (rowB n b ((x:Int)::w)))) else st
def Df_ (n:Nat)(b:List Int->Nat->Int)(w:List Int)(L:Nat)(st:StC):StC:=(List.range L).foldl (Dz_ n b w) st
def Bd_ (n:Nat)(b:List Int->Nat->Int)(L:Nat):Nat->Nat->StC->StC
 | 0,_,st=>st
 | f+1,k,st=>if k<st.1.length then Bd_ n b L f (k+1) (Df_ n b (st.1.getD k []) L st) else st
section
variable {n L:Nat} {b:List Int->Nat->Int} {w:List Int} {st:StC}
def wcOf (n L:Nat)(b:List Int->Nat->Int):StC:=Bd_ n b L 41 0 ([[]],num (rowB n b []))
end
end L2
namespace L2
open GW GB
def bW (marks:List Int)(ways:List (List Int))(w:List Int)(r:Nat):Int:=marks.getD (Eh ways (r:Int) w).toNat 0
def cf (c:List Int)(r:Int):Int:=c.getD r.toNat 0
def hm (c R:List Int)(r:Int):Int:=(((YY (R.map (cf c))).idxOf (cf c r):Nat):Int)
def Dg_ (c acc:List Int)(r:Int):List Int:=if cf c r∈acc.map (cf c) then acc else acc ++ [r]
def FR (c R:List Int):List Int:=R.foldl (Dg_ c) []
def hrow (c R:List Int)(ways:List (List Int))(r:Int):List Int:=(ways.getD r.toNat []).map (hm c R)
def cOf (L:Nat)(marks:List Int)(ways:List (List Int)):List Int:=(wcOf marks.length L (bW marks ways)).2
def rOf (ways:List (List Int)):List Int:=(YJ ways).map (·.1)
def sF (L:Nat)(marks:List Int)(ways:List (List Int)):List Int:=FR (cOf L marks ways) (rOf ways)
def hO (L:Nat)(marks:List Int)(ways:List (List Int))(r:Int):Int:=hm (cOf L marks ways) (rOf ways) r
section
variable {L:Nat} {marks:List Int} {ways:List (List Int)}
def wi (ways:List (List Int))(r:Int):List Int:=(((YJ ways).find? fun e=>decide (e.1=r)).map (·.2)).getD []
end
theorem Um (ways:List (List Int))(r:Int)(u v:List Int):Eh ways r (u++v)=Eh ways (Eh ways r u) v:=by unfold Eh;rw[List.foldl_append]
end L2
set_option maxHeartbeats 1000000
set_option maxHeartbeats 4000000
set_option maxHeartbeats 1000000
set_option maxHeartbeats 4000000
namespace L2
open PySem PySem.Spec PyProof.Rows
theorem Od {prog:Program}{w:World}{A:Around}{E:Value->Shared->Prop}{s:Shared}{l:Addr}{xs:Array (Int×Tok)}{Q:Value->Shared->Prop}(hl:s.heap.IsTuple l (intItems xs))
  (h:∀ s₂:Shared,s₂={s with heap:=s.heap.push {cls:=.type "tuple_iterator",data:=.fields #[.ref l,.int 0 0]} } ->
   (s₂.heap.IsTupleIter s.heap.objs.size l 0/\s₂.heap.IsTuple l (intItems xs))->(∀ b ∈ [s.heap.objs.size,l],b<s₂.heap.objs.size)->l≠s.heap.objs.size->Q (.ref s.heap.objs.size) s₂) :
  wpAny (model prog w) A (pyIter (.ref l)) Q E s:=by
 have hlt:l<s.heap.objs.size:=by obtain⟨_,e,_⟩:=hl;exact Heap.lt_size e
 refine wpAny_pyIter_tuple hl (h _ rfl ⟨⟨_,Heap.get?_push_size _ rfl,rfl,rfl⟩,hl.push _⟩ (fun b hb=>?_) (Nat.ne_of_lt hlt))
 show b<(s.heap.push _).objs.size
 rw[Heap.size_push]
 rcases List.mem_cons.mp hb with rfl | hb
 ·exact Nat.lt_succ_self _
 ·rcases List.mem_cons.mp hb with rfl | hb
  ·exact Nat.lt_succ_of_lt hlt
  ·cases hb
end L2
namespace L2
open PySem PySem.W PySem.Spec PySem.Calls PyProof.Rows
structure CMeth (K:PySem.W.Frag)(C:Addr)(m:Str)(f:Addr):Prop where
 sg:PySem.W.specialIn K (.ref C) "__getattribute__" = some (some (.builtin "type.__getattribute__"))
 rd:PySem.W.readsIn K C (.type "type")=true
 fc:PySem.W.findCls K (.ref C) (.type "type") m=some (.val (.ref f))
 kp:PySem.W.keepIn K (.ref f)=true
section
variable {X:Cx} {CX:CXT} {k:Nat} {f C:Addr} {fd:FuncData} {ps:List Str} {sp:Sp} {dvs:List V} {ds:List Value} {E:XK} {x m:Str} {np apos pos:Pos} {e:Expr} {es:List Expr} {t:TA}
theorem Dh_ {pl:Sem Bool}(hg:Gl X x)(hmx:X.mg x=some (.ref C))(hm:CMeth X.K C m f)(F:FnOk X.prog X.w X.K X.mg X.base CX k f fd ps sp)(hr:Room k X.A)(hb:Binds X.K fd ps ds)(hd:Vals dvs ds)(hx:IL CX X E)(ha:PA X (e::es) t)
  (hdb:(x == ("__debug__" : Str))=false:=by decide) (hst:starEach (e::es) X.env=(false,eval e X.env)::starEach es X.env:=by rfl) (hpl:(backTo pos (starEach es X.env)).any (·.1)=false:=by rfl)
  (ht:eval (.Call (.Attribute (.Name x np) m apos) (e::es) [] pos) X.env=(do
   let ov <- eval (.Name x np) X.env
   standAt apos.atName
   let (f,first) <- holding [ov] (getMethod ov m pl)
   callWith pos f first (backTo pos (starEach (e::es) X.env)) (backToKw pos (keywordEach [] X.env))):=by rfl) :
  PE X (.Call (.Attribute (.Name x np) m apos) (e::es) [] pos) (Bu_ sp dvs E t):=by
 intro pins s σ H Q I h
 refine PySem.W.methodCall_KW (pl:=pl) (NY I hg hmx ?_ hdb) ht
 refine PySem.W.method_cls I.kIn hm.sg (PySem.W.cls_value I.kIn hm.rd hm.fc rfl ?_)
 refine PySem.W.callWith_K (first:=[]) (h₀:=X.base) I.ok.mod.kin hm.kp (thn (ha pos pins _ σ H _ (I.tok _) h) fun us s2 ⟨vs,H2,I2,r,q2⟩=>⟨I2.kIn,?_⟩) hst hpl
 exact T3 F hr hb hd hx I2 r q2
end
end L2
namespace L2
open PySem PySem.Spec PyProof.Rows
theorem Nv {σ:List Int}{v:Int}(h:σ.Nodup):(step_dedup σ v).Nodup:=by
 unfold step_dedup
 split
 ·exact h
 ·rename_i hn
  rw[List.nodup_append]
  refine⟨h,by simp,fun a ha b hb=>?_⟩
  rw[List.mem_singleton.mp hb]
  intro z;subst z
  exact hn (List.any_eq_true.mpr ⟨a,ha,by simp⟩)
theorem Ki (val:Nat->Int):∀ i,(firstMet val i).Nodup
 | 0=>List.nodup_nil
 | i+1=>by rw[firstMet_succ];exact Nv (Ki val i)
theorem Uo (val:Nat->Int)(i:Nat)(k:Int):k∈firstMet val i ↔ ∃ j,j<i/\val j=k:=by
 have h:=firstMet_any val i k
 constructor
 ·intro hk
  have h1:(firstMet val i).any (· == k)=true:=List.any_eq_true.mpr ⟨k,hk,by simp⟩
  rw[h1] at h
  obtain⟨x,hx,e⟩:=List.any_eq_true.mp h.symm
  obtain⟨j,hj,rfl⟩:=List.mem_map.mp hx
  exact⟨j,List.mem_range.mp hj,by simpa using e⟩
 ·rintro⟨j,hj,rfl⟩
  have h1:((List.range i).map val).any (· == val j)=true:=List.any_eq_true.mpr ⟨val j,List.mem_map.mpr ⟨j,List.mem_range.mpr hj,rfl⟩,by simp⟩
  rw[h1] at h
  obtain⟨x,hx,e⟩:=List.any_eq_true.mp h
  have:x=val j:=by simpa using e
  exact this ▸ hx
theorem YZ {X:Cx}(hc:X.calm=true):IJ X (.type "set") (fun xs H Q=>∃ (p:Addr) (ns:List Int),xs=[.ref p]/\SqL X.K H p (ns.map V.int)/\ns.length<=4000/\∀ (a:Addr) (S:Int->Bool) (ds:List Int),H a=none->ds.Nodup->(∀ x,x∈ds↔x∈ns)->Q (.ref a) (upd H a (.set S ds.length))):=by
 intro pins s σ H xs us Q I r h
 obtain⟨p,ns,rfl,hq,hz,q⟩:=h
 obtain⟨u,rfl,rx⟩:=vals1 r
 cases rx
 obtain⟨its,r',pl,_⟩:=I.list hq
 have i1:IntsAre its ns:=by simpa using intsAre_of r'
 have hlen:=r'.length
 rw[List.length_map] at hlen
 refine PySem.call_set_list (items:=its.toArray) (ns:=ns) (I.ok.hd hc) pl.isList (by simpa using i1) (by rw[List.size_toArray];unfold scanBound;omega) fun h' tk hS hk=>?_
 rw[List.size_toArray] at hS
 refine⟨.ref _,_,I.laid (t':=tk) (o:=.set (fun k'=>(firstMet (fun i=>ns.getD i 0) its.length).any (· == k')) (firstMet (fun i=>ns.getD i 0) its.length).length) (fun b o hb=>hk b o (Heap.lt_size hb) hb) (Nat.le_refl _) hS,rfl,q _ _ _ (I.hok.fresh (Nat.le_refl _)) (Ki _ _) fun x=>?_⟩
 rw[Uo]
 constructor
 ·rintro⟨j,hj,rfl⟩
  have hjn:j<ns.length:=by omega
  rw[List.getD_eq_getElem?_getD,List.getElem?_eq_getElem hjn]
  exact List.getElem_mem _
 ·intro hx
  obtain⟨j,hj,e⟩:=List.getElem_of_mem hx
  exact⟨j,by omega,by rw[List.getD_eq_getElem?_getD,List.getElem?_eq_getElem hj];exact e⟩
theorem Vk {X:Cx}:IJ X (.builtin "len") (fun xs H Q=>∃ p S n,xs=[.ref p]/\H p=some (.set S n)/\Q (.int n) H):=by
 intro pins s σ H xs us Q I r h
 obtain⟨p,S,n,rfl,hq,q⟩:=h
 obtain⟨u,rfl,rx⟩:=vals1 r
 cases rx
 obtain⟨o,es,ep,t,ho,hex,hd,_,_,hsc,hf,hn⟩:=I.hok _ _ hq
 unfold scanBound at hsc
 exact PySem.call_len_set ho hex hd hf (by omega) ⟨.int n,H,I.tok _,⟨s.toks+1,by rw[hn]⟩,q⟩
theorem Vl {prog:Program}{w:World}{A:Around}{E:Value->Shared->Prop}{s:Shared}{l:Addr}{xs:Array (Int×Tok)}{Q:Value->Shared->Prop}(hh:A.handled=none)(hl:s.heap.IsTuple l (intItems xs))(hne:0<xs.size)
  (h:∀ v h' tk,(intItems xs)[argBest (fun i j=>decide (numAt xs i > numAt xs j)) (xs.size-1)]?=some v->(∀ b o,s.heap.get? b=some o->h'.get? b=some o)->Q v {s with heap:=h',toks:=tk}) :
  wpAny (model prog w) A (call (.builtin "max") [.ref l]) Q E s:=by
 refine call_max_walk (Od hl fun s₂ e st hfp hlI=>?_)
 subst e
 refine⟨_,_,_,_,_,_,_,rfl,Walks.tuple (A:=A.in1) hh _ l hlI (intItems xs),st,hfp,by simpa [intItems] using hne,CmpOf.ints_gt (numAt xs) (fun _ _=>intItems_at),fun v h' tk hP hk=>?_⟩
 refine h v h' tk (by simpa [intItems] using hP) fun b o e=>hk b o (fun hm=>?_) (Heap.get?_push_of_some _ e)
 have e1:b=s.heap.objs.size:=by simpa using hm
 exact absurd (e1 ▸ Heap.lt_size e) (Nat.lt_irrefl _)
theorem Xj {X:Cx}(hc:X.calm=true):IJ X (.builtin "max") (fun xs H Q=>∃ (p:Addr) (ns:List Int) (m:Int),xs=[.ref p]/\SqT X.K H p (ns.map V.int)/\m∈ns/\(∀ x∈ns,x<=m)/\Q (.int m) H):=by
 intro pins s σ H xs us Q I r h
 obtain⟨p,ns,m,rfl,hq,hm,hmax,q⟩:=h
 obtain⟨u,rfl,rx⟩:=vals1 r
 cases rx
 obtain⟨its,r',pl,_⟩:=I.tuple hq
 have hi:IntsAre its ns:=by simpa using intsAre_of r'
 obtain⟨zs,e⟩:=hi.allInts.items
 have hns:ns=zs.toList.map (·.1):=by rw[<- hi.numsOf,<- nums_intItems,<- e]
 have hne:0<ns.length:=List.length_pos_of_mem hm
 have hsz:0<zs.size:=by rw[hns,List.length_map,Array.length_toList] at hne;exact hne
 have hl:s.heap.IsTuple p its.toArray:=pl
 rw[e] at hl
 refine Vl (I.ok.hd hc) hl hsz fun v h' tk hv hk=>?_
 obtain⟨t,rfl⟩:=intItems_at hv
 obtain⟨h1,h2⟩:=argBest_gt (numAt zs) (zs.size-1)
 have g1:numAt zs (argBest (fun i j=>decide (numAt zs i > numAt zs j)) (zs.size-1))∈ns:=by
  rw[hns,numAt_eq];exact getD_mem (by rw[List.length_map,Array.length_toList];omega)
 have g2:m<=numAt zs (argBest (fun i j=>decide (numAt zs i > numAt zs j)) (zs.size-1)):=by
  rw[hns] at hm
  obtain⟨j,hj,rfl⟩:=mem_getD hm
  rw[List.length_map,Array.length_toList] at hj
  rw[<- numAt_eq];exact h2 j (by omega)
 have g3:=hmax _ g1
 have g4:numAt zs (argBest (fun i j=>decide (numAt zs i > numAt zs j)) (zs.size-1))=m:=by omega
 exact⟨.int m,H,I.kept hk,⟨t,by rw[g4]⟩,q⟩
theorem Vm {prog:Program}{w:World}{A:Around}{E:Value->Shared->Prop}{s:Shared}{l:Addr}{xs:Array (Int×Tok)}{Q:Value->Shared->Prop}(hh:A.handled=none)(hl:s.heap.IsTuple l (intItems xs))(hne:0<xs.size)
  (h:∀ v h' tk,(intItems xs)[argBest (fun i j=>decide (numAt xs i<numAt xs j)) (xs.size-1)]?=some v->(∀ b o,s.heap.get? b=some o->h'.get? b=some o)->Q v {s with heap:=h',toks:=tk}) :
  wpAny (model prog w) A (call (.builtin "min") [.ref l]) Q E s:=by
 refine call_min_walk (Od hl fun s₂ e st hfp hlI=>?_)
 subst e
 refine⟨_,_,_,_,_,_,_,rfl,Walks.tuple (A:=A.in1) hh _ l hlI (intItems xs),st,hfp,by simpa [intItems] using hne,CmpOf.ints_lt (numAt xs) (fun _ _=>intItems_at),fun v h' tk hP hk=>?_⟩
 refine h v h' tk (by simpa [intItems] using hP) fun b o e=>hk b o (fun hm=>?_) (Heap.get?_push_of_some _ e)
 have e1:b=s.heap.objs.size:=by simpa using hm
 exact absurd (e1 ▸ Heap.lt_size e) (Nat.lt_irrefl _)
theorem Xk {X:Cx}(hc:X.calm=true):IJ X (.builtin "min") (fun xs H Q=>∃ (p:Addr) (ns:List Int) (m:Int),xs=[.ref p]/\SqT X.K H p (ns.map V.int)/\m∈ns/\(∀ x∈ns,m<=x)/\Q (.int m) H):=by
 intro pins s σ H xs us Q I r h
 obtain⟨p,ns,m,rfl,hq,hm,hmax,q⟩:=h
 obtain⟨u,rfl,rx⟩:=vals1 r
 cases rx
 obtain⟨its,r',pl,_⟩:=I.tuple hq
 have hi:IntsAre its ns:=by simpa using intsAre_of r'
 obtain⟨zs,e⟩:=hi.allInts.items
 have hns:ns=zs.toList.map (·.1):=by rw[<- hi.numsOf,<- nums_intItems,<- e]
 have hne:0<ns.length:=List.length_pos_of_mem hm
 have hsz:0<zs.size:=by rw[hns,List.length_map,Array.length_toList] at hne;exact hne
 have hl:s.heap.IsTuple p its.toArray:=pl
 rw[e] at hl
 refine Vm (I.ok.hd hc) hl hsz fun v h' tk hv hk=>?_
 obtain⟨t,rfl⟩:=intItems_at hv
 obtain⟨h1,h2⟩:=argBest_lt (numAt zs) (zs.size-1)
 have g1:numAt zs (argBest (fun i j=>decide (numAt zs i<numAt zs j)) (zs.size-1))∈ns:=by
  rw[hns,numAt_eq];exact getD_mem (by rw[List.length_map,Array.length_toList];omega)
 have g2:numAt zs (argBest (fun i j=>decide (numAt zs i<numAt zs j)) (zs.size-1))<=m:=by
  rw[hns] at hm
  obtain⟨j,hj,rfl⟩:=mem_getD hm
  rw[List.length_map,Array.length_toList] at hj
  rw[<- numAt_eq];exact h2 j (by omega)
 have g3:=hmax _ g1
 have g4:numAt zs (argBest (fun i j=>decide (numAt zs i<numAt zs j)) (zs.size-1))=m:=by omega
 exact⟨.int m,H,I.kept hk,⟨t,by rw[g4]⟩,q⟩
theorem Vn {X:Cx}{K:PySem.W.Frag}(h:X.K=K)(hu:X.A.units+8<cLine):MtR X "list.index" (R1 K):=by subst h;exact Xi hu
end L2
namespace Mine
open PySem L2 GW GB
local macro_rules | `(tactic| walk_at "rd") => `(tactic| (try dsimp only[↓CI_,↓AD_,↓CJ_,↓Yv,↓CK_,↓r_c,↓r_op,↓r_un,↓r_I,↓r_I0,↓r_U,↓AE_,↓AF_,↓CL_,↓CM_,↓AG_,↓r_if,↓r_B,↓AH_,↓r_or,↓CN_,↓AI_,↓Yw,↓r_CB,↓CO_,↓CP_,↓CQ_,↓CR_,↓r_sl,↓AJ_,↓Wn,↓CS_,↓CY_,↓r_BM,↓Wo,↓AK_,↓AL_,↓r_Eq,↓r_Ne,↓CT_,↓Yx,↓AM_,↓Yy,↓AN_,↓AO_,↓CV_,↓Da_,↓YE,↓AR_,↓YH,↓AS_,↓AT_,↓Ws,↓AU_,↓YI,↓r_in,↓YL,↓Wu,↓Ww,↓Wx,↓YN,↓Dd_,Ul,↓De_,↓AZ_,↓Ba_,↓Bb_,↓YV,↓YU,↓YX,CU_,L2.start,List.map_cons,List.map_nil,List.length_cons,List.length_nil,List.cons_append,List.nil_append,List.replicate,List.getElem?_cons_zero,List.getElem?_cons_succ,List.set_cons_zero,List.set_cons_succ,scal])<;>(try simp only[↓CI_,↓AD_,↓CJ_,↓Yv,↓CK_,↓r_c,↓r_op,↓r_un,↓r_I,↓r_I0,↓r_U,↓AE_,↓AF_,↓CL_,↓CM_,↓AG_,↓r_if,↓r_B,↓AH_,↓r_or,↓CN_,↓AI_,↓Yw,↓r_CB,↓CO_,↓CP_,↓CQ_,↓CR_,↓r_sl,↓AJ_,↓Wn,↓CS_,↓CY_,↓r_BM,↓Wo,↓AK_,↓AL_,↓r_Eq,↓r_Ne,↓CT_,↓Yx,↓AM_,↓Yy,↓AN_,↓AO_,↓CV_,↓Da_,↓YE,↓AR_,↓YH,↓AS_,↓AT_,↓Ws,↓AU_,↓YI,↓r_in,↓YL,↓Wu,↓Ww,↓Wx,↓YN,↓Dd_,Ul,↓De_,↓AZ_,↓Ba_,↓Bb_,↓YV,↓YU,↓YX,CU_,L2.start,List.map_cons,List.map_nil,List.length_cons,List.length_nil,List.cons_append,List.nil_append,List.append_nil,List.replicate,List.getElem?_cons_zero,List.getElem?_cons_succ,List.set_cons_zero,List.set_cons_succ,Option.some.injEq,V.int.injEq,V.str.injEq,V.ref.injEq,V.bl.injEq,List.cons.injEq,and_true,true_and,and_assoc,exists_and_left,exists_eq_left',exists_eq_left,exists_eq_right,exists_eq,if_true,if_false,Bool.false_eq_true,decide_eq_true_eq,scal,Nat.reduceAdd,Nat.reduceSub,reduceCtorEq,Bool.not_true,Bool.not_false]))
def top (i:Nat):Stmt:=PySem.Challenge.pw_guessroom_k41_whole_a_house_found.main.body.getD i (.Pass ⟨0,0,0,0⟩)
abbrev C6:Stmt:=BH (top 21) 1
theorem Qm:FnScope ["self"] ["self"] (Ad C6):=⟨rfl,rfl,rfl,by decide +kernel,rfl,by decide +kernel,by decide +kernel⟩
abbrev AL:Stmt:=BH (top 21) 2
theorem J4:FnScope ["self", "deed"] ["self", "deed"] (Ad AL):=⟨rfl,rfl,rfl,by decide +kernel,rfl,by decide +kernel,by decide +kernel⟩
abbrev DC:Stmt:=BH (top 22) 2
theorem R3:FnScope ["self"] ["self"] (Ad DC):=⟨rfl,rfl,rfl,by decide +kernel,rfl,by decide +kernel,by decide +kernel⟩
abbrev Ei:Stmt:=BH (top 19) 0
theorem Up:FnScope ["self", "letters"] ["self", "letters"] (Ad Ei):=⟨rfl,rfl,rfl,by decide +kernel,rfl,by decide +kernel,by decide +kernel⟩
abbrev FY:Stmt:=top 9
theorem Xl:FnScope ["letters", "word"] ["letters", "word"] (Ad FY):=⟨rfl,rfl,rfl,by decide +kernel,rfl,by decide +kernel,by decide +kernel⟩
abbrev CZ:Stmt:=top 10
theorem R4:FnScope ["letters", "word"] ["letters", "word"] (Ad CZ):=⟨rfl,rfl,rfl,by decide +kernel,rfl,by decide +kernel,by decide +kernel⟩
abbrev IR:Stmt:=top 14
theorem NU:FnScope ["house", "word", "ways", "rooms", "letter"] ["house", "word"] (Ad IR):=⟨rfl,rfl,rfl,by decide +kernel,rfl,by decide +kernel,by decide +kernel⟩
abbrev CD:Stmt:=BH (top 19) 3
theorem Uq:FnScope ["self", "word"] ["self", "word"] (Ad CD):=⟨rfl,rfl,rfl,by decide +kernel,rfl,by decide +kernel,by decide +kernel⟩
abbrev Hk:Stmt:=top 34
theorem EK:FnScope ["book", "access", "guess", "word", "mark", "last", "rooms", "low", "high", "middle", "asked", "told"] ["book", "access", "guess", "word", "mark", "last"] (Ad Hk):=⟨rfl,rfl,rfl,by decide +kernel,rfl,by decide +kernel,by decide +kernel⟩
abbrev CF:Stmt:=BH (top 22) 8
theorem FZ:FnScope ["self", "words", "left", "word"] ["self", "words"] (Ad CF):=⟨rfl,rfl,rfl,by decide +kernel,rfl,by decide +kernel,by decide +kernel⟩
abbrev Fu:Stmt:=top 24
theorem GZ:FnScope ["letters", "access", "rows", "word", "letter"] ["letters", "access"] (Ad Fu):=⟨rfl,rfl,rfl,by decide +kernel,rfl,by decide +kernel,by decide +kernel⟩
abbrev Kw:Stmt:=top 25
theorem NV:FnScope ["letters", "access", "ends", "words", "row", "end"] ["letters", "access", "ends"] (Ad Kw):=⟨rfl,rfl,rfl,by decide +kernel,rfl,by decide +kernel,by decide +kernel⟩
abbrev Av:Stmt:=BH (top 35) 3
theorem Ib:FnScope ["self"] ["self"] (Ad Av):=⟨rfl,rfl,rfl,by decide +kernel,rfl,by decide +kernel,by decide +kernel⟩
abbrev C7:Stmt:=top 15
theorem Qn:FnScope ["house", "word"] ["house", "word"] (Ad C7):=⟨rfl,rfl,rfl,by decide +kernel,rfl,by decide +kernel,by decide +kernel⟩
abbrev BT:Stmt:=top 16
theorem Qo:FnScope ["house", "word"] ["house", "word"] (Ad BT):=⟨rfl,rfl,rfl,by decide +kernel,rfl,by decide +kernel,by decide +kernel⟩
abbrev B3:Stmt:=BH (top 35) 7
theorem Oe:FnScope ["self", "house", "word"] ["self", "house", "word"] (Ad B3):=⟨rfl,rfl,rfl,by decide +kernel,rfl,by decide +kernel,by decide +kernel⟩
abbrev C8:Stmt:=BH (top 35) 4
theorem Fo:FnScope ["self", "mark", "last", "found"] ["self"] (Ad C8):=⟨rfl,rfl,rfl,by decide +kernel,rfl,by decide +kernel,by decide +kernel⟩
abbrev Fd:Stmt:=top 26
theorem Vo:FnScope ["book", "word", "ends"] ["book", "word", "ends"] (Ad Fd):=⟨rfl,rfl,rfl,by decide +kernel,rfl,by decide +kernel,by decide +kernel⟩
abbrev B4:Stmt:=top 27
theorem F0:FnScope ["book", "letters", "access", "ends", "marks", "row"] ["book", "letters", "access", "ends"] (Ad B4):=⟨rfl,rfl,rfl,by decide +kernel,rfl,by decide +kernel,by decide +kernel⟩
abbrev Cb:Stmt:=top 29
theorem Ci:FnScope ["letters", "access", "marks", "rooms", "room", "word", "ways"] ["letters", "access", "marks"] (Ad Cb):=⟨rfl,rfl,rfl,by decide +kernel,rfl,by decide +kernel,by decide +kernel⟩
abbrev Fe:Stmt:=top 30
theorem Kx:FnScope ["book", "letters", "access", "ends", "marks", "room_marks"] ["book", "letters", "access", "ends"] (Ad Fe):=⟨rfl,rfl,rfl,by decide +kernel,rfl,by decide +kernel,by decide +kernel⟩
abbrev Br:Stmt:=BH (top 35) 8
theorem Ky:FnScope ["self"] ["self"] (Ad Br):=⟨rfl,rfl,rfl,by decide +kernel,rfl,by decide +kernel,by decide +kernel⟩
abbrev DD:Stmt:=BH (top 19) 4
theorem R5:FnScope ["self"] ["self"] (Ad DD):=⟨rfl,rfl,rfl,by decide +kernel,rfl,by decide +kernel,by decide +kernel⟩
abbrev CG:Stmt:=top 31
theorem F1:FnScope ["heard", "answer", "house", "word", "told"] ["heard", "answer", "house"] (Ad CG):=⟨rfl,rfl,rfl,by decide +kernel,rfl,by decide +kernel,by decide +kernel⟩
abbrev C9:Stmt:=top 32
theorem Qp:FnScope ["book", "house"] ["book", "house"] (Ad C9):=⟨rfl,rfl,rfl,by decide +kernel,rfl,by decide +kernel,by decide +kernel⟩
abbrev Bs:Stmt:=BH (top 35) 9
theorem Kz:FnScope ["self"] ["self"] (Ad Bs):=⟨rfl,rfl,rfl,by decide +kernel,rfl,by decide +kernel,by decide +kernel⟩
abbrev Bc:Stmt:=BH (top 22) 9
theorem IS:FnScope ["self"] ["self"] (Ad Bc):=⟨rfl,rfl,rfl,by decide +kernel,rfl,by decide +kernel,by decide +kernel⟩
abbrev Ff:Stmt:=top 28
theorem Hl:FnScope ["book", "letters", "access", "ends", "marks", "known", "row"] ["book", "letters", "access", "ends"] (Ad Ff):=⟨rfl,rfl,rfl,by decide +kernel,rfl,by decide +kernel,by decide +kernel⟩
abbrev A2:Stmt:=BH (top 35) 5
theorem E6:FnScope ["self", "row"] ["self"] (Ad A2):=⟨rfl,rfl,rfl,by decide +kernel,rfl,by decide +kernel,by decide +kernel⟩
abbrev BJ:Stmt:=BH (top 22) 7
theorem Mo:FnScope ["self"] ["self"] (Ad BJ):=⟨rfl,rfl,rfl,by decide +kernel,rfl,by decide +kernel,by decide +kernel⟩
abbrev BU:Stmt:=BH (top 21) 3
theorem Qq:FnScope ["self"] ["self"] (Ad BU):=⟨rfl,rfl,rfl,by decide +kernel,rfl,by decide +kernel,by decide +kernel⟩
abbrev DE:Stmt:=BH (top 21) 0
theorem R6:FnScope ["self"] ["self"] (Ad DE):=⟨rfl,rfl,rfl,by decide +kernel,rfl,by decide +kernel,by decide +kernel⟩
abbrev Ej:Stmt:=BH (top 22) 0
theorem Ur:FnScope ["self", "letters", "most", "book", "ways", "ends"] ["self", "letters", "most", "book", "ways", "ends"] (Ad Ej):=⟨rfl,rfl,rfl,by decide +kernel,rfl,by decide +kernel,by decide +kernel⟩
abbrev Bt:Stmt:=BH (top 35) 6
theorem KA:FnScope ["self", "letters"] ["self", "letters"] (Ad Bt):=⟨rfl,rfl,rfl,by decide +kernel,rfl,by decide +kernel,by decide +kernel⟩
abbrev DF:Stmt:=BH (top 35) 0
theorem R7:FnScope ["self", "letters", "most"] ["self", "letters", "most"] (Ad DF):=⟨rfl,rfl,rfl,by decide +kernel,rfl,by decide +kernel,by decide +kernel⟩
abbrev F2:Stmt:=top 13
theorem Xm:FnScope ["number"] ["number"] (Ad F2):=⟨rfl,rfl,rfl,by decide +kernel,rfl,by decide +kernel,by decide +kernel⟩
abbrev DG:Stmt:=top 18
theorem R8:FnScope ["mark"] ["mark"] (Ad DG):=⟨rfl,rfl,rfl,by decide +kernel,rfl,by decide +kernel,by decide +kernel⟩
abbrev C0:Stmt:=BH (top 19) 1
theorem R9:FnScope ["self", "word", "mark"] ["self", "word", "mark"] (Ad C0):=⟨rfl,rfl,rfl,by decide +kernel,rfl,by decide +kernel,by decide +kernel⟩
abbrev Ew:Stmt:=BH (top 19) 2
theorem Vp:FnScope ["self", "word", "mark"] ["self", "word", "mark"] (Ad Ew):=⟨rfl,rfl,rfl,by decide +kernel,rfl,by decide +kernel,by decide +kernel⟩
abbrev Bu:Stmt:=BH (top 22) 1
theorem KB:FnScope ["self", "number"] ["self", "number"] (Ad Bu):=⟨rfl,rfl,rfl,by decide +kernel,rfl,by decide +kernel,by decide +kernel⟩
abbrev DH:Stmt:=BH (top 35) 1
theorem Sa:FnScope ["self", "mark"] ["self", "mark"] (Ad DH):=⟨rfl,rfl,rfl,by decide +kernel,rfl,by decide +kernel,by decide +kernel⟩
abbrev A3:Stmt:=BH (top 22) 3
theorem Ic:FnScope ["self", "word", "number"] ["self", "word", "number"] (Ad A3):=⟨rfl,rfl,rfl,by decide +kernel,rfl,by decide +kernel,by decide +kernel⟩
abbrev CH:Stmt:=BH (top 35) 2
theorem Of:FnScope ["self", "word", "mark"] ["self", "word", "mark"] (Ad CH):=⟨rfl,rfl,rfl,by decide +kernel,rfl,by decide +kernel,by decide +kernel⟩
abbrev B5:Stmt:=top 37
theorem Og:FnScope ["script", "k"] ["script", "k"] (Ad B5):=⟨rfl,rfl,rfl,by decide +kernel,rfl,by decide +kernel,by decide +kernel⟩
abbrev Cc:Stmt:=top 38
theorem At:FnScope ["script", "head", "letters", "rooms", "pair", "some", "slots", "k", "cell", "marks", "ways", "room", "row"] ["script"] (Ad Cc):=⟨rfl,rfl,rfl,by decide +kernel,rfl,by decide +kernel,by decide +kernel⟩
abbrev Ck:Stmt:=top 39
theorem Fp:FnScope ["house", "word", "room", "letter"] ["house", "word"] (Ad Ck):=⟨rfl,rfl,rfl,by decide +kernel,rfl,by decide +kernel,by decide +kernel⟩
abbrev CI:Stmt:=top 41
theorem DI:FnScope ["house", "row", "turn", "room", "ahead"] ["house"] (Ad CI):=⟨rfl,rfl,rfl,by decide +kernel,rfl,by decide +kernel,by decide +kernel⟩
abbrev CJ:Stmt:=top 42
theorem CW:FnScope ["house", "rooms", "names", "turn", "lines"] ["house"] (Ad CJ):=⟨rfl,rfl,rfl,by decide +kernel,rfl,by decide +kernel,by decide +kernel⟩
abbrev CK:Stmt:=top 43
theorem IT:FnScope ["found", "size", "one"] ["found", "size"] (Ad CK):=⟨rfl,rfl,rfl,by decide +kernel,rfl,by decide +kernel,by decide +kernel⟩
abbrev DJ:Stmt:=top 44
theorem Hm:FnScope ["found", "letters", "most", "rooms", "row"] ["found", "letters", "most"] (Ad DJ):=⟨rfl,rfl,rfl,by decide +kernel,rfl,by decide +kernel,by decide +kernel⟩
abbrev Bv:Stmt:=top 40
theorem A4:FnScope ["house", "other", "seen", "row", "at", "pair", "letter", "ahead"] ["house", "other"] (Ad Bv):=⟨rfl,rfl,rfl,by decide +kernel,rfl,by decide +kernel,by decide +kernel⟩
abbrev BK:Stmt:=top 45
theorem Ba:FnScope ["house", "shown", "cell", "first", "rest", "size", "word", "k"] ["house", "shown", "cell"] (Ad BK):=⟨rfl,rfl,rfl,by decide +kernel,rfl,by decide +kernel,by decide +kernel⟩
abbrev BL:Stmt:=top 46
theorem Mp:FnScope ["m", "letters"] ["m", "letters"] (Ad BL):=⟨rfl,rfl,rfl,by decide +kernel,rfl,by decide +kernel,by decide +kernel⟩
abbrev Sb:Stmt:=top 47
theorem F3:FnScope ["script", "house", "letters", "n", "most", "m", "asker", "asks", "shows", "turn", "want", "word", "fits"] ["script"] (Ad Sb):=⟨rfl,rfl,rfl,by decide +kernel,rfl,by decide +kernel,by decide +kernel⟩
def Oh:Caps:=[("letter",none),("letters",some 0)]
theorem Qr:(Caps.names Oh).Nodup:=by decide +kernel
def Nk:Caps:=[("end",none),("book",some 0),("word",some 1)]
theorem Oi:(Caps.names Nk).Nodup:=by decide +kernel
def G0:Caps:=[("letter",none),("rooms",some 3),("marks",some 2),("word",some 5)]
theorem J5:(Caps.names G0).Nodup:=by decide +kernel
def Nl:Caps:=[("word",none),("book",some 0)]
theorem Oj:(Caps.names Nl).Nodup:=by decide +kernel
def Nm:Caps:=[("word",none),("marks",some 4)]
theorem Ol:(Caps.names Nm).Nodup:=by decide +kernel
def G1:Caps:=[("k",none)]
theorem J6:(Caps.names G1).Nodup:=by decide +kernel
def G2:Caps:=[("k",none),("some",some 5),("slots",some 6)]
theorem J7:(Caps.names G2).Nodup:=by decide +kernel
def G3:Caps:=[("slot",none),("rooms",some 3)]
theorem J8:(Caps.names G3).Nodup:=by decide +kernel
def HS:Caps:=[("room",none),("names",some 2),("house",some 0)]
theorem KC:(Caps.names HS).Nodup:=by decide +kernel
def HV:Caps:=[("ahead",none),("names",some 1)]
theorem KD:(Caps.names HV).Nodup:=by decide +kernel
def HW:Caps:=[("line",none),("lines",some 4)]
theorem KG:(Caps.names HW).Nodup:=by decide +kernel
def HX:Caps:=[("room",none),("names",some 2)]
theorem KH:(Caps.names HX).Nodup:=by decide +kernel
structure Txt (mg:Str->Option Value):Prop where
 all:mg "all" = none
 bool:mg "bool" = none
 enumerate:mg "enumerate" = none
 int:mg "int" = none
 isinstance:mg "isinstance" = none
 len:mg "len" = none
 list:mg "list" = none
 max:mg "max" = none
 min:mg "min" = none
 range:mg "range" = none
 set:mg "set" = none
 tuple:mg "tuple" = none
structure Own (K:PySem.W.Frag)(mg:Str->Option Value)(C_Book C_Turns C_Hunt C_Asker:Addr):Prop where
 m_Book:mg "Book" = some (.ref C_Book)
 cl_Book:Cls K C_Book
 n_Book_letters:Es K C_Book "letters"
 n_Book_marks:Es K C_Book "marks"
 m_Turns:mg "Turns" = some (.ref C_Turns)
 m_Hunt:mg "Hunt" = some (.ref C_Hunt)
 m_Asker:mg "Asker" = some (.ref C_Asker)
 cl_Asker:Cls K C_Asker
 n_Asker_wish:Es K C_Asker "wish"
 n_Asker_letters:Es K C_Asker "letters"
 n_Asker_most:Es K C_Asker "most"
 n_Asker_book:Es K C_Asker "book"
 n_Asker_ways:Es K C_Asker "ways"
 n_Asker_ends:Es K C_Asker "ends"
 n_Asker_gaps:Es K C_Asker "gaps"
 n_Asker_guess:Es K C_Asker "guess"
 n_Asker_wrong:Es K C_Asker "wrong"
 q_MOST_MARK:∃ t,mg "MOST_MARK" = some (.int 1000000000 t)
structure Exs (K:PySem.W.Frag)(mg:Str->Option Value)(C_AskError C_BadWord C_BadMark C_OutOfTurn C_NoDifference C_Contradiction:Addr):Prop where
 m_AskError:mg "AskError" = some (.ref C_AskError)
 m_BadWord:mg "BadWord" = some (.ref C_BadWord)
 m_BadMark:mg "BadMark" = some (.ref C_BadMark)
 m_OutOfTurn:mg "OutOfTurn" = some (.ref C_OutOfTurn)
 m_NoDifference:mg "NoDifference" = some (.ref C_NoDifference)
 m_Contradiction:mg "Contradiction" = some (.ref C_Contradiction)
 x_BadWord:PySem.W.excIn K C_BadWord bmV "ValueError.__new__" = true
 c_BadWord:ExcCls K C_BadWord
 e_BadWord:PySem.W.exmOne K (.ref C_BadWord) (.ref C_AskError)=some true
 v_BadWord:PySem.W.kitOne K (.ref C_BadWord) (.type "ValueError")=some true
 ee_BadWord:PySem.W.exmOne K (.ref C_BadWord) (.ref C_BadWord)=some true
 k_BadWord_AskError:PySem.W.kitOne K (.ref C_BadWord) (.ref C_AskError)=some true
 k_BadWord_BadWord:PySem.W.kitOne K (.ref C_BadWord) (.ref C_BadWord)=some true
 k_BadWord_BadMark:PySem.W.kitOne K (.ref C_BadWord) (.ref C_BadMark)=some false
 k_BadWord_OutOfTurn:PySem.W.kitOne K (.ref C_BadWord) (.ref C_OutOfTurn)=some false
 k_BadWord_NoDifference:PySem.W.kitOne K (.ref C_BadWord) (.ref C_NoDifference)=some false
 k_BadWord_Contradiction:PySem.W.kitOne K (.ref C_BadWord) (.ref C_Contradiction)=some false
 x_BadMark:PySem.W.excIn K C_BadMark bmV "ValueError.__new__" = true
 c_BadMark:ExcCls K C_BadMark
 e_BadMark:PySem.W.exmOne K (.ref C_BadMark) (.ref C_AskError)=some true
 v_BadMark:PySem.W.kitOne K (.ref C_BadMark) (.type "ValueError")=some true
 ee_BadMark:PySem.W.exmOne K (.ref C_BadMark) (.ref C_BadMark)=some true
 k_BadMark_AskError:PySem.W.kitOne K (.ref C_BadMark) (.ref C_AskError)=some true
 k_BadMark_BadWord:PySem.W.kitOne K (.ref C_BadMark) (.ref C_BadWord)=some false
 k_BadMark_BadMark:PySem.W.kitOne K (.ref C_BadMark) (.ref C_BadMark)=some true
 k_BadMark_OutOfTurn:PySem.W.kitOne K (.ref C_BadMark) (.ref C_OutOfTurn)=some false
 k_BadMark_NoDifference:PySem.W.kitOne K (.ref C_BadMark) (.ref C_NoDifference)=some false
 k_BadMark_Contradiction:PySem.W.kitOne K (.ref C_BadMark) (.ref C_Contradiction)=some false
 x_OutOfTurn:PySem.W.excIn K C_OutOfTurn bmV "ValueError.__new__" = true
 c_OutOfTurn:ExcCls K C_OutOfTurn
 e_OutOfTurn:PySem.W.exmOne K (.ref C_OutOfTurn) (.ref C_AskError)=some true
 v_OutOfTurn:PySem.W.kitOne K (.ref C_OutOfTurn) (.type "ValueError")=some true
 ee_OutOfTurn:PySem.W.exmOne K (.ref C_OutOfTurn) (.ref C_OutOfTurn)=some true
 k_OutOfTurn_AskError:PySem.W.kitOne K (.ref C_OutOfTurn) (.ref C_AskError)=some true
 k_OutOfTurn_BadWord:PySem.W.kitOne K (.ref C_OutOfTurn) (.ref C_BadWord)=some false
 k_OutOfTurn_BadMark:PySem.W.kitOne K (.ref C_OutOfTurn) (.ref C_BadMark)=some false
 k_OutOfTurn_OutOfTurn:PySem.W.kitOne K (.ref C_OutOfTurn) (.ref C_OutOfTurn)=some true
 k_OutOfTurn_NoDifference:PySem.W.kitOne K (.ref C_OutOfTurn) (.ref C_NoDifference)=some false
 k_OutOfTurn_Contradiction:PySem.W.kitOne K (.ref C_OutOfTurn) (.ref C_Contradiction)=some false
 x_NoDifference:PySem.W.excIn K C_NoDifference bmV "ValueError.__new__" = true
 c_NoDifference:ExcCls K C_NoDifference
 e_NoDifference:PySem.W.exmOne K (.ref C_NoDifference) (.ref C_AskError)=some true
 v_NoDifference:PySem.W.kitOne K (.ref C_NoDifference) (.type "ValueError")=some true
 ee_NoDifference:PySem.W.exmOne K (.ref C_NoDifference) (.ref C_NoDifference)=some true
 k_NoDifference_AskError:PySem.W.kitOne K (.ref C_NoDifference) (.ref C_AskError)=some true
 k_NoDifference_BadWord:PySem.W.kitOne K (.ref C_NoDifference) (.ref C_BadWord)=some false
 k_NoDifference_BadMark:PySem.W.kitOne K (.ref C_NoDifference) (.ref C_BadMark)=some false
 k_NoDifference_OutOfTurn:PySem.W.kitOne K (.ref C_NoDifference) (.ref C_OutOfTurn)=some false
 k_NoDifference_NoDifference:PySem.W.kitOne K (.ref C_NoDifference) (.ref C_NoDifference)=some true
 k_NoDifference_Contradiction:PySem.W.kitOne K (.ref C_NoDifference) (.ref C_Contradiction)=some false
 x_Contradiction:PySem.W.excIn K C_Contradiction bmV "ValueError.__new__" = true
 c_Contradiction:ExcCls K C_Contradiction
 e_Contradiction:PySem.W.exmOne K (.ref C_Contradiction) (.ref C_AskError)=some true
 v_Contradiction:PySem.W.kitOne K (.ref C_Contradiction) (.type "ValueError")=some true
 ee_Contradiction:PySem.W.exmOne K (.ref C_Contradiction) (.ref C_Contradiction)=some true
 k_Contradiction_AskError:PySem.W.kitOne K (.ref C_Contradiction) (.ref C_AskError)=some true
 k_Contradiction_BadWord:PySem.W.kitOne K (.ref C_Contradiction) (.ref C_BadWord)=some false
 k_Contradiction_BadMark:PySem.W.kitOne K (.ref C_Contradiction) (.ref C_BadMark)=some false
 k_Contradiction_OutOfTurn:PySem.W.kitOne K (.ref C_Contradiction) (.ref C_OutOfTurn)=some false
 k_Contradiction_NoDifference:PySem.W.kitOne K (.ref C_Contradiction) (.ref C_NoDifference)=some false
 k_Contradiction_Contradiction:PySem.W.kitOne K (.ref C_Contradiction) (.ref C_Contradiction)=some true
section
variable {P:Program} {w:World} {K:PySem.W.Frag} {mg:Str->Option Value} {base:Heap}
variable {C_AskError C_BadWord C_BadMark C_OutOfTurn C_NoDifference C_Contradiction C_Book C_Turns C_Hunt C_Asker:Addr}
def Rz (K:PySem.W.Frag):Sp:=fun vs H Q _=>∃ (L:Int) (a:Addr) (ws:List Int),vs=[.int L,.ref a]/\SqT K H a (ws.map V.int)/\ws.length<=1000/\∀ H',Same H H'->Q (.bl (isW L ws)) H'
theorem Xn {f:Addr}{fd:FuncData}(F:Fun K "is_word" "is_word" FY f fd)(T:Txt mg)
  (W:Own K mg C_Book C_Turns C_Hunt C_Asker)
  (Z:Exs K mg C_AskError C_BadWord C_BadMark C_OutOfTurn C_NoDifference C_Contradiction)
  : FnOk P w K mg base CX0 1 f fd ["letters", "word"] (Rz K):=by
 refine F.ok Xl (fun vs H Q E h=>?_) (fun cdv A outer s H vs Q E hr h=>?_)
 ·obtain⟨L,a,ws,rfl,_⟩:=h;rfl
 ·obtain⟨L,a,ws,rfl,hw,hz,k⟩:=h
  have hl:=Ap
  refine⟨_,(Af (Au (AZ (ZH rfl) rfl T.all PyProof.Rows.boot_all (Aa (Gy rfl (HP rfl) (cp:=Oh) ⟨⟨rfl,rfl⟩,True.intro⟩ (N0 (pv 1)) (fun _ _ _ _=>(AK (i:=0) Qr rfl (Or.inl rfl))) (fun _ _ _ _=>HN) (fun _ _ _ _=>(Wg U6 X8 Ag (pv 0) (pv 1)))) Ae)))),?_⟩
  walk_at "rd"
  refine⟨⟨_,hw⟩,Wp (σ':=[some (.int L)]) (fun x=>match x with | .int n=>.bl (inW L n) | _=>.non) rfl hw (by rw[List.length_map];omega) (fun x hx R hR=>?_) (fun D hD=>?_)⟩
  ·obtain⟨n,_,rfl⟩:=LN hx
   walk_at "rd"
   by_cases h0:0<=n
   ·simp only[h0,if_true]
    simpa [inW,h0] using hR
   ·simp only[h0,if_false]
    simpa [inW,h0] using hR
  ·refine⟨D,rfl,ws.map (inW L),.inl (.inl ?_),?_⟩
   ·rw[Ac,List.map_map,List.map_map];rfl
   ·have:=k _ (Same.new hD (o:=.lst ((ws.map V.int).map fun x=>match x with | .int n=>.bl (inW L n) | _=>.non)))
    simpa [isW,List.all_map] using this
def Sc (K:PySem.W.Frag)(BW:Addr):Sp:=fun vs H Q E=>∃ (L:Int) (a:Addr) (ws:List Int),vs=[.int L,.ref a]/\SqT K H a (ws.map V.int)/\ws.length<=1000/\(isW L ws=true->∀ H',Same H H'->Q .non H')/\(isW L ws=false->∀ H',Same H H'->E (.ref BW) none H')
theorem Sd {f:Addr}{fd:FuncData}(F:Fun K "check_word" "check_word" CZ f fd)(T:Txt mg)
  (W:Own K mg C_Book C_Turns C_Hunt C_Asker)
  (Z:Exs K mg C_AskError C_BadWord C_BadMark C_OutOfTurn C_NoDifference C_Contradiction)
  {F4:Addr} {Mq:FuncData} (Om:FnOk P w K mg base CX0 1 F4 Mq ["letters", "word"] (Rz K)) (IU:Fun K "is_word" "is_word" FY F4 Mq) (On:Binds K Mq ["letters", "word"] []) (Oo:mg "is_word" = some (.ref F4))
  : FnOk P w K mg base (CXe P w) 2 f fd ["letters", "word"] (Sc K C_BadWord):=by
 refine F.okE R4 (fun vs H Q E h=>?_) (fun cdv A outer s H vs Q E hr h=>?_)
 ·obtain⟨L,a,ws,rfl,_⟩:=h;rfl
 ·obtain⟨L,a,ws,rfl,hw,hz,k,kE⟩:=h
  have hl:=Ap
  refine⟨_,(Af (DX (II (HM (AE Om (hr.mono (by decide)) rfl Oo IU.kp On .nil Bn (Aa (pv 0) (Aa (pv 1) Ae)))))
   (Af (LQ Z.m_BadWord Z.x_BadWord rfl rfl (Aa EG Ae)))
   Bq)),?_⟩
  walk_at "rd"
  refine⟨L,a,ws,rfl,hw,hz,fun H' s'=>?_⟩
  walk_at "rd"
  cases hv:isW L ws with
  | true =>
   simp only[Bool.not_true,Bool.false_eq_true,if_false]
   exact k hv H' s'
  | false =>
   simp only[Bool.not_false,if_true]
   exact⟨by omega,kE hv H' s'⟩
def RA:Sp:=fun vs H Q _=>∃ n:Int,vs=[.int n]/\Q (.bl (decide (0<=n)&&decide (n<=1000000000))) H
theorem Xo {f:Addr}{fd:FuncData}(F:Fun K "is_mark" "is_mark" F2 f fd)(T:Txt mg)
  (W:Own K mg C_Book C_Turns C_Hunt C_Asker)
  (Z:Exs K mg C_AskError C_BadWord C_BadMark C_OutOfTurn C_NoDifference C_Contradiction)
  : FnOk P w K mg base CX0 1 f fd ["number"] (RA):=by
 refine F.ok Xm (fun vs H Q E h=>?_) (fun cdv A outer s H vs Q E hr h=>?_)
 ·obtain⟨n,rfl,_⟩:=h;rfl
 ·obtain⟨n,rfl,k⟩:=h
  refine⟨_,(Af (Au (Wg U6 U6 Ag (pv 0) (Dy_ rfl W.q_MOST_MARK)))),?_⟩
  walk_at "rd"
  by_cases h0:0<=n
  ·simp only[h0,if_true]
   simpa [h0] using k
  ·simp only[h0,if_false]
   simpa [h0] using k
def Kj (BM:Addr):Sp:=fun vs H Q E=>∃ n:Int,vs=[.int n]/\(0<=n->n<=1000000000->Q .non H)/\(¬ (0<=n/\n<=1000000000)->E (.ref BM) none H)
theorem Se {f:Addr}{fd:FuncData}(F:Fun K "check_mark" "check_mark" DG f fd)(T:Txt mg)
  (W:Own K mg C_Book C_Turns C_Hunt C_Asker)
  (Z:Exs K mg C_AskError C_BadWord C_BadMark C_OutOfTurn C_NoDifference C_Contradiction)
  {F5:Addr} {Mr:FuncData} (Op:FnOk P w K mg base CX0 1 F5 Mr ["number"] (RA)) (IV:Fun K "is_mark" "is_mark" F2 F5 Mr) (Oq:Binds K Mr ["number"] []) (Os:mg "is_mark" = some (.ref F5))
  : FnOk P w K mg base (CXe P w) 2 f fd ["mark"] (Kj C_BadMark):=by
 refine F.okE R8 (fun vs H Q E h=>?_) (fun cdv A outer s H vs Q E hr h=>?_)
 ·obtain⟨n,rfl,_⟩:=h;rfl
 ·obtain⟨n,rfl,k,kE⟩:=h
  refine⟨_,(Af (DX (II (HM (AE Op (hr.mono (by decide)) rfl Os IV.kp Oq .nil Bn (Aa (pv 0) Ae))))
   (Af (LQ Z.m_BadMark Z.x_BadMark rfl rfl (Aa EG Ae)))
   Bq)),?_⟩
  walk_at "rd"
  refine⟨n,rfl,?_⟩
  walk_at "rd"
  by_cases h0:0<=n/\n<=1000000000
  ·rw[if_neg (by simp[h0.1,h0.2])]
   exact k h0.1 h0.2
  ·rw[if_pos (by simp only[Bool.not_eq_true',Bool.and_eq_false_iff,decide_eq_false_iff_not];omega)]
   exact⟨by have:=Ap;omega,kE h0⟩
def Sf (K:PySem.W.Frag)(BW:Addr):Sp:=fun vs H Q E=>∃ (h a:Addr) (L:Int) (marks:List Int) (ways:List (List Int)) (ws:List Int),vs=[.ref h,.ref a]/\GX K H h L marks ways/\Wf L marks ways/\SqT K H a (ws.map V.int)/\ws.length<=600/\(isW L ws=true->∀ p H',Same H H'->H p=none->H' p=some (.lst ((Nj ways ws).map V.int))->Q (.ref p) H')/\(isW L ws=false->∀ H',Same H H'->E (.ref BW) none H')
theorem ZX {f:Addr}{fd:FuncData}(F:Fun K "trail" "trail" IR f fd)(T:Txt mg)
  (W:Own K mg C_Book C_Turns C_Hunt C_Asker)
  (Z:Exs K mg C_AskError C_BadWord C_BadMark C_OutOfTurn C_NoDifference C_Contradiction)
  {BI:Addr} {Da:FuncData} (Ex:FnOk P w K mg base (CXe P w) 2 BI Da ["letters", "word"] (Sc K C_BadWord)) (C1:Fun K "check_word" "check_word" CZ BI Da) (Ey:Binds K Da ["letters", "word"] []) (Ez:mg "check_word" = some (.ref BI))
  : FnOk P w K mg base (CXe P w) 3 f fd ["house", "word"] (Sf K C_BadWord):=by
 refine F.okE NU (fun vs H Q E h=>?_) (fun cdv A outer s H vs Q E hr h=>?_)
 ·obtain⟨h,a,L,marks,ways,ws,rfl,_⟩:=h;rfl
 ·obtain⟨h,a,L,marks,ways,ws,rfl,hh,wf,hw,hz,k,kE⟩:=h
  have hl:=Ap
  refine⟨_,(Ab (Bm (AE Ex (hr.mono (by decide)) rfl Ez C1.kp Ey .nil (LP fun _ _ _ h=>h) (Aa (AU AF (pv 0) Ag (fun _ _=>rfl)) (Aa (pv 1) Ae))))
   (PSs.nox (Ab (As (i:=2) NU.nd rfl (Or.inl rfl) (AU AF (pv 0) Ag (fun _ _=>rfl)))
   (Ab (As (i:=3) NU.nd rfl (Or.inl rfl) (IK (Aa Ag Ae)))
   (Ab (Dv PassesOwn.never rfl (N0 (pv 1)) (AK (i:=4) NU.nd rfl (Or.inl rfl))
   (Af (Bm (RP PySem.F.plainAttrs_list PySem.F.slot_list_append PySem.F.type_list_append FU (pv 3) (Aa (AU AF (AU AF (pv 2) (AU Fa (pv 3) (Cp_ Au_ Ag) (fun _ _=>rfl)) (fun _ _=>rfl)) (pv 4) (fun _ _=>rfl)) Ae)))))
   (Af (Au (pv 3)))))))),?_⟩
  walk_at "rd"
  obtain⟨m,wv,h1,h2,h3⟩:=hh
  refine⟨_,h1,_,rfl,L,a,ws,rfl,hw,by omega,fun hv H1 s1=>?_,kE⟩
  walk_at "rd"
  have hw1:=s1.seqT hw
  have h3':=h3.mono s1
  refine⟨_,s1.seqT h1,_,rfl,by omega,fun p hp=>?_⟩
  have s2:=Same.new hp (o:=.lst [V.int 0])
  refine⟨⟨_,s2.seqT hw1⟩,forT (xs:=ws.map V.int) (fun i σ2 H2=>Same H1 H2/\H2 p=some (.lst (((List.range (i+1)).map fun j=>Ak ways (ws.take j)).map V.int))/\∃ o,σ2=[some (.ref h),some (.ref a),some (.ref wv),some (.ref p),o]) ⟨s2,by rw[Ac];simp[Ak],none,rfl⟩ (fun i σ2 H2 _ h=>h.1.seqT hw1) (fun i x σ2 H2 hx h=>?_) (fun σ2 H2 h=>?_)⟩
  ·obtain⟨s3,hp3,o,rfl⟩:=h
   obtain⟨n,hn,rfl⟩:=JV hx
   have hi:=(List.getElem?_eq_some_iff.mp hn).1
   have hx:=Ao.mp hv n (List.mem_of_getElem? hn)
   have hwk:=wf.walk hv i
   obtain⟨row,g,r1,r2,r3,r4,r5⟩:=wf.step hwk.1 hwk.2 hx.1 hx.2
   obtain⟨xs,t,q1,q2,q3⟩:=(h3'.mono s3).atZ hwk.1 r1
   walk_at "rd"
   refine⟨.inl ⟨rfl,_,SqL.of hp3⟩,_,SqL.of hp3,_,YG (v:=V.int (Ak ways (ws.take i))) (by simp),?_⟩
   walk_at "rd"
   refine⟨_,q1,_,q2,?_⟩
   walk_at "rd"
   refine⟨_,q3,_,FV hx.1 r2,_,hp3,by simp;omega,s3.over hp,?_,_,rfl⟩
   rw[Ac,show List.range (i+1+1)=List.range (i+1) ++ [i+1] from List.range_succ,List.map_append,List.map_append,<- r3,<- JX hn]
   rfl
  ·obtain⟨s3,hp3,o,rfl⟩:=h
   walk_at "rd"
   rw[List.length_map] at hp3
   exact k hv p H2 (s1.trans s3) (s1.free hp) hp3
def Y0 (K:PySem.W.Frag)(BW:Addr):Sp:=fun vs H Q E=>∃ (h a:Addr) (L:Int) (marks:List Int) (ways:List (List Int)) (ws:List Int),vs=[.ref h,.ref a]/\GX K H h L marks ways/\Wf L marks ways/\SqT K H a (ws.map V.int)/\ws.length<=600/\(isW L ws=true->∀ H',Same H H'->Q (.int (Ak ways ws)) H')/\(isW L ws=false->∀ H',Same H H'->E (.ref BW) none H')
theorem Qs {f:Addr}{fd:FuncData}(F:Fun K "room_behind" "room_behind" C7 f fd)(T:Txt mg)
  (W:Own K mg C_Book C_Turns C_Hunt C_Asker)
  (Z:Exs K mg C_AskError C_BadWord C_BadMark C_OutOfTurn C_NoDifference C_Contradiction)
  {F6:Addr} {Hn:FuncData} (Ms:FnOk P w K mg base (CXe P w) 3 F6 Hn ["house", "word"] (Sf K C_BadWord)) (IW:Fun K "trail" "trail" IR F6 Hn) (Mt:Binds K Hn ["house", "word"] []) (Mu:mg "trail" = some (.ref F6))
  : FnOk P w K mg base (CXe P w) 4 f fd ["house", "word"] (Y0 K C_BadWord):=by
 refine F.okE Qn (fun vs H Q E h=>?_) (fun cdv A outer s H vs Q E hr h=>?_)
 ·obtain⟨h,a,L,marks,ways,ws,rfl,_⟩:=h;rfl
 ·obtain⟨h,a,L,marks,ways,ws,rfl,hh,wf,hw,hz,k,kE⟩:=h
  have hl:=Ap
  refine⟨_,(Af (Au (AU Fa (AE Ms (hr.mono (by decide)) rfl Mu IW.kp Mt .nil (LP fun _ _ _ h=>h) (Aa (pv 0) (Aa (pv 1) Ae))) (Cp_ Au_ Ag) (fun _ _=>rfl)))),?_⟩
  walk_at "rd"
  refine⟨h,a,L,marks,ways,ws,rfl,hh,wf,hw,hz,fun hv p H1 s1 _ hp=>?_,kE⟩
  walk_at "rd"
  refine⟨_,SqL.of hp,_,YG (v:=V.int (Ak ways ws)) ?_,k hv H1 s1⟩
  rw[List.getElem?_map,List.length_map,RW,show ws.length+1-1=ws.length by omega,Ve];rfl
def Bz (marks:List Int)(r:Int):Int:=marks.getD r.toNat 0
theorem ZY {marks:List Int}{r:Int}(h0:0<=r)(h1:r<marks.length):atI (marks.map V.int) r=some (V.int (Bz marks r)):=by
 have hlt:r.toNat<marks.length:=by omega
 refine FV h0 ?_
 unfold Bz
 rw[List.getD_eq_getElem?_getD]
 simp[hlt]
def Sg (K:PySem.W.Frag)(BW:Addr):Sp:=fun vs H Q E=>∃ (h a:Addr) (L:Int) (marks:List Int) (ways:List (List Int)) (ws:List Int),vs=[.ref h,.ref a]/\GX K H h L marks ways/\Wf L marks ways/\SqT K H a (ws.map V.int)/\ws.length<=600/\(isW L ws=true->∀ H',Same H H'->Q (.int (Bz marks (Ak ways ws))) H')/\(isW L ws=false->∀ H',Same H H'->E (.ref BW) none H')
theorem Qt {f:Addr}{fd:FuncData}(F:Fun K "mark_behind" "mark_behind" BT f fd)(T:Txt mg)
  (W:Own K mg C_Book C_Turns C_Hunt C_Asker)
  (Z:Exs K mg C_AskError C_BadWord C_BadMark C_OutOfTurn C_NoDifference C_Contradiction)
  {Db:Addr} {Gz:FuncData} (Ho:FnOk P w K mg base (CXe P w) 4 Db Gz ["house", "word"] (Y0 K C_BadWord)) (EL:Fun K "room_behind" "room_behind" C7 Db Gz) (Hq:Binds K Gz ["house", "word"] []) (Hr:mg "room_behind" = some (.ref Db))
  : FnOk P w K mg base (CXe P w) 5 f fd ["house", "word"] (Sg K C_BadWord):=by
 refine F.okE Qo (fun vs H Q E h=>?_) (fun cdv A outer s H vs Q E hr h=>?_)
 ·obtain⟨h,a,L,marks,ways,ws,rfl,_⟩:=h;rfl
 ·obtain⟨h,a,L,marks,ways,ws,rfl,hh,wf,hw,hz,k,kE⟩:=h
  have hl:=Ap
  refine⟨_,(Af (Au (AU AF (AU AF (pv 0) Ag (fun _ _=>rfl)) (AE Ho (hr.mono (by decide)) rfl Hr EL.kp Hq .nil (LP fun _ _ _ h=>h) (Aa (pv 0) (Aa (pv 1) Ae))) (fun _ _=>rfl)))),?_⟩
  walk_at "rd"
  have hh':=hh
  obtain⟨m,wv,h1,h2,h3⟩:=hh
  refine⟨_,h1,_,rfl,?_⟩
  walk_at "rd"
  refine⟨h,a,L,marks,ways,ws,rfl,hh',wf,hw,hz,fun hv H1 s1=>?_,kE⟩
  walk_at "rd"
  have hwk:=wf.walk hv ws.length
  rw[List.take_length] at hwk
  exact⟨_,s1.seqT h2,_,ZY hwk.1 hwk.2,k hv H1 s1⟩
def Nn (C:Addr):Sp:=fun vs H Q _=>∃ (p dx:Addr) (L:Int),vs=[.ref p,.int L]/\H p=some (.ins C dx [])/\∀ (d:Addr) (H':Hp),H d=none->BookAt C H' p d L []->(∀ b o,H b=some o->b≠p->H' b=some o)->Q .non H'
theorem Us {f:Addr}{fd:FuncData}(F:Fun K "__init__" "Book.__init__" Ei f fd)(T:Txt mg)
  (W:Own K mg C_Book C_Turns C_Hunt C_Asker)
  (Z:Exs K mg C_AskError C_BadWord C_BadMark C_OutOfTurn C_NoDifference C_Contradiction)
  : FnOk P w K mg base CX0 1 f fd ["self", "letters"] (Nn C_Book):=by
 refine F.ok Up (fun vs H Q E h=>?_) (fun cdv A outer s H vs Q E hr h=>?_)
 ·obtain⟨p,dx,L,rfl,_⟩:=h;rfl
 ·obtain⟨p,dx,L,rfl,hp,k⟩:=h
  refine⟨_,(Ab (E5 (pv 0) (pv 1) rfl)
   (Af (E5 (pv 0) JU rfl))),?_⟩
  walk_at "rd"
  refine⟨_,_,_,hp,W.cl_Book,W.n_Book_letters,by decide,fun d hd=>?_⟩
  have hdp:d≠p:=fun z=>by rw[z,Ac] at hd;cases hd
  rw[Ah hdp] at hd
  refine⟨_,_,_,by rw[Ah (Ne.symm hdp)];exact Ac,W.cl_Book,W.n_Book_marks,by simp[putF],?_⟩
  refine k d _ hd ⟨⟨_,Ac⟩,by rw[Ah hdp];exact Ac,by simp⟩ fun b o hb hbp=>?_
  rw[Ah hbp,Ah (B7 hb hd),Ah hbp]
  exact hb
def GA (C BW BM:Addr):Sp:=fun vs H Q E=>∃ (p d t:Addr) (L m:Int) (w:List Int) (es:List (List Int×Int)),vs=[.ref p,.ref t,.int m]/\BookAt C H p d L es/\H t=some (.tup (w.map V.int))/\w.length<=900 /\
 (isW L w=false->∀ H',Same H H'->E (.ref BW) none H') /\
 (isW L w=true->¬ (0<=m/\m<=1000000000)->∀ H',Same H H'->E (.ref BM) none H') /\
 (isW L w=true->0<=m->m<=1000000000->∀ H',Same H H'->Q .non H')
theorem Sh {f:Addr}{fd:FuncData}(F:Fun K "check" "Book.check" C0 f fd)(T:Txt mg)
  (W:Own K mg C_Book C_Turns C_Hunt C_Asker)
  (Z:Exs K mg C_AskError C_BadWord C_BadMark C_OutOfTurn C_NoDifference C_Contradiction)
  {BI:Addr} {Da:FuncData} (Ex:FnOk P w K mg base (CXe P w) 2 BI Da ["letters", "word"] (Sc K C_BadWord)) (C1:Fun K "check_word" "check_word" CZ BI Da) (Ey:Binds K Da ["letters", "word"] []) (Ez:mg "check_word" = some (.ref BI))
  {DK:Addr} {Hs:FuncData} (IX:FnOk P w K mg base (CXe P w) 2 DK Hs ["mark"] (Kj C_BadMark)) (Fv:Fun K "check_mark" "check_mark" DG DK Hs) (IY:Binds K Hs ["mark"] []) (IZ:mg "check_mark" = some (.ref DK))
  : FnOk P w K mg base (CXe P w) 3 f fd ["self", "word", "mark"] (GA C_Book C_BadWord C_BadMark):=by
 refine F.okE R9 (fun vs H Q E h=>?_) (fun cdv A outer s H vs Q E hr h=>?_)
 ·obtain⟨p,d,t,L,m,wd,es,rfl,_⟩:=h;rfl
 ·obtain⟨p,d,t,L,m,wd,es,rfl,B,ht,hwl,kW,kM,k⟩:=h
  have hln:=Ap
  refine⟨_,(Ab (Bm (AE Ex (hr.mono (by decide)) rfl Ez C1.kp Ey .nil (LP fun _ _ _ h=>h) (Aa (Bb (pv 0) rfl) (Aa (pv 1) Ae))))
   (Af (Bm (AE IX (hr.mono (by decide)) rfl IZ Fv.kp IY .nil (LP fun _ _ _ h=>h) (Aa (pv 2) Ae))))),?_⟩
  obtain⟨⟨dx,hp⟩,hd,nd⟩:=id B
  walk_at "rd"
  refine⟨_,_,_,hp,W.cl_Book,W.n_Book_letters,_,R0 _ _,?_⟩
  refine⟨L,t,wd,rfl,SqT.of ht,by omega,fun hw H1 s1=>?_,fun hw H1 s1=>kW hw H1 s1⟩
  walk_at "rd"
  exact⟨m,rfl,fun h0 h1=>k hw h0 h1 _ s1,fun hm=>kM hw hm H1 s1⟩
def putE (es:List (List Int×Int))(v:List Int)(m:Int):List (List Int×Int):=if v∈es.map (·.1) then es else es ++ [(v,m)]
theorem Xp {es:List (List Int×Int)}{v:List Int}{m:Int}(nd:(es.map (·.1)).Nodup)(h:(v,m)∈es):putK (ents es) (wkey v) (.int m)=ents es:=by
 unfold putK
 rw[Hh,Gq nd h,if_pos (by simp)]
 unfold ents
 rw[List.map_map]
 refine List.map_congr_left fun e he=>?_
 show (if wkey e.1=wkey v then (wkey e.1,V.int m) else (wkey e.1,V.int e.2))=(wkey e.1,V.int e.2)
 split
 ·rename_i z
  have e1:e.1=v:=NT z
  have h1:=Gq nd (show (e.1,e.2)∈es from he)
  rw[e1,Gq nd h] at h1
  rw[Option.some.inj h1]
 ·rfl
def I0 (C BW BM CO:Addr):Sp:=fun vs H Q E=>∃ (p d t:Addr) (L m:Int) (w:List Int) (es:List (List Int×Int)),vs=[.ref p,.ref t,.int m]/\BookAt C H p d L es/\H t=some (.tup (w.map V.int))/\w.length<=900/\es.length<=100000 /\
 (isW L w=false->∀ H',Same H H'->E (.ref BW) none H') /\
 (isW L w=true->¬ (0<=m/\m<=1000000000)->∀ H',Same H H'->E (.ref BM) none H') /\
 (isW L w=true->0<=m->m<=1000000000->∀ n,(w,n)∈es->n≠m->∀ H',Same H H'->E (.ref CO) none H') /\
 (isW L w=true->0<=m->m<=1000000000->(∀ n,(w,n)∈es->n=m)->∀ H',BookAt C H' p d L (putE es w m)->(∀ b o,H b=some o->b≠d->H' b=some o)->Q .non H')
theorem Vq {f:Addr}{fd:FuncData}(F:Fun K "put" "Book.put" Ew f fd)(T:Txt mg)
  (W:Own K mg C_Book C_Turns C_Hunt C_Asker)
  (Z:Exs K mg C_AskError C_BadWord C_BadMark C_OutOfTurn C_NoDifference C_Contradiction)
  {Bp:Addr} {Dc:FuncData} (EA:FnOk P w K mg base (CXe P w) 3 Bp Dc ["self", "word", "mark"] (GA C_Book C_BadWord C_BadMark)) (EB:Fun K "check" "Book.check" C0 Bp Dc) (EC:Binds K Dc ["self", "word", "mark"] []) (ED:Meth K C_Book "check" Bp)
  : FnOk P w K mg base (CXe P w) 4 f fd ["self", "word", "mark"] (I0 C_Book C_BadWord C_BadMark C_Contradiction):=by
 refine F.okE Vp (fun vs H Q E h=>?_) (fun cdv A outer s H vs Q E hr h=>?_)
 ·obtain⟨p,d,t,L,m,w,es,rfl,_⟩:=h;rfl
 ·obtain⟨p,d,t,L,m,wd,es,rfl,B,ht,hwl,hl,kW,kM,kC,k⟩:=h
  have hln:=Ap
  refine⟨_,(Ab (Bm (C4 (pv 0) W.cl_Book ED EA (hr.mono (by decide)) EC .nil (LP fun _ _ _ h=>h) (Aa (pv 1) (Aa (pv 2) Ae))))
   (Ab (DX (A0 Ql (ZE (Hg hr) (Bb (pv 0) rfl) (pv 1) (pv 2) ⟨by rfl,by rfl,by rfl,by rfl⟩) (pv 2) (Bl _))
   (Af (LQ Z.m_Contradiction Z.x_Contradiction rfl rfl (Aa EG Ae)))
   Bq)
   (Af (IM (Hg hr) (Bb (pv 0) rfl) (pv 1) (pv 2) rfl)))),?_⟩
  obtain⟨⟨dx,hp⟩,hd,nd⟩:=id B
  walk_at "rd"
  refine⟨_,_,hp,Fn _ _ (by decide +kernel) (by decide +kernel),p,d,t,L,m,wd,es,rfl,B,ht,hwl,fun hw H1 s1=>kW hw H1 s1,fun hw hm H1 s1=>kM hw hm H1 s1,fun hw h0 h1 H1 s1=>?_⟩
  have hp1:=s1 _ _ hp
  have hd1:=s1 _ _ hd
  have ht1:H1 t=some (.tup ((wkey wd).map kV)):=by rw[DY];exact s1 _ _ ht
  have hel:(ents es).length=es.length:=by unfold ents;rw[List.length_map]
  have hpd:p≠d:=fun z=>by rw[z,hd1] at hp1;cases hp1
  have hg:=DGet.t hd1 ht1
  walk_at "rd"
  by_cases hn:wd∈es.map (·.1)
  ·obtain⟨e,he,rfl⟩:=List.mem_map.mp hn
   have hv:=Gq nd (show (e.1,e.2)∈es from he)
   rw[hv] at hg
   refine⟨_,_,_,hp1,W.cl_Book,W.n_Book_marks,_,Fc _ _,d,rfl,.inr ⟨_,.inl hd1⟩,_,hg,rfl,?_⟩
   by_cases hm:e.2=m
   ·rw[if_neg (by simp[hm])]
    refine⟨_,_,_,hp1,W.cl_Book,W.n_Book_marks,_,Fc _ _,d,rfl,_,DPut.t hd1 ht1 (by omega),?_⟩
    rw[Xp nd (show (e.1,m)∈es from hm ▸ he)]
    refine k hw h0 h1 (fun n hn'=>?_) _ ⟨⟨dx,by rw[Ah hpd];exact hp1⟩,by unfold putE;rw[if_pos hn];exact Ac,by unfold putE;rw[if_pos hn];exact nd⟩ fun b o hb hbd=>by rw[Ah hbd];exact s1 _ _ hb
    have h2:=Gq nd hn'
    rw[hv] at h2
    have h3:=Option.some.inj h2
    simp at h3
    omega
   ·rw[if_pos (by simp[hm])]
    exact⟨by omega,kC hw h0 h1 e.2 he hm H1 s1⟩
  ·rw[Oc hn] at hg
   refine⟨_,_,_,hp1,W.cl_Book,W.n_Book_marks,_,Fc _ _,d,rfl,.inr ⟨_,.inl hd1⟩,_,hg,rfl,?_⟩
   rw[if_neg (by simp)]
   refine⟨_,_,_,hp1,W.cl_Book,W.n_Book_marks,_,Fc _ _,d,rfl,_,DPut.t hd1 ht1 (by omega),?_⟩
   rw[WB hn]
   refine k hw h0 h1 (fun n hn'=>absurd (List.mem_map.mpr ⟨_,hn',rfl⟩) hn) _ ⟨⟨dx,by rw[Ah hpd];exact hp1⟩,by unfold putE;rw[if_neg hn];exact Ac,?_⟩ fun b o hb hbd=>by rw[Ah hbd];exact s1 _ _ hb
   unfold putE
   rw[if_neg hn,List.map_append,List.nodup_append]
   refine⟨nd,by simp,fun a ha b hb z=>?_⟩
   rw[List.map_singleton,List.mem_singleton] at hb
   exact hn (by have e:a=wd:=z.trans hb;rw[<- e];exact ha)
def Fw (C:Addr):Sp:=fun vs H Q _=>∃ (p d t:Addr) (L:Int) (w:List Int) (es:List (List Int×Int)),vs=[.ref p,.ref t]/\BookAt C H p d L es/\H t=some (.tup (w.map V.int))/\(w∉es.map (·.1)->Q .non H)/\∀ m,(w,m)∈es->Q (.int m) H
theorem Ut {f:Addr}{fd:FuncData}(F:Fun K "told" "Book.told" CD f fd)(T:Txt mg)
  (W:Own K mg C_Book C_Turns C_Hunt C_Asker)
  (Z:Exs K mg C_AskError C_BadWord C_BadMark C_OutOfTurn C_NoDifference C_Contradiction)
  : FnOk P w K mg base CX0 1 f fd ["self", "word"] (Fw C_Book):=by
 refine F.ok Uq (fun vs H Q E h=>?_) (fun cdv A outer s H vs Q E hr h=>?_)
 ·obtain⟨p,d,t,L,wd,es,rfl,_⟩:=h;rfl
 ·obtain⟨p,d,t,L,wd,es,rfl,B,ht,kn,ks⟩:=h
  refine⟨_,(Af (Au (Wl (Hg hr) (Bb (pv 0) rfl) (pv 1) ⟨by rfl,by rfl,by rfl,by rfl⟩))),?_⟩
  obtain⟨⟨dx,hp⟩,hd,nd⟩:=id B
  have ht1:H t=some (.tup ((wkey wd).map kV)):=by rw[DY];exact ht
  walk_at "rd"
  refine⟨_,_,_,hp,W.cl_Book,W.n_Book_marks,_,Fc _ _,d,rfl,.inr ⟨_,.inl hd⟩,_,DGet.t hd ht1,?_⟩
  by_cases hm:wd∈es.map (·.1)
  ·obtain⟨e,he,rfl⟩:=List.mem_map.mp hm
   rw[Gq nd (show (e.1,e.2)∈es from he)]
   exact ks e.2 he
  ·rw[Oc hm]
   exact kn hm
def Y1 (H:Hp)(rs:List V)(es:List (List Int×Int)):Prop:=rs.length=es.length/\∀ (i:Nat) (tr:List Int×Int),es[i]?=some tr->∃ t b,rs[i]?=some (V.ref t)/\H t=some (.tup [.ref b,.int tr.2])/\H b=some (.tup (tr.1.map V.int))
def LU (K:PySem.W.Frag)(C:Addr):Sp:=fun vs H Q _=>∃ (p d:Addr) (L:Int) (es:List (List Int×Int)),vs=[.ref p]/\BookAt C H p d L es/\∀ l rs H',Same H H'->H l=none->H' l=some (.lst rs)->Y1 H' rs es->Q (.ref l) H'
theorem Si {f:Addr}{fd:FuncData}(F:Fun K "heard" "Book.heard" DD f fd)(T:Txt mg)
  (W:Own K mg C_Book C_Turns C_Hunt C_Asker)
  (Z:Exs K mg C_AskError C_BadWord C_BadMark C_OutOfTurn C_NoDifference C_Contradiction)
  : FnOk P w K mg base CX0 1 f fd ["self"] (LU K C_Book):=by
 refine F.ok R5 (fun vs H Q E h=>?_) (fun cdv A outer s H vs Q E hr h=>?_)
 ·obtain⟨p,d,L,es,rfl,_⟩:=h;rfl
 ·obtain⟨p,d,L,es,rfl,B,k⟩:=h
  refine⟨_,(Af (Au (Ca (Ob rfl) rfl T.list PyProof.Rows.boot_list (Aa (ZV (Bb (pv 0) rfl)) Ae)))),?_⟩
  obtain⟨⟨dx,hp⟩,hd,nd⟩:=id B
  walk_at "rd"
  refine⟨_,_,_,hp,W.cl_Book,W.n_Book_marks,_,Fc _ _,d,rfl,_,.inl hd,fun v hv=>?_⟩
  have sv:=Same.new (o:=Vi v d) hv
  refine⟨d,Ac,_,.inl (sv _ _ hd),fun l rs H2 s2 hl2 hlen hr=>?_⟩
  have s3:=sv.trans (s2.newT (o:=.lst rs) hl2)
  refine k l rs _ s3 (Same.none (sv.trans s2) hl2) Ac ⟨by rw[hlen];unfold ents;rw[List.length_map],fun i tr hi=>?_⟩
  obtain⟨t,e1,b,e2,e3⟩:=hr i (wkey tr.1) (.int tr.2) (by unfold ents;rw[List.getElem?_map,hi];rfl)
  rw[DY] at e3
  exact⟨t,b,e1,(Same.new hl2) _ _ e2,(s2.newT hl2) _ _ e3⟩
def Ot (K:PySem.W.Frag):Sp:=fun vs H Q _=>∃ (L:Nat) (a:Addr) (xs:List V) (acc:List (List Int)),vs=[.int L,.ref a]/\L<=6/\SqL K H a xs/\AG K H xs acc/\acc.length<=100/\(∀ w∈acc,w.length<=100)/\∀ l rs H',Same H H'->H l=none->H' l=some (.lst rs)->AG K H' rs (Bo L acc)->Q (.ref l) H'
theorem Xq {f:Addr}{fd:FuncData}(F:Fun K "rows_of" "rows_of" Fu f fd)(T:Txt mg)
  (W:Own K mg C_Book C_Turns C_Hunt C_Asker)
  (Z:Exs K mg C_AskError C_BadWord C_BadMark C_OutOfTurn C_NoDifference C_Contradiction)
  : FnOk P w K mg base CX0 1 f fd ["letters", "access"] (Ot K):=by
 refine F.ok GZ (fun vs H Q E h=>?_) (fun cdv A outer s H vs Q E hr h=>?_)
 ·obtain⟨L,a,xs,acc,rfl,_⟩:=h;rfl
 ·obtain⟨L,a,xs,acc,rfl,hL,ha,hw,hal,hwl,k⟩:=h
  have hl:=Ap
  refine⟨_,(Ab (As (i:=2) GZ.nd rfl (Or.inl rfl) JU)
   (Ab (Dv PassesOwn.never rfl (Ef (pv 1)) (AK (i:=3) GZ.nd rfl (Or.inl rfl))
   (Af (IM (Hg hr) (pv 2) (pv 3) LL rfl)))
   (Ab (Dv PassesOwn.never rfl (Ef (pv 1)) (AK (i:=3) GZ.nd rfl (Or.inl rfl))
   (Af (Dv PassesOwn.never rfl (DB rfl T.range (Aa (pv 0) Ae)) (AK (i:=4) GZ.nd rfl (Or.inl rfl))
   (Af (IM (Hg hr) (pv 2) (A9 JW (pv 3) (Et (Aa (pv 4) Ae))) LL rfl)))))
   (Af (Au (Ca (FW rfl) rfl T.list PyProof.Rows.boot_list (Aa (pv 2) Ae))))))),?_⟩
  walk_at "rd"
  intro p hp
  have sp:=Same.new (o:=.dT []) hp
  refine⟨⟨_,sp.seq ha⟩,?_⟩
  obtain⟨Pv,hPv⟩:∃ Pv:Nat->St->Hp->Prop,∀ i σ' H',Pv i σ' H'↔(∃ (kvs:List (List Key×V)) (o:Option V),Same H H'/\H' p=some (.dT kvs)/\FB ((acc.take i).foldl ins []) kvs/\σ'=[some (.int L),some (.ref a),some (.ref p),o,none]):=⟨_,fun _ _ _=>Iff.rfl⟩
  refine forL (xs:=xs) Pv ((hPv _ _ _).mpr ⟨[],none,sp,Ac,by rw[List.take_zero];exact FB.nil,rfl⟩) (fun i σ' H' _ h'=>by obtain⟨_,_,s',_⟩:=(hPv _ _ _).mp h';exact s'.seq ha) (fun i x σ' H' hx h'=>?_) (fun σ' H' h'=>?_)
  ·obtain⟨kvs,o,s',hd,hk,rfl⟩:=(hPv _ _ _).mp h'
   obtain⟨t,w,hwi,rfl,ht⟩:=hw.at hx
   have hlen:kvs.length<=100:=by
    have:=B8 (acc.take i) []
    rw[hk.len];simp at this ⊢;omega
   walk_at "rd"
   refine⟨_,DPut.t (k:=wkey w) hd (by rw[DY];exact s' _ _ ht) (by omega),(hPv _ _ _).mpr ⟨_,_,s'.over hp,Ac,?_,rfl⟩⟩
   rw[List.take_add_one,hwi,Option.toList_some,List.foldl_append]
   exact hk.put w _
  ·obtain⟨kvs,o,s',hd,hk,rfl⟩:=(hPv _ _ _).mp h'
   rw[hw.1,List.take_length] at hk
   walk_at "rd"
   refine⟨⟨_,s'.seq ha⟩,?_⟩
   obtain⟨Pw,hPw⟩:∃ Pv:Nat->St->Hp->Prop,∀ i σ' H',Pv i σ' H'↔(∃ (kvs:List (List Key×V)) (o o':Option V),Same H H'/\H' p=some (.dT kvs)/\FB (((acc.take i).flatMap (extW L)).foldl ins (acc.foldl ins [])) kvs/\σ'=[some (.int L),some (.ref a),some (.ref p),o,o']):=⟨_,fun _ _ _=>Iff.rfl⟩
   refine forL (xs:=xs) Pw ((hPw _ _ _).mpr ⟨kvs,_,_,s',hd,by rw[List.take_zero];exact hk,rfl⟩) (fun i σ' H' _ h'=>by obtain⟨_,_,_,s',_⟩:=(hPw _ _ _).mp h';exact s'.seq ha) (fun i x σ2 H2 hx h2=>?_) (fun σ2 H2 h2=>?_)
   ·obtain⟨kvs,o,o',s2,hd,hk,rfl⟩:=(hPw _ _ _).mp h2
    obtain⟨t,w,hwi,rfl,ht⟩:=hw.at hx
    have hwlen:=hwl w (List.mem_of_getElem? hwi)
    have ht2:=s2 _ _ ht
    walk_at "rd"
    refine⟨by omega,by omega,?_⟩
    rw[Int.toNat_natCast]
    obtain⟨Py,hPy⟩:∃ Pv:Nat->St->Hp->Prop,∀ j σ' H',Pv j σ' H'↔(∃ (kvs:List (List Key×V)) (o':Option V),Same H H'/\H' p=some (.dT kvs)/\FB (((List.range j).map fun x:Nat=>w ++ [(x:Int)]).foldl ins (((acc.take i).flatMap (extW L)).foldl ins (acc.foldl ins []))) kvs/\σ'=[some (.int L),some (.ref a),some (.ref p),some (.ref t),o']):=⟨_,fun _ _ _=>Iff.rfl⟩
    refine forR Py ((hPy _ _ _).mpr ⟨kvs,_,s2,hd,hk,rfl⟩) (fun j σ3 H3 hj h3=>?_) (fun σ3 H3 h3=>?_)
    ·obtain⟨kvs,o',s3,hd,hk,rfl⟩:=(hPy _ _ _).mp h3
     have ej:(0:Int)+(j:Nat)=(j:Int):=by omega
     rw[ej]
     have ht3:=s3 _ _ ht
     have hlen:kvs.length<=10000:=by
      have h1:=B8 ((List.range j).map fun x:Nat=>w ++ [(x:Int)]) (((acc.take i).flatMap (extW L)).foldl ins (acc.foldl ins []))
      have h2:=B8 ((acc.take i).flatMap (extW L)) (acc.foldl ins [])
      have h3:=B8 acc []
      have h4:((acc.take i).flatMap (extW L)).length<=600:=by
       rw[List.length_flatMap]
       have:(acc.take i).map (fun a=>(extW L a).length)=(acc.take i).map (fun _=>L):=List.map_congr_left fun a _=>by simp[extW]
       rw[this,List.map_const',List.sum_replicate_nat]
       have:(acc.take i).length<=100:=by rw[List.length_take];omega
       exact Nat.le_trans (Nat.mul_le_mul this hL) (by omega)
      rw[hk.len]
      simp at h1 h3
      omega
     walk_at "rd"
     refine⟨by omega,fun p1 hp1=>?_⟩
     refine IP.ofS (Same.new hp1 _ _ ht3) Ac (by simp;omega) fun q H4 s4 hq=>?_
     have s34:=(Same.new (o:=.tup [V.int (j:Int)]) hp1).trans s4
     have hq':H4 q=some (.tup ((wkey (w ++ [(j:Int)])).map kV)):=by rw[DY,hq];simp
     refine⟨_,DPut.t (k:=wkey (w ++ [(j:Int)])) (s34 _ _ hd) hq' (by omega),(hPy _ _ _).mpr ⟨_,_,(s3.trans s34).over hp,Ac,?_,rfl⟩⟩
     rw[List.range_succ,List.map_append,List.foldl_append]
     exact hk.put _ _
    ·obtain⟨kvs,o',s3,hd,hk,rfl⟩:=(hPy _ _ _).mp h3
     refine (hPw _ _ _).mpr ⟨kvs,_,_,s3,hd,?_,rfl⟩
     rw[List.take_add_one,hwi,Option.toList_some,List.flatMap_append,List.foldl_append]
     simpa [extW] using hk
   ·obtain⟨kvs,o,o',s2,hd,hk,rfl⟩:=(hPw _ _ _).mp h2
    rw[hw.1,List.take_length] at hk
    walk_at "rd"
    refine⟨kvs,.inl hd,fun l rs hln hrl hrs=>?_⟩
    exact k l rs _ (s2.newT hln) (Same.none s2 hln) Ac ((hk.words (K:=K) hrl hrs).mono (TK.new hln))
def WD (K:PySem.W.Frag):Sp:=fun vs H Q _=>∃ (L:Nat) (a e:Addr) (xs ys:List V) (acc ends:List (List Int)),vs=[.int L,.ref a,.ref e]/\L<=6/\SqL K H a xs/\AG K H xs acc/\acc.length<=100/\(∀ w∈acc,w.length<=100)/\SqL K H e ys/\AG K H ys ends/\ends.length<=100/\(∀ w∈ends,w.length<=500)/\∀ l rs H',Same H H'->H l=none->H' l=some (.lst rs)->AG K H' rs (FX (Bo L acc) ends)->Q (.ref l) H'
theorem Vr {L:Nat}{acc:List (List Int)}(hL:L<=6)(hal:acc.length<=100)(hwl:∀ w∈acc,w.length<=100):(Bo L acc).length<=700/\∀ w∈Bo L acc,w.length<=101:=by
 have mem:∀ (l s:List (List Int)) (w:List Int),w∈l.foldl ins s->w∈s\/w∈l:=by
  intro l
  induction l with
  | nil=>intro s w h;exact .inl h
  | cons v l ih =>
   intro s w h
   rw[List.foldl_cons] at h
   rcases ih _ _ h with h | h
   ·unfold ins at h
    split at h
    ·exact .inl h
    ·rcases List.mem_append.mp h with h | h
     ·exact .inl h
     ·rw[List.mem_singleton.mp h];exact .inr List.mem_cons_self
   ·exact .inr (List.mem_cons_of_mem _ h)
 refine⟨?_,fun w hw=>?_⟩
 ·have h2:=B8 (acc.flatMap (extW L)) (acc.foldl ins [])
  have h3:=B8 acc []
  have h4:(acc.flatMap (extW L)).length<=600:=by
   rw[List.length_flatMap]
   have:acc.map (fun a=>(extW L a).length)=acc.map (fun _=>L):=List.map_congr_left fun a _=>by simp[extW]
   rw[this,List.map_const',List.sum_replicate_nat]
   exact Nat.le_trans (Nat.mul_le_mul hal hL) (by omega)
  unfold Bo
  simp at h3
  omega
 ·unfold Bo at hw
  rcases mem _ _ _ hw with h | h
  ·rcases mem _ _ _ h with h | h
   ·simp at h
   ·have:=hwl w h;omega
  ·obtain⟨v,hv,h⟩:=List.mem_flatMap.mp h
   obtain⟨x,_,rfl⟩:=List.mem_map.mp h
   have:=hwl v hv
   simp;omega
theorem ZZ {f:Addr}{fd:FuncData}(F:Fun K "cells" "cells" Kw f fd)(T:Txt mg)
  (W:Own K mg C_Book C_Turns C_Hunt C_Asker)
  (Z:Exs K mg C_AskError C_BadWord C_BadMark C_OutOfTurn C_NoDifference C_Contradiction)
  {DL:Addr} {Fg:FuncData} (G4:FnOk P w K mg base CX0 1 DL Fg ["letters", "access"] (Ot K)) (Fx:Fun K "rows_of" "rows_of" Fu DL Fg) (G5:Binds K Fg ["letters", "access"] []) (G6:mg "rows_of" = some (.ref DL))
  : FnOk P w K mg base CX0 2 f fd ["letters", "access", "ends"] (WD K):=by
 refine F.ok NV (fun vs H Q E h=>?_) (fun cdv A outer s H vs Q E hr h=>?_)
 ·obtain⟨L,a,e,xs,ys,acc,ends,rfl,_⟩:=h;rfl
 ·obtain⟨L,a,e,xs,ys,acc,ends,rfl,hL,ha,hw,hal,hwl,he,hwe,hel,hewl,k⟩:=h
  have hl:=Ap
  obtain⟨hrl,hrw⟩:=Vr hL hal hwl
  refine⟨_,(Ab (As (i:=3) NV.nd rfl (Or.inl rfl) JU)
   (Ab (Dv PassesOwn.never rfl (Ef (AE G4 (hr.mono (by decide)) rfl G6 Fx.kp G5 .nil Bn (Aa (pv 0) (Aa (pv 1) Ae)))) (AK (i:=4) NV.nd rfl (Or.inl rfl))
   (Af (Dv PassesOwn.never rfl (Ef (pv 2)) (AK (i:=5) NV.nd rfl (Or.inl rfl))
   (Af (IM (Hg hr) (pv 3) (A9 JW (pv 4) (pv 5)) LL rfl)))))
   (Af (Au (Ca (FW rfl) rfl T.list PyProof.Rows.boot_list (Aa (pv 3) Ae)))))),?_⟩
  walk_at "rd"
  intro p hp
  have sp:=Same.new (o:=.dT []) hp
  refine⟨L,a,xs,acc,rfl,hL,sp.seq ha,hw.mono (TK.of sp),hal,hwl,fun r rs H1 s1 hrn hr hrs=>?_⟩
  generalize Bo L acc=rows at hrl hrw hrs k
  have s01:=sp.trans s1
  have hrH:H r=none:=Same.none sp hrn
  have hp1:=s1 _ _ (Ac (H:=H) (a:=p) (o:=.dT []))
  walk_at "rd"
  refine⟨⟨_,SqL.of hr⟩,?_⟩
  have hpr:r≠p:=(Ku hrn).2
  obtain⟨Pw,hPw⟩:∃ Pv:Nat->St->Hp->Prop,∀ i σ' H',Pv i σ' H'↔(∃ (kvs:List (List Key×V)) (o o':Option V),Same H H'/\H' r=some (.lst rs)/\AG K H' rs rows/\H' p=some (.dT kvs)/\FB (((rows.take i).flatMap fun r=>ends.map (r ++ ·)).foldl ins []) kvs/\σ'=[some (.int L),some (.ref a),some (.ref e),some (.ref p),o,o']):=⟨_,fun _ _ _=>Iff.rfl⟩
  refine forL (xs:=rs) Pw ((hPw _ _ _).mpr ⟨[],_,_,s01,hr,hrs,hp1,by rw[List.take_zero];exact FB.nil,rfl⟩) (fun i σ' H' _ h'=>by obtain⟨_,_,_,_,q,_⟩:=(hPw _ _ _).mp h';exact SqL.of q) (fun i x σ2 H2 hx h2=>?_) (fun σ2 H2 h2=>?_)
  ·obtain⟨kvs,o,o',s2,hr2,hrs2,hd,hk,rfl⟩:=(hPw _ _ _).mp h2
   obtain⟨t,w,hwi,rfl,ht⟩:=hrs2.at hx
   have hwlen:=hrw w (List.mem_of_getElem? hwi)
   walk_at "rd"
   refine⟨⟨_,s2.seq he⟩,?_⟩
   obtain⟨Py,hPy⟩:∃ Pv:Nat->St->Hp->Prop,∀ j σ' H',Pv j σ' H'↔(∃ (kvs:List (List Key×V)) (o':Option V),Same H H'/\H' r=some (.lst rs)/\AG K H' rs rows/\H' t=some (.tup (w.map V.int))/\H' p=some (.dT kvs)/\FB (((ends.take j).map (w ++ ·)).foldl ins (((rows.take i).flatMap fun r=>ends.map (r ++ ·)).foldl ins [])) kvs/\σ'=[some (.int L),some (.ref a),some (.ref e),some (.ref p),some (.ref t),o']):=⟨_,fun _ _ _=>Iff.rfl⟩
   refine forL (xs:=ys) Py ((hPy _ _ _).mpr ⟨kvs,_,s2,hr2,hrs2,ht,hd,by rw[List.take_zero];exact hk,rfl⟩) (fun j σ' H' _ h'=>by obtain⟨_,_,s',_⟩:=(hPy _ _ _).mp h';exact s'.seq he) (fun j y σ3 H3 hy h3=>?_) (fun σ3 H3 h3=>?_)
   ·obtain⟨kvs,o',s3,hr3,hrs3,ht3,hd,hk,rfl⟩:=(hPy _ _ _).mp h3
    obtain⟨u,v,hvi,rfl,hu⟩:=hwe.at hy
    have hvlen:=hewl v (List.mem_of_getElem? hvi)
    have hlen:kvs.length<=100000:=by
     have h1:=B8 ((ends.take j).map (w ++ ·)) (((rows.take i).flatMap fun r=>ends.map (r ++ ·)).foldl ins [])
     have h2:=B8 ((rows.take i).flatMap fun r=>ends.map (r ++ ·)) []
     have h4:((rows.take i).flatMap fun r=>ends.map (r ++ ·)).length<=70000:=by
      rw[List.length_flatMap]
      have:(rows.take i).map (fun a=>(ends.map (a ++ ·)).length)=(rows.take i).map (fun _=>ends.length):=List.map_congr_left fun a _=>by simp
      rw[this,List.map_const',List.sum_replicate_nat]
      have:(rows.take i).length<=700:=by rw[List.length_take];omega
      exact Nat.le_trans (Nat.mul_le_mul this hel) (by omega)
     rw[hk.len]
     rw[List.length_map,List.length_take] at h1
     rw[List.length_nil,Nat.zero_add] at h2
     omega
    walk_at "rd"
    refine IP.ofS ht3 (s3 _ _ hu) (by simp;omega) fun q H4 s4 hq=>?_
    have hq':H4 q=some (.tup ((wkey (w++v)).map kV)):=by rw[DY,hq];simp
    have hd4:=s4 _ _ hd
    have kD:TK H4 (upd H4 p (.dT (putK kvs (wkey (w++v)) (V.bl true)))):=TK.dT hd4
    refine⟨_,DPut.t (k:=wkey (w++v)) hd4 hq' (by omega),(hPy _ _ _).mpr ⟨_,_,(s3.trans s4).over hp,by rw[Ah hpr];exact s4 _ _ hr3,(hrs3.mono (TK.of s4)).mono kD,kD _ _ (s4 _ _ ht3),Ac,?_,rfl⟩⟩
    rw[List.take_add_one,hvi,Option.toList_some,List.map_append,List.foldl_append]
    exact hk.put _ _
   ·obtain⟨kvs,o',s3,hr3,hrs3,ht3,hd,hk,rfl⟩:=(hPy _ _ _).mp h3
    rw[hwe.1,List.take_length] at hk
    refine (hPw _ _ _).mpr ⟨kvs,_,_,s3,hr3,hrs3,hd,?_,rfl⟩
    rw[List.take_add_one,hwi,Option.toList_some,List.flatMap_append,List.foldl_append]
    simpa using hk
  ·obtain⟨kvs,o,o',s2,hr2,hrs2,hd,hk,rfl⟩:=(hPw _ _ _).mp h2
   rw[hrs.1,List.take_length] at hk
   walk_at "rd"
   refine⟨kvs,.inl hd,fun l rs' hln hrl' hrs'=>?_⟩
   exact k l rs' _ (s2.newT hln) (Same.none s2 hln) Ac ((hk.words (K:=K) hrl' hrs').mono (TK.new hln))
def mkO (es:List (List Int×Int))(w:List Int):Option Int:=(es.find? fun e=>decide (e.1=w)).map (·.2)
def oV:Option Int->V
 | some m=>.int m
 | none=>.non
theorem Gr:∀ {es:List (List Int×Int)} {w:List Int} {m:Int},(es.map (·.1)).Nodup->(w,m)∈es->mkO es w=some m
 | [],_,_,_,h=>by cases h
 | e::es,w,m,nd,h=>by
  rw[List.map_cons,List.nodup_cons] at nd
  unfold mkO
  rw[List.find?_cons]
  rcases List.mem_cons.mp h with h | h
  ·subst h
   simp
  ·have hne:e.1≠w:=fun z=>nd.1 (by rw[z];exact List.mem_map_of_mem (f:=(·.1)) h)
   rw[decide_eq_false hne]
   exact Gr nd.2 h
theorem LV {es:List (List Int×Int)}{w:List Int}(h:w∉es.map (·.1)):mkO es w=none:=by
 unfold mkO
 rw[List.find?_eq_none.mpr fun e he z=>h (by have:=of_decide_eq_true z;rw[<- this];exact List.mem_map_of_mem (f:=(·.1)) he)]
 rfl
def RB (K:PySem.W.Frag)(C:Addr):Sp:=fun vs H Q _=>∃ (p d t a:Addr) (L:Int) (w:List Int) (es:List (List Int×Int)) (xs:List V) (ends:List (List Int)),vs=[.ref p,.ref t,.ref a]/\BookAt C H p d L es/\H t=some (.tup (w.map V.int))/\w.length<=100/\SqL K H a xs/\AG K H xs ends/\ends.length<=100/\(∀ e∈ends,e.length<=500)/\∀ l H',Same H H'->H' l=some (.lst (ends.map fun e=>oV (mkO es (w++e))))->Q (.ref l) H'
theorem Vs {f:Addr}{fd:FuncData}(F:Fun K "marks_of" "marks_of" Fd f fd)(T:Txt mg)
  (W:Own K mg C_Book C_Turns C_Hunt C_Asker)
  (Z:Exs K mg C_AskError C_BadWord C_BadMark C_OutOfTurn C_NoDifference C_Contradiction)
  {AC:Addr} {A5:FuncData} (BN:FnOk P w K mg base CX0 1 AC A5 ["self", "word"] (Fw C_Book)) (CL:Fun K "told" "Book.told" CD AC A5) (BO:Binds K A5 ["self", "word"] []) (BP:Meth K C_Book "told" AC)
  : FnOk P w K mg base CX0 2 f fd ["book", "word", "ends"] (RB K C_Book):=by
 refine F.ok Vo (fun vs H Q E h=>?_) (fun cdv A outer s H vs Q E hr h=>?_)
 ·obtain⟨p,d,t,a,L,wd,es,xs,ends,rfl,_⟩:=h;rfl
 ·obtain⟨p,d,t,a,L,wd,es,xs,ends,rfl,B,ht,hwl,ha,hE,hel,hew,k⟩:=h
  have hl:=Ap
  refine⟨_,(Af (Au (Gy rfl (HP rfl) (cp:=Nk) ⟨⟨rfl,rfl⟩,⟨⟨rfl,rfl⟩,True.intro⟩⟩ (Ef (pv 2)) (fun _ _ _ _=>(AK (i:=0) Oi rfl (Or.inl rfl))) (fun _ _ _ _=>HN) (fun _ _ _ _=>(C4 (pv 1) W.cl_Book BP BN (hr.mono (by decide)) BO .nil Bn (Aa (A9 (Uj (K:=K) rfl) (pv 2) (pv 0)) Ae)))))),?_⟩
  walk_at "rd"
  obtain⟨⟨dx,hp⟩,hd,nd⟩:=id B
  refine⟨⟨_,ha⟩,Yz (xs:=xs) (fun i ys σ' H'=>Same H H'/\ys=(ends.take i).map (fun e=>oV (mkO es (wd++e)))/\∃ o,σ'=[o,some (.ref p),some (.ref t)]) ⟨Same.refl _,rfl,none,rfl⟩ (by rw[hE.1];omega) (fun i ys σ' H' hi h'=>⟨h'.1.seq ha,by rw[h'.2.1,List.length_map,List.length_take];omega⟩) (fun i x ys σ' H' hx h'=>?_) (fun ys σ' H' h' D hD=>?_)⟩
  ·obtain⟨s1,rfl,o,rfl⟩:=h'
   obtain⟨te,e,hei,rfl,hte⟩:=hE.at hx
   have hel':=hew e (List.mem_of_getElem? hei)
   have et:ends.take (i+1)=ends.take i ++ [e]:=by rw[List.take_add_one,hei];rfl
   walk_at "rd"
   refine⟨_,_,s1 _ _ hp,Fn _ _ (by decide +kernel) (by decide +kernel),IP.ofS (s1 _ _ ht) (s1 _ _ hte) (by simp;omega) fun q H2 s2 hq=>?_⟩
   have s12:=s1.trans s2
   refine⟨p,d,q,L,wd++e,es,rfl,B.mono s12,by rw[List.map_append];exact hq,fun hm=>⟨s12,?_,_,rfl⟩,fun m hm=>⟨s12,?_,_,rfl⟩⟩
   ·rw[et,List.map_append,List.map_singleton,LV hm];rfl
   ·rw[et,List.map_append,List.map_singleton,Gr nd hm];rfl
  ·obtain⟨s1,rfl,o,rfl⟩:=h'
   rw[hE.1,List.take_length]
   exact k D _ (s1.newT hD) Ac
def FI (H:Hp)(f:List Int->List V)(ks:List (List Int))(kvs:List (List Key×V)):Prop:=kvs.length=ks.length/\∀ (i:Nat) (w:List Int),ks[i]?=some w->∃ t,kvs[i]?=some (wkey w,.ref t)/\H t=some (.tup (f w))
theorem FI.nil {H:Hp}{f:List Int->List V}:FI H f [] []:=⟨rfl,fun i w h=>by simp at h⟩
theorem FI.mono {H H':Hp}{f:List Int->List V}{ks:List (List Int)}{kvs:List (List Key×V)}(h:FI H f ks kvs)(s:∀ t ys,H t=some (.tup ys)->H' t=some (.tup ys)):FI H' f ks kvs:=⟨h.1,fun i w hi=>by
 obtain⟨t,a,b⟩:=h.2 i w hi
 exact⟨t,a,s _ _ b⟩⟩
theorem FI.snoc {H:Hp}{f:List Int->List V}{ks:List (List Int)}{kvs:List (List Key×V)}{w:List Int}{t:Addr}(h:FI H f ks kvs)(ht:H t=some (.tup (f w))):FI H f (ks ++ [w]) (kvs ++ [(wkey w,.ref t)]):=by
 refine⟨by simp[h.1],fun i r hi=>?_⟩
 by_cases hl:i<ks.length
 ·rw[List.getElem?_append_left hl] at hi
  rw[List.getElem?_append_left (by rw[h.1];exact hl)]
  exact h.2 i r hi
 ·have:=(List.getElem?_eq_some_iff.mp hi).1
  rw[List.length_append,List.length_singleton] at this
  have e:i=ks.length:=by omega
  subst e
  rw[List.getElem?_append_right (Nat.le_refl _),Nat.sub_self] at hi
  simp at hi
  subst hi
  exact⟨t,by rw[<- h.1];simp,ht⟩
theorem FI.keys {H:Hp}{f:List Int->List V}{ks:List (List Int)}{kvs:List (List Key×V)}(h:FI H f ks kvs):FB ks kvs:=by
 refine List.ext_getElem? fun i=>?_
 rw[List.getElem?_map,List.getElem?_map]
 cases e:ks[i]? with
 | none =>
  have:kvs[i]?=none:=List.getElem?_eq_none (by rw[h.1];exact List.getElem?_eq_none_iff.mp e)
  rw[this];rfl
 | some w =>
  obtain⟨t,a,_⟩:=h.2 i w e
  rw[a];rfl
theorem Y2 {s:List (List Int)}{w:List Int}(h:s.Nodup):(ins s w).Nodup:=by
 unfold ins
 split
 ·exact h
 ·rename_i hw
  rw[List.nodup_append]
  refine⟨h,by simp,fun a ha b hb z=>?_⟩
  rw[List.mem_singleton.mp hb] at z
  exact hw (z ▸ ha)
theorem EE:∀ {l s:List (List Int)},s.Nodup->(l.foldl ins s).Nodup
 | [],_,h=>h
 | w::l,s,h=>by rw[List.foldl_cons];exact EE (Y2 h)
theorem Vt (n:Nat)(acc:List (List Int)):(Bo n acc).Nodup:=EE (EE List.nodup_nil)
theorem Y3 (n:Nat):∀ (acc:List (List Int)),(acc.flatMap (extW n)).length<=acc.length*n
 | []=>by simp
 | w::acc=>by
  rw[List.flatMap_cons,List.length_append,List.length_cons,Nat.succ_mul]
  have h1:=Y3 n acc
  have h2:(extW n w).length=n:=by unfold extW;simp
  omega
theorem Uu (n:Nat)(acc:List (List Int)):(Bo n acc).length<=acc.length+acc.length*n:=by
 unfold Bo
 have h1:=B8 (acc.flatMap (extW n)) (acc.foldl ins [])
 have h2:=B8 acc []
 have h3:=Y3 n acc
 simp at h2
 omega
theorem Z0 {s:List (List Int)}{w:List Int}{m:Nat}(h:∀ v∈s,v.length<=m)(hw:w.length<=m):∀ v∈ins s w,v.length<=m:=fun v hv=>by
 unfold ins at hv
 split at hv
 ·exact h v hv
 ·rcases List.mem_append.mp hv with hv | hv
  ·exact h v hv
  ·rw[List.mem_singleton.mp hv];exact hw
theorem KI {m:Nat}:∀ {l s:List (List Int)},(∀ v∈s,v.length<=m)->(∀ v∈l,v.length<=m)->∀ v∈l.foldl ins s,v.length<=m
 | [],_,h,_=>h
 | w::l,s,h,hl=>by rw[List.foldl_cons];exact KI (Z0 h (hl w (by simp))) (fun v hv=>hl v (by simp[hv]))
theorem Xr {n m:Nat}{acc:List (List Int)}(h:∀ w∈acc,w.length<=m):∀ w∈Bo n acc,w.length<=m+1:=by
 unfold Bo
 refine KI (KI (by simp) fun v hv=>by have:=h v hv;omega) fun v hv=>?_
 obtain⟨u,hu,hv⟩:=List.mem_flatMap.mp hv
 unfold extW at hv
 obtain⟨x,_,rfl⟩:=List.mem_map.mp hv
 have:=h u hu
 rw[List.length_append,List.length_singleton]
 omega
def Y4 (K:PySem.W.Frag)(C:Addr):Sp:=fun vs H Q _=>∃ (p d a b:Addr) (L:Int) (N:Nat) (es:List (List Int×Int)) (xs ys:List V) (acc ends:List (List Int)),vs=[.ref p,.int N,.ref a,.ref b]/\BookAt C H p d L es/\N<=6/\SqL K H a xs/\AG K H xs acc/\acc.length<=64/\(∀ w∈acc,w.length<=64)/\SqL K H b ys/\AG K H ys ends/\ends.length<=50/\(∀ e∈ends,e.length<=500)/\∀ l kvs H',Same H H'->H l=none->H' l=some (.dT kvs)->FI H' (fun w=>ends.map fun e=>oV (mkO es (w++e))) (Bo N acc) kvs->Q (.ref l) H'
theorem Ou {f:Addr}{fd:FuncData}(F:Fun K "marks_by_row" "marks_by_row" B4 f fd)(T:Txt mg)
  (W:Own K mg C_Book C_Turns C_Hunt C_Asker)
  (Z:Exs K mg C_AskError C_BadWord C_BadMark C_OutOfTurn C_NoDifference C_Contradiction)
  {DL:Addr} {Fg:FuncData} (G4:FnOk P w K mg base CX0 1 DL Fg ["letters", "access"] (Ot K)) (Fx:Fun K "rows_of" "rows_of" Fu DL Fg) (G5:Binds K Fg ["letters", "access"] []) (G6:mg "rows_of" = some (.ref DL))
  {Fh:Addr} {KJ:FuncData} (Mv:FnOk P w K mg base CX0 2 Fh KJ ["book", "word", "ends"] (RB K C_Book)) (G7:Fun K "marks_of" "marks_of" Fd Fh KJ) (Mw:Binds K KJ ["book", "word", "ends"] []) (Mx:mg "marks_of" = some (.ref Fh))
  : FnOk P w K mg base CX0 3 f fd ["book", "letters", "access", "ends"] (Y4 K C_Book):=by
 refine F.ok F0 (fun vs H Q E h=>?_) (fun cdv A outer s H vs Q E hr h=>?_)
 ·obtain⟨p,d,a,b,L,N,es,xs,ys,acc,ends,rfl,_⟩:=h;rfl
 ·obtain⟨p,d,a,b,L,N,es,xs,ys,acc,ends,rfl,B,hN,ha,hA,hal,haw,hb,hE,hel,hew,k⟩:=h
  have hl:=Ap
  refine⟨_,(Ab (As (i:=4) F0.nd rfl (Or.inl rfl) JU)
   (Ab (Dv PassesOwn.never rfl (Ef (AE G4 (hr.mono (by decide)) rfl G6 Fx.kp G5 .nil Bn (Aa (pv 1) (Aa (pv 2) Ae)))) (AK (i:=5) F0.nd rfl (Or.inl rfl))
   (Af (IM (Hg hr) (pv 4) (pv 5) (Ca C5 rfl T.tuple PyProof.Rows.boot_tuple (Aa (AE Mv (hr.mono (by decide)) rfl Mx G7.kp Mw .nil Bn (Aa (pv 0) (Aa (pv 5) (Aa (pv 3) Ae)))) Ae)) rfl)))
   (Af (Au (pv 4))))),?_⟩
  walk_at "rd"
  intro m hm
  have s0:=Same.new hm (o:=.dT [])
  refine⟨N,a,xs,acc,rfl,hN,s0.seq ha,hA.mono (fun _ _ z=>s0 _ _ z),by omega,fun w hw=>by have:=haw w hw;omega,fun r rs H1 s1 hr0 hr1 hW=>⟨r,rfl,⟨_,SqL.of hr1⟩,?_⟩⟩
  have hm1:=s1 _ _ (show upd H m (.dT []) m=some (.dT []) from Ac)
  have s01:=s0.trans s1
  have hrlen:=Uu N acc
  have hrw:=Xr (n:=N) haw
  have hnd:=Vt N acc
  have hrl:(Bo N acc).length<=500:=by
   have:acc.length*N<=64*6:=Nat.mul_le_mul hal hN
   omega
  have kk:=k
  generalize Bo N acc=rw' at hW hrl hrw hnd kk
  clear k hrlen
  obtain⟨Pv,hPv⟩:∃ Pv:Nat->St->Hp->Prop,∀ i σ' H',Pv i σ' H'↔(∃ (kvs:List (List Key×V)) (o:Option V),Same H H'/\H' r=some (.lst rs)/\TK H1 H'/\H' m=some (.dT kvs)/\FI H' (fun w=>ends.map fun e=>oV (mkO es (w++e))) (rw'.take i) kvs/\σ'=[some (.ref p),some (.int N),some (.ref a),some (.ref b),some (.ref m),o]):=⟨_,fun _ _ _=>Iff.rfl⟩
  refine forL (xs:=rs) Pv ((hPv _ _ _).mpr ⟨[],none,s01,hr1,TK.refl _,hm1,by rw[List.take_zero];exact FI.nil,rfl⟩) (fun i σ' H' _ h'=>by obtain⟨_,_,_,h2,_⟩:=(hPv _ _ _).mp h';exact SqL.of h2) (fun i x σ' H' hx h'=>?_) (fun σ' H' h'=>?_)
  ·obtain⟨kvs,o,s',hr',tk,hm',hM,rfl⟩:=(hPv _ _ _).mp h'
   obtain⟨t,w,hwi,rfl,ht⟩:=hW.at hx
   have hi:=(List.getElem?_eq_some_iff.mp hwi).1
   have hwl:=hrw w (List.mem_of_getElem? hwi)
   have et:rw'.take (i+1)=rw'.take i ++ [w]:=by rw[List.take_add_one,hwi];rfl
   have hno:w∉rw'.take i:=fun z=>by
    obtain⟨j,hj,ej⟩:=List.getElem_of_mem z
    rw[List.length_take] at hj
    rw[List.getElem_take] at ej
    have:=(List.getElem_inj (h₀:=(show j<rw'.length by omega)) (h₁:=hi) hnd).mp (by rw[ej];exact ((List.getElem?_eq_some_iff.mp hwi).2).symm)
    omega
   have hv:valV kvs (wkey w)=none:=by
    have:=hM.keys.some_iff w
    rw[decide_eq_false hno] at this
    cases e:valV kvs (wkey w) with
    | none=>rfl
    | some v=>rw[e] at this;cases this
   have hkl:kvs.length<=500:=by rw[hM.1,List.length_take];omega
   walk_at "rd"
   refine⟨p,d,t,b,L,w,es,ys,ends,rfl,B.mono s',tk _ _ ht,by omega,s'.seq hb,hE.mono (fun _ _ z=>s' _ _ z),by omega,fun e he=>by have:=hew e he;omega,fun l H2 s2 hl2=>⟨l,rfl,_,.inl ⟨SqL.of hl2,fun t2 ht2=>?_⟩⟩⟩
   have s3:=s2.newT ht2 (o:=.tup (ends.map fun e=>oV (mkO es (w++e))))
   refine⟨_,DPut.t (k:=wkey w) (s3 _ _ hm') (by rw[DY];exact s3 _ _ (tk _ _ ht)) (by omega),(hPv _ _ _).mpr ⟨_,_,(s'.trans s3).over hm,?_,fun c zs z=>?_,Ac,?_,rfl⟩⟩
   ·rw[Ah (fun z=>by rw[z,hm'] at hr';cases hr')];exact s3 _ _ hr'
   ·rw[Ah (fun e=>by have:=tk _ _ z;rw[e,hm'] at this;cases this)];exact s3 _ _ (tk _ _ z)
   ·rw[Wj _ hv,et]
    exact ((hM.mono fun c zs z=>s3 _ _ z).snoc (t:=t2) Ac).mono fun c zs z=>by
     rw[Ah (fun e=>by rw[e,s3 _ _ hm'] at z;cases z)];exact z
  ·obtain⟨kvs,o,s',hr',tk,hm',hM,rfl⟩:=(hPv _ _ _).mp h'
   rw[hW.1,List.take_length] at hM
   walk_at "rd"
   exact kk m kvs _ s' hm hm' hM
theorem FI.get {H:Hp}{f:List Int->List V}{ks:List (List Int)}{kvs:List (List Key×V)}(h:FI H f ks kvs){w:List Int}(hw:w∈ks):∃ t,valV kvs (wkey w)=some (.ref t)/\H t=some (.tup (f w)):=by
 have hs:=h.keys.some_iff w
 rw[decide_eq_true hw] at hs
 unfold valV at hs ⊢
 cases e:kvs.find? (fun kv=>decide (kv.1=wkey w)) with
 | none=>rw[e] at hs;cases hs
 | some kv =>
  have h1:kv.1=wkey w:=by have:=List.find?_some e;simpa using this
  obtain⟨i,hi,ei⟩:=List.getElem_of_mem (List.mem_of_find?_eq_some e)
  have hi':i<ks.length:=by rw[<- h.1];exact hi
  obtain⟨t,a,b⟩:=h.2 i ks[i] (by simp[hi'])
  rw[List.getElem?_eq_getElem hi,ei] at a
  have ea:=Option.some.inj a
  rw[ea] at h1
  have:ks[i]=w:=NT h1
  rw[this] at b
  exact⟨t,by rw[ea];rfl,b⟩
theorem Z1 {s:List (List Int)}{w v:List Int}:v∈ins s w↔v∈s\/v=w:=by
 unfold ins
 split
 ·rename_i h
  exact⟨.inl,fun z=>z.elim id fun e=>e ▸ h⟩
 ·simp
theorem Ht:∀ {l s:List (List Int)} {v:List Int},v∈l.foldl ins s↔v∈s\/v∈l
 | [],s,v=>by simp
 | w::l,s,v=>by
  rw[List.foldl_cons,Ht,Z1,List.mem_cons,or_assoc]
theorem Ov {n:Nat}{acc:List (List Int)}{w:List Int}(h:w∈acc):w∈Bo n acc:=by
 unfold Bo
 exact Ht.mpr (.inl (Ht.mpr (.inr h)))
def RC (K:PySem.W.Frag)(C:Addr):Sp:=fun vs H Q _=>∃ (p d a b:Addr) (L:Int) (N:Nat) (es:List (List Int×Int)) (xs ys:List V) (acc ends:List (List Int)) (g:List Int->List Int),vs=[.ref p,.int N,.ref a,.ref b]/\BookAt C H p d L es/\N<=6/\SqL K H a xs/\AG K H xs acc/\acc.length<=64/\(∀ w∈acc,w.length<=64)/\SqL K H b ys/\AG K H ys ends/\ends.length<=50/\(∀ e∈ends,e.length<=500)/\(∀ w∈Bo N acc,(ends.map fun e=>oV (mkO es (w++e)))=(g w).map V.int)/\(∀ w t H',(Bo N acc).find? (fun w=>decide (g w∉acc.map g))=some w->Same H H'->H' t=some (.tup (w.map V.int))->Q (.ref t) H')/\∀ H',(Bo N acc).find? (fun w=>decide (g w∉acc.map g))=none->Same H H'->Q .non H'
theorem Vu {f:Addr}{fd:FuncData}(F:Fun K "stranger" "stranger" Ff f fd)(T:Txt mg)
  (W:Own K mg C_Book C_Turns C_Hunt C_Asker)
  (Z:Exs K mg C_AskError C_BadWord C_BadMark C_OutOfTurn C_NoDifference C_Contradiction)
  {Be:Addr} {Cd:FuncData} (Dm:FnOk P w K mg base CX0 3 Be Cd ["book", "letters", "access", "ends"] (Y4 K C_Book)) (B6:Fun K "marks_by_row" "marks_by_row" B4 Be Cd) (Dn:Binds K Cd ["book", "letters", "access", "ends"] []) (Do:mg "marks_by_row" = some (.ref Be))
  : FnOk P w K mg base CX0 4 f fd ["book", "letters", "access", "ends"] (RC K C_Book):=by
 refine F.ok Hl (fun vs H Q E h=>?_) (fun cdv A outer s H vs Q E hr h=>?_)
 ·obtain⟨p,d,a,b,L,N,es,xs,ys,acc,ends,g,rfl,_⟩:=h;rfl
 ·obtain⟨p,d,a,b,L,N,es,xs,ys,acc,ends,g,rfl,B,hN,ha,hA,hal,haw,hb,hE,hel,hew,hg,k,kn⟩:=h
  have hl:=Ap
  refine⟨_,(Ab (As (i:=4) Hl.nd rfl (Or.inr rfl) (AE Dm (hr.mono (by decide)) rfl Do B6.kp Dn .nil Bn (Aa (pv 0) (Aa (pv 1) (Aa (pv 2) (Aa (pv 3) Ae))))))
   (Ab (Yt (i:=5) Hl.nd rfl rfl rfl (HP rfl) (cp:=Nm) ⟨⟨rfl,rfl⟩,True.intro⟩ (Ef (pv 2)) (fun _ _ _ _=>(AK (i:=0) Ol rfl (Or.inl rfl))) (fun _ _ _ _=>HN) (fun _ _ _ _=>(Mh (Hg hr) (pv 1) (pv 0) (fun _ _=>rfl))))
   (Ab (Dv PassesOwn.never rfl (ZO (pv 4)) (AK (i:=6) Hl.nd rfl (Or.inl rfl))
   (Af (DX (A0 (YO (hu9 hr)) (Mh (Hg hr) (pv 4) (pv 6) (fun _ _=>rfl)) (pv 5) rfl)
   (Af (Au (pv 6)))
   Bq)))
   (Af (Au E4))))),?_⟩
  walk_at "rd"
  refine⟨p,d,a,b,L,N,es,xs,ys,acc,ends,rfl,B,hN,ha,hA,hal,haw,hb,hE,hel,hew,fun m kvs H1 s1 hm0 hm hM=>?_⟩
  walk_at "rd"
  have kk:=k
  have kkn:=kn
  have hin:∀ w∈acc,w∈Bo N acc:=fun w h=>Ov h
  generalize Bo N acc=rw' at hM hg kk kkn hin
  clear k kn
  have ha1:=s1.seq ha
  have hA1:AG K H1 xs acc:=hA.mono (TK.of s1)
  refine⟨⟨_,ha1⟩,Yz (xs:=xs) (fun i ys σ' H'=>H'=H1/\AG K H1 ys ((acc.take i).map g)/\∃ o,σ'=[o,some (.ref m)]) ⟨rfl,AG.nil,none,rfl⟩ (by rw[hA.1];omega) (fun i ys σ' H' hi h'=>⟨by rw[h'.1];exact ha1,by rw[h'.2.1.1,List.length_map,List.length_take];omega⟩) (fun i x ys σ' H' hx h'=>?_) (fun ys σ' H' h' D hD=>?_)⟩
  ·obtain⟨rfl,hY,o,rfl⟩:=h'
   obtain⟨t,w,hwi,rfl,ht⟩:=hA1.at hx
   have hwm:=List.mem_of_getElem? hwi
   obtain⟨u,hu1,hu2⟩:=hM.get (hin w hwm)
   have et:acc.take (i+1)=acc.take i ++ [w]:=by rw[List.take_add_one,hwi];rfl
   rw[hg w (hin w hwm)] at hu2
   walk_at "rd"
   have hdg:DGet H' m (.ref t) (some (.ref u)):=by rw[<- hu1];exact DGet.t (k:=wkey w) hm (by rw[DY];exact ht)
   refine⟨_,hdg,?_,_,rfl⟩
   rw[et,List.map_append]
   exact hY.snoc hu2
  ·obtain⟨rfl,hY,o,rfl⟩:=h'
   rw[hA.1,List.take_length] at hY
   have sD:=Same.new hD (o:=.lst ys)
   have hm2:=sD _ _ hm
   refine⟨kvs,hm2,fun oo=>?_⟩
   have hDm:D≠m:=fun z=>by rw[z,hm] at hD;cases hD
   obtain⟨HF,hHF⟩:∃ HF:Hp,HF=upd (upd H' D (.lst ys)) m (.frz oo (.dT kvs)):=⟨_,rfl⟩
   rw[<- hHF]
   have hmF:HF m=some (.frz oo (.dT kvs)):=by rw[hHF];exact Ac
   have tkF:TK H' HF:=fun c zs z=>by rw[hHF,Ah (fun e=>by rw[e,hm] at z;cases z)];exact sD _ _ z
   have hDF:HF D=some (.lst ys):=by rw[hHF,Ah hDm];exact Ac
   have sF:Same H HF:=by rw[hHF];exact (s1.trans sD).over hm0
   obtain⟨Pv,hPv⟩:∃ Pv:Nat->St->Hp->Prop,∀ i σ' H',Pv i σ' H'↔(H'=HF/\(∀ w∈rw'.take i,g w∈acc.map g)/\∃ o,σ'=[some (.ref p),some (.int N),some (.ref a),some (.ref b),some (.ref m),some (.ref D),o]):=⟨_,fun _ _ _=>Iff.rfl⟩
   refine forD Pv ((hPv _ _ _).mpr ⟨rfl,(fun w hw=>by rw[List.take_zero] at hw;cases hw),none,rfl⟩) (fun i σ2 H2 _ h2=>by rw[((hPv _ _ _).mp h2).1];exact hmF) (fun i k0 v0 bb σ2 H2 hkv h2 hbb=>?_) (fun σ2 H2 h2=>?_)
   ·obtain⟨rfl,hall,o2,rfl⟩:=(hPv _ _ _).mp h2
    have hi:i<rw'.length:=by rw[<- hM.1];exact (List.getElem?_eq_some_iff.mp hkv).1
    have hwi:rw'[i]?=some rw'[i]:=by simp[hi]
    obtain⟨t,e1,e2⟩:=hM.2 i _ hwi
    have hwm:=List.mem_of_getElem? hwi
    rw[hkv] at e1
    cases e1
    replace e2:H' t=some (.tup ((g rw'[i]).map V.int)):=by rw[<- hg _ hwm];exact e2
    rw[DY] at hbb
    have et:rw'.take (i+1)=rw'.take i ++ [rw'[i]]:=by rw[List.take_add_one,hwi];rfl
    walk_at "rd"
    obtain⟨t',hv1,hv2⟩:=hM.get hwm
    replace hv2:H' t'=some (.tup ((g rw'[i]).map V.int)):=by rw[<- hg _ hwm];exact hv2
    refine⟨V.ref t',.inr ⟨kvs,wkey rw'[i],bb,.inr ⟨oo,hmF⟩,rfl,by rw[DY];exact hbb,hv1.symm⟩,t',rfl,_,SqL.of hDF,g rw'[i],acc.map g,hY.mono tkF,SqT.of (tkF _ _ hv2),?_⟩
    by_cases hmem:g rw'[i]∈acc.map g
    ·rw[if_neg (by rw[decide_eq_true hmem];decide)]
     refine (hPv _ _ _).mpr ⟨rfl,fun w hw=>?_,_,rfl⟩
     rw[et] at hw
     rcases List.mem_append.mp hw with hw | hw
     ·exact hall w hw
     ·rw[List.mem_singleton.mp hw];exact hmem
    ·rw[if_pos (by rw[decide_eq_false hmem];rfl)]
     refine kk rw'[i] bb _ (List.find?_eq_some_iff_getElem.mpr ⟨decide_eq_true hmem,i,hi,rfl,fun j hj=>?_⟩) sF hbb
     have:=hall rw'[j] (List.mem_iff_getElem?.mpr ⟨j,by rw[List.getElem?_take,if_pos hj];simp[show j<rw'.length by omega]⟩)
     rw[decide_eq_false (not_not_intro this)]
     rfl
   ·obtain⟨rfl,hall,o2,rfl⟩:=(hPv _ _ _).mp h2
    rw[hM.1,List.take_length] at hall
    walk_at "rd"
    refine kkn _ (List.find?_eq_none.mpr fun w hw=>?_) sF
    simp[hall w hw]
def eI (g:List Int->List Int)(acc:List (List Int))(i:Nat):List (List Int×Int):=(List.range i).map fun j=>(g (acc.getD j []),(j:Int))
theorem BO_ (g:List Int->List Int)(acc:List (List Int))(i:Nat):eI g acc (i+1)=eI g acc i ++ [(g (acc.getD i []),(i:Int))]:=by unfold eI;rw[List.range_succ,List.map_append];rfl
theorem Y5 (g:List Int->List Int)(acc:List (List Int)){i:Nat}(hi:i<=acc.length):(eI g acc i).map (·.1)=(acc.map g).take i:=by
 refine List.ext_getElem? fun j=>?_
 unfold eI
 rw[List.map_map,List.getElem?_map,List.getElem?_take,List.getElem?_map]
 by_cases hj:j<i
 ·rw[if_pos hj,List.getElem?_range hj]
  have hj':j<acc.length:=by omega
  simp[List.getD_eq_getElem?_getD,hj']
 ·rw[if_neg hj,List.getElem?_eq_none (by simp;omega)];rfl
theorem Di_ {g:List Int->List Int}{acc:List (List Int)}{x:List Int}(hx:x∈acc.map g):(x,(((acc.map g).idxOf x:Nat):Int))∈eI g acc acc.length:=by
 unfold eI
 have hlt:(acc.map g).idxOf x<(acc.map g).length:=List.idxOf_lt_length_of_mem hx
 rw[List.length_map] at hlt
 refine List.mem_map.mpr ⟨(acc.map g).idxOf x,List.mem_range.mpr hlt,?_⟩
 have h1:(acc.map g)[(acc.map g).idxOf x]'(by rw[List.length_map];exact hlt)=x:=List.getElem_idxOf _
 rw[List.getElem_map] at h1
 rw[List.getD_eq_getElem?_getD,List.getElem?_eq_getElem hlt]
 show (g _,_)=_
 rw[Option.getD_some,h1]
theorem Vv {n:Nat}{acc:List (List Int)}{w:List Int}{x:Nat}(h:w∈acc)(hx:x<n):w ++ [(x:Int)]∈Bo n acc:=by
 unfold Bo
 refine Ht.mpr (.inr (List.mem_flatMap.mpr ⟨w,h,?_⟩))
 unfold extW
 exact List.mem_map.mpr ⟨x,List.mem_range.mpr hx,rfl⟩
theorem Uv {l:List (List Int)}{i:Nat}(hi:i<l.length)(nd:l.Nodup):l[i]∉l.take i:=fun z=>by
 obtain⟨j,hj,ej⟩:=List.getElem_of_mem z
 rw[List.length_take] at hj
 rw[List.getElem_take] at ej
 have:=(List.getElem_inj (h₀:=(show j<l.length by omega)) (h₁:=hi) nd).mp ej
 omega
def WE (K:PySem.W.Frag):Sp:=fun vs H Q _=>∃ (N:Nat) (a m:Addr) (xs:List V) (acc:List (List Int)) (kvs:List (List Key×V)) (g:List Int->List Int),vs=[.int N,.ref a,.ref m]/\N<=6/\SqL K H a xs/\AG K H xs acc/\acc.length<=64/\(∀ w∈acc,w.length<=64)/\H m=some (.dT kvs)/\FI H (fun w=>(g w).map V.int) (Bo N acc) kvs/\(acc.map g).Nodup/\(∀ w∈acc,∀ x:Nat,x<N->g (w ++ [(x:Int)])∈acc.map g)/\∀ t ys H',Same H H'->H' t=some (.tup ys)->AG K H' ys (acc.map fun w=>(List.range N).map fun x:Nat=>(((acc.map g).idxOf (g (w ++ [(x:Int)])):Nat):Int))->Q (.ref t) H'
theorem Nw {f:Addr}{fd:FuncData}(F:Fun K "ways_by_marks" "ways_by_marks" Cb f fd)(T:Txt mg)
  (W:Own K mg C_Book C_Turns C_Hunt C_Asker)
  (Z:Exs K mg C_AskError C_BadWord C_BadMark C_OutOfTurn C_NoDifference C_Contradiction)
  : FnOk P w K mg base CX0 1 f fd ["letters", "access", "marks"] (WE K):=by
 refine F.ok Ci (fun vs H Q E h=>?_) (fun cdv A outer s H vs Q E hr h=>?_)
 ·obtain⟨N,a,m,xs,acc,kvs,g,rfl,_⟩:=h;rfl
 ·obtain⟨N,a,m,xs,acc,kvs,g,rfl,hN,ha,hA,hal,haw,hm,hM,hnd,hin,k⟩:=h
  have hl:=Ap
  refine⟨_,(Ab (As (i:=3) Ci.nd rfl (Or.inr rfl) JU)
   (Ab (Dv PassesOwn.never rfl (Wv rfl T.enumerate (pv 1)) (X0 rfl (JS (AK (i:=4) Ci.nd rfl (Or.inl rfl)) (JS (AK (i:=5) Ci.nd rfl (Or.inr rfl)) U5)))
   (Af (IM (Hg hr) (pv 3) (Mh (Hg hr) (pv 2) (pv 5) (fun _ _=>rfl)) (pv 4) rfl)))
   (Ab (As (i:=6) Ci.nd rfl (Or.inl rfl) (IK Ae))
   (Ab (Dv PassesOwn.never rfl (Ef (pv 1)) (AK (i:=5) Ci.nd rfl (Or.inr rfl))
   (Af (Bm (RP PySem.F.plainAttrs_list PySem.F.slot_list_append PySem.F.type_list_append FU (pv 6) (Aa (Ca C5 rfl T.tuple PyProof.Rows.boot_tuple (Aa (Gy rfl (HP rfl) (cp:=G0) ⟨⟨rfl,rfl⟩,⟨⟨rfl,rfl⟩,⟨⟨rfl,rfl⟩,True.intro⟩⟩⟩ (DB rfl T.range (Aa (pv 0) Ae)) (fun _ _ _ _=>(AK (i:=0) J5 rfl (Or.inl rfl))) (fun _ _ _ _=>HN) (fun _ _ _ _=>(Wl (Hg hr) (pv 1) (Mh (Hg hr) (pv 2) (A9 (Uj (K:=K) rfl) (pv 3) (Et (Aa (pv 0) Ae))) (fun _ _=>rfl)) ⟨by rfl,by rfl,by rfl,by rfl⟩))) Ae)) Ae)))))
   (Af (Au (Ca C5 rfl T.tuple PyProof.Rows.boot_tuple (Aa (pv 6) Ae)))))))),?_⟩
  walk_at "rd"
  intro p hp
  have s0:=Same.new hp (o:=.dT [])
  have hkn:∀ i,i<=acc.length->((eI g acc i).map (·.1)).Nodup:=fun i hi=>by rw[Y5 g acc hi];exact hnd.sublist (List.take_sublist _ _)
  refine⟨_,s0.seq ha,?_⟩
  obtain⟨Pv,hPv⟩:∃ Pv:Nat->St->Hp->Prop,∀ i σ' H',Pv i σ' H'↔(∃ o1 o2:Option V,Same H H'/\H' p=some (.dT (ents (eI g acc i)))/\σ'=[some (.int N),some (.ref a),some (.ref m),some (.ref p),o1,o2,none]):=⟨_,fun _ _ _=>Iff.rfl⟩
  have hpm:p≠m:=fun z=>by rw[z,hm] at hp;cases hp
  refine forM Pv ((hPv _ _ _).mpr ⟨none,none,s0,Ac,rfl⟩) (fun i σ' H' _ h'=>by obtain⟨_,_,s',_⟩:=(hPv _ _ _).mp h';exact s'.seq ha) (fun i v σ' H' t hv h' ht=>?_) (fun σ' H' h'=>?_)
  ·obtain⟨o1,o2,s',hp',rfl⟩:=(hPv _ _ _).mp h'
   obtain⟨tw,w,hwi,rfl,htw⟩:=hA.at hv
   have hwm:=List.mem_of_getElem? hwi
   have hi:=(List.getElem?_eq_some_iff.mp hwi).1
   have sT:=s'.newT ht (o:=.tup [.int i,.ref tw])
   obtain⟨u,hu1,hu2⟩:=hM.get (Ov (n:=N) hwm)
   have hgd:acc.getD i []=w:=by rw[List.getD_eq_getElem?_getD,hwi];rfl
   have hno:g w∉(eI g acc i).map (·.1):=by
    rw[Y5 g acc (by omega)]
    have:=Uv (l:=acc.map g) (i:=i) (by rw[List.length_map];exact hi) hnd
    rw[List.getElem_map,(List.getElem?_eq_some_iff.mp hwi).2] at this
    exact this
   walk_at "rd"
   have hdg:DGet (upd H' t (.tup [V.int i,V.ref tw])) m (.ref tw) (some (.ref u)):=by rw[<- hu1];exact DGet.t (k:=wkey w) (sT _ _ hm) (by rw[DY];exact sT _ _ htw)
   have hle:(ents (eI g acc i)).length=i:=by unfold ents eI;rw[List.length_map,List.length_map,List.length_range]
   refine⟨_,SqT.of Ac,rfl,V.int i,_,rfl,V.ref tw,_,rfl,rfl,V.ref u,hdg,_,DPut.t (k:=wkey (g w)) (Same.new ht _ _ hp') (by rw[DY];exact sT _ _ hu2) (by omega),(hPv _ _ _).mpr ⟨_,_,sT.over hp,by rw[Ac,WB hno,BO_,hgd],rfl⟩⟩
  ·obtain⟨o1,o2,s',hp',rfl⟩:=(hPv _ _ _).mp h'
   rw[hA.1] at hp'
   walk_at "rd"
   refine⟨by omega,fun q hq=>⟨⟨_,(s'.newT hq).seq ha⟩,?_⟩⟩
   have sq:=s'.newT hq (o:=.lst [])
   have hqH:H q=none:=s'.none hq
   have hpq:p≠q:=fun z=>by rw[z,hq] at hp';cases hp'
   obtain⟨Pw,hPw⟩:∃ Pv:Nat->St->Hp->Prop,∀ i σ2 H2,Pv i σ2 H2↔(∃ (ys:List V) (o:Option V),Same H H2/\H2 p=some (.dT (ents (eI g acc acc.length)))/\H2 q=some (.lst ys)/\AG K H2 ys ((acc.take i).map fun w=>(List.range N).map fun x:Nat=>(((acc.map g).idxOf (g (w ++ [(x:Int)])):Nat):Int))/\σ2=[some (.int N),some (.ref a),some (.ref m),some (.ref p),o1,o,some (.ref q)]):=⟨_,fun _ _ _=>Iff.rfl⟩
   refine forL (xs:=xs) Pw ((hPw _ _ _).mpr ⟨[],_,sq,Same.new hq _ _ hp',Ac,AG.nil,rfl⟩) (fun i σ2 H2 _ h2=>by obtain⟨_,_,s2,_⟩:=(hPw _ _ _).mp h2;exact s2.seq ha) (fun i x σ2 H2 hx h2=>?_) (fun σ2 H2 h2=>?_)
   ·obtain⟨ys,o,s2,hp2,hq2,hY,rfl⟩:=(hPw _ _ _).mp h2
    obtain⟨tw,w,hwi,rfl,htw⟩:=hA.at hx
    have hwm:=List.mem_of_getElem? hwi
    have hwl:=haw w hwm
    have et:acc.take (i+1)=acc.take i ++ [w]:=by rw[List.take_add_one,hwi];rfl
    have hyl:ys.length<=64:=by rw[hY.1,List.length_map,List.length_take];omega
    walk_at "rd"
    refine⟨.inl ⟨rfl,_,SqL.of hq2⟩,by omega,by omega,?_⟩
    rw[Int.toNat_natCast]
    obtain⟨Pc,hPc⟩:∃ Pc:Nat->List V->St->Hp->Prop,∀ j us σ4 H4,Pc j us σ4 H4↔(Same H2 H4/\us=((List.range j).map fun x:Nat=>(((acc.map g).idxOf (g (w ++ [(x:Int)])):Nat):Int)).map V.int/\∃ o,σ4=[o,some (.ref p),some (.ref m),some (.ref tw)]):=⟨_,fun _ _ _ _=>Iff.rfl⟩
    refine ZI Pc ((hPc _ _ _ _).mpr ⟨Same.refl _,rfl,none,rfl⟩) (by omega) (fun j us σ4 H4 _ h4=>?_) (fun j us σ4 H4 hj h4=>?_) (fun us σ4 H4 h4 D hD=>?_)
    ·obtain⟨_,rfl,_⟩:=(hPc _ _ _ _).mp h4
     rw[List.length_map,List.length_map,List.length_range];omega
    ·obtain⟨s4,rfl,o4,rfl⟩:=(hPc _ _ _ _).mp h4
     rw[Int.zero_add]
     have s24:=s2.trans s4
     obtain⟨u,hu1,hu2⟩:=hM.get (Vv (n:=N) hwm hj)
     have hmem:=Di_ (hin w hwm j hj)
     walk_at "rd"
     refine⟨.inr ⟨_,.inl (s4 _ _ hp2)⟩,by omega,fun p1 hp1=>IP.ofS (Same.new hp1 _ _ (s24 _ _ htw)) Ac (by simp;omega) fun q3 H5 s5 hq5=>?_⟩
     have s45:=(Same.new hp1 (o:=.tup [V.int j])).trans s5
     have s25:=s24.trans s45
     have hdg:DGet H5 m (.ref q3) (some (.ref u)):=by rw[<- hu1];exact DGet.t (k:=wkey (w ++ [(j:Int)])) (s25 _ _ hm) (by rw[DY,List.map_append];exact hq5)
     refine⟨_,hdg,_,DGet.t (k:=wkey (g (w ++ [(j:Int)]))) ((s4.trans s45) _ _ hp2) (by rw[DY];exact s25 _ _ hu2),(hPc _ _ _ _).mpr ⟨s4.trans s45,?_,_,rfl⟩⟩
     rw[Gq (hkn _ (Nat.le_refl _)) hmem,List.range_succ,List.map_append,List.map_append]
     rfl
    ·obtain⟨s4,rfl,o4,rfl⟩:=(hPc _ _ _ _).mp h4
     refine⟨D,rfl,_,.inl ⟨SqL.of Ac,fun t ht=>?_⟩⟩
     have sDt:=(s4.newT hD).newT ht (o:=.tup (((List.range N).map fun x:Nat=>(((acc.map g).idxOf (g (w ++ [(x:Int)])):Nat):Int)).map V.int))
     have hq5:=sDt _ _ hq2
     refine⟨_,hq5,by omega,(hPw _ _ _).mpr ⟨ys ++ [.ref t],_,(s2.trans sDt).over hqH,by rw[Ah hpq];exact sDt _ _ hp2,Ac,?_,rfl⟩⟩
     rw[et,List.map_append]
     exact ((hY.mono (TK.of sDt)).snoc Ac).mono (TK.lst hq5)
   ·obtain⟨ys,o,s2,hp2,hq2,hY,rfl⟩:=(hPw _ _ _).mp h2
    rw[hA.1,List.take_length] at hY
    walk_at "rd"
    exact⟨_,.inl ⟨SqL.of hq2,fun t ht=>k t ys _ (s2.newT ht) Ac (hY.mono (TK.of (Same.new ht)))⟩⟩
def WF (K:PySem.W.Frag)(C:Addr):Sp:=fun vs H Q _=>∃ (p d a b:Addr) (L:Int) (N:Nat) (es:List (List Int×Int)) (xs ys:List V) (acc ends:List (List Int)) (g:List Int->List Int) (f:List Int->Int),vs=[.ref p,.int N,.ref a,.ref b]/\BookAt C H p d L es/\N<=6/\SqL K H a xs/\AG K H xs acc/\acc.length<=64/\(∀ w∈acc,w.length<=64)/\SqL K H b ys/\AG K H ys ends/\ends.length<=50/\(∀ e∈ends,e.length<=500)/\(∀ w∈Bo N acc,(ends.map fun e=>oV (mkO es (w++e)))=(g w).map V.int)/\(acc.map g).Nodup/\(∀ w∈acc,∀ x:Nat,x<N->g (w ++ [(x:Int)])∈acc.map g)/\(∀ w∈acc,mkO es w=some (f w))/\∀ h tm tw zs H',Same H H'->H' h=some (.tup [.int N,.ref tm,.ref tw])->H' tm=some (.tup ((acc.map f).map V.int))->H' tw=some (.tup zs)->AG K H' zs (acc.map fun w=>(List.range N).map fun x:Nat=>(((acc.map g).idxOf (g (w ++ [(x:Int)])):Nat):Int))->Q (.ref h) H'
theorem Vw {f:Addr}{fd:FuncData}(F:Fun K "guess_of" "guess_of" Fe f fd)(T:Txt mg)
  (W:Own K mg C_Book C_Turns C_Hunt C_Asker)
  (Z:Exs K mg C_AskError C_BadWord C_BadMark C_OutOfTurn C_NoDifference C_Contradiction)
  {AC:Addr} {A5:FuncData} (BN:FnOk P w K mg base CX0 1 AC A5 ["self", "word"] (Fw C_Book)) (CL:Fun K "told" "Book.told" CD AC A5) (BO:Binds K A5 ["self", "word"] []) (BP:Meth K C_Book "told" AC)
  {Be:Addr} {Cd:FuncData} (Dm:FnOk P w K mg base CX0 3 Be Cd ["book", "letters", "access", "ends"] (Y4 K C_Book)) (B6:Fun K "marks_by_row" "marks_by_row" B4 Be Cd) (Dn:Binds K Cd ["book", "letters", "access", "ends"] []) (Do:mg "marks_by_row" = some (.ref Be))
  {Ce:Addr} {FC:FuncData} (F7:FnOk P w K mg base CX0 1 Ce FC ["letters", "access", "marks"] (WE K)) (DM:Fun K "ways_by_marks" "ways_by_marks" Cb Ce FC) (F8:Binds K FC ["letters", "access", "marks"] []) (F9:mg "ways_by_marks" = some (.ref Ce))
  : FnOk P w K mg base CX0 4 f fd ["book", "letters", "access", "ends"] (WF K C_Book):=by
 refine F.ok Kx (fun vs H Q E h=>?_) (fun cdv A outer s H vs Q E hr h=>?_)
 ·obtain⟨p,d,a,b,L,N,es,xs,ys,acc,ends,g,f,rfl,_⟩:=h;rfl
 ·obtain⟨p,d,a,b,L,N,es,xs,ys,acc,ends,g,f,rfl,B,hN,ha,hA,hal,haw,hb,hE,hel,hew,hg,hnd,hin,hf,k⟩:=h
  have hl:=Ap
  refine⟨_,(Ab (As (i:=4) Kx.nd rfl (Or.inl rfl) (AE Dm (hr.mono (by decide)) rfl Do B6.kp Dn .nil Bn (Aa (pv 0) (Aa (pv 1) (Aa (pv 2) (Aa (pv 3) Ae))))))
   (Ab (As (i:=5) Kx.nd rfl (Or.inl rfl) (Ca C5 rfl T.tuple PyProof.Rows.boot_tuple (Aa (Gy rfl (HP rfl) (cp:=Nl) ⟨⟨rfl,rfl⟩,True.intro⟩ (Ef (pv 2)) (fun _ _ _ _=>(AK (i:=0) Oj rfl (Or.inl rfl))) (fun _ _ _ _=>HN) (fun _ _ _ _=>(C4 (pv 1) W.cl_Book BP BN (hr.mono (by decide)) BO .nil Bn (Aa (pv 0) Ae)))) Ae)))
   (Af (Au (Et (Aa (pv 1) (Aa (pv 5) (Aa (AE F7 (hr.mono (by decide)) rfl F9 DM.kp F8 .nil Bn (Aa (pv 1) (Aa (pv 2) (Aa (pv 4) Ae)))) Ae)))))))),?_⟩
  walk_at "rd"
  refine⟨p,d,a,b,L,N,es,xs,ys,acc,ends,rfl,B,hN,ha,hA,hal,haw,hb,hE,hel,hew,fun m kvs H1 s1 hm0 hm hM=>?_⟩
  have hA1:AG K H1 xs acc:=hA.mono (TK.of s1)
  have B1:=B.mono s1
  obtain⟨⟨dx,hob⟩,hdc,nd⟩:=id B1
  refine⟨⟨_,s1.seq ha⟩,Yz (xs:=xs) (fun i us σ' H'=>H'=H1/\us=((acc.take i).map f).map V.int/\∃ o,σ'=[o,some (.ref p)]) ⟨rfl,rfl,none,rfl⟩ (by rw[hA.1];omega) (fun i us σ' H' hi h'=>⟨by rw[h'.1];exact s1.seq ha,by rw[h'.2.1,List.length_map,List.length_map,List.length_take];omega⟩) (fun i x us σ' H' hx h'=>?_) (fun us σ' H' h' D hD=>?_)⟩
  ·obtain⟨rfl,rfl,o,rfl⟩:=h'
   obtain⟨t,w,hwi,rfl,ht⟩:=hA1.at hx
   have hfw:=hf w (List.mem_of_getElem? hwi)
   have et:acc.take (i+1)=acc.take i ++ [w]:=by rw[List.take_add_one,hwi];rfl
   walk_at "rd"
   refine⟨_,_,hob,Fn _ _ (by decide +kernel) (by decide +kernel),p,d,t,L,w,es,rfl,B1,ht,fun hn=>?_,fun v hv=>?_⟩
   ·rw[LV hn] at hfw;cases hfw
   ·rw[Gr nd hv] at hfw
    cases hfw
    refine⟨rfl,?_,_,rfl⟩
    rw[et,List.map_append,List.map_append]
    rfl
  ·obtain⟨rfl,rfl,o,rfl⟩:=h'
   rw[hA.1,List.take_length]
   refine⟨D,rfl,_,.inl ⟨SqL.of Ac,fun tm htm=>?_⟩⟩
   have sD:=(Same.new hD (o:=.lst ((acc.map f).map V.int))).newT htm (o:=.tup ((acc.map f).map V.int))
   have s2:=s1.trans sD
   refine⟨N,a,m,xs,acc,kvs,g,rfl,hN,s2.seq ha,hA.mono (TK.of s2),hal,haw,sD _ _ hm,⟨hM.1,fun i w hi=>?_⟩,hnd,hin,fun tw zs H3 s3 htw hz=>⟨by omega,fun h hh=>?_⟩⟩
   ·obtain⟨t,e1,e2⟩:=hM.2 i w hi
    refine⟨t,e1,?_⟩
    have:=sD _ _ e2
    show _=some (HO.tup ((g w).map V.int))
    rw[<- hg w (List.mem_of_getElem? hi)]
    exact this
   ·have sh:=Same.new hh (o:=.tup [.int N,.ref tm,.ref tw])
    exact k h tm tw zs _ (s2.trans (s3.trans sh)) Ac ((s3.trans sh) _ _ Ac) (sh _ _ htw) (hz.mono (TK.of sh))
def Kk (marks:List Int)(ways:List (List Int))(tr:List Int×Int):Bool:=decide (Bz marks (Ak ways tr.1)≠tr.2)
def Ja (K:PySem.W.Frag)(fm:Addr):Sp:=fun vs H Q _=>∃ (l h:Addr) (L:Int) (marks:List Int) (ways:List (List Int)) (rs:List V) (es:List (List Int×Int)),vs=[.ref l,.ref fm,.ref h]/\SqL K H l rs/\Y1 H rs es/\GX K H h L marks ways/\Wf L marks ways/\(∀ e∈es,isW L e.1=true/\e.1.length<=600) /\
 ∀ H',Same H H'->((∀ e∈es,Kk marks ways e=false)->Q .non H')/\∀ (i:Nat) (e:List Int×Int) (t:Addr),(∀ j,j<i->∀ e',es[j]?=some e'->Kk marks ways e'=false)->es[i]?=some e->Kk marks ways e=true->H' t=some (.tup (e.1.map V.int))->Q (.ref t) H'
theorem Ow {f:Addr}{fd:FuncData}(F:Fun K "first_unlike" "first_unlike" CG f fd)(T:Txt mg)
  (W:Own K mg C_Book C_Turns C_Hunt C_Asker)
  (Z:Exs K mg C_AskError C_BadWord C_BadMark C_OutOfTurn C_NoDifference C_Contradiction)
  {Ar:Addr} {Bf:FuncData} (Cl:FnOk P w K mg base (CXe P w) 5 Ar Bf ["house", "word"] (Sg K C_BadWord)) (BA:Fun K "mark_behind" "mark_behind" BT Ar Bf) (Cm:Binds K Bf ["house", "word"] []) (Cn:mg "mark_behind" = some (.ref Ar))
  : FnOk P w K mg base CX0 6 f fd ["heard", "answer", "house"] (Ja K Ar):=by
 refine F.ok F1 (fun vs H Q E h=>?_) (fun cdv A outer s H vs Q E hr h=>?_)
 ·obtain⟨l,h,L,marks,ways,rs,es,rfl,_⟩:=h;rfl
 ·obtain⟨l,h,L,marks,ways,rs,es,rfl,hl1,ht,hh,wf,hes,k⟩:=h
  refine⟨_,(Ab (Dv PassesOwn.never rfl (Ef (pv 0)) (X0 rfl (JS (AK (i:=3) F1.nd rfl (Or.inl rfl)) (JS (AK (i:=4) F1.nd rfl (Or.inl rfl)) U5)))
   (Af (DX (A0 Ql (ZW 1 Cl (hr.mono (by decide)) BA.kp Cm .nil (Mj (P:=P) (w:=w)) (Aa (pv 2) (Aa (pv 3) Ae))) (pv 4) (Bl _))
   (Af (Au (pv 3)))
   Bq)))
   (Af (Au E4))),?_⟩
  walk_at "rd"
  refine⟨⟨_,hl1⟩,?_⟩
  obtain⟨Pv,hPv⟩:∃ Pv:Nat->St->Hp->Prop,∀ i σ' H',Pv i σ' H'↔(Same H H'/\(∀ j,j<i->∀ e,es[j]?=some e->Kk marks ways e=false)/\∃ o o',σ'=[some (.ref l),some (.ref Ar),some (.ref h),o,o']):=⟨_,fun _ _ _=>Iff.rfl⟩
  refine forL (xs:=rs) Pv ((hPv _ _ _).mpr ⟨Same.refl _,fun j hj=>absurd hj (Nat.not_lt_zero _),none,none,rfl⟩) (fun i σ2 H2 _ h2=>((hPv _ _ _).mp h2).1.seq hl1) (fun i x σ2 H2 hx h2=>?_) (fun σ2 H2 h2=>?_)
  ·obtain⟨s2,hall,o,o',rfl⟩:=(hPv _ _ _).mp h2
   have hi:i<es.length:=by rw[<- ht.1];exact (List.getElem?_eq_some_iff.mp hx).1
   have hei:es[i]?=some es[i]:=by simp[hi]
   obtain⟨t,wt,e1,e2,e3⟩:=ht.2 i _ hei
   rw[hx] at e1
   cases e1
   have hok:=hes _ (List.mem_of_getElem? hei)
   generalize es[i]=e at hei e2 e3 hok
   walk_at "rd"
   refine⟨_,SqT.of (s2 _ _ e2),rfl,_,_,rfl,_,_,rfl,rfl,h,wt,L,marks,ways,e.1,rfl,hh.mono s2,wf,SqT.of (s2 _ _ e3),hok.2,fun _ H3 s3=>⟨rfl,?_⟩,fun z=>by rw[hok.1] at z;cases z⟩
   by_cases hw:Bz marks (Ak ways e.1)=e.2
   ·rw[if_neg (by rw[hw];simp)]
    refine (hPv _ _ _).mpr ⟨s2.trans s3,fun j hj e' hj'=>?_,_,_,rfl⟩
    by_cases hji:j<i
    ·exact hall j hji e' hj'
    ·have ej:j=i:=by omega
     subst ej
     rw[hei] at hj'
     cases hj'
     exact decide_eq_false fun z=>z hw
   ·rw[if_pos (by simp[hw])]
    exact (k _ (s2.trans s3)).2 i e wt hall hei (decide_eq_true hw) ((s2.trans s3) _ _ e3)
  ·obtain⟨s2,hall,o,o',rfl⟩:=(hPv _ _ _).mp h2
   walk_at "rd"
   refine (k _ s2).1 fun e he=>?_
   obtain⟨j,hj,ej⟩:=List.getElem_of_mem he
   exact hall j (by rw[ht.1];exact hj) e (by rw[List.getElem?_eq_getElem hj,ej])
def Kl (K:PySem.W.Frag)(C:Addr):Sp:=fun vs H Q _=>∃ (p d h:Addr) (L:Int) (marks:List Int) (ways:List (List Int)) (es:List (List Int×Int)),vs=[.ref p,.ref h]/\GX K H h L marks ways/\Wf L marks ways/\BookAt C H p d L es/\(∀ e∈es,isW L e.1=true/\e.1.length<=600) /\
 ∀ H',Same H H'->((∀ e∈es,Kk marks ways e=false)->Q .non H')/\∀ (i:Nat) (e:List Int×Int) (t:Addr),(∀ j,j<i->∀ e',es[j]?=some e'->Kk marks ways e'=false)->es[i]?=some e->Kk marks ways e=true->H' t=some (.tup (e.1.map V.int))->Q (.ref t) H'
theorem Qu {f:Addr}{fd:FuncData}(F:Fun K "first_wrong" "first_wrong" C9 f fd)(T:Txt mg)
  (W:Own K mg C_Book C_Turns C_Hunt C_Asker)
  (Z:Exs K mg C_AskError C_BadWord C_BadMark C_OutOfTurn C_NoDifference C_Contradiction)
  {Ar:Addr} {Bf:FuncData} (Cl:FnOk P w K mg base (CXe P w) 5 Ar Bf ["house", "word"] (Sg K C_BadWord)) (BA:Fun K "mark_behind" "mark_behind" BT Ar Bf) (Cm:Binds K Bf ["house", "word"] []) (Cn:mg "mark_behind" = some (.ref Ar))
  {Co:Addr} {Hu:FuncData} (Jb:FnOk P w K mg base CX0 1 Co Hu ["self"] (LU K C_Book)) (Gs:Fun K "heard" "Book.heard" DD Co Hu) (Jc:Binds K Hu ["self"] []) (Jd:Meth K C_Book "heard" Co)
  {CM:Addr} {Ga:FuncData} (GC:FnOk P w K mg base CX0 6 CM Ga ["heard", "answer", "house"] (Ja K Ar)) (D5:Fun K "first_unlike" "first_unlike" CG CM Ga) (GD:Binds K Ga ["heard", "answer", "house"] []) (GE:mg "first_unlike" = some (.ref CM))
  : FnOk P w K mg base CX0 7 f fd ["book", "house"] (Kl K C_Book):=by
 refine F.ok Qp (fun vs H Q E h=>?_) (fun cdv A outer s H vs Q E hr h=>?_)
 ·obtain⟨p,d,h,L,marks,ways,es,rfl,_⟩:=h;rfl
 ·obtain⟨p,d,h,L,marks,ways,es,rfl,hh,wf,B,hes,k⟩:=h
  refine⟨_,(Af (Au (AE GC (hr.mono (by decide)) rfl GE D5.kp GD .nil Bn (Aa (Cj (pv 0) W.cl_Book Jd Jb (hr.mono (by decide)) Jc .nil Bn) (Aa (XY (v:=.ref Ar) rfl Cn rfl) (Aa (pv 1) Ae)))))),?_⟩
  obtain⟨⟨dx,hp⟩,hd,nd⟩:=id B
  walk_at "rd"
  refine⟨_,_,hp,Fn _ _ (by decide +kernel) (by decide +kernel),p,d,L,es,rfl,B,fun l rs H1 s1 hl hl1 ht=>?_⟩
  exact⟨l,h,L,marks,ways,rs,es,rfl,SqL.of hl1,ht,hh.mono s1,wf,hes,fun H2 s2=>k _ (s1.trans s2)⟩
theorem Sj (l:List (List Int)):∀ (s:List (List Int)) (v:List Int),v∈l.foldl ins s↔v∈s\/v∈l:=by
 induction l with
 | nil=>intro s v;simp
 | cons a l ih =>
  intro s v
  rw[List.foldl_cons,ih]
  unfold ins
  split
  ·rename_i h
   constructor
   ·rintro (h1 | h1)
    ·exact .inl h1
    ·exact .inr (List.mem_cons_of_mem _ h1)
   ·rintro (h1 | h1)
    ·exact .inl h1
    ·rcases List.mem_cons.mp h1 with rfl | h1
     ·exact .inl h
     ·exact .inr h1
  ·constructor
   ·rintro (h1 | h1)
    ·rcases List.mem_append.mp h1 with h1 | h1
     ·exact .inl h1
     ·rw[List.mem_singleton.mp h1];exact .inr (List.mem_cons_self ..)
    ·exact .inr (List.mem_cons_of_mem _ h1)
   ·rintro (h1 | h1)
    ·exact .inl (List.mem_append_left _ h1)
    ·rcases List.mem_cons.mp h1 with rfl | h1
     ·exact .inl (by simp)
     ·exact .inr h1
theorem AQ {L:Nat}{W:List (List Int)}{v:List Int}:v∈Bo L W↔v∈W \/ ∃ a∈W,∃ x:Nat,x<L/\v=a ++ [(x:Int)]:=by
 unfold Bo
 rw[Sj,Sj]
 simp only[List.not_mem_nil,false_or,List.mem_flatMap,extW,List.mem_map,List.mem_range]
 constructor
 ·rintro (h | ⟨a,ha,x,hx,rfl⟩)
  ·exact .inl h
  ·exact .inr ⟨a,ha,x,hx,rfl⟩
 ·rintro (h | ⟨a,ha,x,hx,rfl⟩)
  ·exact .inl h
  ·exact .inr ⟨a,ha,x,hx,rfl⟩
theorem Bw {R E:List (List Int)}{c:List Int}:c∈FX R E ↔ ∃ r∈R,∃ e∈E,c=r++e:=by
 unfold FX
 rw[Sj]
 simp only[List.not_mem_nil,false_or,List.mem_flatMap,List.mem_map]
 constructor
 ·rintro⟨r,hr,e,he,rfl⟩;exact⟨r,hr,e,he,rfl⟩
 ·rintro⟨r,hr,e,he,rfl⟩;exact⟨r,hr,e,he,rfl⟩
abbrev Bk:=List (List Int×Int)
def Grow (es es':Bk):Prop:=∀ v m,mkO es v=some m->mkO es' v=some m
theorem Grow.refl (es:Bk):Grow es es:=fun _ _ h=>h
theorem Grow.snoc (es:Bk)(v:List Int)(m:Int):Grow es (es ++ [(v,m)]):=fun u n h=>by
 unfold mkO at h ⊢
 rw[List.find?_append]
 cases hf:es.find? (fun e=>decide (e.1=u)) with
 | none=>rw[hf] at h;cases h
 | some e=>rw[hf] at h;exact h
theorem Je {es:Bk}{v:List Int}{m:Int}(h:mkO es v=some m):(v,m)∈es:=by
 unfold mkO at h
 cases hf:es.find? (fun e=>decide (e.1=v)) with
 | none=>rw[hf] at h;cases h
 | some e =>
  rw[hf] at h
  have h1:=List.mem_of_find?_eq_some hf
  have h2:=List.find?_some hf
  simp at h h2
  subst h h2
  exact h1
theorem Vx {es:Bk}{v:List Int}:v∈es.map (·.1) ↔ ∃ m,mkO es v=some m:=by
 constructor
 ·intro h
  cases hm:mkO es v with
  | some m=>exact⟨m,rfl⟩
  | none =>
   obtain⟨e,he,rfl⟩:=List.mem_map.mp h
   unfold mkO at hm
   rw[Option.map_eq_none_iff,List.find?_eq_none] at hm
   exact absurd (decide_eq_true rfl) (hm e he)
 ·rintro⟨m,hm⟩
  exact List.mem_map.mpr ⟨_,Je hm,rfl⟩
def LW (E:List (List Int))(es:Bk)(v u:List Int):Prop:=∃ e∈E,∃ m n,mkO es (v++e)=some m/\mkO es (u++e)=some n/\m≠n
theorem LW.symm {E:List (List Int)}{es:Bk}{v u:List Int}(h:LW E es v u):LW E es u v:=by
 obtain⟨e,he,m,n,a,b,c⟩:=h
 exact⟨e,he,n,m,b,a,Ne.symm c⟩
theorem LW.mono {E E':List (List Int)}{es es':Bk}{v u:List Int}(h:LW E es v u)(hE:∀ e∈E,e∈E')(g:Grow es es'):LW E' es' v u:=by
 obtain⟨e,he,m,n,a,b,c⟩:=h
 exact⟨e,hE e he,m,n,g _ _ a,g _ _ b,c⟩
def Pend (L:Nat)(W E:List (List Int))(es:Bk):Prop:=∃ a∈W,∃ x:Nat,x<L/\∀ u∈W,LW E es (a ++ [(x:Int)]) u
theorem Pend.mono {L:Nat}{W E:List (List Int)}{es es':Bk}(h:Pend L W E es)(g:Grow es es'):Pend L W E es':=by
 obtain⟨a,ha,x,hx,k⟩:=h
 exact⟨a,ha,x,hx,fun u hu=>(k u hu).mono (fun _ z=>z) g⟩
structure Tb (L most:Nat)(W E:List (List Int))(es:Bk):Prop where
 l1:1<=L
 l6:L<=6
 m12:most<=12
 w0:W[0]?=some []
 wW:∀ v∈W,isW L v=true/\v.length<W.length
 wn:W.length<=most
 e0:E[0]?=some []
 eW:∀ e∈E,isW L e=true
 nd:(es.map (·.1)).Nodup
 bW:∀ p∈es,isW L p.1=true/\0<=p.2/\p.2<=1000000000
 dist:∀ (i j:Nat) (v u:List Int),W[i]?=some v->W[j]?=some u->i≠j->LW E es v u
 jj:E.length<=W.length\/(E.length=W.length+1/\Pend L W E es)
theorem Tb.en {L most:Nat}{W E:List (List Int)}{es:Bk}(t:Tb L most W E es):E.length<=most+1:=by
 have:=t.wn
 rcases t.jj with h | h
 ·omega
 ·omega
theorem Tb.put {L most:Nat}{W E:List (List Int)}{es:Bk}(t:Tb L most W E es){v:List Int}{m:Int}(hn:v∉es.map (·.1))(hv:isW L v=true)(h0:0<=m)(h9:m<=1000000000):Tb L most W E (es ++ [(v,m)]) where
 l1:=t.l1
 l6:=t.l6
 m12:=t.m12
 w0:=t.w0
 wW:=t.wW
 wn:=t.wn
 e0:=t.e0
 eW:=t.eW
 nd:=by
  rw[List.map_append,List.nodup_append]
  exact⟨t.nd,by simp,fun a ha b hb=>by rw[List.mem_singleton.mp hb];intro z;subst z;exact hn ha⟩
 bW:=fun p hp=>by
  rcases List.mem_append.mp hp with hp | hp
  ·exact t.bW p hp
  ·rw[List.mem_singleton.mp hp];exact⟨hv,h0,h9⟩
 dist:=fun i j v' u h1 h2 h3=>(t.dist i j v' u h1 h2 h3).mono (fun _ z=>z) (Grow.snoc es v m)
 jj:=by
  rcases t.jj with h | h
  ·exact .inl h
  ·exact .inr ⟨h.1,h.2.mono (Grow.snoc es v m)⟩
def Full (L:Nat)(W E:List (List Int))(es:Bk):Prop:=∀ c∈FX (Bo L W) E,∃ m,mkO es c=some m
def gOf (E:List (List Int))(es:Bk)(v:List Int):List Int:=E.map fun e=>(mkO es (v++e)).getD 0
theorem Be_ {L:Nat}{W E:List (List Int)}{es:Bk}(f:Full L W E es){v:List Int}(hv:v∈Bo L W):(E.map fun e=>oV (mkO es (v++e)))=(gOf E es v).map V.int:=by
 unfold gOf
 rw[List.map_map]
 refine List.map_congr_left fun e he=>?_
 obtain⟨m,hm⟩:=f (v++e) (Bw.mpr ⟨v,hv,e,he,rfl⟩)
 show oV (mkO es (v++e))=V.int ((mkO es (v++e)).getD 0)
 rw[hm];rfl
theorem LX {L:Nat}{W E:List (List Int)}{es:Bk}(f:Full L W E es){v u:List Int}(hv:v∈Bo L W)(hu:u∈Bo L W):gOf E es v≠gOf E es u↔LW E es v u:=by
 constructor
 ·intro h
  refine Classical.byContradiction fun hno=>h ?_
  unfold gOf
  refine List.map_congr_left fun e he=>?_
  obtain⟨m,hm⟩:=f (v++e) (Bw.mpr ⟨v,hv,e,he,rfl⟩)
  obtain⟨n,hn⟩:=f (u++e) (Bw.mpr ⟨u,hu,e,he,rfl⟩)
  rw[hm,hn]
  exact Classical.byContradiction fun hne=>hno ⟨e,he,m,n,hm,hn,hne⟩
 ·rintro⟨e,he,m,n,hm,hn,hne⟩ heq
  unfold gOf at heq
  have:=List.map_inj_left.mp heq e he
  rw[hm,hn] at this
  exact hne this
theorem Tb.nodup {L most:Nat}{W E:List (List Int)}{es:Bk}(t:Tb L most W E es)(f:Full L W E es):(W.map (gOf E es)).Nodup:=by
 rw[List.nodup_iff_pairwise_ne,List.pairwise_map,List.pairwise_iff_getElem]
 intro i j hi hj hij
 exact (LX f (AQ.mpr (.inl (List.getElem_mem hi))) (AQ.mpr (.inl (List.getElem_mem hj)))).mpr (t.dist i j _ _ (List.getElem?_eq_getElem hi) (List.getElem?_eq_getElem hj) (by omega))
theorem Tb.more {L most:Nat}{W E:List (List Int)}{es:Bk}(t:Tb L most W E es)(f:Full L W E es){v:List Int}(h:(Bo L W).find? (fun v=>decide (gOf E es v∉W.map (gOf E es)))=some v):(v∈Bo L W/\v∉W/\isW L v=true/\v.length<=W.length)/\(W.length<most->Tb L most (W ++ [v]) E es):=by
 have h1:=List.mem_of_find?_eq_some h
 have h2:=List.find?_some h
 have h2:gOf E es v∉W.map (gOf E es):=of_decide_eq_true h2
 have hnW:v∉W:=fun z=>h2 (List.mem_map_of_mem z)
 have hap:∀ u∈W,LW E es v u:=fun u hu=>(LX f h1 (AQ.mpr (.inl hu))).mp fun z=>h2 (by rw[z];exact List.mem_map_of_mem hu)
 have hv:isW L v=true/\v.length<=W.length:=by
  rcases AQ.mp h1 with h | ⟨a,ha,x,hx,rfl⟩
  ·exact absurd h hnW
  ·have:=t.wW a ha
   exact⟨Ao.mpr fun y hy=>by
    rcases List.mem_append.mp hy with hy | hy
    ·exact Ao.mp this.1 y hy
    ·rw[List.mem_singleton.mp hy];omega,by rw[List.length_append,List.length_singleton];omega⟩
 refine⟨⟨h1,hnW,hv.1,hv.2⟩,fun hm=>⟨t.l1,t.l6,t.m12,?_,fun u hu=>?_,by simp;omega,t.e0,t.eW,t.nd,t.bW,fun i j a b hi hj hij=>?_,?_⟩⟩
 ·have:=(List.getElem?_eq_some_iff.mp t.w0).1
  rw[List.getElem?_append_left this];exact t.w0
 ·rw[List.length_append,List.length_singleton]
  rcases List.mem_append.mp hu with hu | hu
  ·have:=t.wW u hu;exact⟨this.1,by omega⟩
  ·rw[List.mem_singleton.mp hu];exact⟨hv.1,by omega⟩
 ·have hi':=(List.getElem?_eq_some_iff.mp hi).1
  have hj':=(List.getElem?_eq_some_iff.mp hj).1
  rw[List.length_append,List.length_singleton] at hi' hj'
  by_cases hil:i<W.length
  ·rw[List.getElem?_append_left hil] at hi
   by_cases hjl:j<W.length
   ·rw[List.getElem?_append_left hjl] at hj
    exact t.dist i j a b hi hj hij
   ·rw[List.getElem?_append_right (by omega),show j-W.length=0 by omega] at hj
    cases hj
    exact (hap a (List.mem_of_getElem? hi)).symm
  ·rw[List.getElem?_append_right (by omega),show i-W.length=0 by omega] at hi
   cases hi
   rw[List.getElem?_append_left (by omega)] at hj
   exact hap b (List.mem_of_getElem? hj)
 ·rw[List.length_append,List.length_singleton]
  rcases t.jj with h | h
  ·exact .inl (by omega)
  ·exact .inl (by omega)
theorem Tb.none {L most:Nat}{W E:List (List Int)}{es:Bk}(t:Tb L most W E es)(f:Full L W E es)(h:(Bo L W).find? (fun v=>decide (gOf E es v∉W.map (gOf E es)))=none):¬ Pend L W E es/\(∀ a∈W,∀ x:Nat,x<L->gOf E es (a ++ [(x:Int)])∈W.map (gOf E es)):=by
 have hall:∀ v∈Bo L W,gOf E es v∈W.map (gOf E es):=fun v hv=>by
  have:=List.find?_eq_none.mp h v hv
  simpa using this
 refine⟨fun ⟨a,ha,x,hx,k⟩=>?_,fun a ha x hx=>hall _ (AQ.mpr (.inr ⟨a,ha,x,hx,rfl⟩))⟩
 have hr:=AQ.mpr (.inr ⟨a,ha,x,hx,rfl⟩)
 obtain⟨u,hu,e⟩:=List.mem_map.mp (hall _ hr)
 exact (LX f hr (AQ.mpr (.inl hu))).mpr (k u hu) e.symm
structure GuessOk (L:Nat)(W E:List (List Int))(es:Bk)(marks:List Int)(ways:List (List Int)):Prop where
 ml:marks.length=W.length
 m:∀ (i:Nat) (v:List Int),W[i]?=some v->∃ y,marks[i]?=some y/\mkO es v=some y
 wl:ways.length=W.length
 rl:∀ row∈ways,row.length=L
 go:∀ (i:Nat) (v:List Int) (x:Nat),W[i]?=some v->x<L->∃ (row:List Int) (k:Nat) (u:List Int),ways[i]?=some row/\row[x]?=some (k:Int)/\W[k]?=some u/\∀ e∈E,∃ y,mkO es (v ++ [(x:Int)]++e)=some y/\mkO es (u++e)=some y
theorem GuessOk.mono {L:Nat}{W E:List (List Int)}{es es':Bk}{marks:List Int}{ways:List (List Int)}(g:GuessOk L W E es marks ways)(h:Grow es es'):GuessOk L W E es' marks ways:=by
 refine⟨g.ml,fun i v hv=>?_,g.wl,g.rl,fun i v x hv hx=>?_⟩
 ·obtain⟨y,a,b⟩:=g.m i v hv
  exact⟨y,a,h _ _ b⟩
 ·obtain⟨row,k,u,a,b,c,d⟩:=g.go i v x hv hx
  refine⟨row,k,u,a,b,c,fun e he=>?_⟩
  obtain⟨y,y1,y2⟩:=d e he
  exact⟨y,h _ _ y1,h _ _ y2⟩
theorem Dj_ {α:Type}[BEq α][LawfulBEq α]{l:List α}{a:α}(h:a∈l):l[l.idxOf a]?=some a/\l.idxOf a<l.length:=by
 have h1:=List.idxOf_lt_length_iff.mpr h
 exact⟨by rw[List.getElem?_eq_getElem h1,List.getElem_idxOf],h1⟩
theorem Tb.guess {L most:Nat}{W E:List (List Int)}{es:Bk}(t:Tb L most W E es)(f:Full L W E es)(h:∀ a∈W,∀ x:Nat,x<L->gOf E es (a ++ [(x:Int)])∈W.map (gOf E es)):GuessOk L W E es (W.map fun v=>(mkO es v).getD 0) (W.map fun v=>(List.range L).map fun x:Nat=>(((W.map (gOf E es)).idxOf (gOf E es (v ++ [(x:Int)])):Nat):Int)):=by
 have he0:([]:List Int)∈E:=List.mem_of_getElem? t.e0
 refine⟨by rw[List.length_map],fun i v hv=>?_,by rw[List.length_map],fun row hr=>?_,fun i v x hv hx=>?_⟩
 ·obtain⟨m,hm⟩:=f v (Bw.mpr ⟨v,AQ.mpr (.inl (List.mem_of_getElem? hv)),[],he0,by simp⟩)
  exact⟨m,by rw[List.getElem?_map,hv];show some ((mkO es v).getD 0)=_;rw[hm];rfl,hm⟩
 ·obtain⟨v,_,rfl⟩:=List.mem_map.mp hr
  rw[List.length_map,List.length_range]
 ·have hvW:=List.mem_of_getElem? hv
  have hg:=h v hvW x hx
  obtain⟨q1,q2⟩:=Dj_ hg
  obtain⟨k,hk⟩:∃ k,k=(W.map (gOf E es)).idxOf (gOf E es (v ++ [(x:Int)])):=⟨_,rfl⟩
  rw[<- hk] at q1 q2
  rw[List.length_map] at q2
  rw[List.getElem?_map,List.getElem?_eq_getElem q2] at q1
  have q3:gOf E es W[k]=gOf E es (v ++ [(x:Int)]):=Option.some.inj q1
  refine⟨_,k,W[k],by rw[List.getElem?_map,hv];rfl,by rw[List.getElem?_map,List.getElem?_range hx,hk];rfl,List.getElem?_eq_getElem q2,fun e he=>?_⟩
  obtain⟨y,hy⟩:=f (v ++ [(x:Int)]++e) (Bw.mpr ⟨_,AQ.mpr (.inr ⟨v,hvW,x,hx,rfl⟩),e,he,rfl⟩)
  obtain⟨z,hz⟩:=f (W[k]++e) (Bw.mpr ⟨_,AQ.mpr (.inl (List.getElem_mem q2)),e,he,rfl⟩)
  have:=List.map_inj_left.mp q3 e he
  rw[hy,hz] at this
  have e2:z=y:=this
  exact⟨y,hy,by rw[hz,e2]⟩
theorem Tb.wf {L most:Nat}{W E:List (List Int)}{es:Bk}(t:Tb L most W E es){marks:List Int}{ways:List (List Int)}(g:GuessOk L W E es marks ways):Wf L marks ways:=by
 have h0:=(List.getElem?_eq_some_iff.mp t.w0).1
 have:=t.wn
 have:=t.m12
 have:=t.l1
 have:=t.l6
 refine⟨by omega,by omega,by rw[g.ml];omega,by rw[g.ml];omega,by rw[g.wl,g.ml],fun row hr=>?_,fun m hm=>?_⟩
 ·refine⟨by rw[g.rl row hr],fun y hy=>?_⟩
  obtain⟨i,hi⟩:=List.mem_iff_getElem?.mp hr
  have hil:=(List.getElem?_eq_some_iff.mp hi).1
  rw[g.wl] at hil
  obtain⟨x,hx⟩:=List.mem_iff_getElem?.mp hy
  have hxl:=(List.getElem?_eq_some_iff.mp hx).1
  rw[g.rl row hr] at hxl
  obtain⟨row',k,u,a,b,c,_⟩:=g.go i _ x (List.getElem?_eq_getElem hil) hxl
  rw[hi] at a
  cases a
  rw[hx] at b
  cases b
  have:=(List.getElem?_eq_some_iff.mp c).1
  rw[g.ml];omega
 ·obtain⟨i,hi⟩:=List.mem_iff_getElem?.mp hm
  have hil:=(List.getElem?_eq_some_iff.mp hi).1
  rw[g.ml] at hil
  obtain⟨y,a,b⟩:=g.m i _ (List.getElem?_eq_getElem hil)
  rw[hi] at a
  cases a
  exact (t.bW _ (Je b)).2
theorem GuessOk.room {L most:Nat}{W E:List (List Int)}{es:Bk}(t:Tb L most W E es){marks:List Int}{ways:List (List Int)}(g:GuessOk L W E es marks ways){v:List Int}(hv:isW L v=true):∀ i:Nat,∃ (k:Nat) (u:List Int),Ak ways (v.take i)=(k:Int)/\W[k]?=some u:=fun i=>by
 have wf:=t.wf g
 obtain⟨h0,h1⟩:=wf.walk hv i
 rw[g.ml] at h1
 obtain⟨k,hk⟩:=Int.eq_ofNat_of_zero_le h0
 rw[hk] at h1
 exact⟨k,W[k]'(by omega),hk,List.getElem?_eq_getElem (by omega)⟩
theorem GuessOk.step {L most:Nat}{W E:List (List Int)}{es:Bk}(t:Tb L most W E es){marks:List Int}{ways:List (List Int)}(g:GuessOk L W E es marks ways){v:List Int}(hv:isW L v=true){i k:Nat}{a:List Int}{y:Int}(hy:v[i]?=some y)(hk:Ak ways (v.take i)=(k:Int))(ha:W[k]?=some a):∃ (x k':Nat) (u:List Int),y=(x:Int)/\x<L/\Ak ways (v.take (i+1))=(k':Int)/\W[k']?=some u/\∀ e∈E,∃ m,mkO es (a ++ [(x:Int)]++e)=some m/\mkO es (u++e)=some m:=by
 have hb:=Ao.mp hv y (List.mem_of_getElem? hy)
 obtain⟨x,rfl⟩:=Int.eq_ofNat_of_zero_le hb.1
 obtain⟨row,k',u,q1,q2,q3,q4⟩:=g.go k a x ha (by omega)
 refine⟨x,k',u,rfl,by omega,?_,q3,q4⟩
 rw[JX hy,hk]
 exact LS (by rw[show ((k:Int)).toNat=k by omega];exact q1) (by rw[show ((x:Int)).toNat=x by omega];exact q2)
theorem Tb.halved {L most:Nat}{W E:List (List Int)}{es:Bk}(t:Tb L most W E es)(hE:E.length<=W.length){marks:List Int}{ways:List (List Int)}(g:GuessOk L W E es marks ways){v:List Int}(hv:isW L v=true){i k k':Nat}(hi:i<v.length){a u:List Int}{mk b:Int}(hk:Ak ways (v.take i)=(k:Int))(ha:W[k]?=some a)(h1:mkO es (a++v.drop i)=some b)(hne:b≠mk)(hk':Ak ways (v.take (i+1))=(k':Int))(hu:W[k']?=some u)(h2:mkO es (u++v.drop (i+1))=some mk):Tb L most W (E ++ [v.drop (i+1)]) es/\Pend L W (E ++ [v.drop (i+1)]) es:=by
 obtain⟨y,hy⟩:∃ y,v[i]?=some y:=⟨v[i],by simp⟩
 obtain⟨x,k2,u2,rfl,hx,q1,q2,q3⟩:=g.step t hv hy hk ha
 have ek:k2=k':=by rw[hk'] at q1;exact (Int.ofNat.inj q1).symm
 subst ek
 rw[hu] at q2
 cases q2
 have hdr:v.drop i=(x:Int)::v.drop (i+1):=by
  have:=(List.getElem?_eq_some_iff.mp hy)
  rw[List.drop_eq_getElem_cons hi,this.2]
 have hpend:Pend L W (E ++ [v.drop (i+1)]) es:=by
  refine⟨a,List.mem_of_getElem? ha,x,hx,fun w' hw'=>?_⟩
  obtain⟨j,hj⟩:=List.mem_iff_getElem?.mp hw'
  by_cases hjk:j=k2
  ·subst hjk
   rw[hu] at hj
   cases hj
   refine⟨v.drop (i+1),by simp,b,mk,?_,h2,hne⟩
   rw[hdr] at h1
   rw[List.append_assoc];exact h1
  ·obtain⟨e,he,m,n,z1,z2,z3⟩:=t.dist j k2 _ _ hj hu hjk
   obtain⟨y2,y3,y4⟩:=q3 e he
   rw[z2] at y4
   cases y4
   exact⟨e,List.mem_append_left _ he,n,m,y3,z1,Ne.symm z3⟩
 refine⟨⟨t.l1,t.l6,t.m12,t.w0,t.wW,t.wn,?_,fun e he=>?_,t.nd,t.bW,fun i j v u h1 h2 h3=>(t.dist i j v u h1 h2 h3).mono (fun e he=>List.mem_append_left _ he) (Grow.refl _),?_⟩,hpend⟩
 ·have:=(List.getElem?_eq_some_iff.mp t.e0).1
  rw[List.getElem?_append_left this];exact t.e0
 ·rcases List.mem_append.mp he with he | he
  ·exact t.eW e he
  ·rw[List.mem_singleton.mp he]
   exact Ao.mpr fun y hy=>Ao.mp hv y (List.mem_of_mem_drop hy)
 ·rw[List.length_append,List.length_singleton]
  by_cases hlt:E.length<W.length
  ·exact .inl (by omega)
  ·exact .inr ⟨by omega,hpend⟩
structure AS where
 L:Nat
 most:Nat
 W:List (List Int)
 E:List (List Int)
 G:List (List Int)
 gs:Option (List Int×List (List Int))
 wr:Option (List Int)
 es:Bk
inductive Wish where
 | ask (c:List Int)
 | shown (m:List Int) (ws:List (List Int))
 | done (m:List Int) (ws:List (List Int))
 | spent (c:List Int)
inductive HR where
 | ask (c:List Int)
 | fin (hi:Nat)
def HY (L:Nat)(W E:List (List Int))(es:Bk):List (List Int):=(FX (Bo L W) E).filter fun c=>(mkO es c).isNone
def Dg (W:List (List Int))(es:Bk):List Int:=W.map fun v=>(mkO es v).getD 0
def FD (L:Nat)(W E:List (List Int))(es:Bk):List (List Int):=W.map fun v=>(List.range L).map fun x:Nat=>(((W.map (gOf E es)).idxOf (gOf E es (v ++ [(x:Int)])):Nat):Int)
def CY (es:Bk)(m:List Int)(ws:List (List Int)):Option (List Int):=(es.find? fun e=>decide (Bz m (Ak ws e.1)≠e.2)).map (·.1)
def Jf (W ws:List (List Int))(v:List Int)(i:Nat):List Int:=W.getD (Ak ws (v.take i)).toNat []
def G8 (es:Bk)(W ws:List (List Int))(v:List Int)(mk:Int):Nat->Nat->Nat->HR
 | 0,_,hi=>.fin hi
 | f+1,lo,hi=>if hi-lo > 1 then (match mkO es (Jf W ws v ((lo+hi) / 2)++v.drop ((lo+hi) / 2)) with
   | none=>.ask (Jf W ws v ((lo+hi) / 2)++v.drop ((lo+hi) / 2))
   | some t=>if t=mk then G8 es W ws v mk f lo ((lo+hi) / 2) else G8 es W ws v mk f ((lo+hi) / 2) hi) else .fin hi
def Fq (L:Nat)(W E:List (List Int))(es:Bk):Option (List Int):=(Bo L W).find? fun v=>decide (gOf E es v∉W.map (gOf E es))
def Gb (s:AS):AS×Option Wish:=match Fq s.L s.W s.E s.es with
 | some r=>if s.W.length=s.most then (s,some (.spent r)) else ({s with W:=s.W ++ [r],G:=HY s.L (s.W ++ [r]) s.E s.es},none)
 | none=>match CY s.es (Dg s.W s.es) (FD s.L s.W s.E s.es) with
  | none=>({s with gs:=some (Dg s.W s.es,FD s.L s.W s.E s.es),wr:=none},some (.shown (Dg s.W s.es) (FD s.L s.W s.E s.es)))
  | some v=>({s with gs:=some (Dg s.W s.es,FD s.L s.W s.E s.es),wr:=some v},none)
def LY (s:AS)(v m:List Int)(ws:List (List Int)):AS×Option Wish:=match G8 s.es s.W ws v (Bz m (Ak ws v)) v.length 0 v.length with
 | .ask c=>(s,some (.ask c))
 | .fin hi=>({s with wr:=none,E:=s.E ++ [v.drop hi],G:=HY s.L s.W (s.E ++ [v.drop hi]) s.es},none)
def Df (s:AS):AS×Option Wish:=match s.G with
 | c::r=>({s with G:=r},some (.ask c))
 | []=>match s.wr with
  | some v=>match s.gs with
   | some (m,ws)=>LY s v m ws
   | none=>(s,none)
  | none=>Gb s
structure OkX (x:Option (List Int))(B:Nat)(s:AS):Prop where
 tb:Tb s.L s.most s.W s.E s.es
 cov:∀ c∈FX (Bo s.L s.W) s.E,(∃ m,mkO s.es c=some m)\/c∈s.G\/x=some c
 gn:s.G.Nodup
 gW:∀ c∈s.G,isW s.L c=true/\mkO s.es c=none/\c.length<=B+(s.most+1)*s.E.length
 le:∀ e∈s.E,e.length+(s.most+1)<=B+(s.most+1)*s.E.length
 lb:∀ p∈s.es,p.1.length<=B+(s.most+1)*s.E.length+(if s.wr.isSome then s.most else 0)
 wr:∀ v,s.wr=some v->s.G=[]/\s.E.length<=s.W.length/\isW s.L v=true/\v.length<=B+(s.most+1)*s.E.length/\∃ m ws t,s.gs=some (m,ws)/\GuessOk s.L s.W s.E s.es m ws/\mkO s.es v=some t/\t≠Bz m (Ak ws v)
theorem OkX.full {B:Nat}{s:AS}(o:OkX none B s)(h:s.G=[]):Full s.L s.W s.E s.es:=fun c hc=>by
 rcases o.cov c hc with z | z | z
 ·exact z
 ·rw[h] at z;cases z
 ·cases z
theorem OkX.lens {x:Option (List Int)}{B:Nat}{s:AS}(o:OkX x B s):(s.most+1)*s.E.length<=(s.most+1)*(s.most+1):=Nat.mul_le_mul_left _ o.tb.en
theorem OkX.cell {x:Option (List Int)}{B:Nat}{s:AS}{W:List (List Int)}{E:List (List Int)}(hW:∀ v∈W,isW s.L v=true/\v.length<W.length)(hn:W.length<=s.most)(hE:∀ e∈E,isW s.L e=true/\e.length+(s.most+1)<=B+(s.most+1)*E.length){c:List Int}(hc:c∈FX (Bo s.L W) E):isW s.L c=true/\c.length<=B+(s.most+1)*E.length:=by
 obtain⟨r,hr,e,he,rfl⟩:=Bw.mp hc
 have h2:=hE e he
 have h1:isW s.L r=true/\r.length<=W.length:=by
  rcases AQ.mp hr with h | ⟨a,ha,y,hy,rfl⟩
  ·have:=hW r h;exact⟨this.1,by omega⟩
  ·have:=hW a ha
   exact⟨Ao.mpr fun z hz=>by
    rcases List.mem_append.mp hz with hz | hz
    ·exact Ao.mp this.1 z hz
    ·rw[List.mem_singleton.mp hz];omega,by rw[List.length_append,List.length_singleton];omega⟩
 refine⟨Ao.mpr fun z hz=>?_,by rw[List.length_append];omega⟩
 rcases List.mem_append.mp hz with hz | hz
 ·exact Ao.mp h1.1 z hz
 ·exact Ao.mp h2.1 z hz
theorem Ox (R E:List (List Int)):(FX R E).Nodup:=EE List.nodup_nil
theorem Vy {B:Nat}{s:AS}{W E:List (List Int)}(hW:∀ v∈W,isW s.L v=true/\v.length<W.length)(hn:W.length<=s.most)(hE:∀ e∈E,isW s.L e=true/\e.length+(s.most+1)<=B+(s.most+1)*E.length):(∀ c∈FX (Bo s.L W) E,(∃ m,mkO s.es c=some m)\/c∈HY s.L W E s.es\/(none:Option (List Int))=some c)/\(HY s.L W E s.es).Nodup/\∀ c∈HY s.L W E s.es,isW s.L c=true/\mkO s.es c=none/\c.length<=B+(s.most+1)*E.length:=by
 refine⟨fun c hc=>?_,(Ox _ _).filter _,fun c hc=>?_⟩
 ·cases hm:mkO s.es c with
  | some m=>exact .inl ⟨m,rfl⟩
  | none=>exact .inr (.inl (List.mem_filter.mpr ⟨hc,by rw[hm];rfl⟩))
 ·obtain⟨h1,h2⟩:=List.mem_filter.mp hc
  have:=OkX.cell (x:=none) (s:=s) hW hn hE h1
  exact⟨this.1,by simpa using h2,this.2⟩
theorem Vz {L most:Nat}{W E:List (List Int)}{es:Bk}(t:Tb L most W E es){m:List Int}{ws:List (List Int)}(g:GuessOk L W E es m ws){v:List Int}(hv:isW L v=true){mk:Int}:∀ (f lo hi:Nat),hi-lo<=f+1->lo<hi->hi<=v.length->(∃ b,mkO es (Jf W ws v lo++v.drop lo)=some b/\b≠mk)->mkO es (Jf W ws v hi++v.drop hi)=some mk->match G8 es W ws v mk f lo hi with
   | .ask c=>mkO es c=none/\∃ i,i<v.length/\c=Jf W ws v i++v.drop i
   | .fin h=>0<h/\h<=v.length/\(∃ b,mkO es (Jf W ws v (h-1)++v.drop (h-1))=some b/\b≠mk)/\mkO es (Jf W ws v h++v.drop h)=some mk
 | 0,lo,hi,h1,h2,h3,h4,h5=>by
  have:lo=hi-1:=by omega
  subst this
  exact⟨by omega,h3,h4,h5⟩
 | f+1,lo,hi,h1,h2,h3,h4,h5=>by
  unfold G8
  by_cases hg:hi-lo > 1
  ·rw[if_pos hg]
   cases hm:mkO es (Jf W ws v ((lo+hi) / 2)++v.drop ((lo+hi) / 2)) with
   | none=>exact⟨hm,(lo+hi) / 2,by omega,rfl⟩
   | some b =>
    dsimp only
    by_cases hb:b=mk
    ·rw[if_pos hb]
     subst hb
     exact Vz t g hv f lo ((lo+hi) / 2) (by omega) (by omega) (by omega) h4 hm
    ·rw[if_neg hb]
     exact Vz t g hv f ((lo+hi) / 2) hi (by omega) (by omega) h3 ⟨b,hm,hb⟩ h5
  ·rw[if_neg hg]
   have:lo=hi-1:=by omega
   subst this
   exact⟨by omega,h3,h4,h5⟩
theorem RD {L most:Nat}{W E:List (List Int)}{es:Bk}(t:Tb L most W E es){m:List Int}{ws:List (List Int)}(g:GuessOk L W E es m ws){v:List Int}(hv:isW L v=true)(i:Nat):∃ k:Nat,Ak ws (v.take i)=(k:Int)/\W[k]?=some (Jf W ws v i):=by
 obtain⟨k,u,h1,h2⟩:=g.room t hv i
 refine⟨k,h1,?_⟩
 unfold Jf
 rw[h1,show ((k:Int)).toNat=k by omega,List.getD_eq_getElem?_getD,h2];rfl
open Classical in
noncomputable def mu (s:AS):Nat:=4*(s.most-s.W.length)+(if s.wr.isSome then 2 else if Pend s.L s.W s.E s.es then 1 else 3)
def WOk (B:Nat)(s:AS):Wish->Prop
 | .ask c=>OkX (some c) B s/\mkO s.es c=none/\isW s.L c=true/\c.length<=B+(s.most+1)*s.E.length+(if s.wr.isSome then s.most else 0)/\c∉s.G
 | .shown m ws=>OkX none B s/\s.G=[]/\s.wr=none/\s.gs=some (m,ws)/\GuessOk s.L s.W s.E s.es m ws/\∀ p∈s.es,Bz m (Ak ws p.1)=p.2
 | .done m ws=>OkX none B s/\s.G=[]/\s.wr=none/\s.gs=some (m,ws)/\GuessOk s.L s.W s.E s.es m ws/\∀ p∈s.es,Bz m (Ak ws p.1)=p.2
 | .spent r=>OkX none B s/\s.G=[]/\s.wr=none/\s.W.length=s.most/\r∈Bo s.L s.W/\r∉s.W/\isW s.L r=true/\r.length<=s.W.length/\∀ u∈s.W,LW s.E s.es r u
structure Kept (s s':AS):Prop where
 l:s'.L=s.L
 m:s'.most=s.most
 e:s'.es=s.es
theorem Z2 {B:Nat}{s:AS}(o:OkX none B s){v m:List Int}{ws:List (List Int)}(hv:s.wr=some v)(hg:s.gs=some (m,ws)):(∀ s',LY s v m ws=(s',none)->OkX none B s'/\Kept s s'/\mu s'<mu s)/\∀ s' x,LY s v m ws=(s',some x)->WOk B s' x/\Kept s s':=by
 obtain⟨hG,hE,hvW,hvl,m',ws',t,e1,g,ht,hne⟩:=o.wr v hv
 rw[hg] at e1
 cases e1
 have tb:=o.tb
 have hw0:=tb.w0
 have hv0:0<v.length:=by
  refine Nat.pos_of_ne_zero fun z=>hne ?_
  have:v=[]:=List.length_eq_zero_iff.mp z
  subst this
  obtain⟨y,y1,y2⟩:=g.m 0 [] hw0
  rw[ht] at y2
  cases y2
  show t=m.getD 0 0
  rw[List.getD_eq_getElem?_getD,y1];rfl
 have a0:Jf s.W ws v 0=[]:=by
  obtain⟨k,k1,k2⟩:=RD tb g hvW 0
  have:(k:Int)=0:=by rw[<- k1];rfl
  have:k=0:=by omega
  subst this
  rw[hw0] at k2
  exact (Option.some.inj k2).symm
 have aL:mkO s.es (Jf s.W ws v v.length++v.drop v.length)=some (Bz m (Ak ws v)):=by
  obtain⟨k,k1,k2⟩:=RD tb g hvW v.length
  rw[List.take_length] at k1
  obtain⟨y,y1,y2⟩:=g.m k _ k2
  rw[List.drop_length,List.append_nil,y2,k1]
  show some y=some (m.getD ((k:Int)).toNat 0)
  rw[show ((k:Int)).toNat=k by omega,List.getD_eq_getElem?_getD,y1];rfl
 have key:=Vz tb g hvW (mk:=Bz m (Ak ws v)) v.length 0 v.length (by omega) hv0 (Nat.le_refl _) ⟨t,by rw[a0];exact ht,hne⟩ aL
 unfold LY
 cases hh:G8 s.es s.W ws v (Bz m (Ak ws v)) v.length 0 v.length with
 | ask c =>
  rw[hh] at key
  obtain⟨k1,i,hi,rfl⟩:=key
  refine⟨fun s' z=>(by cases z),fun s' x z=>?_⟩
  cases z
  obtain⟨k,q1,q2⟩:=RD tb g hvW i
  have q3:=tb.wW _ (List.mem_of_getElem? q2)
  have q4:=tb.wn
  refine⟨⟨⟨tb,fun c hc=>?_,o.gn,o.gW,o.le,o.lb,o.wr⟩,k1,Ao.mpr fun y hy=>?_,?_,by rw[hG];simp⟩,⟨rfl,rfl,rfl⟩⟩
  ·rcases o.cov c hc with z | z | z
   ·exact .inl z
   ·exact .inr (.inl z)
   ·cases z
  ·rcases List.mem_append.mp hy with hy | hy
   ·exact Ao.mp q3.1 y hy
   ·exact Ao.mp hvW y (List.mem_of_mem_drop hy)
  ·rw[hv,List.length_append,List.length_drop]
   simp only[Option.isSome_some,if_true]
   omega
 | fin hi =>
  rw[hh] at key
  obtain⟨h0,h1,⟨b,b1,b2⟩,h3⟩:=key
  refine⟨fun s' z=>?_,fun s' x z=>(by cases z)⟩
  cases z
  obtain⟨k,q1,q2⟩:=RD tb g hvW (hi-1)
  obtain⟨k',q1',q2'⟩:=RD tb g hvW hi
  have e1:hi-1+1=hi:=by omega
  obtain⟨tb',pend⟩:=tb.halved hE g hvW (i:=hi-1) (by omega) q1 q2 b1 b2 (by rw[e1];exact q1') q2' (by rw[e1];exact h3)
  rw[e1] at tb' pend
  have hle:∀ e∈s.E ++ [v.drop hi],isW s.L e=true/\e.length+(s.most+1)<=B+(s.most+1)*(s.E ++ [v.drop hi]).length:=fun e he=>by
   rw[List.length_append,List.length_singleton,Nat.mul_succ]
   rcases List.mem_append.mp he with he | he
   ·have:=o.le e he;exact⟨tb.eW e he,by omega⟩
   ·rw[List.mem_singleton.mp he,List.length_drop]
    exact⟨Ao.mpr fun y hy=>Ao.mp hvW y (List.mem_of_mem_drop hy),by omega⟩
  obtain⟨c1,c2,c3⟩:=Vy (B:=B) (s:=s) (W:=s.W) (E:=s.E ++ [v.drop hi]) tb.wW tb.wn hle
  refine⟨⟨tb',c1,c2,c3,fun e he=>(hle e he).2,fun p hp=>?_,fun v' z=>(by cases z)⟩,⟨rfl,rfl,rfl⟩,?_⟩
  ·have:=o.lb p hp
   rw[hv] at this
   simp only[Option.isSome_some,if_true] at this
   show p.1.length<=B+(s.most+1)*(s.E ++ [v.drop hi]).length+0
   rw[List.length_append,List.length_singleton,Nat.mul_succ]
   omega
  ·unfold mu
   rw[hv]
   simp only[Option.isSome_some,if_true,Option.isSome_none,Bool.false_eq_true,if_false]
   rw[if_pos pend]
   omega
theorem Y6 {B:Nat}{s:AS}(o:OkX none B s)(hG:s.G=[])(hw:s.wr=none):(∀ s',Gb s=(s',none)->OkX none B s'/\Kept s s'/\mu s'<mu s)/\∀ s' x,Gb s=(s',some x)->WOk B s' x/\Kept s s':=by
 have tb:=o.tb
 have full:=o.full hG
 have hlb:∀ p∈s.es,p.1.length<=B+(s.most+1)*s.E.length:=fun p hp=>by
  have:=o.lb p hp
  rw[hw] at this
  exact this
 unfold Gb
 cases hst:Fq s.L s.W s.E s.es with
 | some r =>
  obtain⟨⟨r1,r2,r3,r4⟩,more⟩:=tb.more full hst
  have rap:∀ u∈s.W,LW s.E s.es r u:=fun u hu=>by
   have h2:=List.find?_some hst
   have h2:gOf s.E s.es r∉s.W.map (gOf s.E s.es):=of_decide_eq_true h2
   exact (LX full r1 (AQ.mpr (.inl hu))).mp fun z=>h2 (by rw[z];exact List.mem_map_of_mem hu)
  dsimp only
  by_cases hm:s.W.length=s.most
  ·rw[if_pos hm]
   refine⟨fun s' z=>(by cases z),fun s' x z=>?_⟩
   cases z
   exact⟨⟨o,hG,hw,hm,r1,r2,r3,r4,rap⟩,⟨rfl,rfl,rfl⟩⟩
  ·rw[if_neg hm]
   refine⟨fun s' z=>?_,fun s' x z=>(by cases z)⟩
   cases z
   have hlt:s.W.length<s.most:=by have:=tb.wn;omega
   have tb':=more hlt
   obtain⟨c1,c2,c3⟩:=Vy (B:=B) (s:=s) (W:=s.W ++ [r]) (E:=s.E) tb'.wW tb'.wn (fun e he=>⟨tb.eW e he,o.le e he⟩)
   refine⟨⟨tb',c1,c2,c3,o.le,o.lb,fun v z=>?_⟩,⟨rfl,rfl,rfl⟩,?_⟩
   ·rw[show s.wr=some v from z] at hw;cases hw
   ·unfold mu
    show 4*(s.most-(s.W ++ [r]).length)+(if s.wr.isSome then 2 else _)<_
    rw[List.length_append,List.length_singleton,hw]
    simp only[Option.isSome_none,Bool.false_eq_true,if_false]
    split<;>split<;>omega
 | none =>
  obtain⟨np,cl⟩:=tb.none full hst
  have g:GuessOk s.L s.W s.E s.es (Dg s.W s.es) (FD s.L s.W s.E s.es):=tb.guess full cl
  have hEW:s.E.length<=s.W.length:=by
   rcases tb.jj with h | h
   ·exact h
   ·exact absurd h.2 np
  dsimp only
  cases hf:CY s.es (Dg s.W s.es) (FD s.L s.W s.E s.es) with
  | none =>
   refine⟨fun s' z=>(by cases z),fun s' x z=>?_⟩
   cases z
   refine⟨⟨⟨tb,o.cov,o.gn,o.gW,o.le,fun p hp=>by have:=hlb p hp;exact this,fun v z=>(by cases z)⟩,hG,rfl,rfl,g,fun p hp=>?_⟩,⟨rfl,rfl,rfl⟩⟩
   unfold CY at hf
   rw[Option.map_eq_none_iff,List.find?_eq_none] at hf
   have:=hf p hp
   simpa using this
  | some v =>
   refine⟨fun s' z=>?_,fun s' x z=>(by cases z)⟩
   cases z
   unfold CY at hf
   cases hfd:s.es.find? (fun e=>decide (Bz (Dg s.W s.es) (Ak (FD s.L s.W s.E s.es) e.1)≠e.2)) with
   | none=>rw[hfd] at hf;cases hf
   | some e =>
    rw[hfd] at hf
    cases hf
    have h1:=List.mem_of_find?_eq_some hfd
    have h2:=List.find?_some hfd
    have h2:Bz (Dg s.W s.es) (Ak (FD s.L s.W s.E s.es) e.1)≠e.2:=of_decide_eq_true h2
    refine⟨⟨tb,o.cov,o.gn,o.gW,o.le,fun p hp=>by have:=hlb p hp;show p.1.length<=B+(s.most+1)*s.E.length+s.most;omega,fun v z=>?_⟩,⟨rfl,rfl,rfl⟩,?_⟩
    ·cases z
     exact⟨hG,hEW,(tb.bW e h1).1,hlb e h1,_,_,e.2,rfl,g,Gr tb.nd h1,Ne.symm h2⟩
    ·unfold mu
     rw[hw]
     simp only[Option.isSome_some,if_true,Option.isSome_none,Bool.false_eq_true,if_false]
     rw[if_neg np]
     omega
theorem My {B:Nat}{s:AS}(o:OkX none B s):(∀ s',Df s=(s',none)->OkX none B s'/\Kept s s'/\mu s'<mu s)/\∀ s' x,Df s=(s',some x)->WOk B s' x/\Kept s s':=by
 unfold Df
 cases hG:s.G with
 | cons c r =>
  refine⟨fun s' z=>(by cases z),fun s' x z=>?_⟩
  cases z
  have hwr:s.wr=none:=by
   cases h:s.wr with
   | none=>rfl
   | some v=>have:=(o.wr v h).1;rw[hG] at this;cases this
  have gn:=o.gn
  rw[hG,List.nodup_cons] at gn
  have hc:=o.gW c (by rw[hG];exact List.mem_cons_self ..)
  refine⟨⟨⟨o.tb,fun b hb=>?_,gn.2,fun b hb=>o.gW b (by rw[hG];exact List.mem_cons_of_mem _ hb),o.le,o.lb,fun v z=>?_⟩,hc.2.1,hc.1,by have:=hc.2.2;show c.length<=B+(s.most+1)*s.E.length+(if s.wr.isSome=true then s.most else 0);omega,gn.1⟩,⟨rfl,rfl,rfl⟩⟩
  ·rcases o.cov b hb with z | z | z
   ·exact .inl z
   ·rw[hG] at z
    rcases List.mem_cons.mp z with rfl | z
    ·exact .inr (.inr rfl)
    ·exact .inr (.inl z)
   ·cases z
  ·rw[show s.wr=some v from z] at hwr;cases hwr
 | nil =>
  cases hw:s.wr with
  | none=>exact Y6 o hG hw
  | some v =>
   obtain⟨_,_,_,_,m,ws,t,e1,_⟩:=o.wr v hw
   rw[e1]
   exact Z2 o hw e1
def afl (wv:V)(L most:Int)(b pw pe pg:Addr)(gv rv:V):List (Str×V):=[("wish",wv),("letters",.int L),("most",.int most),("book",.ref b),("ways",.ref pw),("ends",.ref pe),("gaps",.ref pg),("guess",gv),("wrong",rv)]
section
variable (wv:V) (L most:Int) (b pw pe pg:Addr) (gv rv y:V)
theorem KK:(afl wv L most b pw pe pg gv rv).lookup ("wish" : Str)=some wv:=by kernel_rfl
theorem Mz:(afl wv L most b pw pe pg gv rv).lookup ("letters" : Str)=some (.int L):=by kernel_rfl
theorem BP_:(afl wv L most b pw pe pg gv rv).lookup ("most" : Str)=some (.int most):=by kernel_rfl
theorem Jg:(afl wv L most b pw pe pg gv rv).lookup ("book" : Str)=some (.ref b):=by kernel_rfl
theorem MA:(afl wv L most b pw pe pg gv rv).lookup ("ways" : Str)=some (.ref pw):=by kernel_rfl
theorem Oy:(afl wv L most b pw pe pg gv rv).lookup ("ends" : Str)=some (.ref pe):=by kernel_rfl
theorem Y7:(afl wv L most b pw pe pg gv rv).lookup ("gaps" : Str)=some (.ref pg):=by kernel_rfl
theorem NW:(afl wv L most b pw pe pg gv rv).lookup ("guess" : Str)=some gv:=by kernel_rfl
theorem JZ:(afl wv L most b pw pe pg gv rv).lookup ("wrong" : Str)=some rv:=by kernel_rfl
theorem WG:putF "wish" y (afl wv L most b pw pe pg gv rv)=afl y L most b pw pe pg gv rv:=by kernel_rfl
theorem Z3 (q:Addr):putF "gaps" (.ref q) (afl wv L most b pw pe pg gv rv)=afl wv L most b pw pe q gv rv:=by kernel_rfl
theorem Y8:putF "guess" y (afl wv L most b pw pe pg gv rv)=afl wv L most b pw pe pg y rv:=by kernel_rfl
theorem Oz:putF "wrong" y (afl wv L most b pw pe pg gv rv)=afl wv L most b pw pe pg gv y:=by kernel_rfl
theorem Z4:putF "wrong" .non (putF "guess" .non (putF "gaps" (.ref pg) (putF "ends" (.ref pe) (putF "ways" (.ref pw) (putF "book" (.ref b) (putF "most" (.int most) (putF "letters" (.int L) (putF "wish" .non []))))))))=afl .non L most b pw pe pg .non .non:=by kernel_rfl
end
structure AD where
 dx:Addr
 b:Addr
 d:Addr
 pw:Addr
 pe:Addr
 pg:Addr
def HouT (K:PySem.W.Frag)(H:Hp)(h:Addr)(L:Int)(m:List Int)(ws:List (List Int)):Prop:=∃ tm tw zs,H h=some (.tup [.int L,.ref tm,.ref tw])/\H tm=some (.tup (m.map V.int))/\H tw=some (.tup zs)/\AG K H zs ws
theorem HouT.mono {K:PySem.W.Frag}{H H':Hp}{h:Addr}{L:Int}{m:List Int}{ws:List (List Int)}(x:HouT K H h L m ws)(k:TK H H'):HouT K H' h L m ws:=by
 obtain⟨tm,tw,zs,a,b,c,d⟩:=x
 exact⟨tm,tw,zs,k _ _ a,k _ _ b,k _ _ c,d.mono k⟩
theorem AG.rows39 {K:PySem.W.Frag}{H:Hp}{t:Addr}{zs:List V}{ws:List (List Int)}(h:AG K H zs ws)(hw:SqT K H t zs):Rows K H t ws:=by
 refine⟨zs.map (fun v=>match v with | .ref t=>t | _=>0),?_,by rw[List.length_map];exact h.1,fun i t r hi hr=>?_⟩
 ·have e:(zs.map (fun v=>match v with | .ref t=>t | _=>0)).map V.ref=zs:=by
   rw[List.map_map]
   refine List.ext_getElem? fun i=>?_
   rw[List.getElem?_map]
   by_cases hi:i<ws.length
   ·obtain⟨t,a,_⟩:=h.2 i ws[i] (by simp[hi])
    rw[a];rfl
   ·rw[List.getElem?_eq_none (by rw[h.1];omega)];rfl
  rw[e];exact hw
 ·obtain⟨t',a,b⟩:=h.2 i r hr
  rw[List.getElem?_map,a] at hi
  cases hi
  exact SqT.of b
theorem HouT.house {K:PySem.W.Frag}{H:Hp}{h:Addr}{L:Int}{m:List Int}{ws:List (List Int)}(x:HouT K H h L m ws):GX K H h L m ws:=by
 obtain⟨tm,tw,zs,a,b,c,d⟩:=x
 exact⟨tm,tw,SqT.of a,SqT.of b,AG.rows39 d (SqT.of c)⟩
def GV (K:PySem.W.Frag)(H:Hp)(L:Int)(gv:V):Option (List Int×List (List Int))->Prop
 | none=>gv=.non
 | some (m,ws)=>∃ h,gv=.ref h/\HouT K H h L m ws
def RV (H:Hp)(rv:V):Option (List Int)->Prop
 | none=>rv=.non
 | some v=>∃ t,rv=.ref t/\H t=some (.tup (v.map V.int))
theorem GV.mono {K:PySem.W.Frag}{H H':Hp}{L:Int}{gv:V}{o:Option (List Int×List (List Int))}(x:GV K H L gv o)(k:TK H H'):GV K H' L gv o:=by
 match o,x with
 | none,x=>exact x
 | some (m,ws),⟨h,a,b⟩=>exact⟨h,a,b.mono k⟩
theorem RV.mono {H H':Hp}{rv:V}{o:Option (List Int)}(x:RV H rv o)(k:TK H H'):RV H' rv o:=by
 match o,x with
 | none,x=>exact x
 | some v,⟨t,a,b⟩=>exact⟨t,a,k _ _ b⟩
def Wish.tag:Wish->Str
 | .ask _ => "ask"
 | .shown _ _ => "show"
 | .done _ _ => "done"
 | .spent _ => "spent"
def DA_ (K:PySem.W.Frag)(H:Hp)(L:Int)(u:Addr):Wish->Prop
 | .ask c=>H u=some (.tup (c.map V.int))
 | .shown m ws=>HouT K H u L m ws
 | .done m ws=>HouT K H u L m ws
 | .spent c=>H u=some (.tup (c.map V.int))
def EF (K:PySem.W.Frag)(H:Hp)(L:Int)(wv:V)(x:Wish):Prop:=∃ t u,wv=.ref t/\H t=some (.tup [.str x.tag,.ref u])/\DA_ K H L u x
theorem EF.mono {K:PySem.W.Frag}{H H':Hp}{L:Int}{wv:V}{x:Wish}(h:EF K H L wv x)(k:TK H H'):EF K H' L wv x:=by
 obtain⟨t,u,a,b,c⟩:=h
 refine⟨t,u,a,k _ _ b,?_⟩
 cases x with
 | ask c'=>exact k _ _ c
 | spent c'=>exact k _ _ c
 | shown m ws=>exact HouT.mono c k
 | done m ws=>exact HouT.mono c k
structure AskAt (K:PySem.W.Frag)(CA CB:Addr)(H:Hp)(a:Addr)(ad:AD)(s:AS)(wv gv rv:V)(zs ys us:List V):Prop where
 ob:H a=some (.ins CA ad.dx (afl wv s.L s.most ad.b ad.pw ad.pe ad.pg gv rv))
 bk:BookAt CB H ad.b ad.d s.L s.es
 w:H ad.pw=some (.lst zs)
 wW:AG K H zs s.W
 e:H ad.pe=some (.lst ys)
 eW:AG K H ys s.E
 g:H ad.pg=some (.lst us)
 gW:AG K H us s.G
 we:ad.pw≠ad.pe
 wg:ad.pw≠ad.pg
 eg:ad.pe≠ad.pg
 gv:GV K H s.L gv s.gs
 rv:RV H rv s.wr
def Asks (K:PySem.W.Frag)(CA CB:Addr)(H:Hp)(a:Addr)(ad:AD)(s:AS)(wv:V):Prop:=∃ gv rv zs ys us,AskAt K CA CB H a ad s wv gv rv zs ys us
theorem BookAt.tk {C:Addr}{H H':Hp}{p d:Addr}{L:Int}{es:List (List Int×Int)}(h:BookAt C H p d L es)(hp:∀ o,H p=some o->H' p=some o)(hd:∀ o,H d=some o->H' d=some o):BookAt C H' p d L es:=by
 obtain⟨⟨dx,a⟩,b,c⟩:=h
 exact⟨⟨dx,hp _ a⟩,hd _ b,c⟩
def Frm (H H':Hp)(a:Addr)(ad:AD):Prop:=(∀ x o,H x=some o->x≠a->x≠ad.d->x≠ad.pw->x≠ad.pe->x≠ad.pg->H' x=some o)/\∀ x,H' x=none->H x=none
def AdOk (H:Hp)(ad ad':AD):Prop:=ad'.dx=ad.dx/\ad'.b=ad.b/\ad'.d=ad.d/\ad'.pw=ad.pw/\ad'.pe=ad.pe/\(ad'.pg=ad.pg\/H ad'.pg=none)
theorem AdOk.refl (H:Hp)(ad:AD):AdOk H ad ad:=⟨rfl,rfl,rfl,rfl,rfl,.inl rfl⟩
theorem Frm.of {H H':Hp}(s:Same H H')(a:Addr)(ad:AD):Frm H H' a ad:=⟨fun x o h _ _ _ _ _=>s _ _ h,fun x h=>s.none h⟩
theorem Frm.trans {H H1 H2:Hp}{a:Addr}{ad ad1:AD}(f:Frm H H1 a ad)(k:AdOk H ad ad1)(g:Frm H1 H2 a ad1):Frm H H2 a ad:=by
 obtain⟨k1,k2,k3,k4,k5,k6⟩:=k
 refine⟨fun x o h n1 n2 n3 n4 n5=>g.1 x o (f.1 x o h n1 n2 n3 n4 n5) n1 (by rw[k3];exact n2) (by rw[k4];exact n3) (by rw[k5];exact n4) (fun z=>?_),fun x h=>f.2 x (g.2 x h)⟩
 rcases k6 with k6 | k6
 ·exact n5 (z.trans k6)
 ·rw[z,k6] at h;cases h
theorem AdOk.trans {H H1:Hp}{a:Addr}{ad ad1 ad2:AD}(f:Frm H H1 a ad)(k:AdOk H ad ad1)(g:AdOk H1 ad1 ad2):AdOk H ad ad2:=by
 obtain⟨k1,k2,k3,k4,k5,k6⟩:=k
 obtain⟨g1,g2,g3,g4,g5,g6⟩:=g
 refine⟨g1.trans k1,g2.trans k2,g3.trans k3,g4.trans k4,g5.trans k5,?_⟩
 rcases g6 with g6 | g6
 ·rw[g6];exact k6
 ·exact .inr (f.2 _ g6)
section
variable {K:PySem.W.Frag} {CA CB:Addr} {H H':Hp} {a:Addr} {ad:AD} {s:AS} {wv gv rv:V} {zs ys us:List V}
theorem AskAt.tk (x:AskAt K CA CB H a ad s wv gv rv zs ys us)(f:Frm H H' a ad):TK H H':=fun t ts h=>f.1 t _ h (fun z=>by rw[z,x.ob] at h;cases h) (fun z=>by rw[z,x.bk.dc] at h;cases h) (fun z=>by rw[z,x.w] at h;cases h) (fun z=>by rw[z,x.e] at h;cases h) (fun z=>by rw[z,x.g] at h;cases h)
theorem AskAt.same (x:AskAt K CA CB H a ad s wv gv rv zs ys us)(k:Same H H'):AskAt K CA CB H' a ad s wv gv rv zs ys us :=
 ⟨k _ _ x.ob,x.bk.mono k,k _ _ x.w,x.wW.mono (TK.of k),k _ _ x.e,x.eW.mono (TK.of k),k _ _ x.g,x.gW.mono (TK.of k),x.we,x.wg,x.eg,x.gv.mono (TK.of k),x.rv.mono (TK.of k)⟩
theorem AskAt.tkob (x:AskAt K CA CB H a ad s wv gv rv zs ys us)(o:HO):TK H (upd H a o):=fun t ts h=>by rw[Ah (fun z=>by rw[z,x.ob] at h;cases h)];exact h
theorem AskAt.na (x:AskAt K CA CB H a ad s wv gv rv zs ys us):ad.pw≠a/\ad.pe≠a/\ad.pg≠a/\ad.d≠a/\ad.b≠ad.d/\ad.pw≠ad.d/\ad.pe≠ad.d/\ad.pg≠ad.d/\ad.b≠ad.pw/\ad.b≠ad.pe/\ad.b≠ad.pg:=by
 obtain⟨dx,hb⟩:=x.bk.ob
 refine⟨fun z=>?_,fun z=>?_,fun z=>?_,fun z=>?_,fun z=>?_,fun z=>?_,fun z=>?_,fun z=>?_,fun z=>?_,fun z=>?_,fun z=>?_⟩
 ·have:=x.w;rw[z,x.ob] at this;cases this
 ·have:=x.e;rw[z,x.ob] at this;cases this
 ·have:=x.g;rw[z,x.ob] at this;cases this
 ·have:=x.bk.dc;rw[z,x.ob] at this;cases this
 ·rw[z,x.bk.dc] at hb;cases hb
 ·have:=x.w;rw[z,x.bk.dc] at this;cases this
 ·have:=x.e;rw[z,x.bk.dc] at this;cases this
 ·have:=x.g;rw[z,x.bk.dc] at this;cases this
 ·rw[z,x.w] at hb;cases hb
 ·rw[z,x.e] at hb;cases hb
 ·rw[z,x.g] at hb;cases hb
theorem AskAt.nb (x:AskAt K CA CB H a ad s wv gv rv zs ys us):ad.b≠a:=fun z=>by
 obtain⟨dx,hb⟩:=x.bk.ob
 rw[z,x.ob] at hb
 injection hb with hb
 injection hb with _ _ hb
 have h1:=congrArg (fun l=>List.lookup ("wish" : Str) l) hb
 rw[KK,Fn _ _ (by decide +kernel) (by decide +kernel)] at h1
 cases h1
theorem AskAt.put (x:AskAt K CA CB H a ad s wv gv rv zs ys us){wv' gv' rv':V}{s':AS}(hL:s'.L=s.L)(hm:s'.most=s.most)(hW:s'.W=s.W)(hE:s'.E=s.E)(hG:s'.G=s.G)(hes:s'.es=s.es)(g':GV K H s'.L gv' s'.gs)(r':RV H rv' s'.wr):AskAt K CA CB (upd H a (.ins CA ad.dx (afl wv' s.L s.most ad.b ad.pw ad.pe ad.pg gv' rv'))) a ad s' wv' gv' rv' zs ys us:=by
 obtain⟨n1,n2,n3,n4,n5,n6,n7,n8,n9,n10,n11⟩:=x.na
 have tk:=x.tkob (.ins CA ad.dx (afl wv' s.L s.most ad.b ad.pw ad.pe ad.pg gv' rv'))
 exact⟨by rw[Ac,hL,hm],by rw[hL,hes];exact BookAt.tk x.bk (fun o h=>by rw[Ah x.nb];exact h) (fun o h=>by rw[Ah n4];exact h),by rw[Ah n1];exact x.w,by rw[hW];exact x.wW.mono tk,by rw[Ah n2];exact x.e,by rw[hE];exact x.eW.mono tk,by rw[Ah n3];exact x.g,by rw[hG];exact x.gW.mono tk,x.we,x.wg,x.eg,g'.mono tk,r'.mono tk⟩
theorem AskAt.putF (x:AskAt K CA CB H a ad s wv gv rv zs ys us)(o:HO):Frm H (upd H a o) a ad:=⟨fun y o' h n _ _ _ _=>by rw[Ah n];exact h,fun y h=>by
 by_cases z:y=a
 ·rw[z,Ac] at h;cases h
 ·rwa [Ah z] at h⟩
end
inductive Goes:AS->AS->Wish->Prop where
 | stop {s s':AS} {x:Wish}:Df s=(s',some x)->Goes s s' x
 | more {s s1 s':AS} {x:Wish}:Df s=(s1,none)->Goes s1 s' x->Goes s s' x
theorem Goes.ok {B:Nat}{s s':AS}{x:Wish}(g:Goes s s' x)(o:OkX none B s):WOk B s' x/\Kept s s':=by
 induction g with
 | stop h=>exact (My o).2 _ _ h
 | more h _ ih =>
  obtain⟨o1,k1,_⟩:=(My o).1 _ h
  obtain⟨o2,k2⟩:=ih o1
  exact⟨o2,⟨k2.l.trans k1.l,k2.m.trans k1.m,k2.e.trans k1.e⟩⟩
structure Sz (s:AS):Prop where
 l6:s.L<=6
 w:s.W.length<=13/\∀ v∈s.W,v.length<=50
 e:s.E.length<=14/\∀ v∈s.E,v.length<=500
 b:∀ p∈s.es,p.1.length<=600
theorem RE (ys:List Int)(m:Nat):cutV (ys.map V.int) (some (m:Int)) none=(ys.drop m).map V.int:=by
 rw[ZJ]
 unfold cutI
 rw[HT.sIx_nat,HT.sIx_none]
 congr 1
 by_cases h:m<=ys.length
 ·rw[Nat.min_eq_left h,List.take_of_length_le (by rw[List.length_drop];omega)]
 ·rw[Nat.min_eq_right (by omega),List.drop_length,List.drop_of_length_le (by omega),List.take_nil]
theorem Y9 (ws:List (List Int))(v:List Int){i:Nat}(hi:i<=v.length):((Nj ws v).map V.int)[i]?=some (V.int (Ak ws (v.take i))):=by
 unfold Nj
 rw[List.getElem?_map,List.getElem?_map,List.getElem?_range (by omega)];rfl
theorem Frm.seq {H H1 H2:Hp}{a:Addr}{ad:AD}(f:Frm H H1 a ad)(g:Frm H1 H2 a ad):Frm H H2 a ad:=f.trans (AdOk.refl H ad) g
def Bd (B:Nat)(s:AS):Prop:=B+(s.most+1)*(s.most+1)+s.most<=500
theorem OkX.sz {y:Option (List Int)}{B:Nat}{s:AS}(o:OkX y B s)(h:Bd B s):Sz s:=by
 have tb:=o.tb
 have h1:=tb.wn
 have h2:=tb.m12
 have h3:=tb.en
 have h4:=o.lens
 unfold Bd at h
 refine⟨tb.l6,⟨by omega,fun v hv=>by have:=(tb.wW v hv).2;omega⟩,⟨by omega,fun v hv=>by have:=o.le v hv;omega⟩,fun p hp=>?_⟩
 have:=o.lb p hp
 split at this<;>omega
theorem MB (wv:V)(L most:Int)(b pw pe pg:Addr)(gv rv:V):(afl wv L most b pw pe pg gv rv).length<1000:=by unfold afl;simp
section
variable {K:PySem.W.Frag} {CA CB:Addr} {H H':Hp} {a:Addr} {ad:AD} {s:AS} {wv gv rv:V} {zs ys us:List V}
theorem AskAt.putW (x:AskAt K CA CB H a ad s wv gv rv zs ys us){zs':List V}{W':List (List Int)}(h:AG K H zs' W'):AskAt K CA CB (upd H ad.pw (.lst zs')) a ad {s with W:=W' } wv gv rv zs' ys us:=by
 obtain⟨n1,n2,n3,n4,n5,n6,n7,n8,n9,n10,n11⟩:=x.na
 have tk:=TK.lst x.w (o:=.lst zs')
 exact⟨by rw[Ah (Ne.symm n1)];exact x.ob,BookAt.tk x.bk (fun o h=>by rw[Ah n9];exact h) (fun o h=>by rw[Ah (Ne.symm n6)];exact h),Ac,h.mono tk,by rw[Ah (Ne.symm x.we)];exact x.e,x.eW.mono tk,by rw[Ah (Ne.symm x.wg)];exact x.g,x.gW.mono tk,x.we,x.wg,x.eg,x.gv.mono tk,x.rv.mono tk⟩
theorem AskAt.putE (x:AskAt K CA CB H a ad s wv gv rv zs ys us){ys':List V}{E':List (List Int)}(h:AG K H ys' E'):AskAt K CA CB (upd H ad.pe (.lst ys')) a ad {s with E:=E' } wv gv rv zs ys' us:=by
 obtain⟨n1,n2,n3,n4,n5,n6,n7,n8,n9,n10,n11⟩:=x.na
 have tk:=TK.lst x.e (o:=.lst ys')
 exact⟨by rw[Ah (Ne.symm n2)];exact x.ob,BookAt.tk x.bk (fun o h=>by rw[Ah n10];exact h) (fun o h=>by rw[Ah (Ne.symm n7)];exact h),by rw[Ah x.we];exact x.w,x.wW.mono tk,Ac,h.mono tk,by rw[Ah (Ne.symm x.eg)];exact x.g,x.gW.mono tk,x.we,x.wg,x.eg,x.gv.mono tk,x.rv.mono tk⟩
theorem AskAt.putG (x:AskAt K CA CB H a ad s wv gv rv zs ys us){us':List V}{G':List (List Int)}(h:AG K H us' G'):AskAt K CA CB (upd H ad.pg (.lst us')) a ad {s with G:=G' } wv gv rv zs ys us':=by
 obtain⟨n1,n2,n3,n4,n5,n6,n7,n8,n9,n10,n11⟩:=x.na
 have tk:=TK.lst x.g (o:=.lst us')
 exact⟨by rw[Ah (Ne.symm n3)];exact x.ob,BookAt.tk x.bk (fun o h=>by rw[Ah n11];exact h) (fun o h=>by rw[Ah (Ne.symm n8)];exact h),by rw[Ah x.wg];exact x.w,x.wW.mono tk,by rw[Ah x.eg];exact x.e,x.eW.mono tk,Ac,h.mono tk,x.we,x.wg,x.eg,x.gv.mono tk,x.rv.mono tk⟩
theorem Frm.put {q:Addr}{o:HO}(h:q=ad.pw\/q=ad.pe\/q=ad.pg\/q=ad.d)(hq:∃ o,H q=some o):Frm H (upd H q o) a ad:=by
 refine⟨fun y o' hy n1 n2 n3 n4 n5=>?_,fun y hy=>?_⟩
 ·rw[Ah (fun z=>by rcases h with h | h | h | h<;>subst h<;>contradiction)];exact hy
 ·by_cases z:y=q
  ·rw[z,Ac] at hy;cases hy
  ·rwa [Ah z] at hy
end
theorem Dk_ {i n:Nat}(h:i<n):seqIndex? (i:Int) n=some i:=by
 unfold seqIndex?
 simp[show ¬ (i:Int)<0 by omega,h]
theorem AG.tail39 {K:PySem.W.Frag}{H:Hp}{us:List V}{c:List Int}{r:List (List Int)}(h:AG K H us (c::r)):AG K H (us.eraseIdx 0) r:=by
 cases us with
 | nil=>have:=h.1;cases this
 | cons u us =>
  refine⟨?_,fun i w hi=>?_⟩
  ·have:=h.1
   simpa using this
  ·exact h.2 (i+1) w (by simpa using hi)
theorem Xs {es:Bk}{c b:List Int}{m:Int}(h:mkO es b=none)(hb:b≠c):mkO (es ++ [(c,m)]) b=none:=by
 refine LV fun z=>?_
 rw[List.map_append] at z
 rcases List.mem_append.mp z with z | z
 ·obtain⟨n,hn⟩:=Vx.mp z
  rw[h] at hn;cases hn
 ·exact hb (List.mem_singleton.mp z)
theorem OkX.told {y:Option (List Int)}{B:Nat}{s:AS}(o:OkX y B s){c:List Int}{m:Int}(hy:∀ b,y=some b->b=c)(hn:c∉s.es.map (·.1))(hc:isW s.L c=true)(h0:0<=m)(h9:m<=1000000000)(hl:c.length<=B+(s.most+1)*s.E.length+(if s.wr.isSome then s.most else 0))(hg:c∉s.G):OkX none B {s with es:=s.es ++ [(c,m)]}:=by
 have gr:=Grow.snoc s.es c m
 refine⟨o.tb.put hn hc h0 h9,fun b hb=>?_,o.gn,fun b hb=>?_,o.le,fun p hp=>?_,fun v hv=>?_⟩
 ·rcases o.cov b hb with ⟨z,hz⟩ | z | z
  ·exact .inl ⟨z,gr _ _ hz⟩
  ·exact .inr (.inl z)
  ·have:=hy b z
   subst this
   exact .inl ⟨m,Gr (o.tb.put hn hc h0 h9).nd (by simp)⟩
 ·obtain⟨h1,h2,h3⟩:=o.gW b hb
  exact⟨h1,Xs h2 (fun z=>hg (z ▸ hb)),h3⟩
 ·rcases List.mem_append.mp hp with hp | hp
  ·exact o.lb p hp
  ·rw[List.mem_singleton.mp hp];exact hl
 ·obtain⟨h1,h2,h3,h4,mm,ws,t,h5,h6,h7,h8⟩:=o.wr v hv
  exact⟨h1,h2,h3,h4,mm,ws,t,h5,h6.mono gr,gr _ _ h7,h8⟩
section
variable {K:PySem.W.Frag} {CA CB:Addr} {H H':Hp} {a:Addr} {ad:AD} {s:AS} {wv gv rv:V} {zs ys us:List V}
theorem AskAt.putB (x:AskAt K CA CB H a ad s wv gv rv zs ys us){es':Bk}(hb:BookAt CB H' ad.b ad.d s.L es')(hf:∀ b o,H b=some o->b≠ad.d->H' b=some o):AskAt K CA CB H' a ad {s with es:=es' } wv gv rv zs ys us/\Frm H H' a ad/\TK H H':=by
 obtain⟨n1,n2,n3,n4,n5,n6,n7,n8,n9,n10,n11⟩:=x.na
 have tk:TK H H':=fun t ts h=>hf t _ h (fun z=>by rw[z,x.bk.dc] at h;cases h)
 refine⟨⟨hf _ _ x.ob (Ne.symm n4),hb,hf _ _ x.w n6,x.wW.mono tk,hf _ _ x.e n7,x.eW.mono tk,hf _ _ x.g n8,x.gW.mono tk,x.we,x.wg,x.eg,x.gv.mono tk,x.rv.mono tk⟩,⟨fun y o h _ n _ _ _=>hf _ _ h n,fun y h=>?_⟩,tk⟩
 cases hy:H y with
 | none=>rfl
 | some o =>
  by_cases z:y=ad.d
  ·rw[z,hb.dc] at h;cases h
  ·rw[hf _ _ hy z] at h;cases h
end
def s039 (L most:Nat):AS:={L:=L,most:=most,W:=[[]],E:=[[]],G:=HY L [[]] [[]] [],gs:=none,wr:=none,es:=[]}
theorem Za {L most:Nat}(B:Nat)(l1:1<=L)(l6:L<=6)(m1:1<=most)(m12:most<=12):OkX none B (s039 L most):=by
 have hw:∀ v ∈ [([]:List Int)],isW (L:Int) v=true/\v.length < [([]:List Int)].length:=fun v hv=>by
  rw[List.mem_singleton.mp hv];exact⟨Ao.mpr fun x hx=>(by cases hx),by simp⟩
 have hE:∀ e ∈ [([]:List Int)],isW (L:Int) e=true/\e.length+(most+1)<=B+(most+1) * [([]:List Int)].length:=fun v hv=>by
  rw[List.mem_singleton.mp hv];exact⟨Ao.mpr fun x hx=>(by cases hx),by simp⟩
 obtain⟨c1,c2,c3⟩:=Vy (B:=B) (s:=s039 L most) (W:=[[]]) (E:=[[]]) hw (by show 1<=most;omega) hE
 refine⟨⟨l1,l6,m12,rfl,hw,by show 1<=most;omega,rfl,fun e he=>(hE e he).1,List.nodup_nil,fun p hp=>(by cases hp),fun i j v u h1 h2 h3=>?_,.inl (Nat.le_refl _)⟩,c1,c2,c3,fun e he=>(hE e he).2,fun p hp=>(by cases hp),fun v hv=>(by cases hv)⟩
 have h1:=(List.getElem?_eq_some_iff.mp h1).1
 have h2:=(List.getElem?_eq_some_iff.mp h2).1
 have h1:i<1:=h1
 have h2:j<1:=h2
 omega
theorem WH (f:Str)(v:V):∀ fs:List (Str×V),(putF f v fs).length<=fs.length+1
 | []=>by simp[putF]
 | (g,x)::r=>by
  unfold putF
  split
  ·simp
  ·have:=WH f v r
   rw[List.length_cons,List.length_cons];omega
theorem Zb {L:Nat}{W E:List (List Int)}(hW:W.length<=100)(hL:L<=6)(hE:E.length<=100):(FX (Bo L W) E).length<=100000:=by
 unfold FX
 have h1:=B8 ((Bo L W).flatMap fun r=>E.map (r ++ ·)) []
 have h2:((Bo L W).flatMap fun r=>E.map (r ++ ·)).length=(Bo L W).length*E.length:=by
  rw[List.length_flatMap]
  generalize Bo L W=l
  induction l with
  | nil=>simp
  | cons a l ih=>rw[List.map_cons,List.sum_cons,ih,List.length_map,List.length_cons,Nat.succ_mul];omega
 have h3:=Uu L W
 have h4:W.length*L<=100*6:=Nat.mul_le_mul hW hL
 have h5:(Bo L W).length*E.length<=700*100:=Nat.mul_le_mul (by omega) hE
 rw[h2,List.length_nil] at h1
 omega
def WI (CA:Addr):Sp:=fun vs H Q _=>∃ (a dx:Addr) (fs:List (Str×V)),vs=[.ref a]/\H a=some (.ins CA dx fs)/\fs.length<1000/\Q .non (upd H a (.ins CA dx (putF "wish" .non fs)))
theorem Sk {f:Addr}{fd:FuncData}(F:Fun K "__init__" "Turns.__init__" DE f fd)(T:Txt mg)
  (W:Own K mg C_Book C_Turns C_Hunt C_Asker)
  (Z:Exs K mg C_AskError C_BadWord C_BadMark C_OutOfTurn C_NoDifference C_Contradiction)
  : FnOk P w K mg base CX0 1 f fd ["self"] (WI C_Asker):=by
 refine F.ok R6 (fun vs H Q E h=>?_) (fun cdv A outer s H vs Q E hr h=>?_)
 ·obtain⟨a,dx,fs,rfl,_⟩:=h;rfl
 ·obtain⟨a,dx,fs,rfl,ha,hz,k⟩:=h
  refine⟨_,(Af (E5 (pv 0) E4 rfl)),?_⟩
  walk_at "rd"
  exact⟨_,_,_,ha,W.cl_Asker,W.n_Asker_wish,hz,k⟩
def WJ (CA:Addr):Sp:=fun vs H Q _=>∃ (a dx b pw pe:Addr) (L most:Int),vs=[.ref a,.int L,.int most,.ref b,.ref pw,.ref pe]/\H a=some (.ins CA dx [])/\∀ (pg:Addr) (H':Hp),H pg=none->H' a=some (.ins CA dx (afl .non L most b pw pe pg .non .non))->H' pg=some (.lst [])->(∀ x o,H x=some o->x≠a->H' x=some o)->(∀ x,H' x=none->H x=none)->Q .non H'
theorem Uw {f:Addr}{fd:FuncData}(F:Fun K "__init__" "Hunt.__init__" Ej f fd)(T:Txt mg)
  (W:Own K mg C_Book C_Turns C_Hunt C_Asker)
  (Z:Exs K mg C_AskError C_BadWord C_BadMark C_OutOfTurn C_NoDifference C_Contradiction)
  {C2:Addr} {Hv:FuncData} (Jh:FnOk P w K mg base CX0 1 C2 Hv ["self"] (WI C_Asker)) (Gu:Fun K "__init__" "Turns.__init__" DE C2 Hv) (Ji:Binds K Hv ["self"] []) (Jj:CMeth K C_Turns "__init__" C2)
  : FnOk P w K mg base CX0 3 f fd ["self", "letters", "most", "book", "ways", "ends"] (WJ C_Asker):=by
 refine F.ok Ur (fun vs H Q E h=>?_) (fun cdv A outer s H vs Q E hr h=>?_)
 ·obtain⟨a,dx,b,pw,pe,L,most,rfl,_⟩:=h;rfl
 ·obtain⟨a,dx,b,pw,pe,L,most,rfl,ha,k⟩:=h
  have hl:=Ap
  refine⟨_,(Ab (Bm (Dh_ rfl W.m_Turns Jj Jh (hr.mono (by decide)) Ji .nil Bn (Aa (pv 0) Ae)))
   (Ab (E5 (pv 0) (pv 1) rfl)
   (Ab (E5 (pv 0) (pv 2) rfl)
   (Ab (E5 (pv 0) (pv 3) rfl)
   (Ab (E5 (pv 0) (pv 4) rfl)
   (Ab (E5 (pv 0) (pv 5) rfl)
   (Ab (E5 (pv 0) (IK Ae) rfl)
   (Ab (E5 (pv 0) E4 rfl)
   (Af (E5 (pv 0) E4 rfl)))))))))),?_⟩
  walk_at "rd"
  have pl:∀ (f:Str) (v:V) (fs:List (Str×V)) (n:Nat),fs.length<n->(putF f v fs).length<n+1:=fun f v fs n h=>by have:=WH f v fs;omega
  have z1:=pl "wish" .non [] 1 (by simp)
  have z2:=pl "letters" (.int L) _ _ z1
  have z3:=pl "most" (.int most) _ _ z2
  have z4:=pl "book" (.ref b) _ _ z3
  have z5:=pl "ways" (.ref pw) _ _ z4
  have z6:=pl "ends" (.ref pe) _ _ z5
  refine⟨a,dx,[],rfl,ha,by simp,_,_,_,Ac,W.cl_Asker,W.n_Asker_letters,by omega,_,_,_,Ac,W.cl_Asker,W.n_Asker_most,by omega,_,_,_,Ac,W.cl_Asker,W.n_Asker_book,by omega,_,_,_,Ac,W.cl_Asker,W.n_Asker_ways,by omega,_,_,_,Ac,W.cl_Asker,W.n_Asker_ends,by omega,by omega,fun pg hpg=>?_⟩
  have hga:pg≠a:=fun z=>by rw[z,Ac] at hpg;cases hpg
  have z7:=pl "gaps" (.ref pg) _ _ z6
  have z8:=pl "guess" .non _ _ z7
  refine⟨_,_,_,by rw[Ah (Ne.symm hga)];exact Ac,W.cl_Asker,W.n_Asker_gaps,by omega,_,_,_,Ac,W.cl_Asker,W.n_Asker_guess,by omega,_,_,_,Ac,W.cl_Asker,W.n_Asker_wrong,by omega,?_⟩
  have hpgH:H pg=none:=by
   simp only[Ah hga] at hpg
   exact hpg
  refine k pg _ hpgH (by rw[Ac,Z4]) (by simp only[Ah hga];exact Ac) (fun y o hy hya=>?_) (fun y hy=>?_)
  ·have hyg:y≠pg:=fun z=>by rw[z,hpgH] at hy;cases hy
   simp only[Ah hya,Ah hyg]
   exact hy
  ·by_cases hya:y=a
   ·rw[hya,Ac] at hy;cases hy
   ·by_cases hyg:y=pg
    ·rw[hyg];exact hpgH
    ·simp only[Ah hya,Ah hyg] at hy
     exact hy
def WK (K:PySem.W.Frag)(CA CB:Addr):Sp:=fun vs H Q _=>∃ (a:Addr) (ad:AD) (s:AS) (wv:V),vs=[.ref a]/\Asks K CA CB H a ad s wv/\Q wv H
theorem Qv {f:Addr}{fd:FuncData}(F:Fun K "wants" "Turns.wants" C6 f fd)(T:Txt mg)
  (W:Own K mg C_Book C_Turns C_Hunt C_Asker)
  (Z:Exs K mg C_AskError C_BadWord C_BadMark C_OutOfTurn C_NoDifference C_Contradiction)
  : FnOk P w K mg base CX0 1 f fd ["self"] (WK K C_Asker C_Book):=by
 refine F.ok Qm (fun vs H Q E h=>?_) (fun cdv A outer s H vs Q E hr h=>?_)
 ·obtain⟨a,ad,s,wv,rfl,_⟩:=h;rfl
 ·obtain⟨a,ad,s,wv,rfl,⟨gv,rv,zs,ys,us,x⟩,k⟩:=h
  refine⟨_,(Af (Au (Bb (pv 0) rfl))),?_⟩
  walk_at "rd"
  exact⟨_,_,_,x.ob,W.cl_Asker,W.n_Asker_wish,_,KK ..,k⟩
def LZ (K:PySem.W.Frag)(CA CB OT:Addr):Sp:=fun vs H Q E=>∃ (a:Addr) (ad:AD) (s:AS) (wv:V) (x:Wish) (d:Str),vs=[.ref a,.str d]/\Asks K CA CB H a ad s wv/\EF K H s.L wv x/\(x.tag=d->Q .non H)/\(x.tag≠d->E (.ref OT) none H)
theorem J9 {f:Addr}{fd:FuncData}(F:Fun K "check_wants" "Turns.check_wants" AL f fd)(T:Txt mg)
  (W:Own K mg C_Book C_Turns C_Hunt C_Asker)
  (Z:Exs K mg C_AskError C_BadWord C_BadMark C_OutOfTurn C_NoDifference C_Contradiction)
  : FnOk P w K mg base (CXe P w) 1 f fd ["self", "deed"] (LZ K C_Asker C_Book C_OutOfTurn):=by
 refine F.okE J4 (fun vs H Q E h=>?_) (fun cdv A outer s H vs Q E hr h=>?_)
 ·obtain⟨a,ad,s,wv,x,d,rfl,_⟩:=h;rfl
 ·obtain⟨a,ad,s,wv,x,d,rfl,⟨gv,rv,zs,ys,us,A'⟩,hw,k,kE⟩:=h
  have hl:=Ap
  refine⟨_,(Af (DX (A0 Ql (AU AF (Bb (pv 0) rfl) Ag (fun _ _=>rfl)) (pv 1) (Bl _))
   (Af (LQ Z.m_OutOfTurn Z.x_OutOfTurn rfl rfl (Aa EG Ae)))
   Bq)),?_⟩
  walk_at "rd"
  obtain⟨t,u,rfl,ht,_⟩:=hw
  refine⟨_,_,_,A'.ob,W.cl_Asker,W.n_Asker_wish,_,KK ..,t,rfl,_,SqT.of ht,V.str x.tag,rfl,rfl,?_⟩
  by_cases hd:x.tag=d
  ·rw[if_neg (by simp[hd])];exact k hd
  ·rw[if_pos (by simp[hd])];exact⟨by omega,kE hd⟩
def Ux (K:PySem.W.Frag)(CA CB:Addr):Sp:=fun vs H Q _=>∃ (a l:Addr) (ad:AD) (s:AS) (wv:V) (ts:List V) (ws:List (List Int)),vs=[.ref a,.ref l]/\Asks K CA CB H a ad s wv/\SqL K H l ts/\AG K H ts ws/\ws.Nodup/\ws.length<=100000/\∀ ad' H',Asks K CA CB H' a ad' {s with G:=ws.filter fun c=>(mkO s.es c).isNone} wv->Frm H H' a ad->AdOk H ad ad'->Q .non H'
theorem OA {f:Addr}{fd:FuncData}(F:Fun K "ask_for" "Hunt.ask_for" CF f fd)(T:Txt mg)
  (W:Own K mg C_Book C_Turns C_Hunt C_Asker)
  (Z:Exs K mg C_AskError C_BadWord C_BadMark C_OutOfTurn C_NoDifference C_Contradiction)
  {AC:Addr} {A5:FuncData} (BN:FnOk P w K mg base CX0 1 AC A5 ["self", "word"] (Fw C_Book)) (CL:Fun K "told" "Book.told" CD AC A5) (BO:Binds K A5 ["self", "word"] []) (BP:Meth K C_Book "told" AC)
  : FnOk P w K mg base CX0 2 f fd ["self", "words"] (Ux K C_Asker C_Book):=by
 refine F.ok FZ (fun vs H Q E h=>?_) (fun cdv A outer s H vs Q E hr h=>?_)
 ·obtain⟨a,l,ad,s,wv,ts,ws,rfl,_⟩:=h;rfl
 ·obtain⟨a,l,ad,s,wv,ts,ws,rfl,⟨gv,rv,zs,ys,us,x⟩,hl',hW,nd,hz,k⟩:=h
  have hl:=Ap
  refine⟨_,(Ab (As (i:=2) FZ.nd rfl (Or.inl rfl) JU)
   (Ab (Dv PassesOwn.never rfl (Ef (pv 1)) (AK (i:=3) FZ.nd rfl (Or.inl rfl))
   (Af (DX (A0 N1 (C4 (Bb (pv 0) rfl) W.cl_Book BP BN (hr.mono (by decide)) BO .nil Bn (Aa (pv 3) Ae)) E4 (Bl _))
   (Af (IM (Hg hr) (pv 2) (pv 3) LL rfl))
   Bq)))
   (Af (E5 (pv 0) (Ca (FW rfl) rfl T.list PyProof.Rows.boot_list (Aa (pv 2) Ae)) rfl)))),?_⟩
  walk_at "rd"
  intro p hp
  have sp:=Same.new (o:=.dT []) hp
  obtain⟨dxb,hb⟩:=x.bk.ob
  obtain⟨Pv,hPv⟩:∃ Pv:Nat->St->Hp->Prop,∀ i σ' H',Pv i σ' H'↔(∃ (kvs:List (List Key×V)) (o:Option V),Same H H'/\H' p=some (.dT kvs)/\FB ((ws.take i).filter fun c=>(mkO s.es c).isNone) kvs/\σ'=[some (.ref a),some (.ref l),some (.ref p),o]):=⟨_,fun _ _ _=>Iff.rfl⟩
  refine⟨⟨_,sp.seq hl'⟩,forL (xs:=ts) Pv ((hPv _ _ _).mpr ⟨[],none,sp,Ac,by rw[List.take_zero];exact FB.nil,rfl⟩) (fun i σ' H' _ h'=>by obtain⟨_,_,s',_⟩:=(hPv _ _ _).mp h';exact s'.seq hl') (fun i y σ' H' hy h'=>?_) (fun σ' H' h'=>?_)⟩
  ·obtain⟨kvs,o,s',hd,hk,rfl⟩:=(hPv _ _ _).mp h'
   obtain⟨t,c,hci,rfl,ht⟩:=hW.at hy
   have hil:i<ws.length:=(List.getElem?_eq_some_iff.mp hci).1
   have hlen:kvs.length<=100000:=by
    rw[hk.len]
    have h1:=List.length_filter_le (fun c=>(mkO s.es c).isNone) (ws.take i)
    rw[List.length_take] at h1
    omega
   have ht':=s' _ _ ht
   have hnot:c∉ws.take i:=fun z=>by
    obtain⟨j,hj⟩:=List.mem_iff_getElem?.mp z
    rw[List.getElem?_take] at hj
    split at hj
    ·rename_i hji
     have h1:=List.getElem?_eq_some_iff.mp hj
     have h2:=List.getElem?_eq_some_iff.mp hci
     have:=(List.pairwise_iff_getElem.mp (List.nodup_iff_pairwise_ne.mp nd)) j i h1.1 h2.1 hji
     exact this (h1.2.trans h2.2.symm)
    ·cases hj
   have etk:(ws.take (i+1)).filter (fun c=>(mkO s.es c).isNone)=(ws.take i).filter (fun c=>(mkO s.es c).isNone)++(if (mkO s.es c).isNone then [c] else []):=by
    rw[List.take_add_one,hci,List.filter_append]
    congr 1
    show List.filter _ [c]=_
    rw[List.filter_cons]
    rfl
   walk_at "rd"
   refine⟨_,_,_,s' _ _ x.ob,W.cl_Asker,W.n_Asker_book,_,Jg ..,ad.b,rfl,_,_,s' _ _ hb,Fn _ _ (by decide +kernel) (by decide +kernel),ad.b,ad.d,t,_,c,s.es,rfl,x.bk.mono s',ht',fun hn=>?_,fun m hm=>?_⟩
   ·dsimp only
    rw[if_pos rfl]
    have hno:(mkO s.es c).isNone=true:=by rw[LV hn];rfl
    refine⟨_,DPut.t (k:=wkey c) hd (by rw[DY];exact ht') (by omega),(hPv _ _ _).mpr ⟨_,_,s'.over hp,Ac,?_,rfl⟩⟩
    rw[etk,if_pos hno]
    have:=hk.put c (.bl true)
    unfold ins at this
    rw[if_neg (fun z=>hnot (List.mem_filter.mp z).1)] at this
    exact this
   ·dsimp only
    rw[if_neg (by simp)]
    have hso:(mkO s.es c).isNone=false:=by rw[Gr x.bk.nd hm];rfl
    refine (hPv _ _ _).mpr ⟨kvs,_,s',hd,?_,rfl⟩
    rw[etk,hso]
    simpa using hk
  ·obtain⟨kvs,o,s',hd,hk,rfl⟩:=(hPv _ _ _).mp h'
   rw[hW.1,List.take_length] at hk
   walk_at "rd"
   refine⟨kvs,.inl hd,fun q rs hq hrl hrs=>?_⟩
   have x1:=x.same (s'.newT hq (o:=.lst rs))
   have uq:upd H' q (.lst rs) q=some (.lst rs):=Ac
   have hwd:=(hk.words (K:=K) hrl hrs).mono (TK.new hq (o:=.lst rs))
   have s1:=s'.newT hq (o:=.lst rs)
   have hqH:H q=none:=s'.none hq
   generalize upd H' q (.lst rs)=H1 at x1 uq hwd s1 ⊢
   obtain⟨n1,n2,n3,n4,n5,n6,n7,n8,n9,n10,n11⟩:=x1.na
   have hqa:q≠a:=fun z=>by rw[z,x1.ob] at uq;cases uq
   refine⟨_,_,_,x1.ob,W.cl_Asker,W.n_Asker_gaps,by unfold afl;simp,?_⟩
   rw[Z3]
   refine k {ad with pg:=q} _ ⟨gv,rv,zs,ys,rs,?_⟩ ⟨fun y o hy m1 m2 m3 m4 m5=>by rw[Ah m1];exact s1 _ _ hy,fun y hy=>?_⟩ ⟨rfl,rfl,rfl,rfl,rfl,.inr hqH⟩
   ·have tk:=x1.tkob (.ins C_Asker ad.dx (afl wv s.L s.most ad.b ad.pw ad.pe q gv rv))
    refine⟨Ac,BookAt.tk x1.bk (fun o h=>by rw[Ah x1.nb];exact h) (fun o h=>by rw[Ah n4];exact h),by rw[Ah n1];exact x1.w,x1.wW.mono tk,by rw[Ah n2];exact x1.e,x1.eW.mono tk,by rw[Ah hqa];exact uq,hwd.mono tk,x.we,fun z=>?_,fun z=>?_,x1.gv.mono tk,x1.rv.mono tk⟩
    ·rw[show q=ad.pw from z.symm,x.w] at hqH;cases hqH
    ·rw[show q=ad.pe from z.symm,x.e] at hqH;cases hqH
   ·by_cases hya:y=a
    ·rw[hya,Ac] at hy;cases hy
    ·rw[Ah hya] at hy;exact s1.none hy
def NX (K:PySem.W.Frag)(CA CB:Addr):Sp:=fun vs H Q _=>∃ (a:Addr) (ad:AD) (s:AS) (wv:V),vs=[.ref a]/\Asks K CA CB H a ad s wv/\Sz s/\∀ ad' H',Asks K CA CB H' a ad' {s with G:=HY s.L s.W s.E s.es} wv->Frm H H' a ad->AdOk H ad ad'->Q .non H'
theorem Id {f:Addr}{fd:FuncData}(F:Fun K "look_for_gaps" "Asker.look_for_gaps" Av f fd)(T:Txt mg)
  (W:Own K mg C_Book C_Turns C_Hunt C_Asker)
  (Z:Exs K mg C_AskError C_BadWord C_BadMark C_OutOfTurn C_NoDifference C_Contradiction)
  {BB:Addr} {Gc:FuncData} (GF:FnOk P w K mg base CX0 2 BB Gc ["self", "words"] (Ux K C_Asker C_Book)) (Fr:Fun K "ask_for" "Hunt.ask_for" CF BB Gc) (GG:Binds K Gc ["self", "words"] []) (GH:Meth K C_Asker "ask_for" BB)
  {KL:Addr} {Sl:FuncData} (VA:FnOk P w K mg base CX0 2 KL Sl ["letters", "access", "ends"] (WD K)) (OB:Fun K "cells" "cells" Kw KL Sl) (VB:Binds K Sl ["letters", "access", "ends"] []) (VC:mg "cells" = some (.ref KL))
  : FnOk P w K mg base CX0 3 f fd ["self"] (NX K C_Asker C_Book):=by
 refine F.ok Ib (fun vs H Q E h=>?_) (fun cdv A outer s H vs Q E hr h=>?_)
 ·obtain⟨a,ad,s,wv,rfl,_⟩:=h;rfl
 ·obtain⟨a,ad,s,wv,rfl,⟨gv,rv,zs,ys,us,x⟩,sz,k⟩:=h
  have hl:=Ap
  refine⟨_,(Af (Bm (C4 (pv 0) W.cl_Asker GH GF (hr.mono (by decide)) GG .nil Bn (Aa (AE VA (hr.mono (by decide)) rfl VC OB.kp VB .nil Bn (Aa (Bb (pv 0) rfl) (Aa (Bb (pv 0) rfl) (Aa (Bb (pv 0) rfl) Ae)))) Ae)))),?_⟩
  walk_at "rd"
  have w1:=sz.w.1
  have e1:=sz.e.1
  refine⟨_,_,x.ob,by kernel_rfl,_,_,_,x.ob,W.cl_Asker,W.n_Asker_letters,_,Mz ..,_,_,_,x.ob,W.cl_Asker,W.n_Asker_ways,_,MA ..,_,_,_,x.ob,W.cl_Asker,W.n_Asker_ends,_,Oy ..,s.L,ad.pw,ad.pe,zs,ys,s.W,s.E,rfl,sz.l6,SqL.of x.w,x.wW,by omega,fun v hv=>by have:=sz.w.2 v hv;omega,SqL.of x.e,x.eW,by omega,sz.e.2,fun l rs H1 s1 hlN hl1 hw=>?_⟩
  have hcl:(FX (Bo s.L s.W) s.E).length<=100000:=Zb (by omega) sz.l6 (by omega)
  exact⟨a,l,ad,s,wv,rs,_,rfl,⟨_,_,_,_,_,x.same s1⟩,SqL.of hl1,hw,Ox _ _,hcl,fun ad' H2 x2 f2 k2=>k ad' H2 x2 ((Frm.of s1 a ad).trans (AdOk.refl H ad) f2) (AdOk.trans (Frm.of s1 a ad) (AdOk.refl H ad) k2)⟩
def WL (K:PySem.W.Frag):Sp:=fun vs H Q _=>∃ (a:Addr) (L:Int),vs=[.ref a,.int L]/\∀ l t H',Same H H'->H l=none->H' l=some (.lst [.ref t])->H' t=some (.tup [])->Q (.ref l) H'
theorem KM {f:Addr}{fd:FuncData}(F:Fun K "first_ends" "Asker.first_ends" Bt f fd)(T:Txt mg)
  (W:Own K mg C_Book C_Turns C_Hunt C_Asker)
  (Z:Exs K mg C_AskError C_BadWord C_BadMark C_OutOfTurn C_NoDifference C_Contradiction)
  : FnOk P w K mg base CX0 1 f fd ["self", "letters"] (WL K):=by
 refine F.ok KA (fun vs H Q E h=>?_) (fun cdv A outer s H vs Q E hr h=>?_)
 ·obtain⟨a,L,rfl,_⟩:=h;rfl
 ·obtain⟨a,L,rfl,k⟩:=h
  have hl:=Ap
  refine⟨_,(Af (Au (IK (Aa (Et Ae) Ae)))),?_⟩
  walk_at "rd"
  refine⟨by omega,fun t ht=>⟨by omega,fun l hl'=>?_⟩⟩
  exact k l t _ ((Same.new ht).newT hl') ((Same.new ht).none hl') Ac (Same.new hl' _ _ Ac)
def KN (K:PySem.W.Frag):Sp:=fun vs H Q _=>∃ (a h t:Addr) (L:Int) (m:List Int) (ws:List (List Int)) (v:List Int),vs=[.ref a,.ref h,.ref t]/\GX K H h L m ws/\Wf L m ws/\SqT K H t (v.map V.int)/\v.length<=600/\isW L v=true/\∀ H',Same H H'->Q (.int (Bz m (Ak ws v))) H'
theorem OC {f:Addr}{fd:FuncData}(F:Fun K "answer" "Asker.answer" B3 f fd)(T:Txt mg)
  (W:Own K mg C_Book C_Turns C_Hunt C_Asker)
  (Z:Exs K mg C_AskError C_BadWord C_BadMark C_OutOfTurn C_NoDifference C_Contradiction)
  {Ar:Addr} {Bf:FuncData} (Cl:FnOk P w K mg base (CXe P w) 5 Ar Bf ["house", "word"] (Sg K C_BadWord)) (BA:Fun K "mark_behind" "mark_behind" BT Ar Bf) (Cm:Binds K Bf ["house", "word"] []) (Cn:mg "mark_behind" = some (.ref Ar))
  : FnOk P w K mg base CX0 6 f fd ["self", "house", "word"] (KN K):=by
 refine F.ok Oe (fun vs H Q E h=>?_) (fun cdv A outer s H vs Q E hr h=>?_)
 ·obtain⟨a,h,t,L,m,ws,v,rfl,_⟩:=h;rfl
 ·obtain⟨a,h,t,L,m,ws,v,rfl,hh,wf,ht,hz,hv,k⟩:=h
  refine⟨_,(Af (Au (AE Cl (hr.mono (by decide)) rfl Cn BA.kp Cm .nil (Mj (P:=P) (w:=w)) (Aa (pv 1) (Aa (pv 2) Ae))))),?_⟩
  walk_at "rd"
  exact⟨h,t,L,m,ws,v,rfl,hh,wf,ht,hz,fun _ H' s'=>k H' s',fun z=>by rw[hv] at z;cases z⟩
def Bf_ (K:PySem.W.Frag)(CA CB:Addr):Sp:=fun vs H Q _=>∃ (a:Addr) (ad:AD) (s:AS) (wv:V),vs=[.ref a]/\Asks K CA CB H a ad s wv/\Sz s/\Tb s.L s.most s.W s.E s.es/\Full s.L s.W s.E s.es/\Fq s.L s.W s.E s.es=none/\∀ h H',Same H H'->HouT K H' h s.L (Dg s.W s.es) (FD s.L s.W s.E s.es)->Q (.ref h) H'
theorem KO {f:Addr}{fd:FuncData}(F:Fun K "make_guess" "Asker.make_guess" Br f fd)(T:Txt mg)
  (W:Own K mg C_Book C_Turns C_Hunt C_Asker)
  (Z:Exs K mg C_AskError C_BadWord C_BadMark C_OutOfTurn C_NoDifference C_Contradiction)
  {Fi:Addr} {KP:FuncData} (MC:FnOk P w K mg base CX0 4 Fi KP ["book", "letters", "access", "ends"] (WF K C_Book)) (G9:Fun K "guess_of" "guess_of" Fe Fi KP) (MD:Binds K KP ["book", "letters", "access", "ends"] []) (ME:mg "guess_of" = some (.ref Fi))
  : FnOk P w K mg base CX0 5 f fd ["self"] (Bf_ K C_Asker C_Book):=by
 refine F.ok Ky (fun vs H Q E h=>?_) (fun cdv A outer s H vs Q E hr h=>?_)
 ·obtain⟨a,ad,s,wv,rfl,_⟩:=h;rfl
 ·obtain⟨a,ad,s,wv,rfl,⟨gv,rv,zs,ys,us,x⟩,sz,tb,fu,hs,k⟩:=h
  refine⟨_,(Af (Au (AE MC (hr.mono (by decide)) rfl ME G9.kp MD .nil Bn (Aa (Bb (pv 0) rfl) (Aa (Bb (pv 0) rfl) (Aa (Bb (pv 0) rfl) (Aa (Bb (pv 0) rfl) Ae))))))),?_⟩
  walk_at "rd"
  have w1:=sz.w.1
  have e1:=sz.e.1
  obtain⟨np,cl⟩:=tb.none fu hs
  have he0:([]:List Int)∈s.E:=List.mem_of_getElem? tb.e0
  refine⟨_,_,_,x.ob,W.cl_Asker,W.n_Asker_book,_,Jg ..,_,_,_,x.ob,W.cl_Asker,W.n_Asker_letters,_,Mz ..,_,_,_,x.ob,W.cl_Asker,W.n_Asker_ways,_,MA ..,_,_,_,x.ob,W.cl_Asker,W.n_Asker_ends,_,Oy ..,ad.b,ad.d,ad.pw,ad.pe,s.L,s.L,s.es,zs,ys,s.W,s.E,gOf s.E s.es,fun v=>(mkO s.es v).getD 0,rfl,x.bk,sz.l6,SqL.of x.w,x.wW,by omega,fun v hv=>by have:=sz.w.2 v hv;omega,SqL.of x.e,x.eW,by omega,sz.e.2,fun v hv=>Be_ fu hv,tb.nodup fu,cl,fun v hv=>?_,fun h tm tw zs' H' s' h1 h2 h3 h4=>k h H' s' ⟨tm,tw,zs',h1,h2,h3,h4⟩⟩
  obtain⟨m,hm⟩:=fu v (Bw.mpr ⟨v,AQ.mpr (.inl hv),[],he0,by simp⟩)
  show mkO s.es v=some ((mkO s.es v).getD 0)
  rw[hm];rfl
def Bg_ (K:PySem.W.Frag)(CA CB:Addr):Sp:=fun vs H Q _=>∃ (a:Addr) (ad:AD) (s:AS) (wv:V) (m:List Int) (ws:List (List Int)),vs=[.ref a]/\Asks K CA CB H a ad s wv/\s.gs=some (m,ws)/\Wf s.L m ws/\(∀ e∈s.es,isW s.L e.1=true/\e.1.length<=600)/\∀ H',Same H H'->(CY s.es m ws=none->Q .non H')/\∀ v t,CY s.es m ws=some v->H' t=some (.tup (v.map V.int))->Q (.ref t) H'
theorem KQ {f:Addr}{fd:FuncData}(F:Fun K "wrong_word" "Asker.wrong_word" Bs f fd)(T:Txt mg)
  (W:Own K mg C_Book C_Turns C_Hunt C_Asker)
  (Z:Exs K mg C_AskError C_BadWord C_BadMark C_OutOfTurn C_NoDifference C_Contradiction)
  {Dd:Addr} {GI:FuncData} (Hw:FnOk P w K mg base CX0 7 Dd GI ["book", "house"] (Kl K C_Book)) (EM:Fun K "first_wrong" "first_wrong" C9 Dd GI) (Hx:Binds K GI ["book", "house"] []) (Hy:mg "first_wrong" = some (.ref Dd))
  : FnOk P w K mg base CX0 8 f fd ["self"] (Bg_ K C_Asker C_Book):=by
 refine F.ok Kz (fun vs H Q E h=>?_) (fun cdv A outer s H vs Q E hr h=>?_)
 ·obtain⟨a,ad,s,wv,m,ws,rfl,_⟩:=h;rfl
 ·obtain⟨a,ad,s,wv,m,ws,rfl,⟨gv,rv,zs,ys,us,x⟩,hg,wf,hb,k⟩:=h
  refine⟨_,(Af (Au (AE Hw (hr.mono (by decide)) rfl Hy EM.kp Hx .nil Bn (Aa (Bb (pv 0) rfl) (Aa (Bb (pv 0) rfl) Ae))))),?_⟩
  walk_at "rd"
  have hgv:=x.gv
  rw[hg] at hgv
  obtain⟨h,rfl,hh⟩:=hgv
  refine⟨_,_,_,x.ob,W.cl_Asker,W.n_Asker_book,_,Jg ..,_,_,_,x.ob,W.cl_Asker,W.n_Asker_guess,_,NW ..,ad.b,ad.d,h,s.L,m,ws,s.es,rfl,hh.house,wf,x.bk,hb,fun H' s'=>⟨fun hno=>(k H' s').1 ?_,fun i e t hno hi hw' ht=>?_⟩⟩
  ·unfold CY
   rw[Option.map_eq_none_iff,List.find?_eq_none]
   intro e he
   have:=hno e he
   unfold Kk at this
   rw[this];simp
  ·refine (k H' s').2 e.1 t ?_ ht
   ·unfold CY
    have hil:=(List.getElem?_eq_some_iff.mp hi).1
    have e':s.es=s.es.take i++(e::s.es.drop (i+1)):=by
     have h1:=(List.take_append_drop (i+1) s.es).symm
     rw[List.take_add_one,hi,List.append_assoc] at h1
     exact h1
    rw[e',List.find?_append,List.find?_eq_none.mpr fun p hp=>?_,List.find?_cons]
    ·unfold Kk at hw'
     rw[hw'];rfl
    ·obtain⟨j,hj⟩:=List.mem_iff_getElem?.mp hp
     rw[List.getElem?_take] at hj
     split at hj
     ·rename_i hji
      have:=hno j hji p hj
      unfold Kk at this
      rw[this];simp
     ·cases hj
def Uy (K:PySem.W.Frag)(CB:Addr):Sp:=fun vs H Q _=>∃ (b d pw h t:Addr) (L:Nat) (es:Bk) (zs:List V) (W:List (List Int)) (m:List Int) (ws:List (List Int)) (v:List Int) (mk:Int),vs=[.ref b,.ref pw,.ref h,.ref t,.int mk,.int v.length]/\BookAt CB H b d L es/\H pw=some (.lst zs)/\AG K H zs W/\GX K H h L m ws/\Wf L m ws/\H t=some (.tup (v.map V.int))/\isW L v=true/\0<v.length/\v.length<=600/\(∀ u∈W,u.length<=50)/\(∀ i,i<=v.length->∃ k:Nat,Ak ws (v.take i)=(k:Int)/\W[k]?=some (Jf W ws v i))/\∀ H',Same H H'->(∀ c u t',G8 es W ws v mk v.length 0 v.length=.ask c->H' u=some (.tup (c.map V.int))->H' t'=some (.tup [.str "ask",.ref u])->Q (.ref t') H')/\(∀ hi u t',G8 es W ws v mk v.length 0 v.length=.fin hi->H' u=some (.tup ((v.drop hi).map V.int))->H' t'=some (.tup [.str "end",.ref u])->Q (.ref t') H')
theorem Zc {f:Addr}{fd:FuncData}(F:Fun K "halved" "halved" Hk f fd)(T:Txt mg)
  (W:Own K mg C_Book C_Turns C_Hunt C_Asker)
  (Z:Exs K mg C_AskError C_BadWord C_BadMark C_OutOfTurn C_NoDifference C_Contradiction)
  {F6:Addr} {Hn:FuncData} (Ms:FnOk P w K mg base (CXe P w) 3 F6 Hn ["house", "word"] (Sf K C_BadWord)) (IW:Fun K "trail" "trail" IR F6 Hn) (Mt:Binds K Hn ["house", "word"] []) (Mu:mg "trail" = some (.ref F6))
  {AC:Addr} {A5:FuncData} (BN:FnOk P w K mg base CX0 1 AC A5 ["self", "word"] (Fw C_Book)) (CL:Fun K "told" "Book.told" CD AC A5) (BO:Binds K A5 ["self", "word"] []) (BP:Meth K C_Book "told" AC)
  : FnOk P w K mg base CX0 4 f fd ["book", "access", "guess", "word", "mark", "last"] (Uy K C_Book):=by
 refine F.ok EK (fun vs H Q E h=>?_) (fun cdv A outer s H vs Q E hr h=>?_)
 ·obtain⟨b,d,pw,h,t,L,es,zs,W',m,ws,v,mk,rfl,_⟩:=h;rfl
 ·obtain⟨b,d,pw,h,t,L,es,zs,W',m,ws,v,mk,rfl,bk,hpw,hW,hh,wf,ht,hv,hv0,hz,hz2,hacc,k⟩:=h
  have hl:=Ap
  refine⟨_,(Ab (As (i:=6) EK.nd rfl (Or.inl rfl) (AE Ms (hr.mono (by decide)) rfl Mu IW.kp Mt .nil (Mj (P:=P) (w:=w)) (Aa (pv 2) (Aa (pv 3) Ae))))
   (Ab (As (i:=7) EK.nd rfl (Or.inl rfl) Ag)
   (Ab (As (i:=8) EK.nd rfl (Or.inl rfl) (pv 5))
   (Ab (RL PassesOwn.never (A0 Zw (A9 X4 (pv 8) (pv 7)) Ag (Bl _))
   (Ab (As (i:=9) EK.nd rfl (Or.inl rfl) (A9 Kt (A9 D4 (pv 7) (pv 8)) Ag))
   (Ab (As (i:=10) EK.nd rfl (Or.inl rfl) (A9 JW (AU Fa (pv 1) (AU Fa (pv 6) (pv 9) (fun _ _=>rfl)) (fun _ _=>rfl)) (NP Yh (pv 3) (N4 (pv 9)) U7)))
   (Ab (As (i:=11) EK.nd rfl (Or.inl rfl) (C4 (pv 0) W.cl_Book BP BN (hr.mono (by decide)) BO .nil Bn (Aa (pv 10) Ae)))
   (Ab (DX (A0 N1 (pv 11) E4 (Bl _))
   (Af (Au (Et (Aa EG (Aa (pv 10) Ae)))))
   Bq)
   (Af (DX (A0 Qk (pv 11) (pv 4) (Bl _))
   (Af (As (i:=8) EK.nd rfl (Or.inl rfl) (pv 9)))
   (Af (As (i:=7) EK.nd rfl (Or.inl rfl) (pv 9))))))))))
   (Af (Au (Et (Aa EG (Aa (NP Yh (pv 3) (N4 (pv 8)) U7) Ae))))))))),?_⟩
  obtain⟨⟨dxb,hb⟩,hd,nd⟩:=id bk
  walk_at "rd"
  refine⟨h,t,L,m,ws,v,rfl,hh,wf,SqT.of ht,hz,fun _ p H1 s1 hpN hp=>?_,fun z=>by rw[hv] at z;cases z⟩
  obtain⟨Pv,hPv⟩:∃ Pv:Nat->St->Hp->Prop,∀ n σ' H',Pv n σ' H'↔(∃ (lo hi:Nat) (f:Nat) (o1 o2 o3:Option V),Same H1 H'/\n=hi-lo/\hi-lo<=f+1/\lo<hi/\hi<=v.length/\G8 es W' ws v mk v.length 0 v.length=G8 es W' ws v mk f lo hi/\σ'=[some (.ref b),some (.ref pw),some (.ref h),some (.ref t),some (.int mk),some (.int v.length),some (.ref p),some (.int lo),some (.int hi),o1,o2,o3]):=⟨_,fun _ _ _=>Iff.rfl⟩
  refine YD Pv ⟨v.length,(hPv _ _ _).mpr ⟨0,v.length,v.length,none,none,none,Same.refl _,by omega,by omega,by omega,by omega,rfl,rfl⟩⟩ fun n σ' H' h'=>?_
  obtain⟨lo,hi,f,o1,o2,o3,s',hn,hf,hlo,hhi,e,rfl⟩:=(hPv _ _ _).mp h'
  walk_at "rd"
  by_cases hg:hi-lo > 1
  ·rw[if_pos (by omega)]
   refine⟨fun σ2 H2=>∃ m',m'<n/\Pv m' σ2 H2,fun _ _ z=>z,?_⟩
   have em:((lo:Int)+(hi:Int)) / 2=(((lo+hi) / 2:Nat):Int):=by omega
   simp only[em]
   have hmid:(lo+hi) / 2<=v.length:=by omega
   obtain⟨kk,k1,k2⟩:=hacc _ hmid
   obtain⟨ta,a1,a2⟩:=(hW.mono (TK.of (s1.trans s'))).2 kk _ k2
   have ht':=(s1.trans s') _ _ ht
   refine⟨by show CDiv _ _;unfold CDiv;omega,_,SqL.of (s' _ _ hp),_,Mg (Y9 ws v hmid),zs,_,rfl,SqL.of ((s1.trans s') _ _ hpw),_,(by rw[k1];exact Mg a1),_,SqT.of ht',?_,fun q hq=>?_⟩
   ·rw[HT.sIx_nat,HT.sIx_none,List.length_map];omega
   rw[RE]
   have sq:=Same.new (o:=.tup ((v.drop ((lo+hi) / 2)).map V.int)) hq
   have hlen:=hz2 _ (List.mem_of_getElem? k2)
   refine IP.ofS (sq _ _ a2) Ac (by rw[List.length_map,List.length_map,List.length_drop];omega) fun u H2 s2 hu=>?_
   rw[<- List.map_append] at hu
   have s3:=(s1.trans s').trans (sq.trans s2)
   have s4:=s'.trans (sq.trans s2)
   refine⟨_,_,s3 _ _ hb,Fn _ _ (by decide +kernel) (by decide +kernel),b,d,u,L,_,es,rfl,bk.mono s3,hu,fun hn2=>?_,fun t' hm=>?_⟩
   ·dsimp only
    rw[if_pos rfl]
    refine⟨by omega,fun x hx=>?_⟩
    obtain⟨f',rfl⟩:∃ f',f=f'+1:=⟨f-1,by omega⟩
    refine (k _ (s3.newT hx)).1 _ u x ?_ (Same.new hx _ _ hu) Ac
    rw[e]
    unfold G8
    rw[if_pos hg,LV hn2]
   ·dsimp only
    rw[if_neg (by simp)]
    obtain⟨f',rfl⟩:∃ f',f=f'+1:=⟨f-1,by omega⟩
    have e2:G8 es W' ws v mk (f'+1) lo hi=if t'=mk then G8 es W' ws v mk f' lo ((lo+hi) / 2) else G8 es W' ws v mk f' ((lo+hi) / 2) hi:=by
     conv=>lhs;unfold G8
     rw[if_pos hg,Gr nd hm]
    rw[e2] at e
    refine⟨rfl,?_⟩
    by_cases htm:t'=mk
    ·rw[if_pos (by rw[htm])]
     rw[if_pos htm] at e
     exact⟨_,by omega,(hPv _ _ _).mpr ⟨lo,(lo+hi) / 2,f',_,_,_,s4,rfl,by omega,by omega,by omega,e,rfl⟩⟩
    ·rw[if_neg (fun z=>htm (V.int.inj z))]
     rw[if_neg htm] at e
     exact⟨_,by omega,(hPv _ _ _).mpr ⟨(lo+hi) / 2,hi,f',_,_,_,s4,rfl,by omega,by omega,by omega,e,rfl⟩⟩
  ·rw[if_neg (by omega)]
   have ht':=(s1.trans s') _ _ ht
   refine⟨_,SqT.of ht',?_,fun q hq=>⟨by omega,fun x hx=>?_⟩⟩
   ·rw[HT.sIx_nat,HT.sIx_none,List.length_map];omega
   rw[RE] at hx ⊢
   have sq:=Same.new (o:=.tup ((v.drop hi).map V.int)) hq
   refine (k _ (((s1.trans s').trans sq).newT hx)).2 hi q x ?_ (Same.new hx _ _ Ac) Ac
   rw[e]
   cases f with
   | zero=>rfl
   | succ f=>unfold G8;rw[if_neg hg]
def Uz (K:PySem.W.Frag)(CA CB:Addr):Sp:=fun vs H Q _=>∃ (a:Addr) (ad:AD) (s:AS) (wv:V) (B:Nat),vs=[.ref a]/\Asks K CA CB H a ad s wv/\OkX none B s/\s.G=[]/\Bd B s/\Fq s.L s.W s.E s.es=none/\∀ H' r,Asks K CA CB H' a ad (Gb s).1 wv->Frm H H' a ad->((Gb s).2=none->r=.non)->(∀ x,(Gb s).2=some x->EF K H' s.L r x)->Q r H'
theorem Jk {f:Addr}{fd:FuncData}(F:Fun K "look_at_guess" "Hunt.look_at_guess" Bc f fd)(T:Txt mg)
  (W:Own K mg C_Book C_Turns C_Hunt C_Asker)
  (Z:Exs K mg C_AskError C_BadWord C_BadMark C_OutOfTurn C_NoDifference C_Contradiction)
  {AV:Addr} {Ek:FuncData} (EN:FnOk P w K mg base CX0 5 AV Ek ["self"] (Bf_ K C_Asker C_Book)) (Dx:Fun K "make_guess" "Asker.make_guess" Br AV Ek) (EO:Binds K Ek ["self"] []) (EQ:Meth K C_Asker "make_guess" AV)
  {AW:Addr} {El:FuncData} (ER:FnOk P w K mg base CX0 8 AW El ["self"] (Bg_ K C_Asker C_Book)) (Dy:Fun K "wrong_word" "Asker.wrong_word" Bs AW El) (ES:Binds K El ["self"] []) (ET:Meth K C_Asker "wrong_word" AW)
  : FnOk P w K mg base CX0 9 f fd ["self"] (Uz K C_Asker C_Book):=by
 refine F.ok IS (fun vs H Q E h=>?_) (fun cdv A outer s H vs Q E hr h=>?_)
 ·obtain⟨a,ad,s,wv,B,rfl,_⟩:=h;rfl
 ·obtain⟨a,ad,s,wv,B,rfl,⟨gv,rv,zs,ys,us,x⟩,ok,hG,bd,hst,k⟩:=h
  have hl:=Ap
  have sz:=ok.sz bd
  have tb:=ok.tb
  obtain⟨np,cl⟩:=tb.none (ok.full hG) hst
  have g:GuessOk s.L s.W s.E s.es (Dg s.W s.es) (FD s.L s.W s.E s.es):=tb.guess (ok.full hG) cl
  have wf:=tb.wf g
  refine⟨_,(Ab (E5 (pv 0) (Cj (pv 0) W.cl_Asker EQ EN (hr.mono (by decide)) EO .nil Bn) rfl)
   (Ab (E5 (pv 0) (Cj (pv 0) W.cl_Asker ET ER (hr.mono (by decide)) ES .nil Bn) rfl)
   (Ab (DX (A0 N1 (Bb (pv 0) rfl) E4 (Bl _))
   (Af (Au (Et (Aa EG (Aa (Bb (pv 0) rfl) Ae)))))
   Bq)
   (Af (Au E4))))),?_⟩
  walk_at "rd"
  refine⟨_,_,x.ob,by kernel_rfl,a,ad,s,wv,rfl,⟨_,_,_,_,_,x⟩,sz,tb,ok.full hG,hst,fun h H1 s1 hh=>?_⟩
  have x1:=x.same s1
  refine⟨_,_,_,x1.ob,W.cl_Asker,W.n_Asker_guess,MB ..,?_⟩
  rw[Y8]
  have x2:=x1.put (wv':=wv) (gv':=.ref h) (rv':=rv) (s':={s with gs:=some (Dg s.W s.es,FD s.L s.W s.E s.es)}) rfl rfl rfl rfl rfl rfl ⟨h,rfl,hh⟩ x1.rv
  have f2:=(Frm.of s1 a ad).seq (x1.putF (.ins C_Asker ad.dx (afl wv s.L s.most ad.b ad.pw ad.pe ad.pg (.ref h) rv)))
  refine⟨_,_,x2.ob,by kernel_rfl,a,ad,_,wv,_,_,rfl,⟨_,_,_,_,_,x2⟩,rfl,wf,fun e he=>⟨(tb.bW e he).1,sz.b e he⟩,fun H3 s3=>⟨fun hno=>?_,fun v t hv ht=>?_⟩⟩
  ·have el:Gb s=({s with gs:=some (Dg s.W s.es,FD s.L s.W s.E s.es),wr:=none},some (.shown (Dg s.W s.es) (FD s.L s.W s.E s.es))):=by
    unfold Gb
    rw[hst]
    dsimp only
    rw[hno]
   have x3:=x2.same s3
   refine⟨_,_,_,x3.ob,W.cl_Asker,W.n_Asker_wrong,MB ..,?_⟩
   rw[Oz]
   have x4:=x3.put (wv':=wv) (gv':=.ref h) (rv':=.non) (s':={s with gs:=some (Dg s.W s.es,FD s.L s.W s.E s.es),wr:=none}) rfl rfl rfl rfl rfl rfl x3.gv rfl
   have f4:=(f2.seq (Frm.of s3 a ad)).seq (x3.putF (.ins C_Asker ad.dx (afl wv s.L s.most ad.b ad.pw ad.pe ad.pg (.ref h) .non)))
   refine⟨_,_,_,x4.ob,W.cl_Asker,W.n_Asker_wrong,_,JZ ..,?_⟩
   rw[if_pos rfl]
   refine⟨_,_,_,x4.ob,W.cl_Asker,W.n_Asker_guess,_,NW ..,by omega,fun p hp=>?_⟩
   refine k _ _ ?_ (f4.seq (Frm.of (Same.new hp) a ad)) ?_ ?_
   ·rw[el];exact⟨_,_,_,_,_,x4.same (Same.new hp)⟩
   ·rw[el];exact fun z=>by cases z
   ·rw[el]
    intro y z
    cases z
    refine⟨p,h,rfl,Ac,?_⟩
    obtain⟨h',e',hh'⟩:=(x4.same (Same.new hp)).gv
    cases e'
    exact hh'
  ·have el:Gb s=({s with gs:=some (Dg s.W s.es,FD s.L s.W s.E s.es),wr:=some v},none):=by
    unfold Gb
    rw[hst]
    dsimp only
    rw[hv]
   have x3:=x2.same s3
   refine⟨_,_,_,x3.ob,W.cl_Asker,W.n_Asker_wrong,MB ..,?_⟩
   rw[Oz]
   have x4:=x3.put (wv':=wv) (gv':=.ref h) (rv':=.ref t) (s':={s with gs:=some (Dg s.W s.es,FD s.L s.W s.E s.es),wr:=some v}) rfl rfl rfl rfl rfl rfl x3.gv ⟨t,rfl,ht⟩
   have f4:=(f2.seq (Frm.of s3 a ad)).seq (x3.putF (.ins C_Asker ad.dx (afl wv s.L s.most ad.b ad.pw ad.pe ad.pg (.ref h) (.ref t))))
   refine⟨_,_,_,x4.ob,W.cl_Asker,W.n_Asker_wrong,_,JZ ..,?_⟩
   rw[if_neg (by simp)]
   refine k _ _ ?_ f4 ?_ ?_
   ·rw[el];exact⟨_,_,_,_,_,x4⟩
   ·rw[el];exact fun _=>rfl
   ·rw[el];exact fun y z=>by cases z
def KR (K:PySem.W.Frag)(CA CB:Addr)(pre:AS->Prop)(f:AS->AS×Option Wish):Sp:=fun vs H Q _=>∃ (a:Addr) (ad:AD) (s:AS) (wv:V) (B:Nat),vs=[.ref a]/\Asks K CA CB H a ad s wv/\OkX none B s/\Bd B s/\pre s/\∀ ad' H' r,Asks K CA CB H' a ad' (f s).1 wv->Frm H H' a ad->AdOk H ad ad'->((f s).2=none->r=.non)->(∀ x,(f s).2=some x->EF K H' s.L r x)->Q r H'
theorem Ie {f:Addr}{fd:FuncData}(F:Fun K "look_at_words" "Asker.look_at_words" A2 f fd)(T:Txt mg)
  (W:Own K mg C_Book C_Turns C_Hunt C_Asker)
  (Z:Exs K mg C_AskError C_BadWord C_BadMark C_OutOfTurn C_NoDifference C_Contradiction)
  {Ai:Addr} {An:FuncData} (Aw:FnOk P w K mg base CX0 3 Ai An ["self"] (NX K C_Asker C_Book)) (AJ:Fun K "look_for_gaps" "Asker.look_for_gaps" Av Ai An) (Ax:Binds K An ["self"] []) (Ay:Meth K C_Asker "look_for_gaps" Ai)
  {AH:Addr} {DN:FuncData} (DZ:FnOk P w K mg base CX0 9 AH DN ["self"] (Uz K C_Asker C_Book)) (CU:Fun K "look_at_guess" "Hunt.look_at_guess" Bc AH DN) (D0:Binds K DN ["self"] []) (D1:Meth K C_Asker "look_at_guess" AH)
  {Fj:Addr} {KS:FuncData} (MF:FnOk P w K mg base CX0 4 Fj KS ["book", "letters", "access", "ends"] (RC K C_Book)) (Ha:Fun K "stranger" "stranger" Ff Fj KS) (MG:Binds K KS ["book", "letters", "access", "ends"] []) (MH:mg "stranger" = some (.ref Fj))
  : FnOk P w K mg base CX0 10 f fd ["self"] (KR K C_Asker C_Book (fun s=>s.G=[]/\s.wr=none) Gb):=by
 refine F.ok E6 (fun vs H Q E h=>?_) (fun cdv A outer s H vs Q E hr h=>?_)
 ·obtain⟨a,ad,s,wv,B,rfl,_⟩:=h;rfl
 ·obtain⟨a,ad,s,wv,B,rfl,⟨gv,rv,zs,ys,us,x⟩,ok,bd,⟨hG,hwr⟩,k⟩:=h
  have hl:=Ap
  have sz:=ok.sz bd
  have tb:=ok.tb
  have w1:=sz.w.1
  have e1:=sz.e.1
  refine⟨_,(Ab (As (i:=1) E6.nd rfl (Or.inl rfl) (AE MF (hr.mono (by decide)) rfl MH Ha.kp MG .nil Bn (Aa (Bb (pv 0) rfl) (Aa (Bb (pv 0) rfl) (Aa (Bb (pv 0) rfl) (Aa (Bb (pv 0) rfl) Ae))))))
   (Ab (DX (A0 N1 (pv 1) E4 (Bl _))
   (Af (Au (Cj (pv 0) W.cl_Asker D1 DZ (hr.mono (by decide)) D0 .nil Bn)))
   Bq)
   (Ab (DX (A0 Qk (AZ AT (by rfl) T.len PySem.boot_len (Aa (Bb (pv 0) rfl) Ae)) (Bb (pv 0) rfl) (Bl _))
   (Af (Au (Et (Aa EG (Aa (pv 1) Ae)))))
   Bq)
   (Ab (Bm (RP PySem.F.plainAttrs_list PySem.F.slot_list_append PySem.F.type_list_append FU (Bb (pv 0) rfl) (Aa (pv 1) Ae)))
   (Ab (Bm (Cj (pv 0) W.cl_Asker Ay Aw (hr.mono (by decide)) Ax .nil Bn))
   (Af (Au E4))))))),?_⟩
  walk_at "rd"
  refine⟨_,_,_,x.ob,W.cl_Asker,W.n_Asker_book,_,Jg ..,_,_,_,x.ob,W.cl_Asker,W.n_Asker_letters,_,Mz ..,_,_,_,x.ob,W.cl_Asker,W.n_Asker_ways,_,MA ..,_,_,_,x.ob,W.cl_Asker,W.n_Asker_ends,_,Oy ..,ad.b,ad.d,ad.pw,ad.pe,s.L,s.L,s.es,zs,ys,s.W,s.E,gOf s.E s.es,rfl,x.bk,sz.l6,SqL.of x.w,x.wW,by omega,fun v hv=>by have:=sz.w.2 v hv;omega,SqL.of x.e,x.eW,by omega,sz.e.2,fun v hv=>Be_ (ok.full hG) hv,fun r t H1 hst s1 ht=>?_,fun H1 hst s1=>?_⟩
  ·dsimp only
   rw[if_neg (by simp)]
   have x1:=x.same s1
   have f1:=Frm.of s1 a ad
   have k1:=AdOk.refl H ad
   refine⟨_,_,_,x1.ob,W.cl_Asker,W.n_Asker_ways,_,MA ..,ad.pw,rfl,_,.inl (SqL.of x1.w),_,_,_,x1.ob,W.cl_Asker,W.n_Asker_most,_,BP_ ..,rfl,?_⟩
   rw[x1.wW.1]
   by_cases hm:s.W.length=s.most
   ·rw[if_pos (by rw[hm])]
    have el:Gb s=(s,some (.spent r)):=by
     unfold Gb
     rw[show Fq s.L s.W s.E s.es=some r from hst]
     dsimp only
     rw[if_pos hm]
    refine⟨by omega,fun p hp=>?_⟩
    refine k ad _ _ ?_ (f1.seq (Frm.of (Same.new hp) a ad)) k1 ?_ ?_
    ·rw[el];exact⟨_,_,_,_,_,x1.same (Same.new hp)⟩
    ·rw[el];exact fun z=>by cases z
    ·rw[el]
     intro y z
     cases z
     exact⟨p,t,rfl,Ac,Same.new hp _ _ ht⟩
   ·rw[if_neg (fun z=>hm (by have:=V.int.inj z;omega))]
    have el:Gb s=({s with W:=s.W ++ [r],G:=HY s.L (s.W ++ [r]) s.E s.es},none):=by
     unfold Gb
     rw[show Fq s.L s.W s.E s.es=some r from hst]
     dsimp only
     rw[if_neg hm]
    have x2:=x1.putW (x1.wW.snoc ht)
    have f2:=f1.seq (Frm.put (a:=a) (o:=.lst (zs ++ [.ref t])) (.inl rfl) ⟨_,x1.w⟩)
    obtain⟨o2,kp,_⟩:=(Y6 ok hG hwr).1 _ el
    have sz2:=o2.sz (B:=B) bd
    refine⟨_,_,_,x1.ob,W.cl_Asker,W.n_Asker_ways,_,MA ..,.inl ⟨rfl,_,SqL.of x1.w⟩,ad.pw,rfl,_,x1.w,by rw[x1.wW.1];omega,_,_,x2.ob,by kernel_rfl,a,ad,_,wv,rfl,⟨_,_,_,_,_,x2⟩,⟨sz2.l6,sz2.w,sz2.e,sz2.b⟩,fun ad' H3 x3 f3 k3=>?_⟩
    refine k ad' H3 _ ?_ (f2.trans k1 f3) (AdOk.trans f2 k1 k3) ?_ ?_
    ·rw[el];exact x3
    ·rw[el];exact fun _=>rfl
    ·rw[el];exact fun y z=>by cases z
  ·dsimp only
   rw[if_pos rfl]
   have x1:=x.same s1
   have f1:=Frm.of s1 a ad
   have k1:=AdOk.refl H ad
   exact⟨_,_,x1.ob,by kernel_rfl,a,ad,s,wv,B,rfl,⟨_,_,_,_,_,x1⟩,ok,hG,bd,hst,fun H3 r x3 f3=>k ad H3 r x3 (f1.seq f3) k1⟩
theorem Qw {f:Addr}{fd:FuncData}(F:Fun K "halve" "Asker.halve" C8 f fd)(T:Txt mg)
  (W:Own K mg C_Book C_Turns C_Hunt C_Asker)
  (Z:Exs K mg C_AskError C_BadWord C_BadMark C_OutOfTurn C_NoDifference C_Contradiction)
  {Hz:Addr} {OD:FuncData} (Sm:FnOk P w K mg base CX0 4 Hz OD ["book", "access", "guess", "word", "mark", "last"] (Uy K C_Book)) (L3:Fun K "halved" "halved" Hk Hz OD) (Sn:Binds K OD ["book", "access", "guess", "word", "mark", "last"] []) (So:mg "halved" = some (.ref Hz))
  {Ai:Addr} {An:FuncData} (Aw:FnOk P w K mg base CX0 3 Ai An ["self"] (NX K C_Asker C_Book)) (AJ:Fun K "look_for_gaps" "Asker.look_for_gaps" Av Ai An) (Ax:Binds K An ["self"] []) (Ay:Meth K C_Asker "look_for_gaps" Ai)
  {AR:Addr} {Cf:FuncData} (Dp:FnOk P w K mg base CX0 6 AR Cf ["self", "house", "word"] (KN K)) (Dq:Fun K "answer" "Asker.answer" B3 AR Cf) (Dr:Binds K Cf ["self", "house", "word"] []) (Ds:Meth K C_Asker "answer" AR)
  : FnOk P w K mg base CX0 7 f fd ["self"] (KR K C_Asker C_Book (fun s=>s.G=[]/\s.wr≠none) Df):=by
 refine F.ok Fo (fun vs H Q E h=>?_) (fun cdv A outer s H vs Q E hr h=>?_)
 ·obtain⟨a,ad,s,wv,B,rfl,_⟩:=h;rfl
 ·obtain⟨a,ad,s,wv,B,rfl,⟨gv,rv,zs,ys,us,x⟩,ok,bd,⟨hG,hwr⟩,k⟩:=h
  have hl:=Ap
  have sz:=ok.sz bd
  have tb:=ok.tb
  have w1:=sz.w.1
  have e1:=sz.e.1
  obtain⟨v,hv⟩:=Option.ne_none_iff_exists'.mp hwr
  obtain⟨_,hEW,hvW,hvl,m,ws,tt,hgs,g,htt,hne⟩:=ok.wr v hv
  have en:Df s=LY s v m ws:=by
   unfold Df
   rw[hG,hv,hgs]
  have wf:=tb.wf g
  have hgv:=x.gv
  rw[hgs] at hgv
  obtain⟨h,rfl,hh⟩:=hgv
  have hrv:=x.rv
  rw[hv] at hrv
  obtain⟨t,rfl,ht⟩:=hrv
  refine⟨_,(Ab (As (i:=1) Fo.nd rfl (Or.inl rfl) (C4 (pv 0) W.cl_Asker Ds Dp (hr.mono (by decide)) Dr .nil Bn (Aa (Bb (pv 0) rfl) (Aa (Bb (pv 0) rfl) Ae))))
   (Ab (As (i:=2) Fo.nd rfl (Or.inl rfl) (A9 X4 (AZ AT (by rfl) T.len PySem.boot_len (Aa (Bb (pv 0) rfl) Ae)) (AZ AT (by rfl) T.len PySem.boot_len (Aa (AU Fa (Bb (pv 0) rfl) Ag (fun _ _=>rfl)) Ae))))
   (Ab (As (i:=3) Fo.nd rfl (Or.inl rfl) (AE Sm (hr.mono (by decide)) rfl So L3.kp Sn .nil Bn (Aa (Bb (pv 0) rfl) (Aa (Bb (pv 0) rfl) (Aa (Bb (pv 0) rfl) (Aa (Bb (pv 0) rfl) (Aa (pv 1) (Aa (pv 2) Ae))))))))
   (Ab (DX (A0 Qk (AU AF (pv 3) Ag (fun _ _=>rfl)) EG (Bl _))
   (Af (Au (pv 3)))
   Bq)
   (Ab (E5 (pv 0) E4 rfl)
   (Ab (Bm (RP PySem.F.plainAttrs_list PySem.F.slot_list_append PySem.F.type_list_append FU (Bb (pv 0) rfl) (Aa (AU AF (pv 3) Ag (fun _ _=>rfl)) Ae)))
   (Ab (Bm (Cj (pv 0) W.cl_Asker Ay Aw (hr.mono (by decide)) Ax .nil Bn))
   (Af (Au E4))))))))),?_⟩
  walk_at "rd"
  have hv0:0<v.length:=by
   refine Nat.pos_of_ne_zero fun z=>hne ?_
   have:v=[]:=List.length_eq_zero_iff.mp z
   subst this
   obtain⟨y,y1,y2⟩:=g.m 0 [] tb.w0
   rw[htt] at y2
   cases y2
   show tt=m.getD 0 0
   rw[List.getD_eq_getElem?_getD,y1];rfl
  have hvl2:v.length<=600:=by
   have:=ok.lens
   unfold Bd at bd
   omega
  refine⟨_,_,x.ob,by kernel_rfl,_,_,_,x.ob,W.cl_Asker,W.n_Asker_guess,_,NW ..,_,_,_,x.ob,W.cl_Asker,W.n_Asker_wrong,_,JZ ..,a,h,t,s.L,m,ws,v,rfl,hh.house,wf,SqT.of ht,hvl2,hvW,fun H1 s1=>?_⟩
  have x1:=x.same s1
  have f1:=Frm.of s1 a ad
  have k1:=AdOk.refl H ad
  obtain⟨t0,q1,q2⟩:=x1.eW.2 0 [] tb.e0
  have ht1:=s1 _ _ ht
  refine⟨_,_,_,x1.ob,W.cl_Asker,W.n_Asker_wrong,_,JZ ..,t,rfl,_,.inr (SqT.of ht1),_,_,_,x1.ob,W.cl_Asker,W.n_Asker_ends,_,Oy ..,ad.pe,rfl,_,SqL.of x1.e,_,Mg (j:=0) q1,t0,rfl,_,.inr (SqT.of q2),_,_,_,x1.ob,W.cl_Asker,W.n_Asker_book,_,Jg ..,_,_,_,x1.ob,W.cl_Asker,W.n_Asker_ways,_,MA ..,_,_,_,x1.ob,W.cl_Asker,W.n_Asker_guess,_,NW ..,_,_,_,x1.ob,W.cl_Asker,W.n_Asker_wrong,_,JZ ..,ad.b,ad.d,ad.pw,h,t,s.L,s.es,zs,s.W,m,ws,v,Bz m (Ak ws v),by simp,x1.bk,x1.w,x1.wW,(hh.mono (TK.of s1)).house,wf,ht1,hvW,hv0,hvl2,sz.w.2,fun i _=>RD tb g hvW i,fun H2 s2=>⟨fun c u t' hc hu ht'=>?_,fun hi u t' hc hu ht'=>?_⟩⟩
  ·have el:Df s=(s,some (.ask c)):=by
    rw[en]
    unfold LY
    rw[hc]
   refine⟨t',rfl,_,SqT.of ht',_,rfl,rfl,?_⟩
   rw[if_pos rfl]
   refine k ad H2 _ ?_ (f1.seq (Frm.of s2 a ad)) k1 ?_ ?_
   ·rw[el];exact⟨_,_,_,_,_,x1.same s2⟩
   ·rw[el];exact fun z=>by cases z
   ·rw[el]
    intro y z
    cases z
    exact⟨t',u,rfl,ht',hu⟩
  ·have el:Df s=({s with wr:=none,E:=s.E ++ [v.drop hi],G:=HY s.L s.W (s.E ++ [v.drop hi]) s.es},none):=by
    rw[en]
    unfold LY
    rw[hc]
   have x2:=x1.same s2
   have f2:=f1.seq (Frm.of s2 a ad)
   refine⟨t',rfl,_,SqT.of ht',_,rfl,rfl,?_⟩
   rw[if_neg (fun z=>absurd (V.str.inj z) (by decide +kernel))]
   refine⟨_,_,_,x2.ob,W.cl_Asker,W.n_Asker_wrong,MB ..,?_⟩
   rw[Oz]
   have x3:=x2.put (wv':=wv) (gv':=.ref h) (rv':=.non) (s':={s with wr:=none}) rfl rfl rfl rfl rfl rfl x2.gv rfl
   have f3:=f2.seq (x2.putF (.ins C_Asker ad.dx (afl wv s.L s.most ad.b ad.pw ad.pe ad.pg (.ref h) .non)))
   have tk3:=x2.tkob (.ins C_Asker ad.dx (afl wv s.L s.most ad.b ad.pw ad.pe ad.pg (.ref h) .non))
   have ht3:=tk3 _ _ ht'
   have hu3:=tk3 _ _ hu
   have x4:=x3.putE (x3.eW.snoc hu3)
   have f4:=f3.seq (Frm.put (a:=a) (o:=.lst (ys ++ [.ref u])) (.inr (.inl rfl)) ⟨_,x3.e⟩)
   obtain⟨o2,kp,_⟩:=(My ok).1 _ el
   have sz2:=o2.sz (B:=B) bd
   refine⟨_,_,_,x3.ob,W.cl_Asker,W.n_Asker_ends,_,Oy ..,.inl ⟨rfl,_,SqL.of x3.e⟩,t',rfl,_,SqT.of ht3,_,rfl,ad.pe,rfl,_,x3.e,by rw[x3.eW.1];show s.E.length<_;omega,_,_,x4.ob,by kernel_rfl,a,ad,_,wv,rfl,⟨_,_,_,_,_,x4⟩,⟨sz2.l6,sz2.w,sz2.e,sz2.b⟩,fun ad' H3 x5 f5 k5=>?_⟩
   refine k ad' H3 _ ?_ (f4.trans k1 f5) (AdOk.trans f4 k1 k5) ?_ ?_
   ·rw[el];exact x5
   ·rw[el];exact fun _=>rfl
   ·rw[el];exact fun y z=>by cases z
theorem MI {f:Addr}{fd:FuncData}(F:Fun K "next_wish" "Hunt.next_wish" BJ f fd)(T:Txt mg)
  (W:Own K mg C_Book C_Turns C_Hunt C_Asker)
  (Z:Exs K mg C_AskError C_BadWord C_BadMark C_OutOfTurn C_NoDifference C_Contradiction)
  {BV:Addr} {GJ:FuncData} (HB:FnOk P w K mg base CX0 7 BV GJ ["self"] (KR K C_Asker C_Book (fun s=>s.G=[]/\s.wr≠none) Df)) (FK:Fun K "halve" "Asker.halve" C8 BV GJ) (HC:Binds K GJ ["self"] []) (HD:Meth K C_Asker "halve" BV)
  {Az:Addr} {Dt:FuncData} (DO:FnOk P w K mg base CX0 10 Az Dt ["self"] (KR K C_Asker C_Book (fun s=>s.G=[]/\s.wr=none) Gb)) (Cp:Fun K "look_at_words" "Asker.look_at_words" A2 Az Dt) (DP:Binds K Dt ["self"] []) (DQ:Meth K C_Asker "look_at_words" Az)
  : FnOk P w K mg base CX0 11 f fd ["self"] (KR K C_Asker C_Book (fun _=>True) Df):=by
 refine F.ok Mo (fun vs H Q E h=>?_) (fun cdv A outer s H vs Q E hr h=>?_)
 ·obtain⟨a,ad,s,wv,B,rfl,_⟩:=h;rfl
 ·obtain⟨a,ad,s,wv,B,rfl,⟨gv,rv,zs,ys,us,x⟩,ok,bd,_,k⟩:=h
  have hl:=Ap
  refine⟨_,(Ab (DX (A0 Zw (AZ AT (by rfl) T.len PySem.boot_len (Aa (Bb (pv 0) rfl) Ae)) Ag (Bl _))
   (Af (Au (Et (Aa EG (Aa (RP PySem.F.plainAttrs_list PySem.F.slot_list_pop PySem.F.type_list_pop ZB (Bb (pv 0) rfl) (Aa Ag Ae)) Ae)))))
   Bq)
   (Ab (DX (A0 Bq_ (Bb (pv 0) rfl) E4 (Bl _))
   (Af (Au (Cj (pv 0) W.cl_Asker HD HB (hr.mono (by decide)) HC .nil Bn)))
   Bq)
   (Af (Au (Cj (pv 0) W.cl_Asker DQ DO (hr.mono (by decide)) DP .nil Bn))))),?_⟩
  walk_at "rd"
  refine⟨_,_,_,x.ob,W.cl_Asker,W.n_Asker_gaps,_,Y7 ..,ad.pg,rfl,_,.inl (SqL.of x.g),?_⟩
  cases hG:s.G with
  | cons c r =>
   have hgl:us.length=r.length+1:=by rw[x.gW.1,hG];rfl
   have hgW:=x.gW
   rw[hG] at hgW
   obtain⟨tc,g1,g2⟩:=hgW.2 0 c rfl
   rw[if_pos (by omega)]
   have el:Df s=({s with G:=r},some (.ask c)):=by
    unfold Df
    rw[hG]
   have x2:=x.putG (AG.tail39 hgW)
   have f2:Frm H (upd H ad.pg (.lst (us.eraseIdx 0))) a ad:=Frm.put (.inr (.inr (.inl rfl))) ⟨_,x.g⟩
   have tk2:=TK.lst x.g (o:=.lst (us.eraseIdx 0))
   refine⟨_,_,_,x.ob,W.cl_Asker,W.n_Asker_gaps,_,Y7 ..,.inl ⟨rfl,_,SqL.of x.g⟩,ad.pg,rfl,_,x.g,by decide,by decide,0,Dk_ (i:=0) (by omega),_,g1,by omega,fun p hp=>?_⟩
   refine k ad _ _ ?_ (f2.seq (Frm.of (Same.new hp) a ad)) (AdOk.refl H ad) ?_ ?_
   ·rw[el];exact⟨_,_,_,_,_,x2.same (Same.new hp)⟩
   ·rw[el];exact fun z=>by cases z
   ·rw[el]
    intro y z
    cases z
    exact⟨p,tc,rfl,Ac,Same.new hp _ _ (tk2 _ _ g2)⟩
  | nil =>
   rw[if_neg (by rw[x.gW.1,hG];simp)]
   refine⟨_,_,_,x.ob,W.cl_Asker,W.n_Asker_wrong,_,JZ ..,?_⟩
   cases hwr:s.wr with
   | none =>
    have hrv:=x.rv
    rw[hwr] at hrv
    have hrv:rv=.non:=hrv
    subst hrv
    have en:Df s=Gb s:=by
     unfold Df
     rw[hG,hwr]
    rw[en] at k
    rw[if_neg (by simp)]
    exact⟨_,_,x.ob,by kernel_rfl,a,ad,s,wv,B,rfl,⟨_,_,_,_,_,x⟩,ok,bd,⟨hG,hwr⟩,k⟩
   | some v =>
    have hrv:=x.rv
    rw[hwr] at hrv
    obtain⟨t,rfl,ht⟩:=hrv
    rw[if_pos (by simp)]
    exact⟨_,_,x.ob,by kernel_rfl,a,ad,s,wv,B,rfl,⟨_,_,_,_,_,x⟩,ok,bd,⟨hG,by rw[hwr];simp⟩,k⟩
def Sq (K:PySem.W.Frag)(CA CB:Addr):Sp:=fun vs H Q _=>∃ (a:Addr) (ad:AD) (s:AS) (wv:V) (B:Nat),vs=[.ref a]/\Asks K CA CB H a ad s wv/\OkX none B s/\Bd B s/\∀ ad' H' s' x wv',Goes s s' x->Asks K CA CB H' a ad' s' wv'->EF K H' s.L wv' x->Frm H H' a ad->AdOk H ad ad'->Q .non H'
theorem Qx {f:Addr}{fd:FuncData}(F:Fun K "go_on" "Turns.go_on" BU f fd)(T:Txt mg)
  (W:Own K mg C_Book C_Turns C_Hunt C_Asker)
  (Z:Exs K mg C_AskError C_BadWord C_BadMark C_OutOfTurn C_NoDifference C_Contradiction)
  {Bj:Addr} {Fk:FuncData} (Eb:FnOk P w K mg base CX0 11 Bj Fk ["self"] (KR K C_Asker C_Book (fun _=>True) Df)) (Ec:Fun K "next_wish" "Hunt.next_wish" BJ Bj Fk) (Ed:Binds K Fk ["self"] []) (Ee:Meth K C_Asker "next_wish" Bj)
  : FnOk P w K mg base CX0 12 f fd ["self"] (Sq K C_Asker C_Book):=by
 refine F.ok Qq (fun vs H Q E h=>?_) (fun cdv A outer s H vs Q E hr h=>?_)
 ·obtain⟨a,ad,s,wv,B,rfl,_⟩:=h;rfl
 ·obtain⟨a,ad,s,wv,B,rfl,⟨gv,rv,zs,ys,us,x⟩,ok,bd,k⟩:=h
  have hl:=Ap
  refine⟨_,(Ab (E5 (pv 0) (Cj (pv 0) W.cl_Asker Ee Eb (hr.mono (by decide)) Ed .nil Bn) rfl)
   (Af (RL PassesOwn.never (A0 N1 (Bb (pv 0) rfl) E4 (Bl _))
   (Af (E5 (pv 0) (Cj (pv 0) W.cl_Asker Ee Eb (hr.mono (by decide)) Ed .nil Bn) rfl))))),?_⟩
  walk_at "rd"
  obtain⟨Pv,hPv⟩:∃ Pv:Nat->St->Hp->Prop,∀ n σ' H',Pv n σ' H'↔(∃ (ad1:AD) (s1:AS) (wv1:V),Asks K C_Asker C_Book H' a ad1 s1 wv1/\Frm H H' a ad/\AdOk H ad ad1/\σ'=[some (.ref a)]/\((wv1=.non/\OkX none B s1/\Kept s s1/\(∀ s' y,Goes s1 s' y->Goes s s' y)/\n=mu s1+1) \/ ∃ y,EF K H' s.L wv1 y/\Goes s s1 y/\n=0)):=⟨_,fun _ _ _=>Iff.rfl⟩
  have step:∀ (s1:AS) (ad1:AD) (wv1:V) (H1:Hp) (M:Nat),Asks K C_Asker C_Book H1 a ad1 s1 wv1->Frm H H1 a ad->AdOk H ad ad1->OkX none B s1->Kept s s1->(∀ s' y,Goes s1 s' y->Goes s s' y)->mu s1<=M->∃ x x_1,H1 a=some (HO.ins C_Asker x x_1)/\List.lookup ("next_wish" : Str) x_1=none/\KR K C_Asker C_Book (fun x=>True) Df [V.ref a] H1 (fun y H1=>∃ x x_2 x_3,H1 a=some (HO.ins x x_2 x_3)/\Cls K x/\Es K x ("wish" : Str)/\x_3.length<1000/\∃ m',m'<M+1/\Pv m' [some (V.ref a)] (upd H1 a (HO.ins x x_2 (putF ("wish" : Str) y x_3)))) E0:=by
   rintro s1 ad1 wv1 H1 M ⟨gv,rv,zs,ys,us,x1⟩ f1 k1 ok1 kp1 go1 hM
   refine⟨_,_,x1.ob,by kernel_rfl,a,ad1,s1,wv1,B,rfl,⟨_,_,_,_,_,x1⟩,ok1,by unfold Bd at bd ⊢;rw[kp1.m];exact bd,trivial,fun ad2 H2 r x2 f2 k2 hN hS=>?_⟩
   obtain⟨gv2,rv2,zs2,ys2,us2,x2⟩:=x2
   refine⟨_,_,_,x2.ob,W.cl_Asker,W.n_Asker_wish,MB ..,?_⟩
   rw[WG]
   have x3:=x2.put (wv':=r) (gv':=gv2) (rv':=rv2) (s':=(Df s1).1) rfl rfl rfl rfl rfl rfl x2.gv x2.rv
   have f3:=(f1.trans k1 f2).trans (AdOk.trans f1 k1 k2) (x2.putF (.ins C_Asker ad2.dx (afl r (Df s1).1.L (Df s1).1.most ad2.b ad2.pw ad2.pe ad2.pg gv2 rv2)))
   have tk:=x2.tkob (.ins C_Asker ad2.dx (afl r (Df s1).1.L (Df s1).1.most ad2.b ad2.pw ad2.pe ad2.pg gv2 rv2))
   have k3:=AdOk.trans f1 k1 k2
   cases hn:(Df s1).2 with
   | none =>
    have e1:Df s1=((Df s1).1,none):=by rw[<- hn]
    obtain⟨ok2,kp2,hmu⟩:=(My ok1).1 _ e1
    refine⟨mu (Df s1).1+1,by omega,(hPv _ _ _).mpr ⟨ad2,_,r,⟨_,_,_,_,_,x3⟩,f3,k3,rfl,.inl ⟨hN hn,ok2,⟨kp2.l.trans kp1.l,kp2.m.trans kp1.m,kp2.e.trans kp1.e⟩,fun s' y hy=>go1 s' y (.more e1 hy),rfl⟩⟩⟩
   | some y =>
    have e1:Df s1=((Df s1).1,some y):=by rw[<- hn]
    have hw:=(hS y hn).mono tk
    rw[kp1.l] at hw
    exact⟨0,by omega,(hPv _ _ _).mpr ⟨ad2,_,r,⟨_,_,_,_,_,x3⟩,f3,k3,rfl,.inr ⟨y,hw,go1 _ _ (.stop e1),rfl⟩⟩⟩
  obtain⟨c1,c2,c3,c4,c5⟩:=step s ad wv H (mu s+1) ⟨_,_,_,_,_,x⟩ (Frm.of (Same.refl _) a ad) (AdOk.refl H ad) ok ⟨rfl,rfl,rfl⟩ (fun _ _ z=>z) (by omega)
  refine⟨c1,c2,c3,c4,?_⟩
  obtain⟨a',ad',s',wv',B',e1,e2,e3,e4,e5,e6⟩:=c5
  refine⟨a',ad',s',wv',B',e1,e2,e3,e4,e5,fun ad2 H2 r x2 f2 k2 hN hS=>?_⟩
  obtain⟨d1,d2,d3,d4,d5,d6,d7,m',_,d8⟩:=e6 ad2 H2 r x2 f2 k2 hN hS
  refine⟨d1,d2,d3,d4,d5,d6,d7,YD Pv ⟨m',d8⟩ fun n σ' H' h'=>?_⟩
  obtain⟨ad1,s1,wv1,⟨gv,rv,zs,ys,us,x1⟩,f1,k1,rfl,hh⟩:=(hPv _ _ _).mp h'
  walk_at "rd"
  refine⟨_,_,_,x1.ob,W.cl_Asker,W.n_Asker_wish,_,KK ..,?_⟩
  rcases hh with ⟨rfl,ok1,kp1,go1,hn⟩ | ⟨y,hw,go1,hn⟩
  ·rw[if_pos rfl]
   refine⟨fun σ2 H2=>∃ m',m'<n/\Pv m' σ2 H2,fun _ _ z=>z,?_⟩
   subst hn
   exact step s1 ad1 _ H' (mu s1) ⟨_,_,_,_,_,x1⟩ f1 k1 ok1 kp1 go1 (by omega)
  ·obtain⟨t,u,e,_⟩:=id hw
   rw[if_neg (by rw[e];simp)]
   exact k ad1 _ s1 y wv1 go1 ⟨_,_,_,_,_,x1⟩ hw f1 k1
def Bh_ (K:PySem.W.Frag)(CA CB:Addr)(H:Hp)(a:Addr)(ad:AD)(s:AS)(Q:VK):Prop:=∀ ad' H' s' x' wv',Goes s s' x'->Asks K CA CB H' a ad' s' wv'->EF K H' s.L wv' x'->Frm H H' a ad->AdOk H ad ad'->Q .non H'
def Sr (K:PySem.W.Frag)(CA CB OT BM:Addr):Sp:=fun vs H Q E=>∃ (a:Addr) (ad:AD) (s:AS) (wv:V) (x:Wish) (B:Nat) (m:Int),vs=[.ref a,.int m]/\Asks K CA CB H a ad s wv/\EF K H s.L wv x/\WOk B s x/\Bd B s/\s.es.length<=100000/\(x.tag ≠ "ask" -> E (.ref OT) none H)/\∀ c,x=.ask c->(¬ (0<=m/\m<=1000000000)->∀ H',Same H H'->E (.ref BM) none H')/\(0<=m->m<=1000000000->Bh_ K CA CB H a ad {s with es:=s.es ++ [(c,m)]} Q)
theorem KU {f:Addr}{fd:FuncData}(F:Fun K "keep_answer" "Hunt.keep_answer" Bu f fd)(T:Txt mg)
  (W:Own K mg C_Book C_Turns C_Hunt C_Asker)
  (Z:Exs K mg C_AskError C_BadWord C_BadMark C_OutOfTurn C_NoDifference C_Contradiction)
  {Aj:Addr} {Aq:FuncData} (AM:FnOk P w K mg base (CXe P w) 1 Aj Aq ["self", "deed"] (LZ K C_Asker C_Book C_OutOfTurn)) (A8:Fun K "check_wants" "Turns.check_wants" AL Aj Aq) (AN:Binds K Aq ["self", "deed"] []) (AO:Meth K C_Asker "check_wants" Aj)
  {AA:Addr} {Bg:FuncData} (BX:FnOk P w K mg base CX0 12 AA Bg ["self"] (Sq K C_Asker C_Book)) (Cq:Fun K "go_on" "Turns.go_on" BU AA Bg) (BY:Binds K Bg ["self"] []) (BZ:Meth K C_Asker "go_on" AA)
  {B9:Addr} {Em:FuncData} (FP:FnOk P w K mg base (CXe P w) 4 B9 Em ["self", "word", "mark"] (I0 C_Book C_BadWord C_BadMark C_Contradiction)) (FQ:Fun K "put" "Book.put" Ew B9 Em) (FS:Binds K Em ["self", "word", "mark"] []) (FT:Meth K C_Book "put" B9)
  : FnOk P w K mg base (CXe P w) 13 f fd ["self", "number"] (Sr K C_Asker C_Book C_OutOfTurn C_BadMark):=by
 refine F.okE KB (fun vs H Q E h=>?_) (fun cdv A outer s H vs Q E hr h=>?_)
 ·obtain⟨a,ad,s,wv,x,B,m,rfl,_⟩:=h;rfl
 ·obtain⟨a,ad,s,wv,y,B,m,rfl,⟨gv,rv,zs,ys,us,x⟩,hw,ok,bd,hz,kE,k⟩:=h
  have hl:=Ap
  refine⟨_,(Ab (Bm (C4 (pv 0) W.cl_Asker AO AM (hr.mono (by decide)) AN .nil (LP fun _ _ _ h=>h) (Aa EG Ae)))
   (Ab (Bm (C4 (Bb (pv 0) rfl) W.cl_Book FT FP (hr.mono (by decide)) FS .nil (LP fun _ _ _ h=>h) (Aa (AU AF (Bb (pv 0) rfl) Ag (fun _ _=>rfl)) (Aa (pv 1) Ae))))
   (Af (Bm (Cj (pv 0) W.cl_Asker BZ BX (hr.mono (by decide)) BY .nil Bn))))),?_⟩
  walk_at "rd"
  refine⟨_,_,x.ob,by kernel_rfl,a,ad,s,wv,y, "ask",rfl,⟨_,_,_,_,_,x⟩,hw,fun htag=>?_,kE⟩
  cases y with
  | shown mm ws=>exact absurd htag (show ¬ ("show" : Str) = "ask" by decide +kernel)
  | done mm ws=>exact absurd htag (show ¬ ("done" : Str) = "ask" by decide +kernel)
  | spent c=>exact absurd htag (show ¬ ("spent" : Str) = "ask" by decide +kernel)
  | ask c =>
   obtain⟨t,u,rfl,ht,hu⟩:=hw
   obtain⟨kM,kk⟩:=k c rfl
   obtain⟨okc,hn,hc,hlen,hg⟩:=ok
   obtain⟨dxb,hb⟩:=x.bk.ob
   have hnk:c∉s.es.map (·.1):=fun z=>by
    obtain⟨n,hn'⟩:=Vx.mp z
    rw[hn] at hn';cases hn'
   have hcl:c.length<=900:=by
    have h1:=okc.lens
    unfold Bd at bd
    split at hlen<;>omega
   refine⟨_,_,_,x.ob,W.cl_Asker,W.n_Asker_book,_,Jg ..,ad.b,rfl,_,_,hb,Fn _ _ (by decide +kernel) (by decide +kernel),_,_,_,x.ob,W.cl_Asker,W.n_Asker_wish,_,KK ..,t,rfl,_,SqT.of ht,_,rfl,ad.b,ad.d,u,s.L,m,c,s.es,rfl,x.bk,hu,hcl,hz,fun z=>(by rw[hc] at z;cases z),fun _ hm H' s'=>kM hm H' s',fun _ _ _ n hin _ _ _=>absurd (List.mem_map.mpr ⟨_,hin,rfl⟩) hnk,fun _ h0 h9 _ H' hb' hf=>?_⟩
   unfold putE at hb'
   rw[if_neg hnk] at hb'
   obtain⟨x2,f2,tk2⟩:=x.putB hb' hf
   exact⟨_,_,x2.ob,by kernel_rfl,a,ad,_,_,B,rfl,⟨_,_,_,_,_,x2⟩,okc.told (fun b hb=>(Option.some.inj hb).symm) hnk hc h0 h9 hlen hg,bd,fun ad' H3 s' y' wv' go x3 hw3 f3 k3=>kk h0 h9 ad' H3 s' y' wv' go x3 hw3 (f2.trans (AdOk.refl H ad) f3) (AdOk.trans f2 (AdOk.refl H ad) k3)⟩
def WM (K:PySem.W.Frag)(CA CB OT:Addr):Sp:=fun vs H Q E=>∃ (a:Addr) (ad:AD) (s:AS) (wv:V) (x:Wish),vs=[.ref a]/\Asks K CA CB H a ad s wv/\EF K H s.L wv x/\(x.tag ≠ "show" -> E (.ref OT) none H)/\∀ mm ws,x=.shown mm ws->∀ H' wv',Asks K CA CB H' a ad s wv'->EF K H' s.L wv' (.done mm ws)->Frm H H' a ad->Q .non H'
theorem Ss {f:Addr}{fd:FuncData}(F:Fun K "agree" "Hunt.agree" DC f fd)(T:Txt mg)
  (W:Own K mg C_Book C_Turns C_Hunt C_Asker)
  (Z:Exs K mg C_AskError C_BadWord C_BadMark C_OutOfTurn C_NoDifference C_Contradiction)
  {Aj:Addr} {Aq:FuncData} (AM:FnOk P w K mg base (CXe P w) 1 Aj Aq ["self", "deed"] (LZ K C_Asker C_Book C_OutOfTurn)) (A8:Fun K "check_wants" "Turns.check_wants" AL Aj Aq) (AN:Binds K Aq ["self", "deed"] []) (AO:Meth K C_Asker "check_wants" Aj)
  : FnOk P w K mg base (CXe P w) 2 f fd ["self"] (WM K C_Asker C_Book C_OutOfTurn):=by
 refine F.okE R3 (fun vs H Q E h=>?_) (fun cdv A outer s H vs Q E hr h=>?_)
 ·obtain⟨a,ad,s,wv,x,rfl,_⟩:=h;rfl
 ·obtain⟨a,ad,s,wv,y,rfl,⟨gv,rv,zs,ys,us,x⟩,hw,kE,k⟩:=h
  have hl:=Ap
  refine⟨_,(Ab (Bm (C4 (pv 0) W.cl_Asker AO AM (hr.mono (by decide)) AN .nil (LP fun _ _ _ h=>h) (Aa EG Ae)))
   (Af (E5 (pv 0) (Et (Aa EG (Aa (AU AF (Bb (pv 0) rfl) Ag (fun _ _=>rfl)) Ae))) rfl))),?_⟩
  walk_at "rd"
  refine⟨_,_,x.ob,by kernel_rfl,a,ad,s,wv,y, "show",rfl,⟨_,_,_,_,_,x⟩,hw,fun htag=>?_,kE⟩
  cases y with
  | ask c=>exact absurd htag (show ¬ ("ask" : Str) = "show" by decide +kernel)
  | done mm ws=>exact absurd htag (show ¬ ("done" : Str) = "show" by decide +kernel)
  | spent c=>exact absurd htag (show ¬ ("spent" : Str) = "show" by decide +kernel)
  | shown mm ws =>
   obtain⟨t,u,rfl,ht,hu⟩:=hw
   refine⟨_,_,_,x.ob,W.cl_Asker,W.n_Asker_wish,_,KK ..,t,rfl,_,SqT.of ht,_,rfl,by omega,fun p hp=>?_⟩
   have x1:=x.same (Same.new hp (o:=.tup [.str "done",.ref u]))
   refine⟨_,_,_,x1.ob,W.cl_Asker,W.n_Asker_wish,MB ..,?_⟩
   rw[WG]
   have x2:=x1.put (wv':=.ref p) (gv':=gv) (rv':=rv) (s':=s) rfl rfl rfl rfl rfl rfl x1.gv x1.rv
   have tk:=x1.tkob (.ins C_Asker ad.dx (afl (.ref p) s.L s.most ad.b ad.pw ad.pe ad.pg gv rv))
   exact k mm ws rfl _ _ ⟨_,_,_,_,_,x2⟩ ⟨p,u,rfl,tk _ _ Ac,HouT.mono hu (TK.trans (TK.new hp) tk)⟩ ((Frm.of (Same.new hp) a ad).seq (x1.putF _))
def WN (K:PySem.W.Frag)(CA CB OT BW BM ND CO:Addr):Sp:=fun vs H Q E=>∃ (a t:Addr) (ad:AD) (s:AS) (wv:V) (x:Wish) (B:Nat) (w:List Int) (m:Int),vs=[.ref a,.ref t,.int m]/\Asks K CA CB H a ad s wv/\EF K H s.L wv x/\WOk B s x/\Bd B s/\s.es.length<=100000/\H t=some (.tup (w.map V.int))/\w.length<=600/\(x.tag ≠ "show" -> E (.ref OT) none H)/\∀ mm ws,x=.shown mm ws->(isW s.L w=false->∀ H',Same H H'->E (.ref BW) none H')/\(isW s.L w=true->¬ (0<=m/\m<=1000000000)->∀ H',Same H H'->E (.ref BM) none H')/\(isW s.L w=true->0<=m->m<=1000000000->(Bz mm (Ak ws w)=m->∀ H',Same H H'->E (.ref ND) none H')/\(Bz mm (Ak ws w)≠m->w∈s.es.map (·.1)->∀ H',Same H H'->E (.ref CO) none H')/\(Bz mm (Ak ws w)≠m->w∉s.es.map (·.1)->w.length<=B+(s.most+1)*s.E.length/\Bh_ K CA CB H a ad {s with es:=s.es ++ [(w,m)]} Q))
theorem Ig {f:Addr}{fd:FuncData}(F:Fun K "keep_objection" "Hunt.keep_objection" A3 f fd)(T:Txt mg)
  (W:Own K mg C_Book C_Turns C_Hunt C_Asker)
  (Z:Exs K mg C_AskError C_BadWord C_BadMark C_OutOfTurn C_NoDifference C_Contradiction)
  {Aj:Addr} {Aq:FuncData} (AM:FnOk P w K mg base (CXe P w) 1 Aj Aq ["self", "deed"] (LZ K C_Asker C_Book C_OutOfTurn)) (A8:Fun K "check_wants" "Turns.check_wants" AL Aj Aq) (AN:Binds K Aq ["self", "deed"] []) (AO:Meth K C_Asker "check_wants" Aj)
  {AR:Addr} {Cf:FuncData} (Dp:FnOk P w K mg base CX0 6 AR Cf ["self", "house", "word"] (KN K)) (Dq:Fun K "answer" "Asker.answer" B3 AR Cf) (Dr:Binds K Cf ["self", "house", "word"] []) (Ds:Meth K C_Asker "answer" AR)
  {AA:Addr} {Bg:FuncData} (BX:FnOk P w K mg base CX0 12 AA Bg ["self"] (Sq K C_Asker C_Book)) (Cq:Fun K "go_on" "Turns.go_on" BU AA Bg) (BY:Binds K Bg ["self"] []) (BZ:Meth K C_Asker "go_on" AA)
  {Bp:Addr} {Dc:FuncData} (EA:FnOk P w K mg base (CXe P w) 3 Bp Dc ["self", "word", "mark"] (GA C_Book C_BadWord C_BadMark)) (EB:Fun K "check" "Book.check" C0 Bp Dc) (EC:Binds K Dc ["self", "word", "mark"] []) (ED:Meth K C_Book "check" Bp)
  {B9:Addr} {Em:FuncData} (FP:FnOk P w K mg base (CXe P w) 4 B9 Em ["self", "word", "mark"] (I0 C_Book C_BadWord C_BadMark C_Contradiction)) (FQ:Fun K "put" "Book.put" Ew B9 Em) (FS:Binds K Em ["self", "word", "mark"] []) (FT:Meth K C_Book "put" B9)
  : FnOk P w K mg base (CXe P w) 13 f fd ["self", "word", "number"] (WN K C_Asker C_Book C_OutOfTurn C_BadWord C_BadMark C_NoDifference C_Contradiction):=by
 refine F.okE Ic (fun vs H Q E h=>?_) (fun cdv A outer s H vs Q E hr h=>?_)
 ·obtain⟨a,t,ad,s,wv,x,B,wd,m,rfl,_⟩:=h;rfl
 ·obtain⟨a,t,ad,s,wv,y,B,wd,m,rfl,⟨gv,rv,zs,ys,us,x⟩,hw,ok,bd,hz,ht,hz2,kE,k⟩:=h
  have hl:=Ap
  refine⟨_,(Ab (Bm (C4 (pv 0) W.cl_Asker AO AM (hr.mono (by decide)) AN .nil (LP fun _ _ _ h=>h) (Aa EG Ae)))
   (Ab (Bm (C4 (Bb (pv 0) rfl) W.cl_Book ED EA (hr.mono (by decide)) EC .nil (LP fun _ _ _ h=>h) (Aa (pv 1) (Aa (pv 2) Ae))))
   (Ab (DX (A0 Qk (C4 (pv 0) W.cl_Asker Ds Dp (hr.mono (by decide)) Dr .nil Bn (Aa (AU AF (Bb (pv 0) rfl) Ag (fun _ _=>rfl)) (Aa (pv 1) Ae))) (pv 2) (Bl _))
   (Af (LQ Z.m_NoDifference Z.x_NoDifference rfl rfl (Aa EG Ae)))
   Bq)
   (Ab (Bm (C4 (Bb (pv 0) rfl) W.cl_Book FT FP (hr.mono (by decide)) FS .nil (LP fun _ _ _ h=>h) (Aa (pv 1) (Aa (pv 2) Ae))))
   (Af (Bm (Cj (pv 0) W.cl_Asker BZ BX (hr.mono (by decide)) BY .nil Bn))))))),?_⟩
  walk_at "rd"
  refine⟨_,_,x.ob,by kernel_rfl,a,ad,s,wv,y, "show",rfl,⟨_,_,_,_,_,x⟩,hw,fun htag=>?_,kE⟩
  cases y with
  | ask c=>exact absurd htag (show ¬ ("ask" : Str) = "show" by decide +kernel)
  | done mm ws=>exact absurd htag (show ¬ ("done" : Str) = "show" by decide +kernel)
  | spent c=>exact absurd htag (show ¬ ("spent" : Str) = "show" by decide +kernel)
  | shown mm ws =>
   obtain⟨tw,u,rfl,htw,hu⟩:=hw
   obtain⟨kW,kM,kk⟩:=k mm ws rfl
   obtain⟨ok0,hG,hwr,hgs,g,hall⟩:=ok
   obtain⟨dxb,hb⟩:=x.bk.ob
   have wf:=ok0.tb.wf g
   refine⟨_,_,_,x.ob,W.cl_Asker,W.n_Asker_book,_,Jg ..,ad.b,rfl,_,_,hb,Fn _ _ (by decide +kernel) (by decide +kernel),ad.b,ad.d,t,s.L,m,wd,s.es,rfl,x.bk,ht,by omega,kW,kM,fun hc h0 h9 H1 s1=>?_⟩
   obtain⟨kN,kC,kG⟩:=kk hc h0 h9
   have x1:=x.same s1
   have ht1:=s1 _ _ ht
   refine⟨_,_,x1.ob,by kernel_rfl,_,_,_,x1.ob,W.cl_Asker,W.n_Asker_wish,_,KK ..,tw,rfl,_,SqT.of (s1 _ _ htw),_,rfl,a,u,t,s.L,mm,ws,wd,rfl,HouT.house (HouT.mono hu (TK.of s1)),wf,SqT.of ht1,hz2,hc,fun H2 s2=>⟨rfl,?_⟩⟩
   by_cases he:Bz mm (Ak ws wd)=m
   ·rw[if_pos (by rw[he])]
    exact⟨by omega,kN he _ (s1.trans s2)⟩
   ·rw[if_neg (fun z=>he (V.int.inj z))]
    have x2:=x1.same s2
    have s12:=s1.trans s2
    refine⟨_,_,_,x2.ob,W.cl_Asker,W.n_Asker_book,_,Jg ..,ad.b,rfl,_,_,s12 _ _ hb,Fn _ _ (by decide +kernel) (by decide +kernel),ad.b,ad.d,t,s.L,m,wd,s.es,rfl,x2.bk,s12 _ _ ht,by omega,hz,fun z=>(by rw[hc] at z;cases z),fun _ z=>absurd ⟨h0,h9⟩ z,fun _ _ _ n hin _ H3 s3=>kC he (List.mem_map.mpr ⟨_,hin,rfl⟩) H3 (s12.trans s3),fun _ _ _ hsame H3 hb' hf=>?_⟩
    have hnk:wd∉s.es.map (·.1):=fun z=>by
     obtain⟨p,hp,rfl⟩:=List.mem_map.mp z
     have h1:=hsame p.2 hp
     exact he ((hall p hp).trans h1)
    unfold putE at hb'
    rw[if_neg hnk] at hb'
    obtain⟨hlen,kT⟩:=kG he hnk
    obtain⟨x3,f3,tk3⟩:=x2.putB hb' hf
    have f3':=(Frm.of s12 a ad).seq f3
    exact⟨_,_,x3.ob,by kernel_rfl,a,ad,_,_,B,rfl,⟨_,_,_,_,_,x3⟩,ok0.told (fun b hb=>(by cases hb)) hnk hc h0 h9 (by omega) (by rw[hG];simp),bd,fun ad' H4 s' y' wv' go x4 hw4 f4 k4=>kT ad' H4 s' y' wv' go x4 hw4 (f3'.trans (AdOk.refl H ad) f4) (AdOk.trans f3' (AdOk.refl H ad) k4)⟩
theorem Su {f:Addr}{fd:FuncData}(F:Fun K "hear" "Asker.hear" DH f fd)(T:Txt mg)
  (W:Own K mg C_Book C_Turns C_Hunt C_Asker)
  (Z:Exs K mg C_AskError C_BadWord C_BadMark C_OutOfTurn C_NoDifference C_Contradiction)
  {AX:Addr} {En:FuncData} (EU:FnOk P w K mg base (CXe P w) 13 AX En ["self", "number"] (Sr K C_Asker C_Book C_OutOfTurn C_BadMark)) (Dz:Fun K "keep_answer" "Hunt.keep_answer" Bu AX En) (EV:Binds K En ["self", "number"] []) (EW:Meth K C_Asker "keep_answer" AX)
  : FnOk P w K mg base (CXe P w) 14 f fd ["self", "mark"] (Sr K C_Asker C_Book C_OutOfTurn C_BadMark):=by
 refine F.okE Sa (fun vs H Q E h=>?_) (fun cdv A outer s H vs Q E hr h=>?_)
 ·obtain⟨a,ad,s,wv,x,B,m,rfl,_⟩:=h;rfl
 ·obtain⟨a,ad,s,wv,y,B,m,rfl,⟨gv,rv,zs,ys,us,x⟩,hw,ok,bd,hz,kE,k⟩:=h
  have hl:=Ap
  refine⟨_,(Af (Bm (C4 (pv 0) W.cl_Asker EW EU (hr.mono (by decide)) EV .nil (LP fun _ _ _ h=>h) (Aa (pv 1) Ae)))),?_⟩
  walk_at "rd"
  exact⟨_,_,x.ob,by kernel_rfl,a,ad,s,wv,y,B,m,rfl,⟨_,_,_,_,_,x⟩,hw,ok,bd,hz,kE,k⟩
theorem OE {f:Addr}{fd:FuncData}(F:Fun K "differ" "Asker.differ" CH f fd)(T:Txt mg)
  (W:Own K mg C_Book C_Turns C_Hunt C_Asker)
  (Z:Exs K mg C_AskError C_BadWord C_BadMark C_OutOfTurn C_NoDifference C_Contradiction)
  {AB:Addr} {Du:FuncData} (DR:FnOk P w K mg base (CXe P w) 13 AB Du ["self", "word", "number"] (WN K C_Asker C_Book C_OutOfTurn C_BadWord C_BadMark C_NoDifference C_Contradiction)) (Cr:Fun K "keep_objection" "Hunt.keep_objection" A3 AB Du) (DS:Binds K Du ["self", "word", "number"] []) (DT:Meth K C_Asker "keep_objection" AB)
  : FnOk P w K mg base (CXe P w) 14 f fd ["self", "word", "mark"] (WN K C_Asker C_Book C_OutOfTurn C_BadWord C_BadMark C_NoDifference C_Contradiction):=by
 refine F.okE Of (fun vs H Q E h=>?_) (fun cdv A outer s H vs Q E hr h=>?_)
 ·obtain⟨a,t,ad,s,wv,x,B,wd,m,rfl,_⟩:=h;rfl
 ·obtain⟨a,t,ad,s,wv,y,B,wd,m,rfl,⟨gv,rv,zs,ys,us,x⟩,hw,ok,bd,hz,ht,hz2,kE,k⟩:=h
  have hl:=Ap
  refine⟨_,(Af (Bm (C4 (pv 0) W.cl_Asker DT DR (hr.mono (by decide)) DS .nil (LP fun _ _ _ h=>h) (Aa (pv 1) (Aa (pv 2) Ae))))),?_⟩
  walk_at "rd"
  exact⟨_,_,x.ob,by kernel_rfl,a,t,ad,s,wv,y,B,wd,m,rfl,⟨_,_,_,_,_,x⟩,hw,ok,bd,hz,ht,hz2,kE,k⟩
def WO (K:PySem.W.Frag)(CA CB:Addr):Sp:=fun vs H Q _=>∃ (a dx:Addr) (L most:Nat),vs=[.ref a,.int L,.int most]/\H a=some (.ins CA dx [])/\1<=L/\L<=6/\1<=most/\most<=12/\∀ ad H' s x wv,Goes (s039 L most) s x->Asks K CA CB H' a ad s wv->EF K H' L wv x->(∀ y o,H y=some o->y≠a->H' y=some o)->(∀ y,H' y=none->H y=none)->(H ad.d=none/\H ad.pw=none/\H ad.pe=none/\H ad.pg=none)->Q .non H'
theorem Sv {f:Addr}{fd:FuncData}(F:Fun K "__init__" "Asker.__init__" DF f fd)(T:Txt mg)
  (W:Own K mg C_Book C_Turns C_Hunt C_Asker)
  (Z:Exs K mg C_AskError C_BadWord C_BadMark C_OutOfTurn C_NoDifference C_Contradiction)
  {De:Addr} {Jl:FuncData} (KW:FnOk P w K mg base CX0 1 De Jl ["self", "letters"] (Nn C_Book)) (HE:Fun K "__init__" "Book.__init__" Ei De Jl) (KY:Binds K Jl ["self", "letters"] []) (KZ:Mk K C_Book De)
  {Ai:Addr} {An:FuncData} (Aw:FnOk P w K mg base CX0 3 Ai An ["self"] (NX K C_Asker C_Book)) (AJ:Fun K "look_for_gaps" "Asker.look_for_gaps" Av Ai An) (Ax:Binds K An ["self"] []) (Ay:Meth K C_Asker "look_for_gaps" Ai)
  {AA:Addr} {Bg:FuncData} (BX:FnOk P w K mg base CX0 12 AA Bg ["self"] (Sq K C_Asker C_Book)) (Cq:Fun K "go_on" "Turns.go_on" BU AA Bg) (BY:Binds K Bg ["self"] []) (BZ:Meth K C_Asker "go_on" AA)
  {DU:Addr} {Jm:FuncData} (K0:FnOk P w K mg base CX0 3 DU Jm ["self", "letters", "most", "book", "ways", "ends"] (WJ C_Asker)) (HH:Fun K "__init__" "Hunt.__init__" Ej DU Jm) (K1:Binds K Jm ["self", "letters", "most", "book", "ways", "ends"] []) (K2:CMeth K C_Hunt "__init__" DU)
  {AY:Addr} {Eo:FuncData} (EX:FnOk P w K mg base CX0 1 AY Eo ["self", "letters"] (WL K)) (DA:Fun K "first_ends" "Asker.first_ends" Bt AY Eo) (EY:Binds K Eo ["self", "letters"] []) (EZ:Meth K C_Asker "first_ends" AY)
  : FnOk P w K mg base CX0 13 f fd ["self", "letters", "most"] (WO K C_Asker C_Book):=by
 refine F.ok R7 (fun vs H Q E h=>?_) (fun cdv A outer s H vs Q E hr h=>?_)
 ·obtain⟨a,dx,L,most,rfl,_⟩:=h;rfl
 ·obtain⟨a,dx,L,most,rfl,ha,l1,l6,m1,m12,k⟩:=h
  have hl:=Ap
  refine⟨_,(Ab (Bm (Dh_ rfl W.m_Hunt K2 K0 (hr.mono (by decide)) K1 .nil Bn (Aa (pv 0) (Aa (pv 1) (Aa (pv 2) (Aa (Yd KZ KW (hr.mono (by decide)) rfl W.m_Book KY .nil Bn (Aa (pv 1) Ae)) (Aa (IK (Aa (Et Ae) Ae)) (Aa (C4 (pv 0) W.cl_Asker EZ EX (hr.mono (by decide)) EY .nil Bn (Aa (pv 1) Ae)) Ae))))))))
   (Ab (Bm (Cj (pv 0) W.cl_Asker Ay Aw (hr.mono (by decide)) Ax .nil Bn))
   (Af (Bm (Cj (pv 0) W.cl_Asker BZ BX (hr.mono (by decide)) BY .nil Bn))))),?_⟩
  walk_at "rd"
  intro b dxb hbN hdN hne
  have hab:a≠b:=fun z=>by rw[<- z,ha] at hbN;cases hbN
  refine⟨b,dxb,L,rfl,Ac,fun d H2 hd bk hf=>⟨rfl,by omega,fun p hp=>⟨by omega,fun pw hpw=>?_⟩⟩⟩
  have s2:Same H H2:=fun y o hy=>by
   have y1:y≠b:=fun z=>by rw[z,hbN] at hy;cases hy
   have y2:y≠dxb:=fun z=>by rw[z,hdN] at hy;cases hy
   exact hf y o (by rw[Ah y1,Ah y2];exact hy) y1
  have hdH:H d=none:=by
   cases h:H d with
   | none=>rfl
   | some o =>
    have y1:d≠b:=fun z=>by rw[z,hbN] at h;cases h
    have y2:d≠dxb:=fun z=>by rw[z,hdN] at h;cases h
    rw[Ah y1,Ah y2,h] at hd;cases hd
  have sp:=Same.new (o:=.tup []) hp
  have s3:=sp.trans (Same.new (o:=.lst [.ref p]) hpw)
  have hp3:=(Same.new (o:=.lst [.ref p]) hpw) _ _ (show upd H2 p (.tup []) p=some (.tup []) from Ac)
  have hw3:upd (upd H2 p (.tup [])) pw (.lst [.ref p]) pw=some (.lst [.ref p]):=Ac
  generalize upd (upd H2 p (.tup [])) pw (.lst [.ref p])=H3 at s3 hp3 hw3 ⊢
  have hpwH:H pw=none:=s2.none (sp.none hpw)
  refine⟨_,_,s3 _ _ (s2 _ _ ha),by kernel_rfl,a,L,rfl,fun pe te H4 s4 hpe hpe4 hte=>?_⟩
  refine⟨a,dx,b,pw,pe,L,most,rfl,s4 _ _ (s3 _ _ (s2 _ _ ha)),fun pg H5 hpg hob hpg5 hf5 hn5=>?_⟩
  have s34:=s3.trans s4
  have s04:=s2.trans s34
  have bk4:=bk.mono s34
  have ne:∀ y,H y=none->y≠a:=fun y hy z=>by rw[z,ha] at hy;cases hy
  have hpeH:H pe=none:=s2.none (s3.none hpe)
  have hpgH:H pg=none:=s04.none hpg
  have hp4:=s4 _ _ hp3
  have hpH:H p=none:=s2.none hp
  have hteA:te≠a:=fun z=>by
   have:=s04 _ _ ha
   rw[z,this] at hte;cases hte
  have x5:AskAt K C_Asker C_Book H5 a ⟨dx,b,d,pw,pe,pg⟩ {s039 L most with G:=[]} .non .non .non [.ref p] [.ref te] [] :=
   ⟨hob,BookAt.tk bk4 (fun o h=>hf5 _ _ h (Ne.symm hab)) (fun o h=>hf5 _ _ h (ne _ hdH)),hf5 _ _ (s4 _ _ hw3) (ne _ hpwH),AG.nil.snoc (w:=[]) (hf5 _ _ hp4 (ne _ hpH)),hf5 _ _ hpe4 (ne _ hpeH),AG.nil.snoc (w:=[]) (hf5 _ _ hte hteA),hpg5,AG.nil,fun z=>(by rw[show pe=pw from z.symm,hw3] at hpe;cases hpe),fun z=>(by rw[show pg=pw from z.symm,s4 _ _ hw3] at hpg;cases hpg),fun z=>(by rw[show pg=pe from z.symm,hpe4] at hpg;cases hpg),rfl,rfl⟩
  have hmm:(most+1)*(most+1)<=13*13:=Nat.mul_le_mul (by omega) (by omega)
  have bd:Bd 0 (s039 L most):=by
   show 0+(most+1)*(most+1)+most<=500
   omega
  have ok:=Za 0 l1 l6 m1 m12
  have sz:=ok.sz bd
  refine⟨_,_,x5.ob,by kernel_rfl,a,_,_,.non,rfl,⟨_,_,_,_,_,x5⟩,⟨sz.l6,sz.w,sz.e,sz.b⟩,fun ad6 H6 x6 f6 k6=>?_⟩
  obtain⟨gv6,rv6,zs6,ys6,us6,x6⟩:=x6
  refine⟨_,_,x6.ob,by kernel_rfl,a,ad6,s039 L most,.non,0,rfl,⟨_,_,_,_,_,x6⟩,ok,bd,fun ad7 H7 s' y wv' go x7 hw7 f7 k7=>?_⟩
  have f57:=f6.trans k6 f7
  obtain⟨q1,q2,q3,q4,q5,q6⟩:=AdOk.trans f6 k6 k7
  have hn:∀ y,H7 y=none->H y=none:=fun y hy=>s04.none (hn5 y (f57.2 y hy))
  refine k ad7 H7 s' y wv' go x7 hw7 (fun z o hz hza=>?_) hn ⟨by rw[q3];exact hdH,by rw[q4];exact hpwH,by rw[q5];exact hpeH,?_⟩
  ·exact f57.1 z o (hf5 _ _ (s04 _ _ hz) hza) hza (fun e=>by rw[e] at hz;rw[show H d=none from hdH] at hz;cases hz) (fun e=>by rw[e] at hz;rw[show H pw=none from hpwH] at hz;cases hz) (fun e=>by rw[e] at hz;rw[show H pe=none from hpeH] at hz;cases hz) (fun e=>by rw[e] at hz;rw[show H pg=none from hpgH] at hz;cases hz)
  ·rcases q6 with q6 | q6
   ·rw[q6];exact hpgH
   ·exact s04.none (hn5 _ q6)
def cell (ns:List Int)(k:Nat):Int:=ns.getD k 0
def VD (K:PySem.W.Frag):Sp:=fun vs H Q _=>∃ (a:Addr) (ns:List Int) (k:Nat),vs=[.ref a,.int k]/\SqL K H a (ns.map V.int)/\Q (.int (cell ns k)) H
theorem OF {f:Addr}{fd:FuncData}(F:Fun K "_law_cell_at" "_law_cell_at" B5 f fd)(T:Txt mg)
  (W:Own K mg C_Book C_Turns C_Hunt C_Asker)
  (Z:Exs K mg C_AskError C_BadWord C_BadMark C_OutOfTurn C_NoDifference C_Contradiction)
  : FnOk P w K mg base CX0 1 f fd ["script", "k"] (VD K):=by
 refine F.ok Og (fun vs H Q E h=>?_) (fun cdv A outer s H vs Q E hr h=>?_)
 ·obtain⟨a,ns,k,rfl,_⟩:=h;rfl
 ·obtain⟨a,ns,k,rfl,hs,q⟩:=h
  refine⟨_,(Ab (DX (A0 X8 (pv 1) (AZ AT (by rfl) T.len PySem.boot_len (Aa (pv 0) Ae)) (Bl _))
   (Af (Au (AU Fa (pv 0) (pv 1) (fun _ _=>rfl))))
   Bq)
   (Af (Au Ag))),?_⟩
  walk_at "rd"
  refine⟨_,.inl hs,?_⟩
  rw[List.length_map]
  refine ite2 (fun hk=>?_) (fun hk=>?_)
  ·have hk':k<ns.length:=by simpa using hk
   refine⟨_,hs,V.int (cell ns k),?_,q⟩
   refine Mg ?_
   rw[List.getElem?_map]
   unfold cell
   rw[List.getD_eq_getElem?_getD]
   simp[hk']
  ·have hk':¬ k<ns.length:=by simpa using hk
   have:cell ns k=0:=by
    unfold cell
    rw[List.getD_eq_getElem?_getD,List.getElem?_eq_none (by omega)];rfl
   rw[<- this]
   exact q
def K3 (K:PySem.W.Frag):Sp:=fun vs H Q _=>∃ (h a:Addr) (L:Int) (marks:List Int) (ways:List (List Int)) (ws:List Int),vs=[.ref h,.ref a]/\GX K H h L marks ways/\Wf L marks ways/\SqT K H a (ws.map V.int)/\isW L ws=true/\Q (.int (Bz marks (Ak ways ws))) H
theorem Qy {f:Addr}{fd:FuncData}(F:Fun K "_law_answer" "_law_answer" Ck f fd)(T:Txt mg)
  (W:Own K mg C_Book C_Turns C_Hunt C_Asker)
  (Z:Exs K mg C_AskError C_BadWord C_BadMark C_OutOfTurn C_NoDifference C_Contradiction)
  : FnOk P w K mg base CX0 1 f fd ["house", "word"] (K3 K):=by
 refine F.ok Fp (fun vs H Q E h=>?_) (fun cdv A outer s H vs Q E hr h=>?_)
 ·obtain⟨h,a,L,marks,ways,ws,rfl,_⟩:=h;rfl
 ·obtain⟨h,a,L,marks,ways,ws,rfl,hh,wf,ha,hv,k⟩:=h
  have hn1:=wf.n1
  refine⟨_,(Ab (As (i:=2) Fp.nd rfl (Or.inl rfl) Ag)
   (Ab (Dv PassesOwn.never rfl (N0 (pv 1)) (AK (i:=3) Fp.nd rfl (Or.inl rfl))
   (Af (As (i:=2) Fp.nd rfl (Or.inl rfl) (AU AF (AU AF (AU AF (pv 0) Ag (fun _ _=>rfl)) (pv 2) (fun _ _=>rfl)) (pv 3) (fun _ _=>rfl)))))
   (Af (Au (AU AF (AU AF (pv 0) Ag (fun _ _=>rfl)) (pv 2) (fun _ _=>rfl)))))),?_⟩
  walk_at "rd"
  refine⟨⟨_,ha⟩,forT (xs:=ws.map V.int) (fun i σ2 H2=>H2=H/\∃ o,σ2=[some (.ref h),some (.ref a),some (.int (Eh ways 0 (ws.take i))),o]) ⟨rfl,none,by simp[Eh]⟩ (fun i σ2 H2 _ h=>by rw[h.1];exact ha) (fun i x σ2 H2 hx h=>?_) (fun σ2 H2 h=>?_)⟩
  ·obtain⟨rfl,o,rfl⟩:=h
   obtain⟨n,hn,rfl⟩:=JV hx
   have hin:=Ao.mp hv n (List.mem_of_getElem? hn)
   have hwk:=RY wf (ws.take i) (ZT hv i) (show (0:Int)<=0 by omega) (by omega)
   obtain⟨row,g,r1,r2,r3,r4,r5⟩:=wf.step hwk.1 hwk.2 hin.1 hin.2
   obtain⟨m,wv,q1,q2,q3⟩:=id hh
   obtain⟨xs,t,z1,z2,z3⟩:=q3.atZ hwk.1 r1
   walk_at "rd"
   refine⟨_,q1,_,rfl,?_⟩
   walk_at "rd"
   refine⟨_,z1,_,z2,?_⟩
   walk_at "rd"
   refine⟨_,z3,_,FV hin.1 r2,?_⟩
   rw[Xg hn,r3]
   exact⟨rfl,_,rfl⟩
  ·obtain⟨rfl,o,rfl⟩:=h
   rw[List.length_map,List.take_length]
   obtain⟨m,wv,q1,q2,q3⟩:=id hh
   have wk:=RY wf ws hv (show (0:Int)<=0 by omega) (by omega)
   walk_at "rd"
   exact⟨_,q1,_,rfl,m,rfl,_,q2,_,YK wk.1 wk.2,k⟩
theorem Xt (xs:List V)(m n:Nat)(h:m<=n)(hn:n<=xs.length):cutV xs (some (m:Int)) (some (n:Int))=(xs.take n).drop m:=by
 unfold cutV
 rw[HT.sIx_nat,HT.sIx_nat,show min m xs.length=m from by omega,show min n xs.length=n from by omega,List.drop_take]
def WP (K:PySem.W.Frag):Sp:=fun vs H Q _=>∃ (a:Addr) (ns:List Int),vs=[.ref a]/\SqL K H a (ns.map V.int)/\ns.length<=64/\∀ (h:Addr) (L:Nat) (marks:List Int) (ways:List (List Int)) (H':Hp),Same H H'->GX K H' h L marks ways->Wf L marks ways->L<=3->marks.length<=4->Q (.ref h) H'
theorem Nx {f:Addr}{fd:FuncData}(F:Fun K "_law_house_by" "_law_house_by" Cc f fd)(T:Txt mg)
  (W:Own K mg C_Book C_Turns C_Hunt C_Asker)
  (Z:Exs K mg C_AskError C_BadWord C_BadMark C_OutOfTurn C_NoDifference C_Contradiction)
  {Bh:Addr} {Cg:FuncData} (BC:FnOk P w K mg base CX0 1 Bh Cg ["script", "k"] (VD K)) (Bi:Fun K "_law_cell_at" "_law_cell_at" B5 Bh Cg) (BD:Binds K Cg ["script", "k"] []) (BE:mg "_law_cell_at" = some (.ref Bh))
  : FnOk P w K mg base CX0 2 f fd ["script"] (WP K):=by
 refine F.ok At (fun vs H Q E h=>?_) (fun cdv A outer s H vs Q E hr h=>?_)
 ·obtain⟨a,ns,rfl,_⟩:=h;rfl
 ·obtain⟨a,ns,rfl,hs,hz,k⟩:=h
  have hl:=Ap
  refine⟨_,(Ab (As (i:=1) At.nd rfl (Or.inl rfl) (A9 EH (AE BC (hr.mono (by decide)) rfl BE Bi.kp BD .nil Bn (Aa (pv 0) (Aa Ag Ae))) (A9 At_ Ag Ag)))
   (Ab (As (i:=2) At.nd rfl (Or.inl rfl) (A9 D4 Ag (A9 EH (pv 1) Ag)))
   (Ab (As (i:=3) At.nd rfl (Or.inr rfl) (A9 D4 Ag (A9 EH (A9 Kt (pv 1) Ag) Ag)))
   (Ab (As (i:=4) At.nd rfl (Or.inl rfl) (IK (Aa (A9 EH (AE BC (hr.mono (by decide)) rfl BE Bi.kp BD .nil Bn (Aa (pv 0) (Aa Ag Ae))) Ag) (Aa (A9 EH (AE BC (hr.mono (by decide)) rfl BE Bi.kp BD .nil Bn (Aa (pv 0) (Aa Ag Ae))) Ag) Ae))))
   (Ab (Ar_ (A9 LM (AU Fa (pv 4) Ag (fun _ _=>rfl)) (Ca X9 rfl T.int PyProof.Rows.boot_int (Aa (Hf Ql (A9 EH (A9 Kt (pv 1) Ag) Ag) Ag (Bl _)) Ae))) (Aq_ (pv 4) Ag set_list))
   (Ab (As (i:=5) At.nd rfl (Or.inr rfl) (IK (Aa (AU Fa (pv 4) Ag (fun _ _=>rfl)) (Aa (AU Fa (pv 4) Ag (fun _ _=>rfl)) (Aa (A9 EH (A9 D4 (AU Fa (pv 4) Ag (fun _ _=>rfl)) Ag) Ag) Ae)))))
   (Ab (As (i:=6) At.nd rfl (Or.inr rfl) (Gy rfl (HP rfl) (cp:=G1) True.intro (DB rfl T.range (Aa (A9 LM (pv 3) (A9 D4 (pv 2) Ag)) Ae)) (fun _ _ _ _=>(AK (i:=0) J6 rfl (Or.inl rfl))) (fun _ _ _ _=>HN) (fun _ _ _ _=>Ag)))
   (Ab (Dv PassesOwn.never rfl (Wv rfl T.enumerate (pv 0)) (X0 rfl (JS (AK (i:=7) At.nd rfl (Or.inl rfl)) (JS (AK (i:=8) At.nd rfl (Or.inl rfl)) U5)))
   (Af (Ar_ (A9 EH (A9 D4 (A9 LM (AU Fa (pv 6) (A9 EH (pv 7) (AZ AT (by rfl) T.len PySem.boot_len (Aa (pv 6) Ae))) (fun _ _=>rfl)) Ag) (pv 8)) Ag) (Aq_ (pv 6) (A9 EH (pv 7) (AZ AT (by rfl) T.len PySem.boot_len (Aa (pv 6) Ae))) set_list))))
   (Ab (Yt (i:=9) At.nd rfl rfl rfl (HP rfl) (cp:=G2) ⟨⟨rfl,rfl⟩,⟨⟨rfl,rfl⟩,True.intro⟩⟩ (DB rfl T.range (Aa (pv 3) Ae)) (fun _ _ _ _=>(AK (i:=0) J7 rfl (Or.inl rfl))) (fun _ _ _ _=>HN) (fun _ _ _ _=>(AU (LR (K:=K) rfl) (pv 1) (A9 EH (AU (LR (K:=K) rfl) (pv 2) (pv 0) (fun _ _=>rfl)) Ag) (fun _ _=>rfl))))
   (Ab (As (i:=10) At.nd rfl (Or.inl rfl) (IK Ae))
   (Ab (Dv PassesOwn.never rfl (DB rfl T.range (Aa (pv 3) Ae)) (AK (i:=11) At.nd rfl (Or.inl rfl))
   (Ab (As (i:=12) At.nd rfl (Or.inl rfl) (NP By_ (pv 6) (N4 (A9 D4 (pv 3) (A9 LM (pv 11) (pv 2)))) (N4 (A9 D4 (pv 3) (A9 LM (A9 D4 (pv 11) Ag) (pv 2))))))
   (Af (Bm (RP PySem.F.plainAttrs_list PySem.F.slot_list_append PySem.F.type_list_append FU (pv 10) (Aa (Ca C5 rfl T.tuple PyProof.Rows.boot_tuple (Aa (Gy rfl (HP rfl) (cp:=G3) ⟨⟨rfl,rfl⟩,True.intro⟩ (Ef (pv 12)) (fun _ _ _ _=>(AK (i:=0) J8 rfl (Or.inl rfl))) (fun _ _ _ _=>HN) (fun _ _ _ _=>(A9 EH (A9 Kt (pv 0) Ag) (pv 1)))) Ae)) Ae))))))
   (Af (Au (Et (Aa (pv 2) (Aa (Ca C5 rfl T.tuple PyProof.Rows.boot_tuple (Aa (pv 9) Ae)) (Aa (Ca C5 rfl T.tuple PyProof.Rows.boot_tuple (Aa (pv 10) Ae)) Ae))))))))))))))))),?_⟩
  walk_at "rd"
  have hc9:CPow 10 9:=⟨by omega,by omega,by decide⟩
  have hd0:=Int.emod_nonneg (cell ns 0) (show (10:Int) ^ Int.toNat 9≠0 by decide)
  have c10:=Int.emod_nonneg (cell ns 1) (show (1000000001:Int)≠0 by decide)
  have c11:=Int.emod_lt_of_pos (cell ns 1) (show (0:Int)<1000000001 by decide)
  have c20:=Int.emod_nonneg (cell ns 2) (show (1000000001:Int)≠0 by decide)
  have c21:=Int.emod_lt_of_pos (cell ns 2) (show (0:Int)<1000000001 by decide)
  refine⟨a,ns,0,rfl,hs,hc9,_,rfl,by decide,by decide,⟨by decide,by decide⟩,by decide,a,ns,1,rfl,hs,_,rfl,by decide,a,ns,2,rfl,hs,_,rfl,by decide,by omega,fun p1 hp1=>?_⟩
  generalize cell ns 0%10 ^ Int.toNat 9=hd at hd0 ⊢
  have g0:=Int.emod_nonneg hd (show (3:Int)≠0 by decide)
  have g1:=Int.emod_lt_of_pos hd (show (0:Int)<3 by decide)
  have g2:=Int.emod_nonneg (hd / 3) (show (4:Int)≠0 by decide)
  have g3:=Int.emod_lt_of_pos (hd / 3) (show (0:Int)<4 by decide)
  obtain⟨L,hL,hL1,hL2⟩:∃ L:Nat,1+hd%3=(L:Int)/\1<=L/\L<=3:=⟨(1+hd%3).toNat,by omega,by omega,by omega⟩
  obtain⟨n,hn,hn1,hn5⟩:∃ n:Nat,1+hd / 3%4=(n:Int)/\1<=n/\n<=4:=⟨(1+hd / 3%4).toNat,by omega,by omega,by omega⟩
  have sp:=Same.new hp1 (o:=.lst [V.int (cell ns 1%1000000001),V.int (cell ns 2%1000000001)])
  refine⟨_,SqL.of Ac,_,rfl,⟨by decide,by decide⟩,by decide,.inr ⟨_,rfl,?_,_,Ac,0,rfl,?_⟩⟩
  ·split<;>exact .inr ⟨by decide,by decide⟩
  rw[hL,hn]
  have c00:0<=cell ns 1%1000000001*(if (!decide (hd / 12%3=1))=true then 1 else 0)/\cell ns 1%1000000001*(if (!decide (hd / 12%3=1))=true then 1 else 0)<1000000001:=by split<;>omega
  have e00:∀ v:Int,[V.int (cell ns 1%1000000001),V.int (cell ns 2%1000000001)].set 0 (V.int v)=[V.int v,V.int (cell ns 2%1000000001)]:=fun v=>rfl
  rw[e00]
  generalize cell ns 1%1000000001*(if (!decide (hd / 12%3=1))=true then 1 else 0)=v1 at c00 ⊢
  obtain⟨c10,c11⟩:=c00
  have sp2:=sp.over (o:=.lst [V.int v1,V.int (cell ns 2%1000000001)]) hp1
  have hP:upd (upd H p1 (.lst [V.int (cell ns 1%1000000001),V.int (cell ns 2%1000000001)])) p1 (.lst [V.int v1,V.int (cell ns 2%1000000001)]) p1=some (.lst [V.int v1,V.int (cell ns 2%1000000001)]):=Ac
  generalize upd (upd H p1 (.lst [V.int (cell ns 1%1000000001),V.int (cell ns 2%1000000001)])) p1 (.lst [V.int v1,V.int (cell ns 2%1000000001)])=H0 at sp2 hP ⊢
  generalize cell ns 2%1000000001=v2 at c20 c21 hP ⊢
  have c30:=Int.emod_nonneg (v1+1) (show (1000000001:Int)≠0 by decide)
  have c31:=Int.emod_lt_of_pos (v1+1) (show (0:Int)<1000000001 by decide)
  obtain⟨M,hM,hM15⟩:∃ M:Nat,M=n*(L+1)/\M<=16:=⟨_,rfl,Nat.mul_le_mul (show n<=4 by omega) (show L+1<=4 by omega)⟩
  have hMi:(n:Int)*((L:Int)+1)=(M:Int):=by rw[hM];simp
  refine⟨_,SqL.of hP,_,rfl,_,SqL.of hP,_,rfl,_,SqL.of hP,_,rfl,_,rfl,by decide,by omega,fun p2 hp2=>?_⟩
  generalize (v1+1)%1000000001=v3 at c30 c31 ⊢
  rw[hMi]
  refine⟨.inl ⟨by omega,by omega⟩,by omega,by omega,?_⟩
  rw[Int.toNat_natCast]
  have s1:=sp2.newT hp2 (o:=.lst [V.int v1,V.int v2,V.int v3])
  have hS1:upd H0 p2 (.lst [V.int v1,V.int v2,V.int v3]) p2=some (.lst [V.int v1,V.int v2,V.int v3]):=Ac
  have hp2H:H p2=none:=sp2.none hp2
  generalize upd H0 p2 (.lst [V.int v1,V.int v2,V.int v3])=H1 at s1 hS1 ⊢
  refine ZI (fun i ys σ' H'=>H'=H1/\ys=(List.replicate i (0:Int)).map V.int/\∃ o,σ'=[o]) ⟨rfl,rfl,none,rfl⟩ (by omega) (fun i ys σ' H' _ h'=>by rw[h'.2.1,List.length_map,List.length_replicate];omega) (fun i ys σ' H' hi h'=>?_) (fun ys σ' H' h' D hD=>?_)
  ·obtain⟨rfl,rfl,o,rfl⟩:=h'
   walk_at "rd"
   refine⟨?_,_,rfl⟩
   have e1:List.map V.int (List.replicate i 0) ++ [V.int 0]=List.map V.int (List.replicate (i+1) 0):=by rw[List.replicate_succ',List.map_append];rfl
   rw[e1,List.replicate_succ]
   rfl
  obtain⟨rfl,rfl,o,rfl⟩:=h'
  have sD:=s1.newT hD (o:=.lst ((List.replicate M (0:Int)).map V.int))
  have hDH:H D=none:=s1.none hD
  have hDS:D≠p2:=fun z=>by rw[z,hS1] at hD;cases hD
  refine⟨_,sD.seq hs,?_⟩
  obtain⟨Pv,hPv⟩:∃ Pv:Nat->St->Hp->Prop,∀ i σ' H'',Pv i σ' H''↔(∃ (sl:List Int) (o1 o2:Option V),sl.length=M/\Same H H''/\H'' D=some (.lst (sl.map V.int))/\H'' p2=some (.lst [V.int v1,V.int v2,V.int v3])/\σ'=[some (.ref a),some (.int hd),some (.int L),some (.int n),some (.ref p1),some (.ref p2),some (.ref D),o1,o2,none,none,none,none]):=⟨_,fun _ _ _=>Iff.rfl⟩
  have hM1:1<=M:=by rw[hM];exact Nat.mul_pos (by omega) (by omega)
  refine forM Pv ((hPv _ _ _).mpr ⟨List.replicate M 0,none,none,by simp,sD,Ac,Same.new hD _ _ hS1,rfl⟩) (fun i σ' H2 _ h2=>by obtain⟨_,_,_,_,s2,_⟩:=(hPv _ _ _).mp h2;exact s2.seq hs) (fun i v σ' H2 t hv h2 ht=>?_) (fun σ' H2 h2=>?_)
  ·obtain⟨sl,o1,o2,hsl,s2,hD2,hS2,rfl⟩:=(hPv _ _ _).mp h2
   obtain⟨c,hc,rfl⟩:=JV hv
   have sT:=s2.newT ht (o:=.tup [V.int i,V.int c])
   have sT':=Same.new ht (o:=.tup [V.int i,V.int c])
   have j0:=Int.emod_nonneg (i:Int) (show (M:Int)≠0 by omega)
   have j1:=Int.emod_lt_of_pos (i:Int) (show (0:Int)<M by omega)
   obtain⟨j,hj⟩:∃ j:Nat,(i:Int)%(M:Int)=j:=⟨((i:Int)%(M:Int)).toNat,by omega⟩
   obtain⟨sv,hx⟩:∃ sv,sl[(j:Int).toNat]?=some sv:=⟨sl[j],by simp[show j<sl.length by omega]⟩
   walk_at "rd"
   refine⟨_,SqT.of Ac,rfl,V.int i,_,rfl,V.int c,_,rfl,rfl,_,.inl (SqL.of (sT' _ _ hD2)),_,rfl,?_⟩
   rw[List.length_map,hsl,hj]
   refine⟨by omega,_,SqL.of (sT' _ _ hD2),_,FV (by omega) hx,_,rfl,.inr ⟨by decide,by decide⟩,c,rfl,by decide,_,.inl (SqL.of (sT' _ _ hD2)),_,rfl,?_⟩
   rw[List.length_map,hsl,hj]
   refine⟨by omega,_,sT' _ _ hD2,j,?_,(hPv _ _ _).mpr ⟨sl.set j ((sv*31+c)%2147483647),_,_,by rw[List.length_set];exact hsl,sT.over hDH,by rw[Ac,List.map_set],?_,rfl⟩⟩
   ·rw[CW_ (by omega) (by rw[List.length_map];omega)];simp
   ·rw[Ah (Ne.symm hDS)];exact sT' _ _ hS2
  ·obtain⟨sl,o1,o2,hsl,s2,hD2,hS2,rfl⟩:=(hPv _ _ _).mp h2
   walk_at "rd"
   refine⟨by omega,by omega,?_⟩
   rw[Int.toNat_natCast]
   obtain⟨Pc,hPc⟩:∃ Pc:Nat->List V->St->Hp->Prop,∀ j ys σ4 H4,Pc j ys σ4 H4↔(H4=H2/\∃ (ms:List Int) (o:Option V),ys=ms.map V.int/\ms.length=j/\(∀ x∈ms,0<=x/\x<=1000000000)/\σ4=[o,some (.ref p2),some (.ref D)]):=⟨_,fun _ _ _ _=>Iff.rfl⟩
   refine ZI Pc ((hPc _ _ _ _).mpr ⟨rfl,[],none,rfl,rfl,(fun x hx=>by cases hx),rfl⟩) (by omega) (fun j ys σ4 H4 _ h4=>?_) (fun j ys σ4 H4 hj h4=>?_) (fun ys σ4 H4 h4 D2 hD2'=>?_)
   ·obtain⟨_,ms,o,rfl,hml,_⟩:=(hPc _ _ _ _).mp h4
    rw[List.length_map];omega
   ·obtain⟨rfl,ms,o,rfl,hml,hmr,rfl⟩:=(hPc _ _ _ _).mp h4
    rw[Int.zero_add]
    have hjM:j<sl.length:=by rw[hsl,hM];exact Nat.lt_of_lt_of_le hj (Nat.le_mul_of_pos_right _ (by omega))
    have hx:sl[(j:Int).toNat]?=some sl[j]:=by simp[hjM]
    have e0:=Int.emod_nonneg sl[j] (show (3:Int)≠0 by decide)
    have e1:=Int.emod_lt_of_pos sl[j] (show (0:Int)<3 by decide)
    obtain⟨v,hv,v0,v1'⟩:∃ v:Int,atI [V.int v1,V.int v2,V.int v3] (sl[j]%3)=some (V.int v)/\0<=v/\v<=1000000000:=by
     have:sl[j]%3=0\/sl[j]%3=1\/sl[j]%3=2:=by omega
     rcases this with z | z | z<;>rw[z]<;>exact⟨_,rfl,by omega,by omega⟩
    walk_at "rd"
    refine⟨_,SqL.of hD2,_,FV (by omega) hx,_,rfl,by decide,_,SqL.of hS2,_,hv,(hPc _ _ _ _).mpr ⟨rfl,ms ++ [v],_,by simp,by simp[hml],fun z hz'=>?_,rfl⟩⟩
    rcases List.mem_append.mp hz' with h | h
    ·exact hmr z h
    ·rw[List.mem_singleton.mp h];exact⟨v0,v1'⟩
   ·obtain⟨rfl,ms,o,rfl,hml,hmr,rfl⟩:=(hPc _ _ _ _).mp h4
    refine⟨by omega,fun pw hpw=>⟨by omega,by omega,?_⟩⟩
    have hpwH:H pw=none:=s2.none (Ku hpw).1
    have s5:=(Same.new hD2' (o:=.lst (ms.map V.int))).newT hpw (o:=.lst [])
    have hG:upd (upd H4 D2 (.lst (ms.map V.int))) pw (.lst []) pw=some (.lst []):=Ac
    have hGD:upd (upd H4 D2 (.lst (ms.map V.int))) pw (.lst []) D2=some (.lst (ms.map V.int)):=Same.new hpw _ _ Ac
    have hDp:D≠pw:=fun z=>by
     have:=(Ku hpw).1
     rw[<- z,hD2] at this;cases this
    have hD2p:D2≠pw:=fun z=>by rw[<- z,Ac] at hpw;cases hpw
    have hD5:=s5 _ _ hD2
    have s05:=s2.trans s5
    generalize upd (upd H4 D2 (.lst (ms.map V.int))) pw (.lst [])=HG at s5 hG hGD hD5 s05 ⊢
    obtain⟨Pz,hPz⟩:∃ Pv:Nat->St->Hp->Prop,∀ i σ6 H6,Pv i σ6 H6↔(∃ (ways:List (List Int)) (o3 o4:Option V),Same H H6/\H6 D=some (.lst (sl.map V.int))/\H6 D2=some (.lst (ms.map V.int))/\Nu K H6 pw ways/\ways.length=i/\(∀ r∈ways,r.length=L/\∀ x∈r,0<=x/\x<(n:Int))/\σ6=[some (.ref a),some (.int hd),some (.int L),some (.int n),some (.ref p1),some (.ref p2),some (.ref D),o1,o2,some (.ref D2),some (.ref pw),o3,o4]):=⟨_,fun _ _ _=>Iff.rfl⟩
    refine forR Pz ((hPz _ _ _).mpr ⟨[],none,none,s05,hD5,hGD,Nu.nil hG,rfl,(fun r hr1=>by cases hr1),rfl⟩) (fun i σ6 H6 hi h6=>?_) (fun σ6 H6 h6=>?_)
    ·obtain⟨ways,o3,o4,s6,hD6,hm6,hw6,hwl,hwr,rfl⟩:=(hPz _ _ _).mp h6
     obtain⟨ts,ht1,_⟩:=id hw6
     rw[Int.zero_add]
     walk_at "rd"
     have hb:n+(i+1)*L<=M:=by
      rw[hM]
      rcases (show L=1\/L=2\/L=3 by omega) with z | z | z<;>subst z<;>omega
     have hb1:n+i*L+L=n+(i+1)*L:=by rw[Nat.succ_mul];omega
     have e1:(n:Int)+(i:Int)*(L:Int)=((n+i*L:Nat):Int):=by simp
     have e2:(n:Int)+((i:Int)+1)*(L:Int)=((n+(i+1)*L:Nat):Int):=by simp
     rw[e1,e2]
     refine⟨.inl ⟨by omega,by omega⟩,.inl ⟨by omega,by omega⟩,_,SqL.of hD6,fun p3 hp3=>?_⟩
     rw[Xt _ _ _ (by omega) (by rw[List.length_map];omega),<- List.map_take,<- List.map_drop]
     have hrsl:((sl.take (n+(i+1)*L)).drop (n+i*L)).length=L:=by rw[List.length_drop,List.length_take];omega
     generalize (sl.take (n+(i+1)*L)).drop (n+i*L)=rs at hrsl ⊢
     have s7:=Same.new hp3 (o:=.lst (rs.map V.int))
     refine⟨.inl ⟨rfl,_,SqL.of (s7 _ _ ht1)⟩,⟨_,SqL.of Ac⟩,?_⟩
     obtain⟨f,hf⟩:∃ f:V->V,∀ c:Int,f (V.int c)=.int (c / 3%(n:Int)):=⟨fun x=>match x with | .int c=>.int (c / 3%(n:Int)) | _=>.non,fun _=>rfl⟩
     refine Wq (xs:=rs.map V.int) (σ':=[some (.int n)]) f rfl (SqL.of Ac) (by rw[List.length_map];omega) (fun x hx R hR=>?_) (fun D3 hD3=>?_)
     ·obtain⟨c,hc,rfl⟩:=List.mem_map.mp hx
      rw[hf] at hR
      walk_at "rd"
      exact⟨⟨by decide,by decide⟩,by omega,hR⟩
     have em:(rs.map V.int).map f=(rs.map fun c=>c / 3%(n:Int)).map V.int:=by
      rw[List.map_map,List.map_map]
      exact List.map_congr_left fun c _=>hf c
     rw[em]
     refine⟨D3,rfl,_,.inl ⟨SqL.of Ac,fun t ht=>?_⟩⟩
     have s8:=(s7.newT hD3 (o:=.lst ((rs.map fun c=>c / 3%(n:Int)).map V.int))).newT ht (o:=.tup ((rs.map fun c=>c / 3%(n:Int)).map V.int))
     obtain⟨xs,f1,f2,f3⟩:=(hw6.mono s8).push (w:=rs.map fun c=>c / 3%(n:Int)) (t:=t) (SqT.of Ac)
     refine⟨xs,f1,by omega,(hPz _ _ _).mpr ⟨ways ++ [rs.map fun c=>c / 3%(n:Int)],_,_,(s6.trans s8).over hpwH,by rw[Ah hDp];exact s8 _ _ hD6,by rw[Ah hD2p];exact s8 _ _ hm6,f3,by simp[hwl],fun r hr1=>?_,rfl⟩⟩
     rcases List.mem_append.mp hr1 with hr1 | hr1
     ·exact hwr r hr1
     ·rw[List.mem_singleton.mp hr1]
      refine⟨by rw[List.length_map];exact hrsl,fun x hx=>?_⟩
      obtain⟨c,_,rfl⟩:=List.mem_map.mp hx
      exact⟨Int.emod_nonneg _ (by omega),Int.emod_lt_of_pos _ (by omega)⟩
    ·obtain⟨ways,o3,o4,s6,hD6,hm6,hw6,hwl,hwr,rfl⟩:=(hPz _ _ _).mp h6
     walk_at "rd"
     refine⟨_,.inl ⟨SqL.of hm6,fun t1 ht1=>?_⟩⟩
     obtain⟨xs,hx1,hrw⟩:=(hw6.mono (Same.new ht1 (o:=.tup (ms.map V.int)))).rows
     refine⟨xs,.inl ⟨SqL.of hx1,fun t2 ht2=>⟨by omega,fun hh hhh=>?_⟩⟩⟩
     exact k hh L ms ways _ (((s6.newT ht1).newT ht2).newT hhh) ⟨t1,t2,SqT.of Ac,((Same.new ht2).newT hhh).seqT (SqT.of Ac),(hrw t2 ht2).mono (Same.new hhh)⟩ ⟨by omega,by omega,by omega,by omega,by omega,fun r hr1=>⟨by have:=(hwr r hr1).1;omega,fun x hx=>by have:=(hwr r hr1).2 x hx;omega⟩,hmr⟩ hL2 (by omega)
theorem K4 {l k:List Int}(h:l.Nodup)(hs:∀ x∈l,x∈k):l.length<=k.length:=by
 induction l generalizing k with
 | nil=>simp
 | cons a l ih =>
  rw[List.nodup_cons] at h
  have ha:=hs a List.mem_cons_self
  have h1:∀ x∈l,x∈k.erase a:=fun x hx=>by
   refine (List.mem_erase_of_ne ?_).mpr (hs x (List.mem_cons_of_mem _ hx))
   intro z;subst z;exact h.1 hx
  have:=ih h.2 h1
  rw[List.length_erase_of_mem ha] at this
  have hp:=List.length_pos_of_mem ha
  rw[List.length_cons];omega
theorem UA {l k:List Int}(h:l.Nodup)(hs:∀ x∈l,x∈k)(hk:k.length<=l.length){x:Int}(hx:x∈k):x∈l:=by
 refine Decidable.byContradiction fun hn=>?_
 have:=K4 (l:=x::l) (k:=k) (by rw[List.nodup_cons];exact⟨hn,h⟩) fun y hy=>by
  rcases List.mem_cons.mp hy with rfl | hy
  ·exact hx
  ·exact hs y hy
 rw[List.length_cons] at this
 omega
structure Met41 (L:Int)(n:Nat)(ways:List (List Int))(rs:List Int):Prop where
 nd:rs.Nodup
 z:0∈rs
 w:∀ r∈rs,∃ v,isW L v=true/\Ak ways v=r
 rg:∀ r∈rs,0<=r/\r<(n:Int)
def Z5 (L:Int)(ways:List (List Int))(rs:List Int):Prop:=∀ r∈rs,∀ x:Int,0<=x->x<L->EJ ways r x∈rs
theorem Met41.add {L:Int}{marks:List Int}{ways:List (List Int)}{rs:List Int}(m:Met41 L marks.length ways rs)(wf:Wf L marks ways){r x:Int}(hr:r∈rs)(x0:0<=x)(x1:x<L)(hn:EJ ways r x∉rs):Met41 L marks.length ways (rs ++ [EJ ways r x]):=by
 obtain⟨r0,r1⟩:=m.rg r hr
 obtain⟨_,g,_,_,h,g0,g1⟩:=wf.step r0 r1 x0 x1
 refine⟨?_,List.mem_append_left _ m.z,fun q hq=>?_,fun q hq=>?_⟩
 ·rw[List.nodup_append]
  exact⟨m.nd,by simp,fun a ha b hb=>by rw[List.mem_singleton.mp hb];intro z;subst z;exact hn ha⟩
 ·rcases List.mem_append.mp hq with hq | hq
  ·exact m.w q hq
  ·rw[List.mem_singleton.mp hq]
   obtain⟨v,hv,e⟩:=m.w r hr
   refine⟨v ++ [x],Ao.mpr fun y hy=>?_,by rw[Ml,e]⟩
   rcases List.mem_append.mp hy with hy | hy
   ·exact Ao.mp hv y hy
   ·rw[List.mem_singleton.mp hy];exact⟨x0,x1⟩
 ·rcases List.mem_append.mp hq with hq | hq
  ·exact m.rg q hq
  ·rw[List.mem_singleton.mp hq,h];exact⟨g0,g1⟩
def RF (K:PySem.W.Frag):Sp:=fun vs H Q _=>∃ (h:Addr) (L:Int) (marks:List Int) (ways:List (List Int)),vs=[.ref h]/\GX K H h L marks ways/\Wf L marks ways/\∀ (l:Addr) (rs:List Int) (H':Hp),Same H H'->H l=none->H' l=some (.lst (rs.map V.int))->rs.Nodup->0∈rs->(∀ r∈rs,∃ v,isW L v=true/\Ak ways v=r)->(∀ r∈rs,∀ x:Int,0<=x->x<L->EJ ways r x∈rs)->Q (.ref l) H'
theorem OG {f:Addr}{fd:FuncData}(F:Fun K "_law_reached" "_law_reached" CI f fd)(T:Txt mg)
  (W:Own K mg C_Book C_Turns C_Hunt C_Asker)
  (Z:Exs K mg C_AskError C_BadWord C_BadMark C_OutOfTurn C_NoDifference C_Contradiction)
  : FnOk P w K mg base CX0 1 f fd ["house"] (RF K):=by
 refine F.ok DI (fun vs H Q E h=>?_) (fun cdv A outer s H vs Q E hr h=>?_)
 ·obtain⟨h,L,marks,ways,rfl,_⟩:=h;rfl
 ·obtain⟨h,L,marks,ways,rfl,hh,wf,k⟩:=h
  have hl:=Ap
  refine⟨_,(Ab (As (i:=1) DI.nd rfl (Or.inl rfl) (IK (Aa Ag Ae)))
   (Ab (Dv PassesOwn.never rfl (DB rfl T.range (Aa (AZ AT (by rfl) T.len PySem.boot_len (Aa (AU AF (pv 0) Ag (fun _ _=>rfl)) Ae)) Ae)) (AK (i:=2) DI.nd rfl (Or.inl rfl))
   (Af (Dv PassesOwn.never rfl (Ef (Ca Nh rfl T.list PyProof.Rows.boot_list (Aa (pv 1) Ae))) (AK (i:=3) DI.nd rfl (Or.inl rfl))
   (Af (Dv PassesOwn.never rfl (N0 (AU AF (AU AF (pv 0) Ag (fun _ _=>rfl)) (pv 3) (fun _ _=>rfl))) (AK (i:=4) DI.nd rfl (Or.inl rfl))
   (Af (DX (A0 T9 (pv 4) (pv 1) rfl)
   (Af (Bm (RP PySem.F.plainAttrs_list PySem.F.slot_list_append PySem.F.type_list_append FU (pv 1) (Aa (pv 4) Ae))))
   Bq)))))))
   (Af (Au (pv 1))))),?_⟩
  obtain⟨tm,tw,q1,q2,q3⟩:=id hh
  walk_at "rd"
  have hn40:=wf.n40
  have hn1:=wf.n1
  have hL1:=wf.l1
  have hL6:=wf.l6
  refine⟨by omega,fun p hp=>?_⟩
  have sp:=Same.new hp (o:=.lst [V.int 0])
  refine⟨_,sp.seqT q1,_,rfl,tm,rfl,_,.inr (sp.seqT q2),?_⟩
  rw[List.length_map]
  refine⟨by omega,by omega,?_⟩
  rw[Int.toNat_natCast]
  obtain⟨Pv,hPv⟩:∃ Pv:Nat->St->Hp->Prop,∀ i σ' H',Pv i σ' H'↔(∃ (rs:List Int) (o1 o2 o3:Option V),Same H H'/\H' p=some (.lst (rs.map V.int))/\Met41 L marks.length ways rs/\(Z5 L ways rs\/i+1<=rs.length)/\σ'=[some (.ref h),some (.ref p),o1,o2,o3]):=⟨_,fun _ _ _=>Iff.rfl⟩
  have m0:Met41 L marks.length ways [0]:=⟨by simp,by simp,fun r hr=>⟨[],Ao.mpr fun x hx=>(by cases hx),by rw[List.mem_singleton.mp hr];rfl⟩,fun r hr=>by rw[List.mem_singleton.mp hr];omega⟩
  refine forR Pv ((hPv _ _ _).mpr ⟨[0],none,none,none,sp,Ac,m0,.inr (by simp),rfl⟩) (fun i σ2 H2 hi h2=>?_) (fun σ2 H2 h2=>?_)
  ·obtain⟨rs0,o1,o2,o3,s2,hp2,m2,hc2,rfl⟩:=(hPv _ _ _).mp h2
   have hr40:rs0.length<=marks.length:=Ft _ m2.nd m2.rg
   walk_at "rd"
   refine⟨_,.inl (SqL.of hp2),fun c hc=>⟨⟨_,SqL.of Ac⟩,?_⟩⟩
   have sc:=Same.new hc (o:=.lst (rs0.map V.int))
   have hcp:c≠p:=fun z=>by rw[z,hp2] at hc;cases hc
   obtain⟨Pw,hPw⟩:∃ Pv:Nat->St->Hp->Prop,∀ j σ' H',Pv j σ' H'↔(∃ (rs:List Int) (o2 o3:Option V),Same H H'/\H' c=some (.lst (rs0.map V.int))/\H' p=some (.lst (rs.map V.int))/\Met41 L marks.length ways rs/\(∀ r∈rs0,r∈rs)/\rs0.length<=rs.length/\(Z5 L ways rs0->rs=rs0)/\(∀ k,k<j->∀ r,rs0[k]?=some r->∀ x:Int,0<=x->x<L->EJ ways r x∈rs)/\σ'=[some (.ref h),some (.ref p),some (.int (0+(i:Int))),o2,o3]):=⟨_,fun _ _ _=>Iff.rfl⟩
   refine forL (xs:=rs0.map V.int) Pw ((hPw _ _ _).mpr ⟨rs0,_,_,s2.trans sc,Ac,by rw[Ah (Ne.symm hcp)];exact hp2,m2,fun r hr=>hr,Nat.le_refl _,fun _=>rfl,fun k hk=>absurd hk (Nat.not_lt_zero _),rfl⟩) (fun j σ3 H3 _ h3=>by obtain⟨_,_,_,_,h,_⟩:=(hPw _ _ _).mp h3;exact SqL.of h) (fun j y σ3 H3 hy h3=>?_) (fun σ3 H3 h3=>?_)
   ·obtain⟨rs,o2,o3,s3,hc3,hp3,m3,sub3,len3,clo3,st3,rfl⟩:=(hPw _ _ _).mp h3
    obtain⟨r,hr,rfl⟩:=JV hy
    have hr0:=List.mem_of_getElem? hr
    obtain⟨r0,r1⟩:=m2.rg r hr0
    obtain⟨row,hrow,hrm,hrowl⟩:=wf.row r0 r1
    obtain⟨xs,t,z1,z2,z3⟩:=q3.atZ r0 hrow
    walk_at "rd"
    refine⟨_,s3.seqT q1,_,rfl,tw,rfl,_,s3.seqT z1,_,z2,t,rfl,⟨_,s3.seqT z3⟩,?_⟩
    obtain⟨Pe,hPe⟩:∃ Pv:Nat->St->Hp->Prop,∀ l σ' H',Pv l σ' H'↔(∃ (rs:List Int) (o3:Option V),Same H H'/\H' c=some (.lst (rs0.map V.int))/\H' p=some (.lst (rs.map V.int))/\Met41 L marks.length ways rs/\(∀ r∈rs0,r∈rs)/\rs0.length<=rs.length/\(Z5 L ways rs0->rs=rs0)/\(∀ k,k<j->∀ r,rs0[k]?=some r->∀ x:Int,0<=x->x<L->EJ ways r x∈rs)/\(∀ x:Int,0<=x->x<l->EJ ways r x∈rs)/\σ'=[some (.ref h),some (.ref p),some (.int (0+(i:Int))),some (.int r),o3]):=⟨_,fun _ _ _=>Iff.rfl⟩
    refine forT (xs:=row.map V.int) Pe ((hPe _ _ _).mpr ⟨rs,_,s3,hc3,hp3,m3,sub3,len3,clo3,st3,fun x h0 h1=>(by omega),rfl⟩) (fun l σ4 H4 _ h4=>by obtain⟨_,_,s4,_⟩:=(hPe _ _ _).mp h4;exact s4.seqT z3) (fun l y σ4 H4 hy4 h4=>?_) (fun σ4 H4 h4=>?_)
    ·obtain⟨rs,o3,s4,hc4,hp4,m4,sub4,len4,clo4,st4,le4,rfl⟩:=(hPe _ _ _).mp h4
     obtain⟨g,hg,rfl⟩:=JV hy4
     have hll:=(List.getElem?_eq_some_iff.mp hg).1
     have hgs:EJ ways r (l:Int)=g:=LS hrow (by rw[Int.toNat_natCast];exact hg)
     have hrl4:rs.length<=marks.length:=Ft _ m4.nd m4.rg
     walk_at "rd"
     have hxL:(l:Int)<L:=by omega
     have hlt:∀ (rs':List Int),(∀ q∈rs,q∈rs')->g∈rs'->∀ x:Int,0<=x->x<((l+1:Nat):Int)->EJ ways r x∈rs':=fun rs' hs hgm x h0 h1=>by
      by_cases hx:x<(l:Int)
      ·exact hs _ (le4 x h0 hx)
      ·have:x=(l:Int):=by omega
       subst this
       rw[hgs];exact hgm
     refine⟨_,.inl (SqL.of hp4),rfl,by simp[Ia],?_⟩
     by_cases hgm:g∈rs
     ·rw[if_neg (by rw[Wt];simp[hgm])]
      exact (hPe _ _ _).mpr ⟨rs,_,s4,hc4,hp4,m4,sub4,len4,clo4,st4,hlt rs (fun q hq=>hq) hgm,rfl⟩
     ·rw[if_pos (by rw[Wt];simp[hgm])]
      have hrr:r∈rs:=sub4 r hr0
      have m5:=m4.add wf hrr (by omega) hxL (by rw[hgs];exact hgm)
      rw[hgs] at m5
      refine⟨.inl ⟨rfl,_,SqL.of hp4⟩,_,hp4,by rw[List.length_map];omega,(hPe _ _ _).mpr ⟨rs ++ [g],_,s4.over hp,by rw[Ah hcp];exact hc4,by rw[Ac,List.map_append];rfl,m5,fun q hq=>List.mem_append_left _ (sub4 q hq),by rw[List.length_append];omega,fun hcl=>?_,fun k hk r' hr' x x0 x1=>List.mem_append_left _ (st4 k hk r' hr' x x0 x1),hlt _ (fun q hq=>List.mem_append_left _ hq) (by simp),rfl⟩⟩
      have h1:=hcl r hr0 (l:Int) (by omega) hxL
      rw[hgs] at h1
      exact absurd (sub4 g h1) hgm
    ·obtain⟨rs,o3,s4,hc4,hp4,m4,sub4,len4,clo4,st4,le4,rfl⟩:=(hPe _ _ _).mp h4
     rw[List.length_map,hrowl] at le4
     refine (hPw _ _ _).mpr ⟨rs,_,_,s4,hc4,hp4,m4,sub4,len4,clo4,fun k hk r' hr'=>?_,rfl⟩
     by_cases hkj:k<j
     ·exact st4 k hkj r' hr'
     ·have:k=j:=by omega
      subst this
      rw[hr] at hr'
      cases hr'
      exact le4
   ·obtain⟨rs,o2,o3,s3,hc3,hp3,m3,sub3,len3,clo3,st3,rfl⟩:=(hPw _ _ _).mp h3
    rw[List.length_map] at st3
    refine (hPv _ _ _).mpr ⟨rs,_,_,_,s3,hp3,m3,?_,rfl⟩
    by_cases hcl:Z5 L ways rs0
    ·rw[clo3 hcl];exact .inl hcl
    ·refine .inr ?_
     have h1:i+1<=rs0.length:=by rcases hc2 with h | h;exact absurd h hcl;exact h
     refine Nat.lt_of_not_le fun hle=>hcl fun r hr x x0 x1=>?_
     have hst:EJ ways r x∈rs:=by
      obtain⟨k,hk,ek⟩:=List.getElem_of_mem hr
      exact st3 k hk r (by rw[List.getElem?_eq_getElem hk,ek]) x x0 x1
     exact UA m2.nd sub3 (by omega) hst
  ·obtain⟨rs,o1,o2,o3,s2,hp2,m2,hc2,rfl⟩:=(hPv _ _ _).mp h2
   walk_at "rd"
   have hle:rs.length<=marks.length:=Ft _ m2.nd m2.rg
   exact k p rs _ s2 hp hp2 m2.nd m2.z m2.w (by rcases hc2 with h | h;exact h;omega)
theorem Jn {α:Type}[DecidableEq α]{l k:List α}(h:l.Nodup)(hs:∀ x∈l,x∈k):l.length<=k.length:=by
 induction l generalizing k with
 | nil=>simp
 | cons a l ih =>
  rw[List.nodup_cons] at h
  have ha:=hs a List.mem_cons_self
  have h1:∀ x∈l,x∈k.erase a:=fun x hx=>by
   refine (List.mem_erase_of_ne ?_).mpr (hs x (List.mem_cons_of_mem _ hx))
   intro z;subst z;exact h.1 hx
  have:=ih h.2 h1
  rw[List.length_erase_of_mem ha] at this
  have hp:=List.length_pos_of_mem ha
  rw[List.length_cons];omega
section
variable {rs:List Int} {E:Nat->Int->Int->Prop}
def Zd (rs:List Int)(E:Nat->Int->Int->Prop)(k i:Nat):Prop:=∀ a,rs[i]?=some a->∀ j b,j<i->rs[j]?=some b->¬ E k b a
open Classical in
noncomputable def Jo (rs:List Int)(E:Nat->Int->Int->Prop)(k:Nat):List Nat:=(List.range rs.length).filter fun i=>decide (Zd rs E k i)
open Classical in
theorem Fy {k i:Nat}:i∈Jo rs E k↔i<rs.length/\Zd rs E k i:=by
 unfold Jo
 rw[List.mem_filter,List.mem_range,decide_eq_true_eq]
theorem OH (k:Nat):(Jo rs E k).Nodup:=List.nodup_range.filter _
theorem WQ (rf:∀ k a,E k a a)(sy:∀ k a b,E k a b->E k b a)(tr:∀ k a b c,E k a b->E k b c->E k a c)(k:Nat):∀ (n i:Nat) (a:Int),i<=n->rs[i]?=some a->∃ j b,rs[j]?=some b/\E k b a/\Zd rs E k j:=by
 intro n
 induction n with
 | zero =>
  intro i a hi ha
  have:i=0:=by omega
  subst this
  exact⟨0,a,ha,rf k a,fun a' _ j b hj=>absurd hj (Nat.not_lt_zero _)⟩
 | succ n ih =>
  intro i a hi ha
  by_cases h:Zd rs E k i
  ·exact⟨i,a,ha,rf k a,h⟩
  ·unfold Zd at h
   simp only[Classical.not_forall] at h
   obtain⟨a',e',j,b,hj,hb,hE⟩:=h
   rw[ha] at e'
   cases e'
   have hE:E k b a:=Classical.not_not.mp hE
   obtain⟨j',b',h1,h2,h3⟩:=ih j b (by omega) hb
   exact⟨j',b',h1,tr k _ _ _ h2 hE,h3⟩
theorem Dl_ (rf:∀ k a,E k a a)(sy:∀ k a b,E k a b->E k b a)(tr:∀ k a b c,E k a b->E k b c->E k a c)(mo:∀ k a b,E (k+1) a b->E k a b){k:Nat}{a b:Int}(ha:a∈rs)(hb:b∈rs)(h:E k a b)(hn:¬ E (k+1) a b):(Jo rs E k).length+1<=(Jo rs E (k+1)).length:=by
 have sub:∀ i∈Jo rs E k,i∈Jo rs E (k+1):=fun i hi=>by
  obtain⟨h1,h2⟩:=Fy.mp hi
  exact Fy.mpr ⟨h1,fun a ha j b hj hb hE=>h2 a ha j b hj hb (mo k _ _ hE)⟩
 obtain⟨i,hi,hni⟩:∃ i,i∈Jo rs E (k+1)/\i∉Jo rs E k:=by
  refine Classical.byContradiction fun hc=>hn ?_
  have hall:∀ i,i∈Jo rs E (k+1)->i∈Jo rs E k:=fun i hi=>Classical.byContradiction fun z=>hc ⟨i,hi,z⟩
  obtain⟨ia,hia⟩:=List.mem_iff_getElem?.mp ha
  obtain⟨ib,hib⟩:=List.mem_iff_getElem?.mp hb
  obtain⟨j1,c1,p1,p2,p3⟩:=WQ (rs:=rs) rf sy tr (k+1) ia ia a (Nat.le_refl _) hia
  obtain⟨j2,c2,r1,r2,r3⟩:=WQ (rs:=rs) rf sy tr (k+1) ib ib b (Nat.le_refl _) hib
  have g1:=(Fy.mp (hall j1 (Fy.mpr ⟨(List.getElem?_eq_some_iff.mp p1).1,p3⟩))).2
  have g2:=(Fy.mp (hall j2 (Fy.mpr ⟨(List.getElem?_eq_some_iff.mp r1).1,r3⟩))).2
  have e12:E k c1 c2:=tr k _ _ _ (mo k _ _ p2) (tr k _ _ _ h (sy k _ _ (mo k _ _ r2)))
  have ej:j1=j2:=by
   refine Classical.byContradiction fun hne=>?_
   rcases Nat.lt_or_gt_of_ne hne with hlt | hlt
   ·exact g2 c2 r1 j1 c1 hlt p1 e12
   ·exact g1 c1 p1 j2 c2 hlt r1 (sy k _ _ e12)
  subst ej
  rw[p1] at r1
  cases r1
  exact tr _ _ _ _ (sy _ _ _ p2) r2
 have:=Jn (l:=i::Jo rs E k) (k:=Jo rs E (k+1)) (by rw[List.nodup_cons];exact⟨hni,OH k⟩) fun y hy=>by
  rcases List.mem_cons.mp hy with rfl | hy
  ·exact hi
  ·exact sub y hy
 simpa using this
theorem Dm_ (rf:∀ k a,E k a a)(sy:∀ k a b,E k a b->E k b a)(tr:∀ k a b c,E k a b->E k b c->E k a c)(mo:∀ k a b,E (k+1) a b->E k a b)(st:∀ k,(∀ a∈rs,∀ b∈rs,E k a b->E (k+1) a b)->∀ a∈rs,∀ b∈rs,E (k+1) a b->E (k+2) a b)(h0:0<rs.length){a b:Int}(ha:a∈rs)(hb:b∈rs)(h:E rs.length a b)(j:Nat):E j a b:=by
 have key:∀ k,(∃ k',k'<k/\∀ a∈rs,∀ b∈rs,E k' a b->E (k'+1) a b)\/k+1<=(Jo rs E k).length:=by
  intro k
  induction k with
  | zero =>
   right
   have:0∈Jo rs E 0:=Fy.mpr ⟨h0,fun a _ j b hj=>absurd hj (Nat.not_lt_zero _)⟩
   exact List.length_pos_of_mem this
  | succ k ih =>
   rcases ih with ⟨k',h1,h2⟩ | ih
   ·exact .inl ⟨k',by omega,h2⟩
   ·by_cases hs:∀ a∈rs,∀ b∈rs,E k a b->E (k+1) a b
    ·exact .inl ⟨k,by omega,hs⟩
    ·simp only[Classical.not_forall] at hs
     obtain⟨a,ha,b,hb,h1,h2⟩:=hs
     right
     have:=Dl_ rf sy tr mo ha hb h1 h2
     omega
 have hle:(Jo rs E rs.length).length<=rs.length:=by
  have:=Jn (l:=Jo rs E rs.length) (k:=List.range rs.length) (OH _) fun i hi=>List.mem_range.mpr (Fy.mp hi).1
  simpa using this
 rcases key rs.length with ⟨k',h1,h2⟩ | h1
 ·have up:∀ d,∀ a∈rs,∀ b∈rs,E (k'+d) a b->E (k'+d+1) a b:=by
   intro d
   induction d with
   | zero=>exact h2
   | succ d ih=>exact st _ ih
  have far:∀ d,E (rs.length+d) a b:=by
   intro d
   induction d with
   | zero=>exact h
   | succ d ih =>
    have:=up (rs.length+d-k') a ha b hb (by rw[show k'+(rs.length+d-k')=rs.length+d by omega];exact ih)
    rw[show k'+(rs.length+d-k')+1=rs.length+(d+1) by omega] at this
    exact this
  have down:∀ d i,E (i+d) a b->E i a b:=by
   intro d
   induction d with
   | zero=>exact fun i h=>h
   | succ d ih=>exact fun i h=>ih i (mo _ _ _ h)
  exact down rs.length j (by rw[Nat.add_comm];exact far j)
 ·omega
end
def MJ (L:Int)(marks:List Int)(ways:List (List Int))(k:Nat)(a b:Int):Prop:=∀ v,isW L v=true->v.length<=k->mkW marks (Eh ways a v)=mkW marks (Eh ways b v)
theorem MJ.succ {L:Int}{marks:List Int}{ways:List (List Int)}{k:Nat}{a b:Int}:MJ L marks ways (k+1) a b↔MJ L marks ways k a b/\∀ x:Int,0<=x->x<L->MJ L marks ways k (EJ ways a x) (EJ ways b x):=by
 constructor
 ·intro h
  refine⟨fun v hv hl=>h v hv (by omega),fun x x0 x1 v hv hl=>?_⟩
  have:=h (x::v) (Ao.mpr fun y hy=>by
   rcases List.mem_cons.mp hy with rfl | hy
   ·exact⟨x0,x1⟩
   ·exact Ao.mp hv y hy) (by rw[List.length_cons];omega)
  rw[Fb,Fb] at this
  exact this
 ·rintro⟨h1,h2⟩ v hv hl
  cases v with
  | nil=>exact h1 [] hv (by simp)
  | cons x v =>
   have hx:=Ao.mp hv x List.mem_cons_self
   rw[Fb,Fb]
   exact h2 x hx.1 hx.2 v (Ao.mpr fun y hy=>Ao.mp hv y (List.mem_cons_of_mem _ hy)) (by rw[List.length_cons] at hl;omega)
theorem MJ.all {L:Int}{marks:List Int}{ways:List (List Int)}{rs:List Int}(hz:0∈rs)(cl:∀ r∈rs,∀ x:Int,0<=x->x<L->EJ ways r x∈rs){a b:Int}(ha:a∈rs)(hb:b∈rs)(h:MJ L marks ways rs.length a b):∀ v,isW L v=true->mkW marks (Eh ways a v)=mkW marks (Eh ways b v):=fun v hv =>
 Dm_ (rs:=rs) (E:=MJ L marks ways) (fun _ _ _ _ _=>rfl) (fun _ _ _ h v hv hl=>(h v hv hl).symm) (fun _ _ _ _ h g v hv hl=>(h v hv hl).trans (g v hv hl)) (fun _ _ _ h=>(MJ.succ.mp h).1) (fun k hs a ha b hb h=>by
  obtain⟨h1,h2⟩:=MJ.succ.mp h
  exact MJ.succ.mpr ⟨h,fun x x0 x1=>hs _ (cl a ha x x0 x1) _ (cl b hb x x0 x1) (h2 x x0 x1)⟩) (List.length_pos_of_mem hz) ha hb h v.length v hv (Nat.le_refl _)
structure Cls41 (L:Int)(marks:List Int)(ways:List (List Int))(cl:Int->Int)(ds:List Int):Prop where
 nd:ds.Nodup
 at_:∀ v,isW L v=true->cl (Ak ways v)∈ds
 of:∀ d∈ds,∃ v,isW L v=true/\cl (Ak ways v)=d
 eq:∀ v u,isW L v=true->isW L u=true->(cl (Ak ways v)=cl (Ak ways u) ↔ ∀ e,isW L e=true->mkW marks (Ak ways (v++e))=mkW marks (Ak ways (u++e)))
def ln41 (names:List Int)(ways:List (List Int))(r:Nat):List Int:=names.getD r 0::(ways.getD r []).map fun a=>names.getD a.toNat 0
def GK (names:List Int)(ways:List (List Int)):List (List Int):=(List.range names.length).map (ln41 names ways)
def nx41 (names:List Int)(ways:List (List Int)):List Int:=(GK names ways).map fun w=>(((GK names ways).idxOf w:Nat):Int)
def L4 (L:Int)(marks:List Int)(ways:List (List Int))(k:Nat)(names:List Int):Prop:=names.length=marks.length/\∀ a b:Nat,a<marks.length->b<marks.length->(names.getD a 0=names.getD b 0↔MJ L marks ways k a b)
theorem L4.next {L:Int}{marks:List Int}{ways:List (List Int)}(wf:Wf L marks ways){k:Nat}{names:List Int}(h:L4 L marks ways k names):L4 L marks ways (k+1) (nx41 names ways):=by
 have hl:(GK names ways).length=marks.length:=by unfold GK;rw[List.length_map,List.length_range,h.1]
 have at_:∀ a:Nat,a<marks.length->(GK names ways)[a]?=some (ln41 names ways a):=fun a ha=>by
  unfold GK
  rw[List.getElem?_map,List.getElem?_range (by rw[h.1];exact ha)];rfl
 have nat:∀ a:Nat,a<marks.length->(nx41 names ways).getD a 0=(((GK names ways).idxOf (ln41 names ways a):Nat):Int):=fun a ha=>by
  unfold nx41
  rw[List.getD_eq_getElem?_getD,List.getElem?_map,at_ a ha];rfl
 refine⟨by unfold nx41;rw[List.length_map,hl],fun a b ha hb=>?_⟩
 rw[nat a ha,nat b hb,MJ.succ]
 have e1:((((GK names ways).idxOf (ln41 names ways a):Nat):Int)=(((GK names ways).idxOf (ln41 names ways b):Nat):Int))↔ln41 names ways a=ln41 names ways b:=by
  constructor
  ·intro e
   have e:(GK names ways).idxOf (ln41 names ways a)=(GK names ways).idxOf (ln41 names ways b):=by omega
   have ma:=List.mem_of_getElem? (at_ a ha)
   have mb:=List.mem_of_getElem? (at_ b hb)
   have ga:=List.getElem_idxOf (List.idxOf_lt_length_iff.mpr ma)
   have gb:=List.getElem_idxOf (List.idxOf_lt_length_iff.mpr mb)
   rw[<- ga,<- gb]
   congr 1
  ·intro e;rw[e]
 rw[e1]
 obtain⟨ra,ra1,ra2,ra3⟩:=wf.row (r:=(a:Int)) (by omega) (by omega)
 obtain⟨rb,rb1,rb2,rb3⟩:=wf.row (r:=(b:Int)) (by omega) (by omega)
 rw[Int.toNat_natCast] at ra1 rb1
 have ga:ways.getD a []=ra:=by rw[List.getD_eq_getElem?_getD,ra1];rfl
 have gb:ways.getD b []=rb:=by rw[List.getD_eq_getElem?_getD,rb1];rfl
 have st:∀ (c:Nat) (rc:List Int),ways[c]?=some rc->rc∈ways->∀ x:Nat,(x:Int)<L->∃ g:Nat,rc[x]?=some (g:Int)/\g<marks.length/\EJ ways c x=g:=fun c rc h1 h2 x hx=>by
  have h3:=wf.rows rc h2
  have hxl:x<rc.length:=by omega
  have h4:=h3.2 rc[x] (List.getElem_mem _)
  refine⟨rc[x].toNat,by rw[List.getElem?_eq_getElem hxl];congr 1;omega,by omega,?_⟩
  rw[LS (row:=rc) (g:=rc[x]) (by rw[Int.toNat_natCast];exact h1) (by rw[Int.toNat_natCast];exact List.getElem?_eq_getElem hxl)]
  omega
 unfold ln41
 rw[ga,gb,List.cons.injEq,h.2 a b ha hb]
 refine and_congr Iff.rfl ?_
 constructor
 ·intro e x x0 x1
  obtain⟨xn,rfl⟩:∃ xn:Nat,x=(xn:Int):=⟨x.toNat,by omega⟩
  obtain⟨g,g1,g2,g3⟩:=st a ra ra1 ra2 xn x1
  obtain⟨f,f1,f2,f3⟩:=st b rb rb1 rb2 xn x1
  rw[g3,f3,<- h.2 g f g2 f2]
  have:=congrArg (fun l:List Int=>l[xn]?) e
  simp only[List.getElem?_map,g1,f1,Option.map_some,Int.toNat_natCast,Option.some.injEq] at this
  exact this
 ·intro e
  refine List.ext_getElem? fun xn=>?_
  by_cases hx:(xn:Int)<L
  ·obtain⟨g,g1,g2,g3⟩:=st a ra ra1 ra2 xn hx
   obtain⟨f,f1,f2,f3⟩:=st b rb rb1 rb2 xn hx
   have e1:=e (xn:Int) (by omega) hx
   rw[g3,f3,<- h.2 g f g2 f2] at e1
   simp only[List.getElem?_map,g1,f1,Option.map_some,Int.toNat_natCast,Option.some.injEq]
   exact e1
  ·rw[List.getElem?_eq_none (by rw[List.length_map];omega),List.getElem?_eq_none (by rw[List.length_map];omega)]
theorem L4.first {L:Int}{marks:List Int}{ways:List (List Int)}:L4 L marks ways 0 marks:=⟨rfl,fun a b ha hb=>by
 constructor
 ·intro e v hv hl
  have:v=[]:=List.length_eq_zero_iff.mp (by omega)
  subst this
  show marks.getD ((a:Int)).toNat 0=marks.getD ((b:Int)).toNat 0
  rw[Int.toNat_natCast,Int.toNat_natCast];exact e
 ·intro h
  have:=h [] (Ao.mpr fun x hx=>(by cases hx)) (Nat.zero_le _)
  have:marks.getD ((a:Int)).toNat 0=marks.getD ((b:Int)).toNat 0:=this
  rw[Int.toNat_natCast,Int.toNat_natCast] at this
  exact this⟩
theorem L4.cls {L:Int}{marks:List Int}{ways:List (List Int)}(wf:Wf L marks ways){rs names ds:List Int}(h:L4 L marks ways rs.length names)(hz:0∈rs)(hw:∀ r∈rs,∃ v,isW L v=true/\Ak ways v=r)(hc:∀ r∈rs,∀ x:Int,0<=x->x<L->EJ ways r x∈rs)(nd:ds.Nodup)(hd:∀ x,x∈ds↔x∈rs.map fun r=>names.getD r.toNat 0):Cls41 L marks ways (fun r=>names.getD r.toNat 0) ds:=by
 have mem:∀ v,isW L v=true->Ak ways v∈rs:=by
  intro v hv
  have key:∀ i,Ak ways (v.take i)∈rs:=by
   intro i
   induction i with
   | zero=>exact hz
   | succ i ih =>
    by_cases hi:i<v.length
    ·have hvi:v[i]?=some v[i]:=by simp[hi]
     rw[JX hvi]
     have:=Ao.mp hv v[i] (List.getElem_mem _)
     exact hc _ ih _ this.1 this.2
    ·rw[List.take_of_length_le (by omega)] at ih ⊢
     exact ih
  have:=key v.length
  rwa [List.take_length] at this
 refine⟨nd,fun v hv=>(hd _).mpr (List.mem_map.mpr ⟨_,mem v hv,rfl⟩),fun d hdd=>?_,fun v u hv hu=>?_⟩
 ·obtain⟨r,hr,rfl⟩:=List.mem_map.mp ((hd d).mp hdd)
  obtain⟨v,hv,e⟩:=hw r hr
  exact⟨v,hv,by rw[e]⟩
 ·have rv:=wf.walk hv v.length
  have ru:=wf.walk hu u.length
  rw[List.take_length] at rv ru
  have mv:=mem v hv
  have mu:=mem u hu
  have e1:=h.2 (Ak ways v).toNat (Ak ways u).toNat (by omega) (by omega)
  rw[show (((Ak ways v).toNat:Nat):Int)=Ak ways v by omega,show (((Ak ways u).toNat:Nat):Int)=Ak ways u by omega] at e1
  show names.getD (Ak ways v).toNat 0=names.getD (Ak ways u).toNat 0↔_
  rw[e1]
  have ap:∀ (w e:List Int),Ak ways (w++e)=Eh ways (Ak ways w) e:=fun w e=>by rw[<- JY,Um,JY]
  constructor
  ·intro z e he
   rw[ap,ap]
   exact MJ.all hz hc mv mu z e he
  ·intro z e he _
   have:=z e he
   rw[ap,ap] at this
   exact this
def WR (K:PySem.W.Frag):Sp:=fun vs H Q _=>∃ (h:Addr) (L:Int) (marks:List Int) (ways:List (List Int)),vs=[.ref h]/\GX K H h L marks ways/\Wf L marks ways/\∀ (cl:Int->Int) (ds:List Int) (H':Hp),Same H H'->Cls41 L marks ways cl ds->Q (.int ds.length) H'
theorem OI {f:Addr}{fd:FuncData}(F:Fun K "_law_classes" "_law_classes" CJ f fd)(T:Txt mg)
  (W:Own K mg C_Book C_Turns C_Hunt C_Asker)
  (Z:Exs K mg C_AskError C_BadWord C_BadMark C_OutOfTurn C_NoDifference C_Contradiction)
  {CN:Addr} {Gd:FuncData} (GL:FnOk P w K mg base CX0 1 CN Gd ["house"] (RF K)) (D6:Fun K "_law_reached" "_law_reached" CI CN Gd) (GM:Binds K Gd ["house"] []) (GN:mg "_law_reached" = some (.ref CN))
  : FnOk P w K mg base CX0 2 f fd ["house"] (WR K):=by
 refine F.ok CW (fun vs H Q E h=>?_) (fun cdv A outer s H vs Q E hr h=>?_)
 ·obtain⟨h,L,marks,ways,rfl,_⟩:=h;rfl
 ·obtain⟨h,L,marks,ways,rfl,hh,wf,k⟩:=h
  have hl:=Ap
  have hn40:=wf.n40
  have hn1:=wf.n1
  have hL1:=wf.l1
  have hL6:=wf.l6
  refine⟨_,(Ab (As (i:=1) CW.nd rfl (Or.inl rfl) (AE GL (hr.mono (by decide)) rfl GN D6.kp GM .nil Bn (Aa (pv 0) Ae)))
   (Ab (As (i:=2) CW.nd rfl (Or.inr rfl) (Ca Nh rfl T.list PyProof.Rows.boot_list (Aa (AU AF (pv 0) Ag (fun _ _=>rfl)) Ae)))
   (Ab (Dv PassesOwn.never rfl (DB rfl T.range (Aa (AZ AT (by rfl) T.len PySem.boot_len (Aa (pv 1) Ae)) Ae)) (AK (i:=3) CW.nd rfl (Or.inl rfl))
   (Ab (As (i:=4) CW.nd rfl (Or.inr rfl) (Gy rfl (HP rfl) (cp:=HS) ⟨⟨rfl,rfl⟩,⟨⟨rfl,rfl⟩,True.intro⟩⟩ (DB rfl T.range (Aa (AZ AT (by rfl) T.len PySem.boot_len (Aa (pv 2) Ae)) Ae)) (fun _ _ _ _=>(AK (i:=0) KC rfl (Or.inl rfl))) (fun _ _ _ _=>HN) (fun _ _ _ _=>(A9 Cy_ (IK (Aa (AU (LR (K:=K) rfl) (pv 1) (pv 0) (fun _ _=>rfl)) Ae)) (Gy rfl (HP rfl) (cp:=HV) ⟨⟨rfl,rfl⟩,True.intro⟩ (BM_ (K:=K) rfl (AU (YF (K:=K) rfl) (AU (YF (K:=K) rfl) (pv 2) Ag (fun _ _=>rfl)) (pv 0) (fun _ _=>rfl))) (fun _ _ _ _=>(AK (i:=0) KD rfl (Or.inl rfl))) (fun _ _ _ _=>HN) (fun _ _ _ _=>(AU (LR (K:=K) rfl) (pv 1) (pv 0) (fun _ _=>rfl))))))))
   (Af (As (i:=2) CW.nd rfl (Or.inr rfl) (Gy rfl (HP rfl) (cp:=HW) ⟨⟨rfl,rfl⟩,True.intro⟩ (Ef (pv 4)) (fun _ _ _ _=>(AK (i:=0) KG rfl (Or.inl rfl))) (fun _ _ _ _=>HN) (fun _ _ _ _=>(Db_ (K:=K) rfl PySem.F.plainAttrs_list PySem.F.slot_list_index PySem.F.type_list_index (Vn (K:=K) rfl (hu9 hr)) (pv 1) (Aa (pv 0) Ae))))))))
   (Af (Au (AZ Vk (by rfl) T.len PySem.boot_len (Aa (Ca (YZ rfl) rfl T.set PyProof.Rows.boot_set (Aa (Gy rfl (HP rfl) (cp:=HX) ⟨⟨rfl,rfl⟩,True.intro⟩ (Ef (pv 1)) (fun _ _ _ _=>(AK (i:=0) KH rfl (Or.inl rfl))) (fun _ _ _ _=>HN) (fun _ _ _ _=>(AU (LR (K:=K) rfl) (pv 1) (pv 0) (fun _ _=>rfl)))) Ae)) Ae))))))),?_⟩
  obtain⟨tm,tw,q1,q2,q3⟩:=id hh
  walk_at "rd"
  refine⟨h,L,marks,ways,rfl,hh,wf,fun pr rs H1 s1 hprN hpr nd hz hwd hcl=>?_⟩
  dsimp only
  have hrg:∀ r∈rs,0<=r/\r<(marks.length:Int):=fun r hr=>by
   obtain⟨v,hv,rfl⟩:=hwd r hr
   have:=wf.walk hv v.length
   rwa [List.take_length] at this
  have hrl:rs.length<=marks.length:=Ft _ nd hrg
  refine⟨_,s1.seqT q1,_,rfl,tm,rfl,_,.inr (s1.seqT q2),fun pn hpn=>⟨pr,rfl,_,.inl (SqL.of (Same.new hpn _ _ hpr)),?_⟩⟩
  rw[List.length_map]
  refine⟨by omega,by omega,?_⟩
  rw[Int.toNat_natCast]
  have sn:=Same.new hpn (o:=.lst (marks.map V.int))
  obtain⟨Pv,hPv⟩:∃ Pv:Nat->St->Hp->Prop,∀ i σ' H',Pv i σ' H'↔(∃ (names:List Int) (pn:Addr) (o3 o4:Option V),Same H1 H'/\H' pn=some (.lst (names.map V.int))/\L4 L marks ways i names/\σ'=[some (.ref h),some (.ref pr),some (.ref pn),o3,o4]):=⟨_,fun _ _ _=>Iff.rfl⟩
  refine forR Pv ((hPv _ _ _).mpr ⟨marks,pn,none,none,sn,Ac,L4.first,rfl⟩) (fun i σ2 H2 hi h2=>?_) (fun σ2 H2 h2=>?_)
  ·obtain⟨names,pn,o3,o4,s2,hn2,nm,rfl⟩:=(hPv _ _ _).mp h2
   have hnl:names.length=marks.length:=nm.1
   have s02:=s1.trans s2
   walk_at "rd"
   refine⟨_,.inl (SqL.of hn2),?_⟩
   rw[List.length_map]
   refine⟨by omega,by omega,?_⟩
   rw[Int.toNat_natCast]
   obtain⟨Pc,hPc⟩:∃ Pc:Nat->List V->St->Hp->Prop,∀ j ys σ4 H4,Pc j ys σ4 H4↔(Same H2 H4/\LLs H2 H4 ys ((List.range j).map (ln41 names ways))/\∃ o,σ4=[o,some (.ref pn),some (.ref h)]):=⟨_,fun _ _ _ _=>Iff.rfl⟩
   refine ZI Pc ((hPc _ _ _ _).mpr ⟨Same.refl _,LLs.nil _ _,none,rfl⟩) (by omega) (fun j ys σ4 H4 hj h4=>?_) (fun j ys σ4 H4 hj h4=>?_) (fun ys σ4 H4 h4 D hD=>?_)
   ·obtain⟨_,hL4,_⟩:=(hPc _ _ _ _).mp h4
    rw[LLs.len hL4,List.length_map,List.length_range];omega
   ·obtain⟨s4,hL4,o,rfl⟩:=(hPc _ _ _ _).mp h4
    rw[Int.zero_add]
    have hjn:names[j]?=some names[j]:=by simp[hj]
    obtain⟨row,hrow,hrm,hrowl⟩:=wf.row (r:=(j:Int)) (by omega) (by omega)
    obtain⟨xs,t,z1,z2,z3⟩:=(q3.mono (s02.trans s4)).atZ (by omega) hrow
    walk_at "rd"
    refine⟨_,SqL.of (s4 _ _ hn2),_,FV (by omega) (by rw[Int.toNat_natCast];exact hjn),by omega,fun p1 hp1=>?_⟩
    have s5:=Same.new hp1 (o:=.lst [V.int names[j]])
    have s05:=(s02.trans s4).trans s5
    obtain⟨f,hf⟩:∃ f:V->V,∀ a:Int,f (V.int a)=.int (names.getD a.toNat 0):=⟨fun v=>match v with | .int a=>.int (names.getD a.toNat 0) | _=>.non,fun _=>rfl⟩
    have hat:∀ a:Int,0<=a->a<(marks.length:Int)->names[a.toNat]?=some (names.getD a.toNat 0):=fun a a0 a1=>by
     rw[List.getD_eq_getElem?_getD,List.getElem?_eq_getElem (show a.toNat<names.length by omega)];rfl
    refine⟨_,s05.seqT q1,_,rfl,tw,rfl,_,s5.seqT z1,_,z2,t,rfl,⟨_,s5.seqT z3⟩,Wp (xs:=row.map V.int) (σ':=[some (.ref pn)]) f rfl (s5.seqT z3) (by rw[List.length_map];omega) (fun y hy R hR=>?_) (fun D3 hD3=>?_)⟩
    ·obtain⟨a,ha,rfl⟩:=List.mem_map.mp hy
     have har:=(wf.rows row hrm).2 a ha
     rw[hf] at hR
     walk_at "rd"
     exact⟨_,SqL.of (s5 _ _ (s4 _ _ hn2)),_,FV har.1 (hat a har.1 har.2),hR⟩
    have em:(row.map V.int).map f=(row.map fun a=>names.getD a.toNat 0).map V.int:=by
     rw[List.map_map,List.map_map]
     exact List.map_congr_left fun a _=>hf a
    rw[em]
    have s6:=Same.new hD3 (o:=.lst ((row.map fun a=>names.getD a.toNat 0).map V.int))
    refine⟨D3,rfl,_,s6 _ _ Ac,_,Ac,by rw[List.length_map,List.length_map];simp;omega,fun p5 hp5=>(hPc _ _ _ _).mpr ⟨((s4.trans s5).trans s6).newT hp5,?_,_,rfl⟩⟩
    have el:ln41 names ways j=names[j]::row.map fun a=>names.getD a.toNat 0:=by
     unfold ln41
     rw[Int.toNat_natCast] at hrow
     rw[List.getD_eq_getElem?_getD,hjn,List.getD_eq_getElem?_getD,hrow];rfl
    have:=(hL4.mono (s5.trans s6)).snoc (w:=ln41 names ways j) (s4.none ((s5.trans s6).none hp5)) hp5
    rw[List.range_succ,List.map_append]
    show LLs _ _ _ (_ ++ [ln41 names ways j])
    rw[el] at this ⊢
    exact this
   ·obtain⟨s4,hL4,o,rfl⟩:=(hPc _ _ _ _).mp h4
    have hL4:LLs H2 H4 ys (GK names ways):=hL4
    have hll:(GK names ways).length=marks.length:=by unfold GK;rw[List.length_map,List.length_range,hnl]
    have hyl:ys.length=marks.length:=by rw[LLs.len hL4,hll]
    have s5:=Same.new hD (o:=.lst ys)
    have wL:Uk K (upd H4 D (.lst ys)) ys (GK names ways):=by
     obtain⟨ts,e1,e2,e3,e4,e5⟩:=hL4.mono s5
     refine⟨by rw[e1,List.length_map,e2],fun i w hi=>?_⟩
     have hl':i<ts.length:=by rw[e2];exact (List.getElem?_eq_some_iff.mp hi).1
     exact⟨ts[i],by rw[e1,List.getElem?_map];simp[hl'],e4 i _ w (by simp[hl']) hi⟩
    have hDs:upd H4 D (.lst ys) D=some (.lst ys):=Ac
    generalize upd H4 D (.lst ys)=H5 at s5 wL hDs ⊢
    obtain⟨Pd,hPd⟩:∃ Pc:Nat->List V->St->Hp->Prop,∀ j zs σ6 H6,Pc j zs σ6 H6↔(H6=H5/\zs=(((GK names ways).take j).map fun w=>(((GK names ways).idxOf w:Nat):Int)).map V.int/\∃ o,σ6=[o,some (.ref D)]):=⟨_,fun _ _ _ _=>Iff.rfl⟩
    refine⟨D,rfl,⟨_,SqL.of hDs⟩,Yz (xs:=ys) Pd ((hPd _ _ _ _).mpr ⟨rfl,rfl,none,rfl⟩) (by omega) (fun j zs σ6 H6 hj h6=>?_) (fun j y zs σ6 H6 hy h6=>?_) (fun zs σ6 H6 h6 D2 hD2=>?_)⟩
    ·obtain⟨rfl,rfl,_⟩:=(hPd _ _ _ _).mp h6
     exact⟨SqL.of hDs,by rw[List.length_map,List.length_map,List.length_take];omega⟩
    ·obtain⟨rfl,rfl,o,rfl⟩:=(hPd _ _ _ _).mp h6
     have hjl:j<(GK names ways).length:=by rw[<- wL.1];exact (List.getElem?_eq_some_iff.mp hy).1
     have hlj:(GK names ways)[j]?=some (GK names ways)[j]:=by simp[hjl]
     obtain⟨t,e1,e2⟩:=wL.2 j _ hlj
     rw[hy] at e1
     cases e1
     walk_at "rd"
     refine⟨.inl ⟨rfl,_,SqL.of hDs⟩,ys,hDs,_,GK names ways,wL,SqL.of e2,List.getElem_mem _,by omega,(hPd _ _ _ _).mpr ⟨rfl,?_,_,rfl⟩⟩
     rw[List.take_add_one,hlj,List.map_append,List.map_append]
     rfl
    ·obtain⟨rfl,rfl,o,rfl⟩:=(hPd _ _ _ _).mp h6
     rw[wL.1,List.take_length]
     exact (hPv _ _ _).mpr ⟨nx41 names ways,D2,_,_,((s2.trans s4).trans s5).newT hD2,Ac,nm.next wf,rfl⟩
  ·obtain⟨names,pn,o3,o4,s2,hn2,nm,rfl⟩:=(hPv _ _ _).mp h2
   walk_at "rd"
   have hat:∀ a:Int,0<=a->a<(marks.length:Int)->names[a.toNat]?=some (names.getD a.toNat 0):=fun a a0 a1=>by
    have h1:names.length=marks.length:=nm.1
    rw[List.getD_eq_getElem?_getD,List.getElem?_eq_getElem (show a.toNat<names.length by omega)];rfl
   obtain⟨f,hf⟩:∃ f:V->V,∀ a:Int,f (V.int a)=.int (names.getD a.toNat 0):=⟨fun v=>match v with | .int a=>.int (names.getD a.toNat 0) | _=>.non,fun _=>rfl⟩
   refine⟨⟨_,SqL.of (s2 _ _ hpr)⟩,Wq (xs:=rs.map V.int) (σ':=[some (.ref pn)]) f rfl (SqL.of (s2 _ _ hpr)) (by rw[List.length_map];omega) (fun y hy R hR=>?_) (fun D hD=>?_)⟩
   ·obtain⟨a,ha,rfl⟩:=List.mem_map.mp hy
    have har:=hrg a ha
    rw[hf] at hR
    walk_at "rd"
    exact⟨_,SqL.of hn2,_,FV har.1 (hat a har.1 har.2),hR⟩
   have em:(rs.map V.int).map f=(rs.map fun a=>names.getD a.toNat 0).map V.int:=by
    rw[List.map_map,List.map_map]
    exact List.map_congr_left fun a _=>hf a
   rw[em]
   refine⟨D,rfl,_,SqL.of Ac,by rw[List.length_map];omega,fun a S ds ha hnd hds=>⟨S,ds.length,Ac,?_⟩⟩
   exact k _ ds _ (((s1.trans s2).newT hD).newT ha) (nm.cls wf hz hwd hcl hnd hds)
def WdT (H:Hp)(ents:List ((Int×Int)×List Int))(kvs:List (List Key×V)):Prop:=kvs.length=ents.length/\∀ (i:Nat) (e:(Int×Int)×List Int),ents[i]?=some e->∃ t,kvs[i]?=some (keyP e.1,V.ref t)/\H t=some (.tup (e.2.map V.int))
theorem WdT.mono {H H':Hp}{ents:List ((Int×Int)×List Int)}{kvs:List (List Key×V)}(h:WdT H ents kvs)(k:TK H H'):WdT H' ents kvs:=⟨h.1,fun i e he=>by
 obtain⟨t,h1,h2⟩:=h.2 i e he
 exact⟨t,h1,k _ _ h2⟩⟩
theorem WdT.no {H:Hp}{ents:List ((Int×Int)×List Int)}{kvs:List (List Key×V)}(h:WdT H ents kvs){g:Int×Int}(hg:g∉ents.map (·.1)):valV kvs (keyP g)=none:=by
 unfold valV
 rw[Option.map_eq_none_iff,List.find?_eq_none]
 intro kv hkv
 obtain⟨i,hi,e⟩:=List.getElem_of_mem hkv
 have hie:i<ents.length:=by rw[<- h.1];exact hi
 obtain⟨v,h1,_⟩:=h.2 i ents[i] (by simp[hie])
 rw[List.getElem?_eq_getElem hi,e] at h1
 cases h1
 simp only[decide_eq_true_eq]
 intro z
 exact hg (List.mem_map.mpr ⟨ents[i],List.getElem_mem _,Wy z⟩)
theorem WdT.nod {H:Hp}{ents:List ((Int×Int)×List Int)}{kvs:List (List Key×V)}(h:WdT H ents kvs)(hn:(ents.map (·.1)).Nodup):(kvs.map (·.1)).Nodup:=by
 have e:kvs.map (·.1)=(ents.map (·.1)).map keyP:=by
  refine List.ext_getElem? fun i=>?_
  rw[List.getElem?_map,List.getElem?_map,List.getElem?_map]
  cases he:ents[i]? with
  | none =>
   rw[List.getElem?_eq_none (by rw[h.1];exact List.getElem?_eq_none_iff.mp he)];rfl
  | some e =>
   obtain⟨v,h1,_⟩:=h.2 i e he
   rw[h1];rfl
 rw[e]
 exact List.Pairwise.map (R:=(· ≠ ·)) _ (fun a b hab z=>hab (Wy z)) hn
theorem WdT.yes {H:Hp}{ents:List ((Int×Int)×List Int)}{kvs:List (List Key×V)}(h:WdT H ents kvs)(hn:(ents.map (·.1)).Nodup){e:(Int×Int)×List Int}(he:e∈ents):∃ t,valV kvs (keyP e.1)=some (.ref t)/\H t=some (.tup (e.2.map V.int)):=by
 obtain⟨i,hi,ei⟩:=List.getElem_of_mem he
 obtain⟨v,h1,h2⟩:=h.2 i e (by rw[List.getElem?_eq_getElem hi,ei])
 exact⟨v,BK_ (h.nod hn) h1,h2⟩
theorem WdT.put {H:Hp}{ents:List ((Int×Int)×List Int)}{kvs:List (List Key×V)}(h:WdT H ents kvs){g:Int×Int}(hg:g∉ents.map (·.1)){t:Addr}{w:List Int}(ht:H t=some (.tup (w.map V.int))):WdT H (ents ++ [(g,w)]) (putK kvs (keyP g) (.ref t)):=by
 rw[Wj _ (h.no hg)]
 refine⟨by rw[List.length_append,List.length_append,h.1];rfl,fun i e hi=>?_⟩
 by_cases hil:i<ents.length
 ·rw[List.getElem?_append_left hil] at hi
  obtain⟨t',h1,h2⟩:=h.2 i e hi
  exact⟨t',by rw[List.getElem?_append_left (by rw[h.1];exact hil)];exact h1,h2⟩
 ·have hl:=(List.getElem?_eq_some_iff.mp hi).1
  rw[List.length_append,List.length_singleton] at hl
  have e1:i=ents.length:=by omega
  subst e1
  rw[List.getElem?_append_right (Nat.le_refl _),Nat.sub_self] at hi
  have:(g,w)=e:=by simpa using hi
  subst this
  exact⟨t,by rw[<- h.1,List.getElem?_append_right (Nat.le_refl _),Nat.sub_self];rfl,ht⟩
def Z6 (w1 w2:List (List Int))(m1 m2:List Int)(a b:Int)(ws:List Int):Prop:=mkW m1 (Eh w1 a ws)≠mkW m2 (Eh w2 b ws)
def UB (K:PySem.W.Frag):Sp:=fun vs H Q _=>∃ (h h2:Addr) (L:Int) (marks marks2:List Int) (ways ways2:List (List Int)),vs=[.ref h,.ref h2]/\GX K H h L marks ways/\Wf L marks ways/\GX K H h2 L marks2 ways2/\Wf L marks2 ways2/\(∀ H',Same H H'->(∀ ws,isW L ws=true->¬ Z6 ways ways2 marks marks2 0 0 ws)->Q .non H')/\∀ t w H',Same H H'->H' t=some (.tup (w.map V.int))->isW L w=true->w.length<marks.length*marks2.length->Z6 ways ways2 marks marks2 0 0 w->Q (.ref t) H'
theorem K5 {f:Addr}{fd:FuncData}(F:Fun K "_law_first_apart" "_law_first_apart" Bv f fd)(T:Txt mg)
  (W:Own K mg C_Book C_Turns C_Hunt C_Asker)
  (Z:Exs K mg C_AskError C_BadWord C_BadMark C_OutOfTurn C_NoDifference C_Contradiction)
  : FnOk P w K mg base CX0 1 f fd ["house", "other"] (UB K):=by
 refine F.ok A4 (fun vs H Q E h=>?_) (fun cdv A outer s H vs Q E hr h=>?_)
 ·obtain⟨h,h2,L,marks,marks2,ways,ways2,rfl,_⟩:=h;rfl
 ·obtain⟨h,h2,L,marks,marks2,ways,ways2,rfl,hh,wf,hh2,wf2,kN,kS⟩:=h
  have hl:=Ap
  have hL1:=wf.l1
  have hL6:=wf.l6
  have hn40:=wf.n40
  have hm40:=wf2.n40
  refine⟨_,(@Ab _ _ _ _ _ (@ZP _ 2 _ _ _ _ _ _ _ _ (Hg hr) A4.nd rfl (Or.inl rfl) (Et (Aa Ag (Aa Ag Ae))) (Et Ae) rfl (Or.inl rfl))
   (Ab (As (i:=3) A4.nd rfl (Or.inl rfl) (IK (Aa (Et (Aa Ag (Aa Ag Ae))) Ae)))
   (Ab (As (i:=4) A4.nd rfl (Or.inl rfl) Ag)
   (Ab (RL PassesOwn.never (A0 X8 (pv 4) (AZ AT (by rfl) T.len PySem.boot_len (Aa (pv 3) Ae)) (Bl _))
   (Ab (As (i:=5) A4.nd rfl (Or.inl rfl) (AU Fa (pv 3) (pv 4) (fun _ _=>rfl)))
   (Ab (DX (A0 Ql (AU AF (AU AF (pv 0) Ag (fun _ _=>rfl)) (AU AF (pv 5) Ag (fun _ _=>rfl)) (fun _ _=>rfl)) (AU AF (AU AF (pv 1) Ag (fun _ _=>rfl)) (AU AF (pv 5) Ag (fun _ _=>rfl)) (fun _ _=>rfl)) (Bl _))
   (Af (Au (Mh (Hg hr) (pv 2) (pv 5) (fun _ _=>rfl))))
   Bq)
   (Ab (Dv PassesOwn.never rfl (DB rfl T.range (Aa (AU AF (pv 0) Ag (fun _ _=>rfl)) Ae)) (AK (i:=6) A4.nd rfl (Or.inl rfl))
   (Ab (As (i:=7) A4.nd rfl (Or.inl rfl) (Et (Aa (AU AF (AU AF (AU AF (pv 0) Ag (fun _ _=>rfl)) (AU AF (pv 5) Ag (fun _ _=>rfl)) (fun _ _=>rfl)) (pv 6) (fun _ _=>rfl)) (Aa (AU AF (AU AF (AU AF (pv 1) Ag (fun _ _=>rfl)) (AU AF (pv 5) Ag (fun _ _=>rfl)) (fun _ _=>rfl)) (pv 6) (fun _ _=>rfl)) Ae))))
   (Af (DX (Ci_ (Yr (Hg hr) (pv 7) (pv 2)))
   (Ab (IM (Hg hr) (pv 2) (pv 7) (A9 JW (Mh (Hg hr) (pv 2) (pv 5) (fun _ _=>rfl)) (Et (Aa (pv 6) Ae))) rfl)
   (Af (Bm (RP PySem.F.plainAttrs_list PySem.F.slot_list_append PySem.F.type_list_append FU (pv 3) (Aa (pv 7) Ae)))))
   Bq))))
   (Af (As (i:=4) A4.nd rfl (Or.inl rfl) (A9 D4 (pv 4) Ag)))))))
   (Af (Au E4)))))),?_⟩
  walk_at "rd"
  intro p hp
  have hn1:=wf.n1
  have hm1:=wf2.n1
  refine⟨by omega,fun p1 hp1=>⟨by omega,fun p2 hp2=>?_⟩⟩
  have sA:=((Same.new hp (o:=.dT [])).newT hp1 (o:=.tup [V.int 0,V.int 0])).newT hp2 (o:=.tup [])
  have hA1:upd (upd (upd H p (.dT [])) p1 (.tup [V.int 0,V.int 0])) p2 (.tup []) p1=some (.tup [V.int 0,V.int 0]):=Same.new hp2 _ _ Ac
  have hA2:upd (upd (upd H p (.dT [])) p1 (.tup [V.int 0,V.int 0])) p2 (.tup []) p2=some (.tup []):=Ac
  have hAp:upd (upd (upd H p (.dT [])) p1 (.tup [V.int 0,V.int 0])) p2 (.tup []) p=some (.dT []):=Same.new hp2 _ _ (Same.new hp1 _ _ Ac)
  generalize upd (upd (upd H p (.dT [])) p1 (.tup [V.int 0,V.int 0])) p2 (.tup [])=HA at sA hA1 hA2 hAp ⊢
  refine⟨hAp,keyP (0,0),hA1,by omega,fun p3 hp3=>⟨by omega,fun p4 hp4=>?_⟩⟩
  have hA2':upd HA p (.dT [(keyP (0,0),V.ref p2)]) p2=some (.tup []):=TK.dT hAp _ _ hA2
  have s0:=((sA.over hp (o:=.dT [(keyP (0,0),V.ref p2)])).newT hp3 (o:=.tup [V.int 0,V.int 0])).newT hp4 (o:=.lst [V.ref p3])
  have s34:=(Same.new hp3 (o:=.tup [V.int 0,V.int 0])).newT hp4 (o:=.lst [V.ref p3])
  have en0:=s34 _ _ (show upd HA p (.dT [(keyP (0,0),V.ref p2)]) p=_ from Ac)
  have w0:=s34 _ _ hA2'
  have hr3:=Same.new hp4 (o:=.lst [V.ref p3]) _ _ (show upd (upd HA p (.dT [(keyP (0,0),V.ref p2)])) p3 (.tup [V.int 0,V.int 0]) p3=_ from Ac)
  have hr0:upd (upd (upd HA p (.dT [(keyP (0,0),V.ref p2)])) p3 (.tup [V.int 0,V.int 0])) p4 (.lst [V.ref p3]) p4=some (.lst [V.ref p3]):=Ac
  generalize upd (upd (upd HA p (.dT [(keyP (0,0),V.ref p2)])) p3 (.tup [V.int 0,V.int 0])) p4 (.lst [V.ref p3])=H0 at s0 en0 w0 hr3 hr0 ⊢
  have hp4p:p4≠p:=fun z=>by rw[z,en0] at hr0;cases hr0
  have hp4n:H p4=none:=(sA.over hp).none ((Same.new hp3).none hp4)
  have st0:WdT H0 [((0,0),[])] [(keyP (0,0),V.ref p2)]:=⟨rfl,fun i e he=>by
   cases i with
   | zero=>simp at he;subst he;exact⟨p2,rfl,w0⟩
   | succ i=>simp at he⟩
  have fo0:LT H0 (([((0,0),[])]:List ((Int×Int)×List Int)).map (·.1)) [V.ref p3]:=⟨rfl,fun i q hq=>by
   cases i with
   | zero=>simp at hq;subst hq;exact⟨p3,rfl,hr3⟩
   | succ i=>simp at hq⟩
  have hok:okP marks.length marks2.length (0,0):=⟨⟨by omega,by show (0:Int)<_;omega⟩,by omega,by show (0:Int)<_;omega⟩
  obtain⟨Pv,hPv⟩:∃ Pv:Nat->St->Hp->Prop,∀ m σ2 H2,Pv m σ2 H2↔(∃ (ents:List ((Int×Int)×List Int)) (kvs:List (List Key×V)) (rs:List V) (i:Nat) (top:Int) (o6 o7 o8:Option V),m=marks.length*marks2.length+1-i/\Same H H2/\H2 p=some (.dT kvs)/\H2 p4=some (.lst rs)/\WdT H2 ents kvs/\LT H2 (ents.map (·.1)) rs/\B L (RX ways ways2) (0,0) (okP marks.length marks2.length) ents i top/\(∀ e,ents[i]?=some e->top<=place L e.2*L+1)/\(∀ j,j<i->∀ e,ents[j]?=some e->mkW marks e.1.1=mkW marks2 e.1.2)/\σ2=[some (.ref h),some (.ref h2),some (.ref p),some (.ref p4),some (.int i),o6,o7,o8]):=⟨_,fun _ _ _=>Iff.rfl⟩
  refine YD Pv ⟨_,(hPv _ _ _).mpr ⟨_,_,_,0,1,none,none,none,rfl,s0,en0,hr0,st0,fo0,B.start L _ hok,fun e he=>?_,fun j hj=>absurd hj (Nat.not_lt_zero _),rfl⟩⟩ ?_
  ·simp at he;subst he;simp[place,Wr]
  intro m σ2 H2 hpv
  obtain⟨ents,kvs,rs,i,top,o6,o7,o8,rfl,s2,en2,hr2,st2,fo2,bf,htop,hall,rfl⟩:=(hPv _ _ _).mp hpv
  have hbl:=bf.lenP
  have hnm:marks.length*marks2.length<=1600:=Nat.mul_le_mul hn40 hm40
  walk_at "rd"
  refine⟨_,.inl (SqL.of hr2),?_⟩
  have hrl:rs.length=ents.length:=by rw[fo2.1,List.length_map]
  rw[hrl]
  refine ite2 (fun hlt=>?_) (fun hge=>?_)
  ·have hi:i<ents.length:=by omega
   obtain⟨e,he⟩:∃ e,ents[i]?=some e:=⟨ents[i],by simp[hi]⟩
   obtain⟨⟨ra,rb⟩,w⟩:=e
   have hmem:=List.mem_of_getElem? he
   have hr':okP marks.length marks2.length (ra,rb):=bf.rng _ hmem
   obtain⟨⟨ra0,ra1⟩,rb0,rb1⟩:=id hr'
   have htop':top<=place L w*L+1:=htop _ he
   obtain⟨row,hrow,hrm,hrowl⟩:=wf.row ra0 ra1
   obtain⟨row2,hrow2,hrm2,hrowl2⟩:=wf2.row rb0 rb1
   obtain⟨mm,wv,q1,q2,q3⟩:=id hh
   obtain⟨mm',wv',q1',q2',q3'⟩:=id hh2
   obtain⟨xs,t,z1,z2,z3⟩:=q3.atZ ra0 hrow
   obtain⟨xs',t',z1',z2',z3'⟩:=q3'.atZ rb0 hrow2
   obtain⟨bp,hbp1,hbp2⟩:=fo2.2 i (ra,rb) (by rw[List.getElem?_map,he];rfl)
   refine⟨Pv (marks.length*marks2.length+1-(i+1)),fun σ' H' h=>⟨_,by omega,h⟩,?_⟩
   refine⟨_,SqL.of hr2,_,AP_ (v:=V.ref bp) (by omega) (by rw[Int.toNat_natCast];exact hbp1),?_⟩
   walk_at "rd"
   refine⟨_,s2.seqT q1,_,rfl,_,SqT.of hbp2,_,rfl,mm,rfl,_,ra,rfl,s2.seqT q2,_,YK ra0 ra1,_,s2.seqT q1',_,rfl,_,SqT.of hbp2,_,rfl,mm',rfl,_,rb,rfl,s2.seqT q2',_,YK rb0 rb1,rfl,?_⟩
   by_cases hne:mkW marks ra=mkW marks2 rb
   ·rw[if_neg (by rw[decide_eq_true (congrArg V.int hne)];decide)]
    refine⟨_,s2.seqT q1,_,rfl,L,rfl,by omega,by omega,?_⟩
    obtain⟨Pn,hPn⟩:∃ Pn:Nat->St->Hp->Prop,∀ x σ3 H3,Pn x σ3 H3↔(∃ (ents':List ((Int×Int)×List Int)) (kvs':List (List Key×V)) (rs':List V) (o7 o8:Option V),Same H H3/\H3 p=some (.dT kvs')/\H3 p4=some (.lst rs')/\WdT H3 ents' kvs'/\LT H3 (ents'.map (·.1)) rs'/\H3 bp=some (.tup [.int ra,.int rb])/\B L (RX ways ways2) (0,0) (okP marks.length marks2.length) ents' i (place L w*L+(x:Int)+1)/\ZQ L (RX ways ways2) ents' (ra,rb) w x/\ents'[i]?=some ((ra,rb),w)/\(∀ j,j<i->∀ e,ents'[j]?=some e->mkW marks e.1.1=mkW marks2 e.1.2)/\σ3=[some (.ref h),some (.ref h2),some (.ref p),some (.ref p4),some (.int i),some (.ref bp),o7,o8]):=⟨_,fun _ _ _=>Iff.rfl⟩
    refine forR Pn ((hPn _ _ _).mpr ⟨ents,kvs,rs,o7,o8,s2,en2,hr2,st2,fo2,hbp2,bf.up (by push_cast;omega),(fun y h0 h1=>absurd h1 (by push_cast;omega)),he,hall,rfl⟩) (fun x σ3 H3 hx h3=>?_) (fun σ3 H3 h3=>?_)
    ·obtain⟨ents',kvs',rs',o7,o8,s3,en3,hr3,st3,fo3,hb3,bf3,se3,he3,ha3,rfl⟩:=(hPn _ _ _).mp h3
     have ex:(0:Int)+(x:Nat)=(x:Int):=by omega
     rw[ex]
     have hxL:(x:Int)<L:=by omega
     obtain⟨rw1,g1,c1,c2,c3,c4,c5⟩:=wf.step ra0 ra1 (show (0:Int)<=(x:Int) by omega) hxL
     obtain⟨rw2,g2,d1,d2,d3,d4,d5⟩:=wf2.step rb0 rb1 (show (0:Int)<=(x:Int) by omega) hxL
     rw[hrow] at c1;cases c1
     rw[hrow2] at d1;cases d1
     have hgo:RX ways ways2 (ra,rb) (x:Int)=(g1,g2):=by show (EJ ways ra x,EJ ways2 rb x)=_;rw[c3,d3]
     have hmem3:=List.mem_of_getElem? he3
     obtain⟨bf4,se4⟩:=bf3.letter se3 hmem3 hxL (by rw[hgo];exact⟨⟨c4,c5⟩,d4,d5⟩)
     have he4:=ZR (step:=RX ways ways2) (r:=(ra,rb)) (w:=w) (x:=x) he3
     have hi3:=(List.getElem?_eq_some_iff.mp he3).1
     walk_at "rd"
     refine⟨_,s3.seqT q1,_,rfl,?_⟩
     walk_at "rd"
     refine⟨_,SqT.of hb3,_,rfl,?_⟩
     walk_at "rd"
     refine⟨_,s3.seqT z1,_,z2,?_⟩
     walk_at "rd"
     refine⟨_,s3.seqT z3,_,FV (by omega) c2,_,s3.seqT q1',_,rfl,_,SqT.of hb3,_,rfl,_,rfl,_,_,rfl,s3.seqT z1',_,z2',_,rfl,_,s3.seqT z3',_,FV (by omega) d2,by omega,fun p5 hp5=>?_⟩
     have sT:=s3.newT hp5 (o:=.tup [V.int g1,V.int g2])
     have kT:TK H3 (upd H3 p5 (.tup [V.int g1,V.int g2])):=TK.new hp5
     have enT:=Same.new hp5 (o:=.tup [V.int g1,V.int g2]) _ _ en3
     have hrT:=Same.new hp5 (o:=.tup [V.int g1,V.int g2]) _ _ hr3
     have hbT:=Same.new hp5 (o:=.tup [V.int g1,V.int g2]) _ _ hb3
     have stT:=st3.mono kT
     have foT:=fo3.mono kT
     have hp5T:upd H3 p5 (.tup [V.int g1,V.int g2]) p5=some (.tup ((keyP (g1,g2)).map kV)):=Ac
     generalize upd H3 p5 (.tup [V.int g1,V.int g2])=HT' at sT kT enT hrT hbT stT foT hp5T ⊢
     refine⟨_,DGet.t enT hp5T,?_⟩
     by_cases hm:(g1,g2)∈ents'.map (·.1)
     ·have hput:put (RX ways ways2) (ra,rb) w ents' x=ents':=by unfold put;rw[hgo,if_pos hm]
      rw[hput] at bf4 se4 he4
      obtain⟨e',he',e1⟩:=List.mem_map.mp hm
      obtain⟨v,hv,_⟩:=stT.yes bf3.nod he'
      rw[e1] at hv
      rw[hv,if_neg (by simp)]
      exact (hPn _ _ _).mpr ⟨ents',kvs',rs',_,_,sT,enT,hrT,stT,foT,hbT,bf4,se4,he4,ha3,rfl⟩
     ·have hput:put (RX ways ways2) (ra,rb) w ents' x=ents' ++ [((g1,g2),w ++ [(x:Int)])]:=by unfold put;rw[hgo,if_neg hm]
      rw[hput] at bf4 se4 he4
      rw[stT.no hm,if_pos (by simp)]
      obtain⟨tw,y1,y2⟩:=stT.yes bf3.nod hmem3
      have hgT:=DGet.t (k:=keyP (ra,rb)) enT hbT
      rw[y1] at hgT
      have hlen3:=bf3.lenP
      have hwl:=bf3.sh i _ he3
      have hwl:w.length<=i:=hwl
      walk_at "rd"
      refine⟨_,hgT,by omega,fun p6 hp6=>IP.ofS (Same.new hp6 _ _ y2) Ac (by simp;omega) fun q HU sU' hq=>?_⟩
      have hq:HU q=some (.tup ((w ++ [(x:Int)]).map V.int)):=by rw[List.map_append];exact hq
      have sTU:=(Same.new hp6 (o:=.tup [V.int x])).trans sU'
      have sU:=sT.trans sTU
      have enU:=sTU _ _ enT
      have hrU:=sTU _ _ hrT
      have hbU:=sTU _ _ hbT
      have hp5U:=sTU _ _ hp5T
      have stU:=(stT.mono (TK.of sTU)).put hm hq
      have foU:=foT.mono (TK.of sTU)
      refine⟨_,DPut.t (k:=keyP (g1,g2)) enU hp5U (by rw[st3.1];omega),?_⟩
      have kV':TK HU (upd HU p (.dT (putK kvs' (keyP (g1,g2)) (V.ref q)))):=TK.dT enU
      have hrV:upd HU p (.dT (putK kvs' (keyP (g1,g2)) (V.ref q))) p4=some (.lst rs'):=by rw[Ah hp4p];exact hrU
      refine⟨.inl ⟨rfl,_,SqL.of hrV⟩,_,hrV,by rw[fo3.1,List.length_map];omega,(hPn _ _ _).mpr ⟨_,_,_,_,_,(sU.over hp).over hp4n,?_,Ac,(stU.mono kV').mono (TK.lst hrV),?_,TK.lst hrV _ _ (kV' _ _ hbU),bf4,se4,he4,fun j hj e' he'=>?_,rfl⟩⟩
      ·rw[Ah (Ne.symm hp4p)];exact Ac
      ·have:=((foU.mono kV').mono (TK.lst (o:=.lst (rs' ++ [V.ref p5])) hrV)).snoc (p:=(g1,g2)) (b:=p5) (TK.lst hrV _ _ (kV' _ _ hp5U))
       simpa using this
      ·rw[List.getElem?_append_left (by omega)] at he'
       exact ha3 j hj e' he'
    ·obtain⟨ents',kvs',rs',o7,o8,s3,en3,hr3,st3,fo3,hb3,bf3,se3,he3,ha3,rfl⟩:=(hPn _ _ _).mp h3
     walk_at "rd"
     obtain⟨bf4,htop4⟩:=bf3.next (by omega) (by omega) se3 he3
     refine (hPv _ _ _).mpr ⟨ents',kvs',rs',i+1,_,_,_,_,rfl,s3,en3,hr3,st3,fo3,bf4,htop4,fun j hj e' he'=>?_,by push_cast;rfl⟩
     by_cases hji:j<i
     ·exact ha3 j hji e' he'
     ·have:j=i:=by omega
      subst this
      rw[he3] at he'
      cases he'
      exact hne
   ·rw[if_pos (by rw[decide_eq_false (fun z=>hne (V.int.inj z))];decide)]
    obtain⟨tw,y1,y2⟩:=st2.yes bf.nod hmem
    have hg:=DGet.t (k:=keyP (ra,rb)) en2 hbp2
    rw[y1] at hg
    have hwl:w.length<=i:=bf.sh i _ he
    refine⟨_,hg,kS tw w H2 s2 y2 (bf.wd _ hmem).1 (by omega) ?_⟩
    have hwk:=(bf.wd _ hmem).2
    rw[BJ_] at hwk
    show mkW marks (Eh ways 0 w)≠mkW marks2 (Eh ways2 0 w)
    have k1:Eh ways 0 w=ra:=congrArg Prod.fst hwk
    have k2:Eh ways2 0 w=rb:=congrArg Prod.snd hwk
    rw[k1,k2]
    exact hne
  ·have hi:i=ents.length:=by have:=bf.il;omega
   subst hi
   refine kN H2 s2 fun ws hw ht=>?_
   obtain⟨w',hm,_⟩:=bf.leastW hw
   obtain⟨j,hj,ej⟩:=List.getElem_of_mem hm
   have:=hall j hj _ (by rw[List.getElem?_eq_getElem hj,ej])
   rw[BJ_] at this
   exact ht this
def WS (K:PySem.W.Frag):Sp:=fun vs H Q _=>∃ (t:Addr) (ns:List Int) (n:Int),vs=[.ref t,.int n]/\H t=some (.tup (ns.map V.int))/\(ns.length:Int)=n/\Q (.bl true) H
theorem OJ {f:Addr}{fd:FuncData}(F:Fun K "_law_numbers" "_law_numbers" CK f fd)(T:Txt mg)
  (W:Own K mg C_Book C_Turns C_Hunt C_Asker)
  (Z:Exs K mg C_AskError C_BadWord C_BadMark C_OutOfTurn C_NoDifference C_Contradiction)
  : FnOk P w K mg base CX0 1 f fd ["found", "size"] (WS K):=by
 refine F.ok IT (fun vs H Q E h=>?_) (fun cdv A outer s H vs Q E hr h=>?_)
 ·obtain⟨t,ns,n,rfl,_⟩:=h;rfl
 ·obtain⟨t,ns,n,rfl,ht,hn,k⟩:=h
  have hl:=Ap
  refine⟨_,(Ab (DX (PW.pt (Nr (II (HM (AZ Ev rfl T.isinstance PyProof.Rows.boot_isinstance (Aa (pv 0) (Aa (Mf (v:=.ty "tuple") rfl T.tuple PyProof.Rows.boot_tuple rfl) Ae))))) (NZ (A0 Ql (AZ AT (by rfl) T.len PySem.boot_len (Aa (pv 0) Ae)) (pv 1) (Bl _)))))
   (Af (Au LL))
   Bq)
   (Ab (Dv PassesOwn.never rfl (N0 (pv 0)) (AK (i:=2) IT.nd rfl (Or.inl rfl))
   (Af (DX (PW.pt (Nr (II (HM (AZ Ev rfl T.isinstance PyProof.Rows.boot_isinstance (Aa (pv 2) (Aa (Mf (v:=.ty "int") rfl T.int PyProof.Rows.boot_int rfl) Ae))))) (NZ (HM (AZ Ev rfl T.isinstance PyProof.Rows.boot_isinstance (Aa (pv 2) (Aa (Mf (v:=.ty "bool") rfl T.bool PyProof.Rows.boot_bool rfl) Ae)))))))
   (Af (Au LL))
   Bq)))
   (Af (Au LL)))),?_⟩
  walk_at "rd"
  refine⟨_,_,.tup (SqT.of ht),fun _ z=>z,true,LO,?_⟩
  rw[if_neg (by decide)]
  refine⟨_,.inr (SqT.of ht),?_⟩
  rw[if_neg (by rw[List.length_map,hn];simp)]
  refine⟨⟨_,SqT.of ht⟩,forT (xs:=ns.map V.int) (fun i σ' H'=>H'=H/\∃ o,σ'=[some (.ref t),some (.int n),o]) ⟨rfl,none,rfl⟩ (fun i σ' H' _ h'=>by rw[h'.1];exact SqT.of ht) (fun i x σ' H' hx h'=>?_) (fun σ' H' h'=>?_)⟩
  ·obtain⟨rfl,o,rfl⟩:=h'
   obtain⟨c,hc,rfl⟩:=JV hx
   walk_at "rd"
   refine⟨_,_,.int c,fun _ z=>z,true,LO,?_⟩
   rw[if_neg (by decide)]
   refine⟨_,_,.int c,fun _ z=>z,false,Uf,?_⟩
   rw[if_neg (by decide)]
   first | exact⟨_,rfl⟩ | exact⟨rfl,_,rfl⟩
  ·obtain⟨rfl,o,rfl⟩:=h'
   walk_at "rd"
   exact k
def RG (K:PySem.W.Frag):Sp:=fun vs H Q _=>∃ (u:Addr) (L:Int) (m:List Int) (ws:List (List Int)) (mo:Int),vs=[.ref u,.int L,.int mo]/\HouT K H u L m ws/\Wf L m ws/\(m.length:Int)<=mo/\∀ H',Same H H'->Q (.bl true) H'
theorem Sw {f:Addr}{fd:FuncData}(F:Fun K "_law_kinds" "_law_kinds" DJ f fd)(T:Txt mg)
  (W:Own K mg C_Book C_Turns C_Hunt C_Asker)
  (Z:Exs K mg C_AskError C_BadWord C_BadMark C_OutOfTurn C_NoDifference C_Contradiction)
  {CP:Addr} {Ge:FuncData} (D7:FnOk P w K mg base CX0 1 CP Ge ["found", "size"] (WS K)) (CQ:Fun K "_law_numbers" "_law_numbers" CK CP Ge) (D8:Binds K Ge ["found", "size"] []) (D9:mg "_law_numbers" = some (.ref CP))
  : FnOk P w K mg base CX0 2 f fd ["found", "letters", "most"] (RG K):=by
 refine F.ok Hm (fun vs H Q E h=>?_) (fun cdv A outer s H vs Q E hr h=>?_)
 ·obtain⟨u,L,m,ws,mo,rfl,_⟩:=h;rfl
 ·obtain⟨u,L,m,ws,mo,rfl,hu,wf,hm,k⟩:=h
  have hl:=Ap
  refine⟨_,(Ab (DX (PW.pt (Nr (II (HM (AZ Ev rfl T.isinstance PyProof.Rows.boot_isinstance (Aa (pv 0) (Aa (Mf (v:=.ty "tuple") rfl T.tuple PyProof.Rows.boot_tuple rfl) Ae))))) (Nr (A0 Ql (AZ AT (by rfl) T.len PySem.boot_len (Aa (pv 0) Ae)) Ag (Bl _)) (NZ (II (HM (AE D7 (hr.mono (by decide)) rfl D9 CQ.kp D8 .nil Bn (Aa (NP Yh (pv 0) U7 (N4 Ag)) (Aa Ag Ae)))))))))
   (Af (Au LL))
   Bq)
   (Ab (DX (PW.pt (Nr (A0 Ql (AU AF (pv 0) Ag (fun _ _=>rfl)) (pv 1) (Bl _)) (Nr (II (HM (AZ Ev rfl T.isinstance PyProof.Rows.boot_isinstance (Aa (AU AF (pv 0) Ag (fun _ _=>rfl)) (Aa (Mf (v:=.ty "tuple") rfl T.tuple PyProof.Rows.boot_tuple rfl) Ae))))) (NZ (II (HM (AZ Ev rfl T.isinstance PyProof.Rows.boot_isinstance (Aa (AU AF (pv 0) Ag (fun _ _=>rfl)) (Aa (Mf (v:=.ty "tuple") rfl T.tuple PyProof.Rows.boot_tuple rfl) Ae)))))))))
   (Af (Au LL))
   Bq)
   (Ab (As (i:=3) Hm.nd rfl (Or.inl rfl) (AZ AT (by rfl) T.len PySem.boot_len (Aa (AU AF (pv 0) Ag (fun _ _=>rfl)) Ae)))
   (Ab (DX (PW.pt (Nr (A0 X8 (pv 3) Ag (Bl _)) (Nr (A0 Zw (pv 3) (pv 2) (Bl _)) (Nr (II (HM (AE D7 (hr.mono (by decide)) rfl D9 CQ.kp D8 .nil Bn (Aa (AU AF (pv 0) Ag (fun _ _=>rfl)) (Aa (pv 3) Ae))))) (NZ (A0 Ql (AZ AT (by rfl) T.len PySem.boot_len (Aa (AU AF (pv 0) Ag (fun _ _=>rfl)) Ae)) (pv 3) (Bl _)))))))
   (Af (Au LL))
   Bq)
   (Ab (Dv PassesOwn.never rfl (N0 (AU AF (pv 0) Ag (fun _ _=>rfl))) (AK (i:=4) Hm.nd rfl (Or.inl rfl))
   (Af (DX (PW.pt (Nr (II (HM (AE D7 (hr.mono (by decide)) rfl D9 CQ.kp D8 .nil Bn (Aa (pv 4) (Aa (pv 1) Ae))))) (Nr (A0 X8 (AZ (Xk rfl) rfl T.min PyProof.Rows.boot_min (Aa (pv 4) Ae)) Ag (Bl _)) (NZ (A0 Du_ (AZ (Xj rfl) rfl T.max PyProof.Rows.boot_max (Aa (pv 4) Ae)) (pv 3) (Bl _))))))
   (Af (Au LL))
   Bq)))
   (Af (Au LL))))))),?_⟩
  walk_at "rd"
  obtain⟨tm,tw,zs,h1,h2,h3,h4⟩:=id hu
  have hn1:=wf.n1
  refine⟨_,_,.tup (SqT.of h1),fun _ z=>z,true,LO,?_⟩
  rw[if_neg (by decide)]
  refine⟨_,.inr (SqT.of h1),?_⟩
  rw[if_neg (by simp)]
  refine⟨_,SqT.of h1,(fun z=>by have h:=z.2;simp[HT.sIx] at h),fun p hp=>?_⟩
  rw[show cutV [V.int L,V.ref tm,V.ref tw] none (some 1)=[V.int L] from rfl]
  have sp:=Same.new hp (o:=.tup [V.int L])
  refine⟨p,[L],1,rfl,Ac,by simp,true,rfl,?_⟩
  rw[if_neg (by decide)]
  refine⟨_,SqT.of (sp _ _ h1),_,rfl,rfl,?_⟩
  rw[if_neg (by simp)]
  refine⟨_,SqT.of (sp _ _ h1),_,rfl,_,_,.tup (SqT.of (sp _ _ h2)),fun _ z=>z,true,LO,?_⟩
  rw[if_neg (by decide)]
  refine⟨_,SqT.of (sp _ _ h1),_,rfl,_,_,.tup (SqT.of (sp _ _ h3)),fun _ z=>z,true,LO,?_⟩
  rw[if_neg (by decide)]
  refine⟨_,SqT.of (sp _ _ h1),_,rfl,tm,rfl,_,.inr (SqT.of (sp _ _ h2)),?_⟩
  rw[List.length_map,if_neg (by omega),if_neg (by omega)]
  refine⟨_,SqT.of (sp _ _ h1),_,rfl,tm,m,_,rfl,sp _ _ h2,rfl,true,rfl,?_⟩
  rw[if_neg (by decide)]
  refine⟨_,SqT.of (sp _ _ h1),_,rfl,tw,rfl,_,.inr (SqT.of (sp _ _ h3)),?_⟩
  rw[if_neg (by rw[h4.1,wf.len];simp)]
  have h3':=sp _ _ h3
  have h4':=h4.mono (TK.of sp)
  refine⟨_,SqT.of (sp _ _ h1),_,rfl,tw,rfl,⟨_,SqT.of h3'⟩,?_⟩
  generalize upd H p (.tup [V.int L])=H1 at sp h3' h4' ⊢
  refine forT (xs:=zs) (fun i σ' H'=>H'=H1/\∃ o,σ'=[some (.ref u),some (.int L),some (.int mo),some (.int m.length),o]) ⟨rfl,none,rfl⟩ (fun i σ' H' _ h'=>by rw[h'.1];exact SqT.of h3') (fun i x σ' H' hx h'=>?_) (fun σ' H' h'=>?_)
  ·obtain⟨rfl,o,rfl⟩:=h'
   obtain⟨t,row,hr,rfl,ht⟩:=h4'.at hx
   obtain⟨r1,r2⟩:=wf.rows row (List.mem_of_getElem? hr)
   have hL1:=wf.l1
   have hne:row ≠ []:=fun z=>by rw[z] at r1;simp at r1;omega
   obtain⟨mn,mn1,mn2⟩:∃ mn,mn∈row/\∀ y∈row,mn<=y:=⟨row.min hne,List.min_mem hne,fun y hy=>List.min_le_of_mem hy⟩
   obtain⟨mx,mx1,mx2⟩:∃ mx,mx∈row/\∀ y∈row,y<=mx:=⟨row.max hne,List.max_mem hne,fun y hy=>List.le_max_of_mem hy⟩
   walk_at "rd"
   refine⟨t,row,L,rfl,ht,r1,true,rfl,?_⟩
   rw[if_neg (by decide)]
   have a1:=r2 mn mn1
   have a2:=r2 mx mx1
   refine⟨row,SqT.of ht,mn,mn1,mn2,?_⟩
   rw[if_neg (by omega)]
   refine⟨row,SqT.of ht,mx,mx1,mx2,?_⟩
   rw[if_neg (by omega)]
   first | exact⟨_,rfl⟩ | exact⟨rfl,_,rfl⟩
  ·obtain⟨rfl,o,rfl⟩:=h'
   walk_at "rd"
   exact k _ sp
def WT (K:PySem.W.Frag):Sp:=fun vs H Q _=>∃ (h h2:Addr) (L:Int) (marks marks2:List Int) (ways ways2:List (List Int)) (c:Int),vs=[.ref h,.ref h2,.int c]/\GX K H h L marks ways/\Wf L marks ways/\GX K H h2 L marks2 ways2/\Wf L marks2 ways2/\marks.length<=4/\marks2.length<=12/\(∀ H',Same H H'->(∀ ws,isW L ws=true->¬ Z6 ways ways2 marks marks2 0 0 ws)->Q .non H')/\∀ t w H',Same H H'->H' t=some (.tup (w.map V.int))->isW L w=true->w.length<=400->Z6 ways ways2 marks marks2 0 0 w->Q (.ref t) H'
theorem MK {f:Addr}{fd:FuncData}(F:Fun K "_law_objection" "_law_objection" BK f fd)(T:Txt mg)
  (W:Own K mg C_Book C_Turns C_Hunt C_Asker)
  (Z:Exs K mg C_AskError C_BadWord C_BadMark C_OutOfTurn C_NoDifference C_Contradiction)
  {Bx:Addr} {CS:FuncData} (Cs:FnOk P w K mg base CX0 1 Bx CS ["house", "word"] (K3 K)) (BF:Fun K "_law_answer" "_law_answer" Ck Bx CS) (Ct:Binds K CS ["house", "word"] []) (Cu:mg "_law_answer" = some (.ref Bx))
  {By:Addr} {Ep:FuncData} (E1:FnOk P w K mg base CX0 1 By Ep ["house", "other"] (UB K)) (Cv:Fun K "_law_first_apart" "_law_first_apart" Bv By Ep) (E2:Binds K Ep ["house", "other"] []) (E3:mg "_law_first_apart" = some (.ref By))
  : FnOk P w K mg base CX0 2 f fd ["house", "shown", "cell"] (WT K):=by
 refine F.ok Ba (fun vs H Q E h=>?_) (fun cdv A outer s H vs Q E hr h=>?_)
 ·obtain⟨h,h2,L,marks,marks2,ways,ways2,c,rfl,_⟩:=h;rfl
 ·obtain⟨h,h2,L,marks,marks2,ways,ways2,c,rfl,hh,wf,hh2,wf2,h4,h12,kN,kS⟩:=h
  have hl:=Ap
  refine⟨_,(Ab (As (i:=3) Ba.nd rfl (Or.inl rfl) (AE E1 (hr.mono (by decide)) rfl E3 Cv.kp E2 .nil Bn (Aa (pv 0) (Aa (pv 1) Ae))))
   (Ab (DX (PW.pt (Nr (A0 N1 (pv 3) E4 (Bl _)) (NZ (A0 Qk (A9 EH (pv 2) Ag) Ag (Bl _)))))
   (Af (Au (pv 3)))
   Bq)
   (Ab (As (i:=4) Ba.nd rfl (Or.inl rfl) (A9 EH (A9 Kt (pv 2) Ag) (A9 At_ Ag Ag)))
   (Ab (As (i:=5) Ba.nd rfl (Or.inl rfl) (A9 EH (pv 4) Ag))
   (BE_ (DX (A0 Qk (A9 EH (A9 Kt (pv 2) Ag) Ag) Ag (Bl _))
   (Af (As (i:=5) Ba.nd rfl (Or.inl rfl) (A9 D4 Ag (A9 EH (pv 4) Ag))))
   Bq)
   (Ab (As (i:=6) Ba.nd rfl (Or.inl rfl) (Et Ae))
   (Ab (Dv PassesOwn.never rfl (DB rfl T.range (Aa (pv 5) Ae)) (AK (i:=7) Ba.nd rfl (Or.inl rfl))
   (Ab (As (i:=6) Ba.nd rfl (Or.inl rfl) (A9 JW (pv 6) (Et (Aa (A9 EH (pv 4) (AU AF (pv 0) Ag (fun _ _=>rfl))) Ae))))
   (Af (As (i:=4) Ba.nd rfl (Or.inl rfl) (A9 D4 (A9 Kt (pv 4) (AU AF (pv 0) Ag (fun _ _=>rfl))) (A9 LM (pv 7) (pv 7)))))))
   (Ab (DX (A0 Ql (AE Cs (hr.mono (by decide)) rfl Cu BF.kp Ct .nil Bn (Aa (pv 0) (Aa (pv 6) Ae))) (AE Cs (hr.mono (by decide)) rfl Cu BF.kp Ct .nil Bn (Aa (pv 1) (Aa (pv 6) Ae))) (Bl _))
   (Af (Au (pv 6)))
   Bq)
   (Af (Au (pv 3))))))))))),?_⟩
  walk_at "rd"
  refine⟨h,h2,L,marks,marks2,ways,ways2,rfl,hh,wf,hh2,wf2,fun H1 s1 hno=>?_,fun tf wf1 H1 s1 htf hfw hfl hft=>?_⟩
  ·dsimp only
   rw[if_pos rfl]
   exact kN H1 s1 hno
  ·dsimp only
   rw[if_neg (by simp)]
   have hL1:=wf.l1
   have hL6:=wf.l6
   have hfl':wf1.length<=400:=by
    have:=Nat.mul_le_mul h4 h12
    omega
   refine⟨by decide,?_⟩
   by_cases h3:c%3=0
   ·rw[if_pos h3]
    exact kS tf wf1 H1 s1 htf hfw hfl' hft
   rw[if_neg h3]
   have hc18:CPow 10 18:=⟨by omega,by omega,by decide⟩
   have r0:=Int.emod_nonneg (c / 3) (show (10:Int) ^ Int.toNat 18≠0 by decide)
   generalize c / 3%10 ^ Int.toNat 18=rest at r0 ⊢
   have a0:=Int.emod_nonneg rest (show (51:Int)≠0 by decide)
   have a1:=Int.emod_lt_of_pos rest (show (0:Int)<51 by decide)
   obtain⟨R,hR⟩:∃ R:St->Hp->Prop,∀ σ' H',R σ' H'↔(H'=H1/\∃ n:Nat,n<=400/\σ'=[some (.ref h),some (.ref h2),some (.int c),some (.ref tf),some (.int rest),some (.int n),none,none]):=⟨_,fun _ _=>Iff.rfl⟩
   refine⟨⟨by decide,by decide⟩,hc18,by decide,by decide,R,?_,fun σ2 H2 h2'=>?_⟩
   ·walk_at "rd"
    have b0:=Int.emod_nonneg rest (show (101:Int)≠0 by decide)
    have b1:=Int.emod_lt_of_pos rest (show (0:Int)<101 by decide)
    refine⟨⟨by decide,by decide⟩,by decide,ite2 (fun _=>⟨by decide,(hR _ _).mpr ⟨rfl,(300+rest%101).toNat,by omega,by rw[show (((300+rest%101).toNat:Nat):Int)=300+rest%101 by omega]⟩⟩) (fun _=>(hR _ _).mpr ⟨rfl,(rest%51).toNat,by omega,by rw[show (((rest%51).toNat:Nat):Int)=rest%51 by omega]⟩)⟩
   ·obtain⟨rfl,n,hn,rfl⟩:=(hR _ _).mp h2'
    walk_at "rd"
    refine⟨by omega,fun p hp=>⟨by omega,by omega,?_⟩⟩
    rw[Int.toNat_natCast]
    obtain⟨tm,tw,q1,q2,q3⟩:=id hh
    obtain⟨Pv,hPv⟩:∃ Pv:Nat->St->Hp->Prop,∀ i σ' H',Pv i σ' H'↔(∃ (v:List Int) (pv:Addr) (re:Int) (o:Option V),Same H2 H'/\H' pv=some (.tup (v.map V.int))/\v.length=i/\isW L v=true/\σ'=[some (.ref h),some (.ref h2),some (.int c),some (.ref tf),some (.int re),some (.int n),some (.ref pv),o]):=⟨_,fun _ _ _=>Iff.rfl⟩
    refine forR Pv ((hPv _ _ _).mpr ⟨[],p,rest,none,Same.new hp,Ac,rfl,Ao.mpr fun x hx=>(by cases hx),rfl⟩) (fun i σ3 H3 hi h3=>?_) (fun σ3 H3 h3=>?_)
    ·obtain⟨v,pv,re,o,s3,hv3,hvl,hvw,rfl⟩:=(hPv _ _ _).mp h3
     have S3:=s1.trans s3
     walk_at "rd"
     refine⟨_,S3.seqT q1,_,rfl,L,rfl,by omega,by omega,fun p1 hp1=>IP.ofS (Same.new hp1 _ _ hv3) Ac (by rw[List.length_map];simp;omega) fun q H4 s4 hq=>?_⟩
     have s34:=s3.trans ((Same.new hp1 (o:=.tup [V.int (re%L)])).trans s4)
     refine⟨_,(s1.trans s34).seqT q1,_,rfl,L,rfl,⟨by omega,by omega⟩,.inl ⟨by omega,by omega⟩,(hPv _ _ _).mpr ⟨v ++ [re%L],q,_,_,s34,by rw[List.map_append];exact hq,by rw[List.length_append,hvl];rfl,Ao.mpr fun x hx=>?_,rfl⟩⟩
     rcases List.mem_append.mp hx with hx | hx
     ·exact Ao.mp hvw x hx
     ·rw[List.mem_singleton.mp hx]
      exact⟨Int.emod_nonneg _ (by omega),Int.emod_lt_of_pos _ (by omega)⟩
    ·obtain⟨v,pv,re,o,s3,hv3,hvl,hvw,rfl⟩:=(hPv _ _ _).mp h3
     have S3:=s1.trans s3
     walk_at "rd"
     refine⟨h,pv,L,marks,ways,v,rfl,hh.mono S3,wf,SqT.of hv3,hvw,h2,pv,L,marks2,ways2,v,rfl,hh2.mono S3,wf2,SqT.of hv3,hvw,rfl,?_⟩
     by_cases he:Bz marks (Ak ways v)=Bz marks2 (Ak ways2 v)
     ·rw[if_neg (by rw[he];simp)]
      exact kS tf wf1 H3 S3 (s3 _ _ htf) hfw hfl' hft
     ·rw[if_pos (by simp[he])]
      exact kS pv v H3 S3 hv3 hvw (by omega) he
def UC (K:PySem.W.Frag):Sp:=fun vs H Q _=>∃ m L:Int,vs=[.int m,.int L]/\0<=m/\m<=1000/\0<=L/\L<=1000/\Q (.int ((1+m*L)*m+10*(m-1))) H
theorem ML {f:Addr}{fd:FuncData}(F:Fun K "_law_most_asks" "_law_most_asks" BL f fd)(T:Txt mg)
  (W:Own K mg C_Book C_Turns C_Hunt C_Asker)
  (Z:Exs K mg C_AskError C_BadWord C_BadMark C_OutOfTurn C_NoDifference C_Contradiction)
  : FnOk P w K mg base CX0 1 f fd ["m", "letters"] (UC K):=by
 refine F.ok Mp (fun vs H Q E h=>?_) (fun cdv A outer s H vs Q E hr h=>?_)
 ·obtain⟨m,L,rfl,_⟩:=h;rfl
 ·obtain⟨m,L,rfl,m0,m1,l0,l1,k⟩:=h
  refine⟨_,(Af (Au (A9 D4 (A9 LM (A9 D4 Ag (A9 LM (pv 0) (pv 1))) (pv 0)) (A9 LM Ag (A9 X4 (pv 0) Ag))))),?_⟩
  walk_at "rd"
  refine⟨.inl ⟨by omega,by omega⟩,.inr ⟨by omega,by omega⟩,.inl ⟨by omega,by omega⟩,k⟩
theorem VE {l k:List (List Int)}(h:l.Nodup)(hs:∀ x∈l,x∈k):l.length<=k.length:=by
 induction l generalizing k with
 | nil=>simp
 | cons a l ih =>
  rw[List.nodup_cons] at h
  have ha:=hs a List.mem_cons_self
  have h1:∀ x∈l,x∈k.erase a:=fun x hx=>by
   refine (List.mem_erase_of_ne ?_).mpr (hs x (List.mem_cons_of_mem _ hx))
   intro z;subst z;exact h.1 hx
  have:=ih h.2 h1
  rw[List.length_erase_of_mem ha] at this
  have hp:=List.length_pos_of_mem ha
  rw[List.length_cons];omega
def Er (s:AS):List (List Int):=FX (Bo s.L s.W) s.E
def nonC (s:AS):Nat:=s.es.countP fun p=>decide (p.1∉Er s)
def JX42 (s:AS):Wish->Prop
 | .ask c=>(s.wr=none->c∈Er s)/\∀ v m ws,s.wr=some v->s.gs=some (m,ws)->G8 s.es s.W ws v (Bz m (Ak ws v)) v.length 0 v.length=.ask c
 | .shown m ws=>Fq s.L s.W s.E s.es=none/\m=Dg s.W s.es/\ws=FD s.L s.W s.E s.es
 | _=>True
theorem UD {s s':AS}(he:s'.es=s.es)(hc:∀ c∈Er s,c∈Er s'):nonC s'<=nonC s:=by
 unfold nonC
 rw[he]
 refine List.countP_mono_left fun p _ h=>?_
 simp only[decide_eq_true_eq] at h ⊢
 exact fun z=>h (hc _ z)
theorem MM {L:Nat}{W E:List (List Int)}{es:Bk}{c:List Int}(h:c∈HY L W E es):c∈FX (Bo L W) E:=(List.mem_filter.mp h).1
theorem VF {L:Nat}{W:List (List Int)}{r:List Int}{v:List Int}(h:v∈Bo L W):v∈Bo L (W ++ [r]):=by
 rcases AQ.mp h with h | ⟨a,ha,y,hy,e⟩
 ·exact AQ.mpr (.inl (List.mem_append_left _ h))
 ·exact AQ.mpr (.inr ⟨a,List.mem_append_left _ ha,y,hy,e⟩)
theorem Sx {L:Nat}{W E:List (List Int)}{es es':Bk}(f:Full L W E es)(g:Grow es es'){r:List Int}(hr:r∈Bo L W):gOf E es' r=gOf E es r:=by
 unfold gOf
 refine List.map_congr_left fun e he=>?_
 obtain⟨m,hm⟩:=f (r++e) (Bw.mpr ⟨r,hr,e,he,rfl⟩)
 rw[hm,g _ _ hm]
theorem Dn_ {L:Int}{marks:List Int}{ways:List (List Int)}(wf:Wf L marks ways){w:List Int}(hw:isW L w=true):0<=Ak ways w/\Ak ways w<marks.length:=by
 have:=wf.walk hw w.length
 rwa [List.take_length] at this
theorem RH (ways:List (List Int))(u e:List Int):Ak ways (u++e)=Eh ways (Ak ways u) e:=by
 rw[<- JY,Um,JY]
def OK (es:Bk)(hm:List Int)(hw:List (List Int)):Prop:=∀ p∈es,Bz hm (Ak hw p.1)=p.2
def bq (n:Nat):Nat:=if n<=1 then 0 else if n<=2 then 1 else if n<=4 then 2 else if n<=8 then 3 else if n<=16 then 4 else if n<=32 then 5 else if n<=64 then 6 else if n<=128 then 7 else if n<=256 then 8 else if n<=512 then 9 else 10
theorem BQ_ (n:Nat):bq n<=10:=by
 unfold bq
 repeat' split
 all_goals omega
theorem Do_ {n:Nat}(h:n<=1):bq n=0:=by unfold bq;rw[if_pos h]
theorem BR_ {n:Nat}(g:1<n)(h:n<=2):bq n=1:=by unfold bq;rw[if_neg (by omega),if_pos h]
theorem BS_ {n:Nat}(g:2<n)(h:n<=4):bq n=2:=by unfold bq;rw[if_neg (by omega),if_neg (by omega),if_pos h]
theorem BT_ {n:Nat}(g:4<n)(h:n<=8):bq n=3:=by unfold bq;rw[if_neg (by omega),if_neg (by omega),if_neg (by omega),if_pos h]
theorem BU_ {n:Nat}(g:8<n)(h:n<=16):bq n=4:=by unfold bq;rw[if_neg (by omega),if_neg (by omega),if_neg (by omega),if_neg (by omega),if_pos h]
theorem BV_ {n:Nat}(g:16<n)(h:n<=32):bq n=5:=by unfold bq;rw[if_neg (by omega),if_neg (by omega),if_neg (by omega),if_neg (by omega),if_neg (by omega),if_pos h]
theorem BW_ {n:Nat}(g:32<n)(h:n<=64):bq n=6:=by unfold bq;rw[if_neg (by omega),if_neg (by omega),if_neg (by omega),if_neg (by omega),if_neg (by omega),if_neg (by omega),if_pos h]
theorem BX_ {n:Nat}(g:64<n)(h:n<=128):bq n=7:=by unfold bq;rw[if_neg (by omega),if_neg (by omega),if_neg (by omega),if_neg (by omega),if_neg (by omega),if_neg (by omega),if_neg (by omega),if_pos h]
theorem BY_ {n:Nat}(g:128<n)(h:n<=256):bq n=8:=by unfold bq;rw[if_neg (by omega),if_neg (by omega),if_neg (by omega),if_neg (by omega),if_neg (by omega),if_neg (by omega),if_neg (by omega),if_neg (by omega),if_pos h]
theorem BZ_ {n:Nat}(g:256<n)(h:n<=512):bq n=9:=by unfold bq;rw[if_neg (by omega),if_neg (by omega),if_neg (by omega),if_neg (by omega),if_neg (by omega),if_neg (by omega),if_neg (by omega),if_neg (by omega),if_neg (by omega),if_pos h]
theorem Ze {n:Nat}(g:512<n):bq n=10:=by unfold bq;rw[if_neg (by omega),if_neg (by omega),if_neg (by omega),if_neg (by omega),if_neg (by omega),if_neg (by omega),if_neg (by omega),if_neg (by omega),if_neg (by omega),if_neg (by omega)]
theorem Hb {n t:Nat}(h:n<=2 ^ t):bq n<=t:=by
 by_cases a0:n<=1
 ·rw[Do_ (n:=n) a0];exact Nat.zero_le _
 by_cases a1:n<=2
 ·rw[BR_ (n:=n) (by omega) a1]
  refine Nat.le_of_not_lt fun z=>?_
  have:=Nat.pow_le_pow_right (show 0<2 by decide) (show t<=0 by omega)
  omega
 by_cases a2:n<=4
 ·rw[BS_ (n:=n) (by omega) a2]
  refine Nat.le_of_not_lt fun z=>?_
  have:=Nat.pow_le_pow_right (show 0<2 by decide) (show t<=1 by omega)
  omega
 by_cases a3:n<=8
 ·rw[BT_ (n:=n) (by omega) a3]
  refine Nat.le_of_not_lt fun z=>?_
  have:=Nat.pow_le_pow_right (show 0<2 by decide) (show t<=2 by omega)
  omega
 by_cases a4:n<=16
 ·rw[BU_ (n:=n) (by omega) a4]
  refine Nat.le_of_not_lt fun z=>?_
  have:=Nat.pow_le_pow_right (show 0<2 by decide) (show t<=3 by omega)
  omega
 by_cases a5:n<=32
 ·rw[BV_ (n:=n) (by omega) a5]
  refine Nat.le_of_not_lt fun z=>?_
  have:=Nat.pow_le_pow_right (show 0<2 by decide) (show t<=4 by omega)
  omega
 by_cases a6:n<=64
 ·rw[BW_ (n:=n) (by omega) a6]
  refine Nat.le_of_not_lt fun z=>?_
  have:=Nat.pow_le_pow_right (show 0<2 by decide) (show t<=5 by omega)
  omega
 by_cases a7:n<=128
 ·rw[BX_ (n:=n) (by omega) a7]
  refine Nat.le_of_not_lt fun z=>?_
  have:=Nat.pow_le_pow_right (show 0<2 by decide) (show t<=6 by omega)
  omega
 by_cases a8:n<=256
 ·rw[BY_ (n:=n) (by omega) a8]
  refine Nat.le_of_not_lt fun z=>?_
  have:=Nat.pow_le_pow_right (show 0<2 by decide) (show t<=7 by omega)
  omega
 by_cases a9:n<=512
 ·rw[BZ_ (n:=n) (by omega) a9]
  refine Nat.le_of_not_lt fun z=>?_
  have:=Nat.pow_le_pow_right (show 0<2 by decide) (show t<=8 by omega)
  omega
 rw[Ze (n:=n) (by omega)]
 refine Nat.le_of_not_lt fun z=>?_
 have:=Nat.pow_le_pow_right (show 0<2 by decide) (show t<=9 by omega)
 omega
theorem Zf {n k:Nat}(h1:1<n)(h2:n<=1024)(hk:k<=(n+1) / 2):bq k+1<=bq n:=by
 by_cases a1:n<=2
 ·rw[BR_ (n:=n) (by omega) a1]
  have:=Hb (n:=k) (t:=0) (by omega)
  omega
 by_cases a2:n<=4
 ·rw[BS_ (n:=n) (by omega) a2]
  have:=Hb (n:=k) (t:=1) (by omega)
  omega
 by_cases a3:n<=8
 ·rw[BT_ (n:=n) (by omega) a3]
  have:=Hb (n:=k) (t:=2) (by omega)
  omega
 by_cases a4:n<=16
 ·rw[BU_ (n:=n) (by omega) a4]
  have:=Hb (n:=k) (t:=3) (by omega)
  omega
 by_cases a5:n<=32
 ·rw[BV_ (n:=n) (by omega) a5]
  have:=Hb (n:=k) (t:=4) (by omega)
  omega
 by_cases a6:n<=64
 ·rw[BW_ (n:=n) (by omega) a6]
  have:=Hb (n:=k) (t:=5) (by omega)
  omega
 by_cases a7:n<=128
 ·rw[BX_ (n:=n) (by omega) a7]
  have:=Hb (n:=k) (t:=6) (by omega)
  omega
 by_cases a8:n<=256
 ·rw[BY_ (n:=n) (by omega) a8]
  have:=Hb (n:=k) (t:=7) (by omega)
  omega
 by_cases a9:n<=512
 ·rw[BZ_ (n:=n) (by omega) a9]
  have:=Hb (n:=k) (t:=8) (by omega)
  omega
 rw[Ze (n:=n) (by omega)]
 have:=Hb (n:=k) (t:=9) (by omega)
 omega
theorem Zg {n k:Nat}(h:k<=n):bq k<=bq n:=by
 by_cases a0:n<=1
 ·rw[Do_ (n:=n) a0];exact Hb (by omega)
 by_cases a1:n<=2
 ·rw[BR_ (n:=n) (by omega) a1];exact Hb (by omega)
 by_cases a2:n<=4
 ·rw[BS_ (n:=n) (by omega) a2];exact Hb (by omega)
 by_cases a3:n<=8
 ·rw[BT_ (n:=n) (by omega) a3];exact Hb (by omega)
 by_cases a4:n<=16
 ·rw[BU_ (n:=n) (by omega) a4];exact Hb (by omega)
 by_cases a5:n<=32
 ·rw[BV_ (n:=n) (by omega) a5];exact Hb (by omega)
 by_cases a6:n<=64
 ·rw[BW_ (n:=n) (by omega) a6];exact Hb (by omega)
 by_cases a7:n<=128
 ·rw[BX_ (n:=n) (by omega) a7];exact Hb (by omega)
 by_cases a8:n<=256
 ·rw[BY_ (n:=n) (by omega) a8];exact Hb (by omega)
 by_cases a9:n<=512
 ·rw[BZ_ (n:=n) (by omega) a9];exact Hb (by omega)
 rw[Ze (n:=n) (by omega)];exact BQ_ k
def OL (es:Bk)(W ws:List (List Int))(v:List Int)(mk:Int):Nat->Nat->Nat->Nat
 | 0,_,_=>0
 | f+1,lo,hi=>if hi-lo > 1 then (match mkO es (Jf W ws v ((lo+hi) / 2)++v.drop ((lo+hi) / 2)) with
   | none=>bq (hi-lo)
   | some t=>if t=mk then OL es W ws v mk f lo ((lo+hi) / 2) else OL es W ws v mk f ((lo+hi) / 2) hi) else 0
theorem J3 (es:Bk)(W ws:List (List Int))(v:List Int)(mk:Int):∀ f lo hi,OL es W ws v mk f lo hi<=bq (hi-lo)
 | 0,lo,hi=>Nat.zero_le _
 | f+1,lo,hi=>by
  unfold OL
  by_cases hg:hi-lo > 1
  ·rw[if_pos hg]
   cases hm:mkO es (Jf W ws v ((lo+hi) / 2)++v.drop ((lo+hi) / 2)) with
   | none=>exact Nat.le_refl _
   | some t =>
    dsimp only
    split
    ·exact Nat.le_trans (J3 es W ws v mk f _ _) (Zg (by omega))
    ·exact Nat.le_trans (J3 es W ws v mk f _ _) (Zg (by omega))
  ·rw[if_neg hg];exact Nat.zero_le _
theorem MN {es:Bk}{W ws:List (List Int)}{v:List Int}{mk:Int}{c:List Int}{m:Int}(nd:((es ++ [(c,m)]).map (·.1)).Nodup):∀ f lo hi,hi-lo<=1024->G8 es W ws v mk f lo hi=.ask c->OL (es ++ [(c,m)]) W ws v mk f lo hi+1<=OL es W ws v mk f lo hi
 | 0,lo,hi,_,h=>by cases h
 | f+1,lo,hi,hz,h=>by
  unfold G8 at h
  unfold OL
  by_cases hg:hi-lo > 1
  ·rw[if_pos hg] at h ⊢
   rw[if_pos hg]
   cases hm:mkO es (Jf W ws v ((lo+hi) / 2)++v.drop ((lo+hi) / 2)) with
   | none =>
    rw[hm] at h
    have e:Jf W ws v ((lo+hi) / 2)++v.drop ((lo+hi) / 2)=c:=by injection h
    rw[e,Gr nd (show (c,m)∈es ++ [(c,m)] by simp)]
    dsimp only
    split
    ·have h1:=J3 (es ++ [(c,m)]) W ws v mk f lo ((lo+hi) / 2)
     have h2:=Zf (n:=hi-lo) (k:=(lo+hi) / 2-lo) hg hz (by omega)
     omega
    ·have h1:=J3 (es ++ [(c,m)]) W ws v mk f ((lo+hi) / 2) hi
     have h2:=Zf (n:=hi-lo) (k:=hi-(lo+hi) / 2) hg hz (by omega)
     omega
   | some t =>
    rw[hm] at h
    dsimp only at h
    rw[Grow.snoc es c m _ _ hm]
    dsimp only
    by_cases ht:t=mk
    ·rw[if_pos ht] at h ⊢
     rw[if_pos ht]
     exact MN nd f _ _ (by omega) h
    ·rw[if_neg ht] at h ⊢
     rw[if_neg ht]
     exact MN nd f _ _ (by omega) h
  ·rw[if_neg hg] at h;cases h
structure J41 (s:AS)(d:Nat):Prop where
 gc:∀ c∈s.G,c∈Er s
 pc:∀ v∈s.W,v=[] \/ ∃ a∈s.W,∃ x:Nat,x<s.L/\v=a ++ [(x:Int)]
 n0:s.wr=none->nonC s+10<=d+10*s.E.length
 n1:∀ v m ws,s.wr=some v->s.gs=some (m,ws)->nonC s+OL s.es s.W ws v (Bz m (Ak ws v)) v.length 0 v.length<=d+10*s.E.length
 d0:s.wr=none->d+1<=s.E.length
 d1:s.wr.isSome=true->d<=s.E.length
theorem Z7 {B d:Nat}{s:AS}(o:OkX none B s)(j:J41 s d)(hG:s.G=[])(hw:s.wr=none):(∀ s',Gb s=(s',none)->J41 s' d)/\∀ s' x,Gb s=(s',some x)->J41 s' d/\JX42 s' x:=by
 unfold Gb
 cases hst:Fq s.L s.W s.E s.es with
 | some r =>
  obtain⟨⟨r1,r2,r3,r4⟩,_⟩:=o.tb.more (o.full hG) hst
  dsimp only
  by_cases hm:s.W.length=s.most
  ·rw[if_pos hm]
   exact⟨fun s' z=>(by cases z),fun s' x z=>(by cases z;exact⟨j,trivial⟩)⟩
  ·rw[if_neg hm]
   refine⟨fun s' z=>?_,fun s' x z=>(by cases z)⟩
   cases z
   refine⟨fun c hc=>MM hc,fun v hv=>?_,fun _=>?_,fun v m ws hv=>?_,j.d0,j.d1⟩
   ·rcases List.mem_append.mp hv with hv | hv
    ·rcases j.pc v hv with z | ⟨a,ha,y,hy,e⟩
     ·exact .inl z
     ·exact .inr ⟨a,List.mem_append_left _ ha,y,hy,e⟩
    ·rw[List.mem_singleton.mp hv]
     rcases AQ.mp r1 with z | ⟨a,ha,y,hy,e⟩
     ·exact absurd z r2
     ·exact .inr ⟨a,List.mem_append_left _ ha,y,hy,e⟩
   ·have h1:=UD (s:=s) (s':={s with W:=s.W ++ [r],G:=HY s.L (s.W ++ [r]) s.E s.es}) rfl (fun c hc=>by
     obtain⟨q,hq,e,he,rfl⟩:=Bw.mp hc
     exact Bw.mpr ⟨q,VF hq,e,he,rfl⟩)
    have:=j.n0 hw
    show nonC _+10<=d+10*s.E.length
    omega
   ·rw[show s.wr=some v from hv] at hw;cases hw
 | none =>
  dsimp only
  cases hf:CY s.es (Dg s.W s.es) (FD s.L s.W s.E s.es) with
  | none =>
   refine⟨fun s' z=>(by cases z),fun s' x z=>?_⟩
   cases z
   exact⟨⟨j.gc,j.pc,fun _=>j.n0 hw,fun v m ws hv=>(by cases hv),fun _=>j.d0 hw,fun z=>(by cases z)⟩,hst,rfl,rfl⟩
  | some v =>
   refine⟨fun s' z=>?_,fun s' x z=>(by cases z)⟩
   cases z
   refine⟨j.gc,j.pc,fun z=>(by cases z),fun v' m ws hv hg=>?_,fun z=>(by cases z),fun _=>?_⟩
   ·have h1:=J3 s.es s.W ws v' (Bz m (Ak ws v')) v'.length 0 v'.length
    have h2:=BQ_ (v'.length-0)
    have h3:=j.n0 hw
    have h4:nonC s+OL s.es s.W ws v' (Bz m (Ak ws v')) v'.length 0 v'.length<=d+10*s.E.length:=by omega
    exact h4
   ·have:=j.d0 hw
    show d<=s.E.length
    omega
theorem WU {B d:Nat}{s:AS}(o:OkX none B s)(j:J41 s d):(∀ s',Df s=(s',none)->J41 s' d)/\∀ s' x,Df s=(s',some x)->J41 s' d/\JX42 s' x:=by
 unfold Df
 cases hG:s.G with
 | cons c r =>
  refine⟨fun s' z=>(by cases z),fun s' x z=>?_⟩
  cases z
  have hwr:s.wr=none:=by
   cases h:s.wr with
   | none=>rfl
   | some v=>have:=(o.wr v h).1;rw[hG] at this;cases this
  refine⟨⟨fun b hb=>j.gc b (by rw[hG];exact List.mem_cons_of_mem _ hb),j.pc,j.n0,j.n1,j.d0,j.d1⟩,fun _=>j.gc c (by rw[hG];exact List.mem_cons_self ..),fun v m ws hv=>?_⟩
  rw[show s.wr=some v from hv] at hwr;cases hwr
 | nil =>
  cases hw:s.wr with
  | none=>exact Z7 o j hG hw
  | some v =>
   obtain⟨_,_,_,_,m,ws,t,e1,_⟩:=o.wr v hw
   rw[e1]
   dsimp only
   unfold LY
   cases hh:G8 s.es s.W ws v (Bz m (Ak ws v)) v.length 0 v.length with
   | ask c =>
    refine⟨fun s' z=>(by cases z),fun s' x z=>?_⟩
    cases z
    refine⟨j,fun z=>(by rw[hw] at z;cases z),fun v' m' ws' hv' hg'=>?_⟩
    rw[hw] at hv'
    rw[e1] at hg'
    cases hv';cases hg'
    exact hh
   | fin hi =>
    refine⟨fun s' z=>?_,fun s' x z=>(by cases z)⟩
    cases z
    refine⟨fun c hc=>MM hc,j.pc,fun _=>?_,fun v m ws hv=>(by cases hv),fun _=>?_,fun z=>(by cases z)⟩
    ·have h1:=UD (s:=s) (s':={s with wr:=none,E:=s.E ++ [v.drop hi],G:=HY s.L s.W (s.E ++ [v.drop hi]) s.es}) rfl (fun c hc=>by
      obtain⟨q,hq,e,he,rfl⟩:=Bw.mp hc
      exact Bw.mpr ⟨q,hq,e,List.mem_append_left _ he,rfl⟩)
     have h2:=j.n1 v m ws hw e1
     show nonC _+10<=d+10*(s.E ++ [v.drop hi]).length
     rw[List.length_append,List.length_singleton]
     omega
    ·have h2:=j.d1 (by rw[hw];rfl)
     show d+1<=(s.E ++ [v.drop hi]).length
     rw[List.length_append,List.length_singleton]
     omega
theorem Goes.J41 {B d:Nat}{s s':AS}{x:Wish}(g:Goes s s' x)(o:OkX none B s)(j:J41 s d):Mine.J41 s' d/\JX42 s' x:=by
 induction g with
 | stop h=>exact (WU o j).2 _ _ h
 | more h _ ih =>
  obtain⟨o1,_,_⟩:=(My o).1 _ h
  exact ih o1 ((WU o j).1 _ h)
theorem J41.start (L most:Nat):J41 (s039 L most) 0:=⟨fun c hc=>MM hc,fun v hv=>.inl (List.mem_singleton.mp hv),fun _=>(by show 0+10<=0+10*1;omega),fun v m ws hv=>(by cases hv),fun _=>(by show 0+1<=1;omega),fun z=>(by cases z)⟩
theorem J41.told {B d:Nat}{s:AS}{c:List Int}{m:Int}(o:OkX (some c) B s)(hB:B+(s.most+1)*(s.most+1)<=1024)(j:J41 s d)(x:JX42 s (.ask c))(hn:c∉s.es.map (·.1)):J41 {s with es:=s.es ++ [(c,m)]} d:=by
 obtain⟨x1,x2⟩:=x
 have nd:((s.es ++ [(c,m)]).map (·.1)).Nodup:=by
  rw[List.map_append,List.nodup_append]
  exact⟨o.tb.nd,by simp,fun a ha b hb=>by rw[List.mem_singleton.mp hb];intro z;subst z;exact hn ha⟩
 refine⟨j.gc,j.pc,fun hw=>?_,fun v m' ws hv hg=>?_,j.d0,j.d1⟩
 ·have h1:=j.n0 hw
  have h2:nonC {s with es:=s.es ++ [(c,m)]}=nonC s:=by
   show List.countP (fun p=>decide (p.1∉Er s)) (s.es ++ [(c,m)])=_
   rw[List.countP_append,List.countP_singleton,if_neg (by simp[x1 hw])]
   rfl
  rw[h2]
  exact h1
 ·have h1:=j.n1 v m' ws hv hg
  have h2:nonC {s with es:=s.es ++ [(c,m)]}<=nonC s+1:=by
   show List.countP (fun p=>decide (p.1∉Er s)) (s.es ++ [(c,m)])<=List.countP (fun p=>decide (p.1∉Er s)) s.es+1
   rw[List.countP_append,List.countP_singleton]
   split<;>omega
  obtain⟨_,_,_,hvl,_⟩:=o.wr v hv
  have h4:=o.lens
  have h3:=MN (W:=s.W) (ws:=ws) (v:=v) (mk:=Bz m' (Ak ws v)) nd v.length 0 v.length (by omega) (x2 v m' ws hv hg)
  have h5:nonC {s with es:=s.es ++ [(c,m)]}+OL (s.es ++ [(c,m)]) s.W ws v (Bz m' (Ak ws v)) v.length 0 v.length<=d+10*s.E.length:=by omega
  exact h5
theorem DB_ {B d:Nat}{s:AS}{m:List Int}{ws:List (List Int)}{w:List Int}{n:Int}(o:OkX none B s)(hG:s.G=[])(hwr:s.wr=none)(j:J41 s d)(x:JX42 s (.shown m ws))(hne:Bz m (Ak ws w)≠n){s':AS}{y:Wish}(g:Goes {s with es:=s.es ++ [(w,n)]} s' y):∃ s2,Goes s2 s' y/\J41 s2 (d+1)/\Df {s with es:=s.es ++ [(w,n)]}=(s2,none):=by
 obtain⟨hst,rfl,rfl⟩:=x
 have full:=o.full hG
 have gr:=Grow.snoc s.es w n
 have he0:([]:List Int)∈s.E:=List.mem_of_getElem? o.tb.e0
 have eW:s.W.map (gOf s.E (s.es ++ [(w,n)]))=s.W.map (gOf s.E s.es):=List.map_congr_left fun v hv=>Sx full gr (AQ.mpr (.inl hv))
 have eS:Fq s.L s.W s.E (s.es ++ [(w,n)])=none:=by
  unfold Fq at hst ⊢
  rw[List.find?_eq_none] at hst ⊢
  intro v hv
  have:=hst v hv
  rw[eW,Sx full gr hv]
  exact this
 have eM:Dg s.W (s.es ++ [(w,n)])=Dg s.W s.es:=by
  unfold Dg
  refine List.map_congr_left fun v hv=>?_
  obtain⟨q,hq⟩:=full v (Bw.mpr ⟨v,AQ.mpr (.inl hv),[],he0,by simp⟩)
  rw[hq,gr _ _ hq]
 have eY:FD s.L s.W s.E (s.es ++ [(w,n)])=FD s.L s.W s.E s.es:=by
  unfold FD
  rw[eW]
  refine List.map_congr_left fun v hv=>List.map_congr_left fun y hy=>?_
  rw[Sx full gr (AQ.mpr (.inr ⟨v,hv,y,List.mem_range.mp hy,rfl⟩))]
 obtain⟨u,hu⟩:∃ u,CY (s.es ++ [(w,n)]) (Dg s.W s.es) (FD s.L s.W s.E s.es)=some u:=by
  unfold CY
  cases hf:(s.es ++ [(w,n)]).find? (fun e=>decide (Bz (Dg s.W s.es) (Ak (FD s.L s.W s.E s.es) e.1)≠e.2)) with
  | some e=>exact⟨e.1,rfl⟩
  | none =>
   have:=List.find?_eq_none.mp hf (w,n) (by simp)
   simp[hne] at this
 have en:Df {s with es:=s.es ++ [(w,n)]}=({s with es:=s.es ++ [(w,n)],gs:=some (Dg s.W s.es,FD s.L s.W s.E s.es),wr:=some u},none):=by
  unfold Df
  rw[show ({s with es:=s.es ++ [(w,n)]}:AS).G=[] from hG]
  dsimp only
  rw[hwr]
  dsimp only
  unfold Gb
  dsimp only
  rw[eS]
  dsimp only
  rw[eM,eY,hu]
 have h7:=j.n0 hwr
 have h2:nonC {s with es:=s.es ++ [(w,n)]}<=nonC s+1:=by
  show List.countP (fun p=>decide (p.1∉Er s)) (s.es ++ [(w,n)])<=List.countP (fun p=>decide (p.1∉Er s)) s.es+1
  rw[List.countP_append,List.countP_singleton]
  split<;>omega
 refine⟨{s with es:=s.es ++ [(w,n)],gs:=some (Dg s.W s.es,FD s.L s.W s.E s.es),wr:=some u},?_,⟨j.gc,j.pc,fun z=>(by cases z),fun v m ws hv hg=>?_,fun z=>(by cases z),fun _=>j.d0 hwr⟩,en⟩
 ·cases g with
  | stop h=>rw[en] at h;cases h
  | more h g=>rw[en] at h;cases h;exact g
 ·have h1:=J3 (s.es ++ [(w,n)]) s.W ws v (Bz m (Ak ws v)) v.length 0 v.length
  have h3:=BQ_ (v.length-0)
  have h5:nonC {s with es:=s.es ++ [(w,n)]}+OL (s.es ++ [(w,n)]) s.W ws v (Bz m (Ak ws v)) v.length 0 v.length<=d+1+10*s.E.length:=by omega
  exact h5
theorem Xu {s:AS}{d:Nat}(j:J41 s d):(Bo s.L s.W).length<=1+s.W.length*s.L:=by
 have nd:(Bo s.L s.W).Nodup:=by unfold Bo;exact EE (EE List.nodup_nil)
 have:=Jn (l:=Bo s.L s.W) (k:=[]::s.W.flatMap fun a=>(List.range s.L).map fun x:Nat=>a ++ [(x:Int)]) nd fun v hv=>by
  have key:∀ a∈s.W,∀ x:Nat,x<s.L->a ++ [(x:Int)]∈([]::s.W.flatMap fun a=>(List.range s.L).map fun x:Nat=>a ++ [(x:Int)]:List (List Int)):=fun a ha x hx=>List.mem_cons_of_mem _ (List.mem_flatMap.mpr ⟨a,ha,List.mem_map.mpr ⟨x,List.mem_range.mpr hx,rfl⟩⟩)
  rcases AQ.mp hv with h | ⟨a,ha,y,hy,rfl⟩
  ·rcases j.pc v h with rfl | ⟨a,ha,x,hx,rfl⟩
   ·exact List.mem_cons_self ..
   ·exact key a ha x hx
  ·exact key a ha y hy
 have e:(s.W.flatMap fun a=>(List.range s.L).map fun x:Nat=>a ++ [(x:Int)]).length=s.W.length*s.L:=by
  generalize s.W=l
  induction l with
  | nil=>simp
  | cons a l ih=>rw[List.flatMap_cons,List.length_append,ih,List.length_map,List.length_range,List.length_cons,Nat.succ_mul];omega
 rw[List.length_cons,e] at this
 omega
theorem J41.few {x:Option (List Int)}{B d m:Nat}{s:AS}(o:OkX x B s)(j:J41 s d)(hW:s.W.length<=m)(hE:s.E.length<=m)(hr:s.wr.isSome=true->s.E.length+1<=m):s.es.length<=(1+m*s.L)*m+10*(m-1)+d:=by
 have h1:=List.length_eq_countP_add_countP (l:=s.es) (fun p=>decide (p.1∉Er s))
 have hE1:1<=s.E.length:=(List.getElem?_eq_some_iff.mp o.tb.e0).1
 have h2:nonC s<=d+10*(m-1):=by
  cases hw:s.wr with
  | none=>have:=j.n0 hw;omega
  | some v =>
   obtain⟨_,_,_,_,m',ws,t,e1,_⟩:=o.wr v hw
   have:=j.n1 v m' ws hw e1
   have:=hr (by rw[hw];rfl)
   omega
 have h3:s.es.countP (fun p=>decide (¬ decide (p.1∉Er s)=true))<=(Er s).length:=by
  rw[List.countP_eq_length_filter,<- List.length_map (f:=(·.1))]
  refine VE ?_ fun c hc=>?_
  ·exact List.Nodup.sublist (List.Sublist.map _ List.filter_sublist) o.tb.nd
  ·obtain⟨p,hp,rfl⟩:=List.mem_map.mp hc
   have:=(List.mem_filter.mp hp).2
   simpa using this
 have h4:(Er s).length<=(1+m*s.L)*m:=by
  unfold Er FX
  have a1:=B8 ((Bo s.L s.W).flatMap fun r=>s.E.map (r ++ ·)) []
  have a2:((Bo s.L s.W).flatMap fun r=>s.E.map (r ++ ·)).length=(Bo s.L s.W).length*s.E.length:=by
   rw[List.length_flatMap]
   generalize Bo s.L s.W=l
   induction l with
   | nil=>simp
   | cons a l ih=>rw[List.map_cons,List.sum_cons,ih,List.length_map,List.length_cons,Nat.succ_mul];omega
  have a3:=Xu j
  have a6:s.W.length*s.L<=m*s.L:=Nat.mul_le_mul hW (Nat.le_refl _)
  have a7:(Bo s.L s.W).length*s.E.length<=(1+m*s.L)*m:=Nat.mul_le_mul (by omega) hE
  rw[a2,List.length_nil] at a1
  omega
 unfold nonC at h2
 omega
section
variable {L most:Nat} {W E:List (List Int)} {es:Bk} {hm:List Int} {hw:List (List Int)} {cl:Int->Int} {ds:List Int}
theorem Cls41.apart (k:Cls41 L hm hw cl ds)(c:OK es hm hw){v u:List Int}(hv:isW (L:Int) v=true)(hu:isW (L:Int) u=true)(hE:∀ e∈E,isW (L:Int) e=true)(h:LW E es v u):cl (Ak hw v)≠cl (Ak hw u):=by
 obtain⟨e,he,m,n,h1,h2,h3⟩:=h
 intro z
 have:=(k.eq v u hv hu).mp z e (hE e he)
 have a:Bz hm (Ak hw (v++e))=m:=c _ (Je h1)
 have b:Bz hm (Ak hw (u++e))=n:=c _ (Je h2)
 exact h3 (a.symm.trans (this.trans b))
theorem Cls41.nodup (k:Cls41 L hm hw cl ds)(c:OK es hm hw)(t:Tb L most W E es):(W.map fun v=>cl (Ak hw v)).Nodup:=by
 rw[List.nodup_iff_pairwise_ne,List.pairwise_iff_getElem]
 intro i j hi hj hij
 rw[List.length_map] at hi hj
 rw[List.getElem_map,List.getElem_map]
 exact k.apart c (t.wW _ (List.getElem_mem _)).1 (t.wW _ (List.getElem_mem _)).1 t.eW (t.dist i j _ _ (List.getElem?_eq_getElem hi) (List.getElem?_eq_getElem hj) (by omega))
theorem Cls41.le (k:Cls41 L hm hw cl ds)(c:OK es hm hw)(t:Tb L most W E es):W.length<=ds.length:=by
 have:=K4 (l:=W.map fun v=>cl (Ak hw v)) (k:=ds) (k.nodup c t) fun x hx=>by
  obtain⟨u,hu,rfl⟩:=List.mem_map.mp hx
  exact k.at_ u (t.wW u hu).1
 rwa [List.length_map] at this
theorem Cls41.more (k:Cls41 L hm hw cl ds)(c:OK es hm hw)(t:Tb L most W E es){r:List Int}(hr:isW (L:Int) r=true)(h:∀ u∈W,LW E es r u):W.length+1<=ds.length:=by
 have:=K4 (l:=cl (Ak hw r)::W.map fun v=>cl (Ak hw v)) (k:=ds) (by
  rw[List.nodup_cons]
  refine⟨fun z=>?_,k.nodup c t⟩
  obtain⟨u,hu,eu⟩:=List.mem_map.mp z
  exact k.apart c hr (t.wW u hu).1 t.eW (h u hu) eu.symm) fun x hx=>by
  rcases List.mem_cons.mp hx with rfl | hx
  ·exact k.at_ r hr
  ·obtain⟨u,hu,rfl⟩:=List.mem_map.mp hx
   exact k.at_ u (t.wW u hu).1
 rw[List.length_cons,List.length_map] at this
 exact this
theorem Cls41.ends (k:Cls41 L hm hw cl ds)(c:OK es hm hw)(t:Tb L most W E es):E.length<=ds.length/\E.length<=most+1:=by
 refine⟨?_,t.en⟩
 have h1:=k.le c t
 rcases t.jj with h | ⟨h,a,ha,x,hx,hap⟩
 ·omega
 ·have:=k.more c t (r:=a ++ [(x:Int)]) (Ao.mpr fun y hy=>by
   rcases List.mem_append.mp hy with hy | hy
   ·exact Ao.mp (t.wW a ha).1 y hy
   ·rw[List.mem_singleton.mp hy];omega) hap
  omega
theorem Cls41.right (k:Cls41 L hm hw cl ds)(wf:Wf (L:Int) hm hw)(c:OK es hm hw)(t:Tb L most W E es){m:List Int}{ws:List (List Int)}(g:GuessOk L W E es m ws)(hn:ds.length<=W.length){v:List Int}(hv:isW (L:Int) v=true):Bz hm (Ak hw v)=Bz m (Ak ws v):=by
 have nd:=k.nodup c t
 have sur:∀ x∈ds,∃ u∈W,cl (Ak hw u)=x:=fun x hx=>by
  have:=UA (l:=W.map fun v=>cl (Ak hw v)) (k:=ds) nd (fun y hy=>by
   obtain⟨u,hu,rfl⟩:=List.mem_map.mp hy
   exact k.at_ u (t.wW u hu).1) (by rw[List.length_map];exact hn) hx
  obtain⟨u,hu,e⟩:=List.mem_map.mp this
  exact⟨u,hu,e⟩
 have key:∀ (n:Nat) (v:List Int),v.length=n->isW (L:Int) v=true->∃ i:Nat,∃ u,Ak ws v=(i:Int)/\W[i]?=some u/\cl (Ak hw v)=cl (Ak hw u):=by
  intro n
  induction n with
  | zero =>
   intro v hv _
   have:v=[]:=List.length_eq_zero_iff.mp hv
   subst this
   exact⟨0,[],rfl,t.w0,rfl⟩
  | succ n ih =>
   intro v hv hvW
   obtain⟨v',x,rfl⟩:∃ v' x,v=v' ++ [x]:=⟨v.dropLast,v.getLast (by intro z;rw[z] at hv;cases hv),(List.dropLast_concat_getLast _).symm⟩
   have hv':isW (L:Int) v'=true:=Ao.mpr fun y hy=>Ao.mp hvW y (List.mem_append_left _ hy)
   have hx:=Ao.mp hvW x (by simp)
   obtain⟨i,a,h1,h2,h3⟩:=ih v' (by simpa using hv) hv'
   obtain⟨xn,rfl⟩:∃ xn:Nat,x=(xn:Int):=⟨x.toNat,by omega⟩
   obtain⟨row,kk,u,g1,g2,g3,g4⟩:=g.go i a xn h2 (by omega)
   have haW:=(t.wW a (List.mem_of_getElem? h2)).1
   have huW:=(t.wW u (List.mem_of_getElem? g3)).1
   have hax:isW (L:Int) (a ++ [(xn:Int)])=true:=Ao.mpr fun y hy=>by
    rcases List.mem_append.mp hy with hy | hy
    ·exact Ao.mp haW y hy
    ·rw[List.mem_singleton.mp hy];exact hx
   refine⟨kk,u,?_,g3,?_⟩
   ·rw[Ml,h1]
    exact LS (row:=row) (by rw[Int.toNat_natCast];exact g1) (by rw[Int.toNat_natCast];exact g2)
   ·have e1:cl (Ak hw (v' ++ [(xn:Int)]))=cl (Ak hw (a ++ [(xn:Int)])):=by
     refine (k.eq _ _ hvW hax).mpr fun e he=>?_
     have:=(k.eq _ _ hv' haW).mp h3 ([(xn:Int)]++e) (Ao.mpr fun y hy=>by
      rcases List.mem_append.mp hy with hy | hy
      ·rw[List.mem_singleton.mp hy];exact hx
      ·exact Ao.mp he y hy)
     rw[<- List.append_assoc,<- List.append_assoc] at this
     exact this
    rw[e1]
    obtain⟨b,hb,eb⟩:=sur _ (k.at_ _ hax)
    have hbW:=(t.wW b hb).1
    obtain⟨jb,hjb⟩:=List.mem_iff_getElem?.mp hb
    by_cases hjk:jb=kk
    ·subst hjk
     rw[g3] at hjb
     cases hjb
     exact eb.symm
    ·obtain⟨e,he,p,q,p1,p2,p3⟩:=t.dist jb kk b u hjb g3 hjk
     obtain⟨y,y1,y2⟩:=g4 e he
     rw[p2] at y2
     cases y2
     have c1:Bz hm (Ak hw (b++e))=p:=c _ (Je p1)
     have c2:Bz hm (Ak hw (a ++ [(xn:Int)]++e))=q:=c _ (Je y1)
     have c3:=(k.eq b (a ++ [(xn:Int)]) hbW hax).mp eb e (t.eW e he)
     exact absurd (c1.symm.trans (Eq.trans c3 c2)) p3
 obtain⟨i,u,h1,h2,h3⟩:=key v.length v rfl hv
 have huW:=(t.wW u (List.mem_of_getElem? h2)).1
 obtain⟨y,y1,y2⟩:=g.m i u h2
 have c1:Bz hm (Ak hw u)=y:=c _ (Je y2)
 have c2:=(k.eq v u hv huW).mp h3 [] (Ao.mpr fun x hx=>(by cases hx))
 rw[List.append_nil,List.append_nil] at c2
 have c2:Bz hm (Ak hw v)=Bz hm (Ak hw u):=c2
 rw[c2,c1,h1]
 show y=m.getD ((i:Int)).toNat 0
 rw[show ((i:Int)).toNat=i by omega,List.getD_eq_getElem?_getD,y1];rfl
theorem Cls41.ge (k:Cls41 L hm hw cl ds){m:List Int}{ws:List (List Int)}(wf:Wf (L:Int) m ws)(h:∀ v,isW (L:Int) v=true->mkW hm (Ak hw v)=mkW m (Ak ws v)):ds.length<=m.length:=by
 have ch:∀ d,∃ v,d∈ds->isW (L:Int) v=true/\cl (Ak hw v)=d:=fun d=>by
  by_cases hd:d∈ds
  ·obtain⟨v,hv⟩:=k.of d hd
   exact⟨v,fun _=>hv⟩
  ·exact⟨[],fun z=>absurd z hd⟩
 have sp:=fun d=>Classical.choose_spec (ch d)
 have nd:(ds.map fun d=>Ak ws (Classical.choose (ch d))).Nodup:=by
  refine List.pairwise_map.mpr (List.Pairwise.imp_of_mem (fun {a b} ha hb hab z=>hab ?_) k.nd)
  obtain⟨a1,a2⟩:=sp a ha
  obtain⟨b1,b2⟩:=sp b hb
  rw[<- a2,<- b2]
  refine (k.eq _ _ a1 b1).mpr fun e he=>?_
  have ap:∀ v,isW (L:Int) v=true->isW (L:Int) (v++e)=true:=fun v hv=>Ao.mpr fun y hy=>by
   rcases List.mem_append.mp hy with hy | hy
   ·exact Ao.mp hv y hy
   ·exact Ao.mp he y hy
  rw[h _ (ap _ a1),h _ (ap _ b1),RH,RH,z]
 have:=Ft m.length nd fun x hx=>by
  obtain⟨d,hd,rfl⟩:=List.mem_map.mp hx
  exact Dn_ wf (sp d hd).1
 rwa [List.length_map] at this
end
theorem EqD.all43 {K:PySem.W.Frag}{H:Hp}{n:Nat}{a c:Addr}{xs ys:List V}(hq:(SqL K H a xs/\SqL K H c ys)\/(SqT K H a xs/\SqT K H c ys))(hl:xs.length=ys.length)(h:∀ (i:Nat) (x y:V),xs[i]?=some x->ys[i]?=some y->EqD K H n x y true):EqD K H (n+1) (.ref a) (.ref c) true :=
 .inr ⟨a,c,xs,ys,rfl,rfl,hq,fun _=>true,h,by simp[hl]⟩
theorem EqD.int43 {K:PySem.W.Frag}{H:Hp}(n:Nat)(i:Int):EqD K H n (.int i) (.int i) true:=by
 cases n with
 | zero=>exact⟨rfl,rfl,by simp[eqV]⟩
 | succ n=>exact .inl ⟨rfl,rfl,by simp[eqV]⟩
theorem EqD.str43 {K:PySem.W.Frag}{H:Hp}(n:Nat)(i:Str):EqD K H n (.str i) (.str i) true:=by
 cases n with
 | zero=>exact⟨rfl,rfl,by simp[eqV]⟩
 | succ n=>exact .inl ⟨rfl,rfl,by simp[eqV]⟩
theorem EqD.word43 {K:PySem.W.Frag}{H:Hp}(n:Nat){a b:Addr}{w:List Int}(h:SqT K H a (w.map V.int))(g:SqT K H b (w.map V.int)):EqD K H (n+1) (.ref a) (.ref b) true:=by
 have:=EqD.ints (K:=K) (H:=H) (a:=a) (c:=b) (xs:=w) (ys:=w) (.inr ⟨h,g⟩) n
 rw[decide_eq_true rfl] at this
 exact this
theorem DC_ {α:Type}{P:Nat->α->α->Prop}{a b c d:α}(h0:P 0 a c)(h1:P 1 b d):∀ i x y,[a,b][i]?=some x->[c,d][i]?=some y->P i x y:=by
 intro i x y hx hy
 match i with
 | 0=>simp at hx hy;subst hx hy;exact h0
 | 1=>simp at hx hy;subst hx hy;exact h1
 | i+2=>simp at hx
theorem Ca_ {α:Type}{P:Nat->α->α->Prop}{a b e c d f:α}(h0:P 0 a c)(h1:P 1 b d)(h2:P 2 e f):∀ i x y,[a,b,e][i]?=some x->[c,d,f][i]?=some y->P i x y:=by
 intro i x y hx hy
 match i with
 | 0=>simp at hx hy;subst hx hy;exact h0
 | 1=>simp at hx hy;subst hx hy;exact h1
 | 2=>simp at hx hy;subst hx hy;exact h2
 | i+3=>simp at hx
theorem HouT.eq43 {K:PySem.W.Frag}{H:Hp}{a b:Addr}{L:Int}{m:List Int}{ws:List (List Int)}(h:HouT K H a L m ws)(g:HouT K H b L m ws)(n:Nat):EqD K H (n+3) (.ref a) (.ref b) true:=by
 obtain⟨tm,tw,zs,h1,h2,h3,h4⟩:=h
 obtain⟨tm',tw',zs',g1,g2,g3,g4⟩:=g
 refine EqD.all43 (.inr ⟨SqT.of h1,SqT.of g1⟩) rfl (Ca_ (P:=fun _ x y=>EqD K H (n+2) x y true) (EqD.int43 _ _) (EqD.word43 _ (SqT.of h2) (SqT.of g2)) ?_)
 refine EqD.all43 (.inr ⟨SqT.of h3,SqT.of g3⟩) (by rw[h4.1,g4.1]) fun i x y hx hy=>?_
 obtain⟨t,w,e1,rfl,e2⟩:=h4.at hx
 obtain⟨u,w',f1,rfl,f2⟩:=g4.at hy
 rw[e1] at f1
 cases f1
 exact EqD.word43 _ (SqT.of e2) (SqT.of f2)
theorem EF.eq43 {K:PySem.W.Frag}{H:Hp}{L:Int}{v v':V}{x:Wish}(h:EF K H L v x)(g:EF K H L v' x)(n:Nat):EqD K H (n+4) v v' true:=by
 obtain⟨t,u,rfl,h1,h2⟩:=h
 obtain⟨t',u',rfl,g1,g2⟩:=g
 refine EqD.all43 (.inr ⟨SqT.of h1,SqT.of g1⟩) rfl (DC_ (P:=fun _ x y=>EqD K H (n+3) x y true) (EqD.str43 _ _) ?_)
 cases x with
 | ask c=>exact EqD.word43 _ (SqT.of h2) (SqT.of g2)
 | spent c=>exact EqD.word43 _ (SqT.of h2) (SqT.of g2)
 | shown m ws=>exact HouT.eq43 h2 g2 n
 | done m ws=>exact HouT.eq43 h2 g2 n
structure Led41 (s:AS)(x:Wish)(hm:List Int)(hw:List (List Int))(d:Nat):Prop where
 ok:WOk 400 s x
 j:J41 s d
 jx:JX42 s x
 co:OK s.es hm hw
 wf:Wf s.L hm hw
 m5:s.most<=5
theorem WOk.okx41 {B:Nat}{s:AS}{x:Wish}(o:WOk B s x):∃ y,OkX y B s:=by
 cases x with
 | ask c=>exact⟨_,o.1⟩
 | shown m ws=>exact⟨_,o.1⟩
 | done m ws=>exact⟨_,o.1⟩
 | spent c=>exact⟨_,o.1⟩
theorem Led41.mm {s:AS}{x:Wish}{hm:List Int}{hw:List (List Int)}{d:Nat}(l:Led41 s x hm hw d):(s.most+1)*(s.most+1)<=36:=Nat.mul_le_mul (show s.most+1<=6 by have:=l.m5;omega) (show s.most+1<=6 by have:=l.m5;omega)
theorem Led41.bd {s:AS}{x:Wish}{hm:List Int}{hw:List (List Int)}{d:Nat}(l:Led41 s x hm hw d):Bd 400 s:=by
 have h1:=l.mm
 have h2:=l.m5
 unfold Bd
 omega
theorem Z8 {L:Int}{hm:List Int}{hw:List (List Int)}(wf:Wf L hm hw){v:List Int}(hv:isW L v=true):0<=Bz hm (Ak hw v)/\Bz hm (Ak hw v)<=1000000000:=by
 have h:=Dn_ wf hv
 exact wf.mks _ (Dc_ h.1 h.2)
theorem Led41.ask {s s':AS}{c hm:List Int}{hw:List (List Int)}{y:Wish}{d:Nat}(l:Led41 s (.ask c) hm hw d)(g:Goes {s with es:=s.es ++ [(c,Bz hm (Ak hw c))]} s' y):Led41 s' y hm hw d/\s'.es.length=s.es.length+1/\s'.L=s.L/\s'.most=s.most:=by
 obtain⟨okc,hn,hc,hlen,hg⟩:=id l.ok
 have hnk:c∉s.es.map (·.1):=fun z=>by
  obtain⟨n,hn'⟩:=Vx.mp z
  rw[hn] at hn';cases hn'
 have ha:=Z8 l.wf hc
 have h1:=l.mm
 have ok1:=okc.told (m:=Bz hm (Ak hw c)) (fun b hb=>(Option.some.inj hb).symm) hnk hc ha.1 ha.2 hlen hg
 have j1:=J41.told (m:=Bz hm (Ak hw c)) okc (by omega) l.j l.jx hnk
 obtain⟨ok2,kp⟩:=g.ok ok1
 obtain⟨j2,jx2⟩:=Goes.J41 g ok1 j1
 have e:=kp.e
 have eL:=kp.l
 have em:=kp.m
 refine⟨⟨ok2,j2,jx2,?_,by rw[eL];exact l.wf,by rw[em];exact l.m5⟩,by rw[e];simp,eL,em⟩
 rw[e]
 intro p hp
 rcases List.mem_append.mp hp with hp | hp
 ·exact l.co p hp
 ·rw[List.mem_singleton.mp hp]
theorem Led41.obj {s s':AS}{w hm m:List Int}{hw ws:List (List Int)}{y:Wish}{d:Nat}(l:Led41 s (.shown m ws) hm hw d)(hc:isW s.L w=true)(hz:w.length<=400)(hne:Bz m (Ak ws w)≠Bz hm (Ak hw w))(g:Goes {s with es:=s.es ++ [(w,Bz hm (Ak hw w))]} s' y):Led41 s' y hm hw (d+1)/\s'.es.length=s.es.length+1/\s'.L=s.L/\s'.most=s.most:=by
 obtain⟨ok0,hG,hwr,hgs,gu,hall⟩:=id l.ok
 have hnk:w∉s.es.map (·.1):=fun z=>by
  obtain⟨p,hp,rfl⟩:=List.mem_map.mp z
  exact hne ((hall p hp).trans (l.co p hp).symm)
 have ha:=Z8 l.wf hc
 have ok1:=ok0.told (m:=Bz hm (Ak hw w)) (fun b hb=>(by cases hb)) hnk hc ha.1 ha.2 (by omega) (by rw[hG];simp)
 obtain⟨s2,g2,j2,e2⟩:=DB_ ok0 hG hwr l.j l.jx hne g
 obtain⟨ok2,kp2,_⟩:=(My ok1).1 _ e2
 obtain⟨ok3,kp⟩:=g2.ok ok2
 obtain⟨j3,jx3⟩:=Goes.J41 g2 ok2 j2
 have e:s'.es=s.es ++ [(w,Bz hm (Ak hw w))]:=kp.e.trans kp2.e
 have eL:s'.L=s.L:=kp.l.trans kp2.l
 have em:s'.most=s.most:=kp.m.trans kp2.m
 refine⟨⟨ok3,j3,jx3,?_,by rw[eL];exact l.wf,by rw[em];exact l.m5⟩,by rw[e];simp,eL,em⟩
 rw[e]
 intro p hp
 rcases List.mem_append.mp hp with hp | hp
 ·exact l.co p hp
 ·rw[List.mem_singleton.mp hp]
theorem Led41.bound {s:AS}{x:Wish}{hm:List Int}{hw:List (List Int)}{d:Nat}{cl:Int->Int}{ds:List Int}(l:Led41 s x hm hw d)(k:Cls41 s.L hm hw cl ds):s.W.length<=ds.length/\d<=ds.length/\s.es.length<=(1+min ds.length (s.most+1)*s.L)*min ds.length (s.most+1)+10*(min ds.length (s.most+1)-1)+d/\(s.wr=none->d+1<=ds.length):=by
 obtain⟨y,o⟩:=WOk.okx41 l.ok
 have tb:=o.tb
 have h1:=k.le l.co tb
 obtain⟨h2,h3⟩:=k.ends l.co tb
 have hr:s.wr.isSome=true->s.E.length+1<=min ds.length (s.most+1):=fun hs=>by
  obtain⟨v,hv⟩:=Option.isSome_iff_exists.mp hs
  obtain⟨_,hE,hvW,_,m,ws,t,_,g,ht,hne⟩:=o.wr v hv
  have h4:=tb.wn
  by_cases hn:ds.length<=s.W.length
  ·have h5:=k.right l.wf l.co tb g hn hvW
   have h6:Bz hm (Ak hw v)=t:=l.co _ (Je ht)
   exact absurd (h6.symm.trans h5) hne
  ·omega
 refine⟨h1,?_,l.j.few o (by have:=tb.wn;omega) (by omega) hr,fun hw'=>?_⟩
 ·cases hw':s.wr with
  | none=>have:=l.j.d0 hw';omega
  | some v=>have:=l.j.d1 (by rw[hw'];rfl);omega
 ·have:=l.j.d0 hw';omega
theorem Zh {s s':AS}{x:Wish}(h:Df s=(s',some x)):∀ m ws,x ≠ .done m ws:=by
 intro m ws e
 subst e
 unfold Df at h
 split at h
 ·cases h
 ·split at h
  ·split at h
   ·unfold LY at h
    split at h<;>cases h
   ·cases h
  ·unfold Gb at h
   split at h
   ·split at h<;>cases h
   ·split at h<;>cases h
theorem Goes.nd41 {s s':AS}{x:Wish}(g:Goes s s' x):∀ m ws,x ≠ .done m ws:=by
 induction g with
 | stop h=>exact Zh h
 | more _ _ ih=>exact ih
def Nn41 (H:Hp)(ad:AD):Prop:=H ad.d=none/\H ad.pw=none/\H ad.pe=none/\H ad.pg=none
theorem Nn41.same {H H1 H2:Hp}{a:Addr}{ad:AD}(n:Nn41 H ad)(ha:H a=none)(s:Same H H1)(f:Frm H1 H2 a ad):Same H H2:=fun y o hy=>f.1 y o (s y o hy) (fun z=>by rw[z,ha] at hy;cases hy) (fun z=>by rw[z,n.1] at hy;cases hy) (fun z=>by rw[z,n.2.1] at hy;cases hy) (fun z=>by rw[z,n.2.2.1] at hy;cases hy) (fun z=>by rw[z,n.2.2.2] at hy;cases hy)
theorem Nn41.next {H H1:Hp}{ad ad':AD}(n:Nn41 H ad)(s:Same H H1)(k:AdOk H1 ad ad'):Nn41 H ad':=by
 obtain⟨k1,k2,k3,k4,k5,k6⟩:=k
 refine⟨by rw[k3];exact n.1,by rw[k4];exact n.2.1,by rw[k5];exact n.2.2.1,?_⟩
 rcases k6 with k6 | k6
 ·rw[k6];exact n.2.2.2
 ·exact s.none k6
def Z9 (K:PySem.W.Frag):Sp:=fun vs H Q _=>∃ (a:Addr) (ns:List Int),vs=[.ref a]/\SqL K H a (ns.map V.int)/\ns.length<=63/\∀ H',Q (.bl true) H'
theorem Dp_ {f:Addr}{fd:FuncData}(F:Fun K "law" "law" Sb f fd)(T:Txt mg)
  (W:Own K mg C_Book C_Turns C_Hunt C_Asker)
  (Z:Exs K mg C_AskError C_BadWord C_BadMark C_OutOfTurn C_NoDifference C_Contradiction)
  {B0:Addr} {GO:FuncData} (FL:FnOk P w K mg base CX0 1 B0 GO ["self"] (WK K C_Asker C_Book)) (FM:Fun K "wants" "Turns.wants" C6 B0 GO) (FN:Binds K GO ["self"] []) (FO:Meth K C_Asker "wants" B0)
  {Cw:Addr} {HI:FuncData} (Jp:FnOk P w K mg base (CXe P w) 2 Cw HI ["self"] (WM K C_Asker C_Book C_OutOfTurn)) (Gv:Fun K "agree" "Hunt.agree" DC Cw HI) (Jq:Binds K HI ["self"] []) (Jr:Meth K C_Asker "agree" Cw)
  {Cy:Addr} {HJ:FuncData} (Js:FnOk P w K mg base CX0 13 Cy HJ ["self", "letters", "most"] (WO K C_Asker C_Book)) (Gw:Fun K "__init__" "Asker.__init__" DF Cy HJ) (Jt:Binds K HJ ["self", "letters", "most"] []) (Ju:Mk K C_Asker Cy)
  {Cz:Addr} {HK:FuncData} (Jv:FnOk P w K mg base (CXe P w) 14 Cz HK ["self", "mark"] (Sr K C_Asker C_Book C_OutOfTurn C_BadMark)) (Gx:Fun K "hear" "Asker.hear" DH Cz HK) (Jw:Binds K HK ["self", "mark"] []) (Jx:Meth K C_Asker "hear" Cz)
  {BG:Addr} {Gf:FuncData} (GP:FnOk P w K mg base (CXe P w) 14 BG Gf ["self", "word", "mark"] (WN K C_Asker C_Book C_OutOfTurn C_BadWord C_BadMark C_NoDifference C_Contradiction)) (Fs:Fun K "differ" "Asker.differ" CH BG Gf) (GQ:Binds K Gf ["self", "word", "mark"] []) (GR:Meth K C_Asker "differ" BG)
  {Bh:Addr} {Cg:FuncData} (BC:FnOk P w K mg base CX0 1 Bh Cg ["script", "k"] (VD K)) (Bi:Fun K "_law_cell_at" "_law_cell_at" B5 Bh Cg) (BD:Binds K Cg ["script", "k"] []) (BE:mg "_law_cell_at" = some (.ref Bh))
  {Ch:Addr} {FE:FuncData} (Gg:FnOk P w K mg base CX0 2 Ch FE ["script"] (WP K)) (DV:Fun K "_law_house_by" "_law_house_by" Cc Ch FE) (Gh:Binds K FE ["script"] []) (Gi:mg "_law_house_by" = some (.ref Ch))
  {Bx:Addr} {CS:FuncData} (Cs:FnOk P w K mg base CX0 1 Bx CS ["house", "word"] (K3 K)) (BF:Fun K "_law_answer" "_law_answer" Ck Bx CS) (Ct:Binds K CS ["house", "word"] []) (Cu:mg "_law_answer" = some (.ref Bx))
  {CT:Addr} {Gj:FuncData} (GS:FnOk P w K mg base CX0 2 CT Gj ["house"] (WR K)) (Ea:Fun K "_law_classes" "_law_classes" CJ CT Gj) (GT:Binds K Gj ["house"] []) (GU:mg "_law_classes" = some (.ref CT))
  {DW:Addr} {HL:FuncData} (Jy:FnOk P w K mg base CX0 2 DW HL ["found", "letters", "most"] (RG K)) (Fz:Fun K "_law_kinds" "_law_kinds" DJ DW HL) (Jz:Binds K HL ["found", "letters", "most"] []) (JA:mg "_law_kinds" = some (.ref DW))
  {BQ:Addr} {Fl:FuncData} (FF:FnOk P w K mg base CX0 2 BQ Fl ["house", "shown", "cell"] (WT K)) (Dh:Fun K "_law_objection" "_law_objection" BK BQ Fl) (FG:Binds K Fl ["house", "shown", "cell"] []) (FH:mg "_law_objection" = some (.ref BQ))
  {BR:Addr} {Fm:FuncData} (Di:FnOk P w K mg base CX0 1 BR Fm ["m", "letters"] (UC K)) (BS:Fun K "_law_most_asks" "_law_most_asks" BL BR Fm) (Dj:Binds K Fm ["m", "letters"] []) (Dk:mg "_law_most_asks" = some (.ref BR))
  : FnOk P w K mg base CX0 15 f fd ["script"] (Z9 K):=by
 refine F.ok F3 (fun vs H Q E h=>?_) (fun cdv A outer s H vs Q E hr h=>?_)
 ·obtain⟨a,ns,rfl,_⟩:=h;rfl
 ·obtain⟨a,ns,rfl,hs,hz,k⟩:=h
  have hl:=Ap
  refine⟨_,(Ab (As (i:=1) F3.nd rfl (Or.inl rfl) (AE Gg (hr.mono (by decide)) rfl Gi DV.kp Gh .nil Bn (Aa (pv 0) Ae)))
   (Ab (As (i:=2) F3.nd rfl (Or.inl rfl) (AU AF (pv 1) Ag (fun _ _=>rfl)))
   (Ab (As (i:=3) F3.nd rfl (Or.inl rfl) (AE GS (hr.mono (by decide)) rfl GU Ea.kp GT .nil Bn (Aa (pv 1) Ae)))
   (Ab (As (i:=4) F3.nd rfl (Or.inl rfl) (A9 D4 Ag (A9 EH (AE BC (hr.mono (by decide)) rfl BE Bi.kp BD .nil Bn (Aa (pv 0) (Aa Ag Ae))) Ag)))
   (Ab (As (i:=5) F3.nd rfl (Or.inl rfl) (AZ (T2 rfl) rfl T.min PyProof.Rows.boot_min (Aa (pv 3) (Aa (A9 D4 (pv 4) Ag) Ae))))
   (Ab (As (i:=6) F3.nd rfl (Or.inl rfl) (Yd Ju Js (hr.mono (by decide)) rfl W.m_Asker Jt .nil Bn (Aa (pv 2) (Aa (pv 4) Ae))))
   (Ab (As (i:=7) F3.nd rfl (Or.inl rfl) Ag)
   (Ab (As (i:=8) F3.nd rfl (Or.inl rfl) Ag)
   (Ab (Dv PassesOwn.never rfl (DB rfl T.range (Aa (A9 D4 (A9 D4 (AE Di (hr.mono (by decide)) rfl Dk BS.kp Dj .nil Bn (Aa (pv 5) (Aa (pv 2) Ae))) (pv 3)) Ag) Ae)) (AK (i:=9) F3.nd rfl (Or.inl rfl))
   (Ab (As (i:=10) F3.nd rfl (Or.inl rfl) (Cj (pv 6) W.cl_Asker FO FL (hr.mono (by decide)) FN .nil Bn))
   (Af (DX (A0 Qk (AU AF (pv 10) Ag (fun _ _=>rfl)) EG (Bl _))
   (Ab (As (i:=7) F3.nd rfl (Or.inl rfl) (A9 D4 (pv 7) Ag))
   (Af (Bm (C4 (pv 6) W.cl_Asker Jx Jv (hr.mono (by decide)) Jw .nil (Mj (P:=P) (w:=w)) (Aa (AE Cs (hr.mono (by decide)) rfl Cu BF.kp Ct .nil Bn (Aa (pv 1) (Aa (AU AF (pv 10) Ag (fun _ _=>rfl)) Ae))) Ae)))))
   (Af (DX (A0 Qk (AU AF (pv 10) Ag (fun _ _=>rfl)) EG (Bl _))
   (Ab (As (i:=8) F3.nd rfl (Or.inl rfl) (A9 D4 (pv 8) Ag))
   (Ab (DX (II (HM (AE Jy (hr.mono (by decide)) rfl JA Fz.kp Jz .nil Bn (Aa (AU AF (pv 10) Ag (fun _ _=>rfl)) (Aa (pv 2) (Aa (AZ (T2 rfl) rfl T.min PyProof.Rows.boot_min (Aa (pv 3) (Aa (pv 4) Ae))) Ae))))))
   (Af (Au LL))
   Bq)
   (Ab (As (i:=11) F3.nd rfl (Or.inl rfl) (AE FF (hr.mono (by decide)) rfl FH Dh.kp FG .nil Bn (Aa (pv 1) (Aa (AU AF (pv 10) Ag (fun _ _=>rfl)) (Aa (AE BC (hr.mono (by decide)) rfl BE Bi.kp BD .nil Bn (Aa (pv 0) (Aa (A9 D4 Ag (pv 8)) Ae))) Ae)))))
   (Ab (DX (A0 N1 (pv 11) E4 (Bl _))
   (Ab (Bm (Cj (pv 6) W.cl_Asker Jr Jp (hr.mono (by decide)) Jq .nil (Mj (P:=P) (w:=w))))
   (Ab (As (i:=12) F3.nd rfl (Or.inl rfl) (Ru (Hf (CG_ 8 (hu9 hr)) (Cj (pv 6) W.cl_Asker FO FL (hr.mono (by decide)) FN .nil Bn) (Et (Aa EG (Aa (AU AF (pv 10) Ag (fun _ _=>rfl)) Ae))) (Bl _)) (Ru (Hf Qk (AZ AT (by rfl) T.len PySem.boot_len (Aa (AU AF (AU AF (pv 10) Ag (fun _ _=>rfl)) Ag (fun _ _=>rfl)) Ae)) (pv 3) (Bl _)) (XZ (Hf U6 (pv 3) (pv 4) (Bl _))))))
   (Af (Au (Ru (pv 12) (Ru (Hf U6 (pv 8) (pv 3) (Bl _)) (XZ (Hf U6 (pv 7) (AE Di (hr.mono (by decide)) rfl Dk BS.kp Dj .nil Bn (Aa (pv 3) (Aa (pv 2) Ae))) (Bl _)))))))))
   Bq)
   (Af (Bm (C4 (pv 6) W.cl_Asker GR GP (hr.mono (by decide)) GQ .nil (Mj (P:=P) (w:=w)) (Aa (pv 11) (Aa (AE Cs (hr.mono (by decide)) rfl Cu BF.kp Ct .nil Bn (Aa (pv 1) (Aa (pv 11) Ae))) Ae)))))))))
   (Af (Au (Ru (Hf Qk (AU AF (pv 10) Ag (fun _ _=>rfl)) EG (Bl _)) (Ru (Hf Zw (pv 3) (pv 4) (Bl _)) (XZ (Hf U6 (pv 7) (AE Di (hr.mono (by decide)) rfl Dk BS.kp Dj .nil Bn (Aa (pv 5) (Aa (pv 2) Ae))) (Bl _)))))))))))))
   (Af (Au LL))))))))))),?_⟩
  walk_at "rd"
  refine⟨a,ns,rfl,hs,by omega,fun h L hm hw H1 s1 hh wf hL hn=>?_⟩
  dsimp only
  obtain⟨tm,tw,q1,q2,q3⟩:=id hh
  refine⟨h,rfl,_,q1,_,rfl,h,L,hm,hw,rfl,hh,wf,fun cl ds H2 s2 kc=>?_⟩
  dsimp only
  have S2:=s1.trans s2
  have hs2:=S2.seq hs
  have hh2:=hh.mono s2
  have L1:1<=L:=by have:=wf.l1;omega
  have L6:L<=6:=by have:=wf.l6;omega
  have c0:=Int.emod_nonneg (cell ns 3) (show (5:Int)≠0 by decide)
  have c1:=Int.emod_lt_of_pos (cell ns 3) (show (0:Int)<5 by decide)
  obtain⟨mo,hmo,mo1,mo5⟩:∃ n:Nat,1+cell ns 3%5=(n:Int)/\1<=n/\n<=5:=⟨(1+cell ns 3%5).toNat,by omega,by omega,by omega⟩
  have hds4:ds.length<=4:=by
   have:=kc.ge wf (fun _ _=>rfl)
   omega
  refine⟨a,ns,3,rfl,hs2,_,rfl,by decide,_,rfl,fun aa dx haN hdN hne=>?_⟩
  rw[hmo]
  have sN:Same H2 (upd (upd H2 dx (.own aa)) aa (.ins C_Asker dx [])):=fun y o hy=>by
   rw[Ah (fun z=>by rw[z,haN] at hy;cases hy),Ah (fun z=>by rw[z,hdN] at hy;cases hy)];exact hy
  refine⟨aa,dx,L,mo,rfl,Ac,L1,L6,mo1,by omega,fun ad H3 s x wv go hA hW hf hn2 hnew=>⟨rfl,?_⟩⟩
  have hyN:∀ y o,H2 y=some o->y≠aa:=fun y o hy z=>by rw[z,haN] at hy;cases hy
  have S23:Same H2 H3:=fun y o hy=>hf y o (sN y o hy) (hyN y o hy)
  have nn0:Nn41 H2 ad:=⟨sN.none hnew.1,sN.none hnew.2.1,sN.none hnew.2.2.1,sN.none hnew.2.2.2⟩
  have ok0:=Za (L:=L) (most:=mo) 400 L1 L6 mo1 (by omega)
  obtain⟨okx,kp⟩:=go.ok ok0
  obtain⟨j,jx⟩:=Goes.J41 go ok0 (J41.start L mo)
  have eL:s.L=L:=kp.l
  have em:s.most=mo:=kp.m
  have ee:s.es=[]:=kp.e
  have led:Led41 s x hm hw 0:=⟨okx,j,jx,(by rw[ee];intro p hp;cases hp),by rw[eL];exact wf,by rw[em];exact mo5⟩
  have hmin:(if (mo:Int)+1<(ds.length:Int) then (mo:Int)+1 else (ds.length:Int))=((min ds.length (mo+1):Nat):Int):=by split<;>omega
  rw[hmin]
  have kc':Cls41 s.L hm hw cl ds:=by rw[eL];exact kc
  obtain⟨b1,_⟩:=led.bound kc'
  obtain⟨y0,o0⟩:=WOk.okx41 okx
  have W1:1<=s.W.length:=(List.getElem?_eq_some_iff.mp o0.tb.w0).1
  obtain⟨M,hM⟩:∃ M,M=min ds.length (mo+1):=⟨_,rfl⟩
  rw[<- hM]
  have M1:1<=M:=by omega
  have M4:M<=4:=by omega
  obtain⟨PP,hPP⟩:∃ P,P=(1+M*L)*M:=⟨_,rfl⟩
  have hPc:(1+(M:Int)*(L:Int))*(M:Int)=(PP:Int):=by rw[hPP];simp
  have hP4:PP<=(1+4*6)*4:=by rw[hPP];exact Nat.mul_le_mul (Nat.add_le_add_left (Nat.mul_le_mul M4 L6) 1) M4
  refine⟨M,L,rfl,by omega,by omega,by omega,by omega,_,rfl,_,rfl,?_⟩
  rw[hPc]
  refine⟨by omega,by omega,?_⟩
  rw[show ((PP:Int)+10*((M:Int)-1)+(ds.length:Int)+1).toNat=PP+10*(M-1)+ds.length+1 by omega]
  obtain⟨Pv,hPv⟩:∃ Pv:Nat->St->Hp->Prop,∀ i σ' H',Pv i σ' H'↔(∃ (ad1:AD) (s1:AS) (wv1:V) (x1:Wish) (d:Nat) (o1 o2 o3:Option V),Asks K C_Asker C_Book H' aa ad1 s1 wv1/\EF K H' s1.L wv1 x1/\Led41 s1 x1 hm hw d/\s1.L=L/\s1.most=mo/\(∀ m ws,x1 ≠ .done m ws)/\Same H2 H'/\Nn41 H2 ad1/\s1.es.length=i/\σ'=[some (.ref a),some (.ref h),some (.int L),some (.int ds.length),some (.int mo),some (.int M),some (.ref aa),some (.int ((i:Int)-(d:Int))),some (.int d),o1,o2,o3,none]):=⟨_,fun _ _ _=>Iff.rfl⟩
  refine forR Pv ((hPv _ _ _).mpr ⟨ad,s,wv,x,0,none,none,none,hA,by rw[eL];exact hW,led,eL,em,go.nd41,S23,nn0,by rw[ee];rfl,rfl⟩) (fun i σ4 H4 hi h4=>?_) (fun σ4 H4 h4=>?_)
  ·obtain⟨ad1,s1',wv1,x1,d,o1,o2,o3,hA1,hx1,led1,eL1,em1,hnd,S4,nn,hlen,rfl⟩:=(hPv _ _ _).mp h4
   obtain⟨gv,rv,zs,ys,us,A1⟩:=id hA1
   obtain⟨t,u,rfl,ht,hu⟩:=id hx1
   have kc1:Cls41 s1'.L hm hw cl ds:=by rw[eL1];exact kc
   obtain⟨bW,bd',bE,b0⟩:=led1.bound kc1
   rw[eL1,em1,<- hM,<- hPP] at bE
   have hh4:GX K H4 h s1'.L hm hw:=by rw[eL1];exact hh2.mono S4
   have wf1:=led1.wf
   walk_at "rd"
   refine⟨_,_,A1.ob,by kernel_rfl,aa,ad1,s1',_,rfl,hA1,t,rfl,_,SqT.of ht,_,rfl,rfl,?_⟩
   cases x1 with
   | ask c =>
    rw[if_pos (show V.str (Wish.tag (.ask c))=V.str ("ask" : Str) from rfl)]
    obtain⟨okc,hno,hc,hcl,hg⟩:=id led1.ok
    have ha:=Z8 wf1 hc
    have e1:(i:Int)-(d:Int)+1=((i+1:Nat):Int)-(d:Int):=by push_cast;omega
    rw[e1]
    refine⟨_,_,A1.ob,by kernel_rfl,t,rfl,_,SqT.of ht,_,rfl,h,u,s1'.L,hm,hw,c,rfl,hh4,wf1,SqT.of hu,hc,aa,ad1,s1',_,.ask c,400,_,rfl,hA1,hx1,led1.ok,led1.bd,by omega,fun z=>absurd rfl z,fun c' e=>?_⟩
    cases e
    refine⟨fun z=>absurd ha z,fun _ _ ad2 H5 s2' x2 wv2 go2 hA2 hw2 f2 k2=>?_⟩
    obtain⟨led2,hl2,eL2,em2⟩:=led1.ask go2
    exact (hPv _ _ _).mpr ⟨ad2,s2',wv2,x2,d,_,_,_,hA2,by rw[eL2];exact hw2,led2,eL2.trans eL1,em2.trans em1,go2.nd41,nn.same haN S4 f2,nn.next S4 k2,by omega,rfl⟩
   | shown m ws =>
    rw[if_neg (show ¬ V.str (Wish.tag (.shown m ws))=V.str ("ask" : Str) from fun z=>absurd (V.str.inj z) (show ¬ ("show" : Str) = "ask" by decide +kernel))]
    refine⟨t,rfl,_,SqT.of ht,_,rfl,rfl,?_⟩
    rw[if_pos (show V.str (Wish.tag (.shown m ws))=V.str ("show" : Str) from rfl)]
    obtain⟨ok0,hG,hwr,hgs,gu,hall⟩:=id led1.ok
    have wfg:=ok0.tb.wf gu
    have hml:=gu.ml
    have hWm:=ok0.tb.wn
    have hu':HouT K H4 u (L:Int) m ws:=by rw[<- eL1];exact hu
    have wfg':Wf (L:Int) m ws:=by rw[<- eL1];exact wfg
    have hbd0:=b0 hwr
    refine⟨t,rfl,_,SqT.of ht,_,rfl,u,L,m,ws,_,rfl,hu',wfg',by split<;>omega,fun H5 s5=>⟨true,rfl,?_⟩⟩
    rw[if_neg (by decide)]
    have S5:=S4.trans s5
    refine⟨t,rfl,_,SqT.of (s5 _ _ ht),_,rfl,a,ns,4+(d+1),by simp,S5.seq hs2,h,u,L,hm,m,hw,ws,_,rfl,hh2.mono S5,wf,HouT.house (HouT.mono hu' (TK.of s5)),wfg',hn,by omega,fun H6 s6 hno=>?_,fun tw' w H6 s6 htw hwd hwl htl=>?_⟩
    ·dsimp only
     rw[if_pos rfl]
     have s56:=s5.trans s6
     have A6:=A1.same s56
     refine⟨_,_,A6.ob,by kernel_rfl,aa,ad1,s1',_,.shown m ws,rfl,⟨_,_,_,_,_,A6⟩,hx1.mono (TK.of s56),fun z=>absurd rfl z,fun mm ws' e H7 wv7 hA7 hw7 f7=>?_⟩
     cases e
     obtain⟨gv7,rv7,zs7,ys7,us7,A7⟩:=id hA7
     have tk7:=A6.tk f7
     have ht7:=tk7 _ _ (s56 _ _ ht)
     have hu7:=(HouT.mono hu (TK.of s56)).mono tk7
     refine⟨_,_,A7.ob,by kernel_rfl,aa,ad1,s1',wv7,rfl,hA7,t,rfl,_,SqT.of ht7,_,rfl,by omega,fun p hp=>?_⟩
     have sP:=Same.new hp (o:=.tup [V.str "done",V.ref u])
     have hw8:=hw7.mono (TK.of sP)
     have hd8:EF K (upd H7 p (.tup [V.str "done",V.ref u])) s1'.L (.ref p) (.done m ws):=⟨p,u,rfl,Ac,hu7.mono (TK.of sP)⟩
     have heq:=EF.eq43 hw8 hd8 4
     obtain⟨t7,u7,rfl,g1,g2⟩:=id hw7
     obtain⟨tm',tw',zs',v1,v2,v3,v4⟩:=hu7.mono (TK.of sP)
     refine⟨t7,rfl,true,heq,?_⟩
     rw[if_pos rfl]
     refine⟨t,rfl,_,SqT.of (sP _ _ ht7),_,rfl,u,rfl,_,SqT.of v1,_,rfl,tm',rfl,_,.inr (SqT.of v2),?_⟩
     have hge:=kc1.ge wfg (fun v hv=>by
      refine Decidable.byContradiction fun z=>hno v (by rw[<- eL1];exact hv) z)
     have hMn:M=ds.length:=by omega
     rw[List.length_map,if_pos (by omega),if_pos (by omega),if_pos (by omega)]
     refine⟨ds.length,L,rfl,by omega,by omega,by omega,by omega,_,rfl,?_⟩
     rw[<- hMn,hPc,decide_eq_true (by omega)]
     exact k _
    ·dsimp only
     rw[if_neg (by simp)]
     have s56:=s5.trans s6
     have A6:=A1.same s56
     have hwd1:isW s1'.L w=true:=by rw[eL1];exact hwd
     have ha:=Z8 wf1 hwd1
     have hne:Bz m (Ak ws w)≠Bz hm (Ak hw w):=fun z=>htl z.symm
     have e1:(i:Int)-(d:Int)=((i+1:Nat):Int)-((d+1:Nat):Int):=by push_cast;omega
     have e2:(d:Int)+1=((d+1:Nat):Int):=by push_cast;rfl
     rw[e1,e2]
     refine⟨_,_,A6.ob,by kernel_rfl,h,tw',s1'.L,hm,hw,w,rfl,hh4.mono s56,wf1,SqT.of htw,hwd1,aa,tw',ad1,s1',_,.shown m ws,400,w,_,rfl,⟨_,_,_,_,_,A6⟩,hx1.mono (TK.of s56),led1.ok,led1.bd,by omega,htw,by omega,fun z=>absurd rfl z,fun mm ws' e=>?_⟩
     cases e
     refine⟨fun z=>(by rw[hwd1] at z;cases z),fun _ z=>absurd ha z,fun _ _ _=>⟨fun z=>absurd z hne,fun _ hin=>?_,fun _ _=>⟨by omega,fun ad2 H7 s2' x2 wv2 go2 hA2 hw2 f2 k2=>?_⟩⟩⟩
     ·exfalso
      obtain⟨p,hp,rfl⟩:=List.mem_map.mp hin
      exact hne ((hall p hp).trans (led1.co p hp).symm)
     ·obtain⟨led2,hl2,eL2,em2⟩:=led1.obj hwd1 hwl hne go2
      exact (hPv _ _ _).mpr ⟨ad2,s2',wv2,x2,d+1,_,_,_,hA2,by rw[eL2];exact hw2,led2,eL2.trans eL1,em2.trans em1,go2.nd41,nn.same haN (S4.trans s56) f2,nn.next (S4.trans s56) k2,by omega,rfl⟩
   | done m ws=>exact absurd rfl (hnd m ws)
   | spent r =>
    rw[if_neg (show ¬ V.str (Wish.tag (.spent r))=V.str ("ask" : Str) from fun z=>absurd (V.str.inj z) (show ¬ ("spent" : Str) = "ask" by decide +kernel))]
    refine⟨t,rfl,_,SqT.of ht,_,rfl,rfl,?_⟩
    rw[if_neg (show ¬ V.str (Wish.tag (.spent r))=V.str ("show" : Str) from fun z=>absurd (V.str.inj z) (show ¬ ("spent" : Str) = "show" by decide +kernel))]
    obtain⟨ok0,hG,hwr,hWm,hrr,hrW,hrw,hrl,hap⟩:=id led1.ok
    have hmore:=kc1.more led1.co ok0.tb hrw hap
    refine⟨t,rfl,_,SqT.of ht,_,rfl,rfl,?_⟩
    rw[if_pos (show V.str (Wish.tag (.spent r))=V.str ("spent" : Str) from rfl),if_pos (by omega)]
    refine⟨M,L,rfl,by omega,by omega,by omega,by omega,_,rfl,?_⟩
    rw[hPc,decide_eq_true (by omega)]
    exact k _
  ·obtain⟨ad1,s1',wv1,x1,d,o1,o2,o3,hA1,hx1,led1,eL1,em1,hnd,S4,nn,hlen,rfl⟩:=(hPv _ _ _).mp h4
   have kc1:Cls41 s1'.L hm hw cl ds:=by rw[eL1];exact kc
   obtain⟨bW,bd',bE,b0⟩:=led1.bound kc1
   rw[eL1,em1,<- hM,<- hPP] at bE
   omega
end
theorem all_mk {l:PySem.W.OpenLaw}{w:World}{K:PySem.W.Frag}{h:Heap}{mg:Str->Option Value}{fa B0 Aj Cw De F4 BI F6 AC Hz BB DL KL Ai Db Ar AR BV Fh Be Ce Fi AV Co CM Dd AW AH Fj Az Bj AA C2 DU AY Cy F5 DK Bp B9 AX Cz AB BG Bh Ch Bx CN CT CP DW By BQ BR Cb_:Addr}(X:K.In h)(G:h.Ns mainGlobals mg)(hfa:mg "law" = some (.ref fa))
  {C_AskError C_BadWord C_BadMark C_OutOfTurn C_NoDifference C_Contradiction C_Book C_Turns C_Hunt C_Asker:Addr}
  {Qz QA:Option Addr} {QB:Array (Option Value)} {QC QD QE QF Km QG:Value}
  {Ka Kb:Option Addr} {Kc:Array (Option Value)} {Kd Ke Kf Kg FJ Kh:Value}
  {Sy SA:Option Addr} {SB:Array (Option Value)} {SC SD SE SF L5 SG:Value}
  {UE UF:Option Addr} {UG:Array (Option Value)} {UH UI UJ UK No UL:Value}
  {Xv Xw:Option Addr} {Xx:Array (Option Value)} {Xy Xz XA XB RI XC:Value}
  {SH SI:Option Addr} {SJ:Array (Option Value)} {SK SL SM SN L7 SO:Value}
  {Aa_ Ab_:Option Addr} {Ac_:Array (Option Value)} {Ad_ Ae_ Af_ Ag_ WV Ah_:Value}
  {UM UN:Option Addr} {UO:Array (Option Value)} {UP UQ UR US Np UT:Value}
  {Zi Zj:Option Addr} {Zk:Array (Option Value)} {Zl Zm Zn Zo UU Zp:Value}
  {OM ON:Option Addr} {OO:Array (Option Value)} {OP OQ OR OS JB OU:Value}
  {XD XE:Option Addr} {XF:Array (Option Value)} {XG XH XI XJ RJ XL:Value}
  {Ai_ Aj_:Option Addr} {Ak_:Array (Option Value)} {Al_ Am_ An_ Ao_ WW Ap_:Value}
  {Ih Ii:Option Addr} {Ij:Array (Option Value)} {Ik Il Im Io E7 Ip:Value}
  {QH QI:Option Addr} {QJ:Array (Option Value)} {QK QL QM QN Kn QO:Value}
  {QP QQ:Option Addr} {QR:Array (Option Value)} {QS QT QU QV Ko QW:Value}
  {OV OW:Option Addr} {OX:Array (Option Value)} {OY OZ O0 O1 JC O2:Value}
  {QX QY:Option Addr} {QZ:Array (Option Value)} {Q0 Q1 Q2 Q3 Kp Q4:Value}
  {VG VH:Option Addr} {VI:Array (Option Value)} {VJ VL VM VN O3 VO:Value}
  {O4 O5:Option Addr} {O6:Array (Option Value)} {O7 O8 O9 Pa JD Pb:Value}
  {Ny Nz:Option Addr} {NA:Array (Option Value)} {NB NC NE NF HZ NG:Value}
  {VP VQ:Option Addr} {VR:Array (Option Value)} {VS VT VU VV Pf VW:Value}
  {K6 K7:Option Addr} {K8:Array (Option Value)} {K9 La Lb Lc Gk Ld:Value}
  {SQ SR:Option Addr} {SS:Array (Option Value)} {ST SU SV SW L8 SX:Value}
  {Pg Ph:Option Addr} {Pi:Array (Option Value)} {Pj Pk Pl Pm JE Po:Value}
  {Q5 Q6:Option Addr} {Q7:Array (Option Value)} {Q8 Q9 Ra Rb Kq Rc:Value}
  {Le Lf:Option Addr} {Lg:Array (Option Value)} {Lh Li Lj Lk Gm Ll:Value}
  {JF JG:Option Addr} {JH:Array (Option Value)} {JI JJ JK JL FA JM:Value}
  {VX VY:Option Addr} {VZ:Array (Option Value)} {V0 V1 V2 V3 Pp V4:Value}
  {Iq Ir:Option Addr} {Iu:Array (Option Value)} {Iv Iw Ix Iy E8 Iz:Value}
  {MO MP:Option Addr} {MQ:Array (Option Value)} {MR MS MT MU Hc MV:Value}
  {Re Rf:Option Addr} {Rg:Array (Option Value)} {Rh Ri Rj Rk Kr Rl:Value}
  {SY SZ:Option Addr} {S0:Array (Option Value)} {S1 S6 S7 S8 L9 S9:Value}
  {UV UW:Option Addr} {UX:Array (Option Value)} {UY UZ U0 U1 Nq U2:Value}
  {Lm Ln:Option Addr} {Lo:Array (Option Value)} {Lp Lq Lr Ls Gn Lu:Value}
  {Ta Tc:Option Addr} {Td:Array (Option Value)} {Te Tf Tg Th Ma Ti:Value}
  {XM XN:Option Addr} {XO:Array (Option Value)} {XQ XR XS XT RK XU:Value}
  {Tj Tk:Option Addr} {Tl:Array (Option Value)} {Tm Tn To Tp Mb Tq:Value}
  {Tr Ts:Option Addr} {Tt:Array (Option Value)} {Tu Tv Tw Tx Mc Ty:Value}
  {V5 V6:Option Addr} {V7:Array (Option Value)} {V8 V9 Wa Wb Pq Wc:Value}
  {Lv Lw:Option Addr} {Lx:Array (Option Value)} {Ly Lz LA LB Go LC:Value}
  {Tz TB:Option Addr} {TC:Array (Option Value)} {TD TF TH TJ Md TL:Value}
  {IA IB:Option Addr} {IC:Array (Option Value)} {ID IE IF IG E9 IH:Value}
  {Pr Ps:Option Addr} {Pt:Array (Option Value)} {Pu Px PB PD JN PH:Value}
  {PJ PK:Option Addr} {PL:Array (Option Value)} {PM PN PQ PR JO PU:Value}
  {NH NI:Option Addr} {NJ:Array (Option Value)} {NK NL NM NN H9 NO:Value}
  {Rm Rn:Option Addr} {Ro:Array (Option Value)} {Rp Rq Rr Rs Ks Rt:Value}
  {PV PX:Option Addr} {PY:Array (Option Value)} {PZ P0 P1 P2 JP P3:Value}
  {P4 P5:Option Addr} {P6:Array (Option Value)} {P7 P8 P9 Qa JQ Qb:Value}
  {Qc Qd:Option Addr} {Qe:Array (Option Value)} {Qf Qg Qh Qi JR Qj:Value}
  {TM TN:Option Addr} {TQ:Array (Option Value)} {TR TU TV TW Me TX:Value}
  {LD LE:Option Addr} {LF:Array (Option Value)} {LG LH LI LJ Gp LK:Value}
  {MW MX:Option Addr} {MY:Array (Option Value)} {MZ M0 M3 M5 Hd M6:Value}
  {M7 M8:Option Addr} {M9:Array (Option Value)} {Na Nb Nd Nf He Ng:Value}
  {Dq_ Bi_:Option Addr} {Dr_:Array (Option Value)} {Ds_ Bj_ Bk_ Bl_ Zq Bm_:Value}
  (aC_Book:PySem.W.nsIn K mainGlobals "Book" = some (some (.ref C_Book)))
  (pg_Book:PySem.W.plainGet K C_Book Str.empty=true)
  (hd_Book:PySem.W.hasDictIn K C_Book=true)
  (po_Book:PySem.W.plainOver K C_Book=true)
  (sa_Book:PySem.W.findIn K (.ref C_Book) "__setattr__" = some (some (.builtin "object.__setattr__")))
  (mk_Book:PySem.W.makesIn K C_Book=true)
  (kc_Book:PySem.W.keepIn K (.ref C_Book)=true)
  (n_letters_Book:PySem.W.findIn K (.ref C_Book) "letters" = some none)
  (n_marks_Book:PySem.W.findIn K (.ref C_Book) "marks" = some none)
  (aC_Turns:PySem.W.nsIn K mainGlobals "Turns" = some (some (.ref C_Turns)))
  (aC_Hunt:PySem.W.nsIn K mainGlobals "Hunt" = some (some (.ref C_Hunt)))
  (aC_Asker:PySem.W.nsIn K mainGlobals "Asker" = some (some (.ref C_Asker)))
  (pg_Asker:PySem.W.plainGet K C_Asker Str.empty=true)
  (hd_Asker:PySem.W.hasDictIn K C_Asker=true)
  (po_Asker:PySem.W.plainOver K C_Asker=true)
  (sa_Asker:PySem.W.findIn K (.ref C_Asker) "__setattr__" = some (some (.builtin "object.__setattr__")))
  (mk_Asker:PySem.W.makesIn K C_Asker=true)
  (kc_Asker:PySem.W.keepIn K (.ref C_Asker)=true)
  (n_wish_Asker:PySem.W.findIn K (.ref C_Asker) "wish" = some none)
  (n_letters_Asker:PySem.W.findIn K (.ref C_Asker) "letters" = some none)
  (n_most_Asker:PySem.W.findIn K (.ref C_Asker) "most" = some none)
  (n_book_Asker:PySem.W.findIn K (.ref C_Asker) "book" = some none)
  (n_ways_Asker:PySem.W.findIn K (.ref C_Asker) "ways" = some none)
  (n_ends_Asker:PySem.W.findIn K (.ref C_Asker) "ends" = some none)
  (n_gaps_Asker:PySem.W.findIn K (.ref C_Asker) "gaps" = some none)
  (n_guess_Asker:PySem.W.findIn K (.ref C_Asker) "guess" = some none)
  (n_wrong_Asker:PySem.W.findIn K (.ref C_Asker) "wrong" = some none)
  {tk_MOST_MARK:Tok} (q_MOST_MARK:PySem.W.nsIn K mainGlobals "MOST_MARK" = some (some (.int 1000000000 tk_MOST_MARK)))
  (a_Turns_wants:PySem.W.findIn K (.ref C_Asker) "wants" = some (some (.ref B0)))
  (i_Turns_wants:PySem.W.isFn K (.ref B0)=true)
  (l_Turns_wants:K.lookup B0=some ⟨QC,Qz,.func (PySem.W.fnOf "wants" "Turns.wants" (Am C6) (Al C6) (Ad C6) .none QD QE QF QA Km QG),QB⟩)
  (c_Turns_wants:PySem.W.codeIn K Km "Turns.wants" = true)
  (k_Turns_wants:PySem.W.keepIn K (.ref B0)=true)
  (a_Turns_check_wants:PySem.W.findIn K (.ref C_Asker) "check_wants" = some (some (.ref Aj)))
  (i_Turns_check_wants:PySem.W.isFn K (.ref Aj)=true)
  (l_Turns_check_wants:K.lookup Aj=some ⟨Kd,Ka,.func (PySem.W.fnOf "check_wants" "Turns.check_wants" (Am AL) (Al AL) (Ad AL) .none Ke Kf Kg Kb FJ Kh),Kc⟩)
  (c_Turns_check_wants:PySem.W.codeIn K FJ "Turns.check_wants" = true)
  (k_Turns_check_wants:PySem.W.keepIn K (.ref Aj)=true)
  (a_Hunt_agree:PySem.W.findIn K (.ref C_Asker) "agree" = some (some (.ref Cw)))
  (i_Hunt_agree:PySem.W.isFn K (.ref Cw)=true)
  (l_Hunt_agree:K.lookup Cw=some ⟨SC,Sy,.func (PySem.W.fnOf "agree" "Hunt.agree" (Am DC) (Al DC) (Ad DC) .none SD SE SF SA L5 SG),SB⟩)
  (c_Hunt_agree:PySem.W.codeIn K L5 "Hunt.agree" = true)
  (k_Hunt_agree:PySem.W.keepIn K (.ref Cw)=true)
  (a_Book_init:PySem.W.findIn K (.ref C_Book) "__init__" = some (some (.ref De)))
  (i_Book_init:PySem.W.isFn K (.ref De)=true)
  (l_Book_init:K.lookup De=some ⟨UH,UE,.func (PySem.W.fnOf "__init__" "Book.__init__" (Am Ei) (Al Ei) (Ad Ei) .none UI UJ UK UF No UL),UG⟩)
  (c_Book_init:PySem.W.codeIn K No "Book.__init__" = true)
  (k_Book_init:PySem.W.keepIn K (.ref De)=true)
  (a_is_word:PySem.W.nsIn K mainGlobals "is_word" = some (some (.ref F4)))
  (l_is_word:K.lookup F4=some ⟨Xy,Xv,.func (PySem.W.fnOf "is_word" "is_word" (Am FY) (Al FY) (Ad FY) .none Xz XA XB Xw RI XC),Xx⟩)
  (c_is_word:PySem.W.codeIn K RI "is_word" = true)
  (k_is_word:PySem.W.keepIn K (.ref F4)=true)
  (a_check_word:PySem.W.nsIn K mainGlobals "check_word" = some (some (.ref BI)))
  (l_check_word:K.lookup BI=some ⟨SK,SH,.func (PySem.W.fnOf "check_word" "check_word" (Am CZ) (Al CZ) (Ad CZ) .none SL SM SN SI L7 SO),SJ⟩)
  (c_check_word:PySem.W.codeIn K L7 "check_word" = true)
  (k_check_word:PySem.W.keepIn K (.ref BI)=true)
  (a_trail:PySem.W.nsIn K mainGlobals "trail" = some (some (.ref F6)))
  (l_trail:K.lookup F6=some ⟨Ad_,Aa_,.func (PySem.W.fnOf "trail" "trail" (Am IR) (Al IR) (Ad IR) .none Ae_ Af_ Ag_ Ab_ WV Ah_),Ac_⟩)
  (c_trail:PySem.W.codeIn K WV "trail" = true)
  (k_trail:PySem.W.keepIn K (.ref F6)=true)
  (a_Book_told:PySem.W.findIn K (.ref C_Book) "told" = some (some (.ref AC)))
  (i_Book_told:PySem.W.isFn K (.ref AC)=true)
  (l_Book_told:K.lookup AC=some ⟨UP,UM,.func (PySem.W.fnOf "told" "Book.told" (Am CD) (Al CD) (Ad CD) .none UQ UR US UN Np UT),UO⟩)
  (c_Book_told:PySem.W.codeIn K Np "Book.told" = true)
  (k_Book_told:PySem.W.keepIn K (.ref AC)=true)
  (a_halved:PySem.W.nsIn K mainGlobals "halved" = some (some (.ref Hz)))
  (l_halved:K.lookup Hz=some ⟨Zl,Zi,.func (PySem.W.fnOf "halved" "halved" (Am Hk) (Al Hk) (Ad Hk) .none Zm Zn Zo Zj UU Zp),Zk⟩)
  (c_halved:PySem.W.codeIn K UU "halved" = true)
  (k_halved:PySem.W.keepIn K (.ref Hz)=true)
  (a_Hunt_ask_for:PySem.W.findIn K (.ref C_Asker) "ask_for" = some (some (.ref BB)))
  (i_Hunt_ask_for:PySem.W.isFn K (.ref BB)=true)
  (l_Hunt_ask_for:K.lookup BB=some ⟨OP,OM,.func (PySem.W.fnOf "ask_for" "Hunt.ask_for" (Am CF) (Al CF) (Ad CF) .none OQ OR OS ON JB OU),OO⟩)
  (c_Hunt_ask_for:PySem.W.codeIn K JB "Hunt.ask_for" = true)
  (k_Hunt_ask_for:PySem.W.keepIn K (.ref BB)=true)
  (a_rows_of:PySem.W.nsIn K mainGlobals "rows_of" = some (some (.ref DL)))
  (l_rows_of:K.lookup DL=some ⟨XG,XD,.func (PySem.W.fnOf "rows_of" "rows_of" (Am Fu) (Al Fu) (Ad Fu) .none XH XI XJ XE RJ XL),XF⟩)
  (c_rows_of:PySem.W.codeIn K RJ "rows_of" = true)
  (k_rows_of:PySem.W.keepIn K (.ref DL)=true)
  (a_cells:PySem.W.nsIn K mainGlobals "cells" = some (some (.ref KL)))
  (l_cells:K.lookup KL=some ⟨Al_,Ai_,.func (PySem.W.fnOf "cells" "cells" (Am Kw) (Al Kw) (Ad Kw) .none Am_ An_ Ao_ Aj_ WW Ap_),Ak_⟩)
  (c_cells:PySem.W.codeIn K WW "cells" = true)
  (k_cells:PySem.W.keepIn K (.ref KL)=true)
  (a_Asker_look_for_gaps:PySem.W.findIn K (.ref C_Asker) "look_for_gaps" = some (some (.ref Ai)))
  (i_Asker_look_for_gaps:PySem.W.isFn K (.ref Ai)=true)
  (l_Asker_look_for_gaps:K.lookup Ai=some ⟨Ik,Ih,.func (PySem.W.fnOf "look_for_gaps" "Asker.look_for_gaps" (Am Av) (Al Av) (Ad Av) .none Il Im Io Ii E7 Ip),Ij⟩)
  (c_Asker_look_for_gaps:PySem.W.codeIn K E7 "Asker.look_for_gaps" = true)
  (k_Asker_look_for_gaps:PySem.W.keepIn K (.ref Ai)=true)
  (a_room_behind:PySem.W.nsIn K mainGlobals "room_behind" = some (some (.ref Db)))
  (l_room_behind:K.lookup Db=some ⟨QK,QH,.func (PySem.W.fnOf "room_behind" "room_behind" (Am C7) (Al C7) (Ad C7) .none QL QM QN QI Kn QO),QJ⟩)
  (c_room_behind:PySem.W.codeIn K Kn "room_behind" = true)
  (k_room_behind:PySem.W.keepIn K (.ref Db)=true)
  (a_mark_behind:PySem.W.nsIn K mainGlobals "mark_behind" = some (some (.ref Ar)))
  (l_mark_behind:K.lookup Ar=some ⟨QS,QP,.func (PySem.W.fnOf "mark_behind" "mark_behind" (Am BT) (Al BT) (Ad BT) .none QT QU QV QQ Ko QW),QR⟩)
  (c_mark_behind:PySem.W.codeIn K Ko "mark_behind" = true)
  (k_mark_behind:PySem.W.keepIn K (.ref Ar)=true)
  (a_Asker_answer:PySem.W.findIn K (.ref C_Asker) "answer" = some (some (.ref AR)))
  (i_Asker_answer:PySem.W.isFn K (.ref AR)=true)
  (l_Asker_answer:K.lookup AR=some ⟨OY,OV,.func (PySem.W.fnOf "answer" "Asker.answer" (Am B3) (Al B3) (Ad B3) .none OZ O0 O1 OW JC O2),OX⟩)
  (c_Asker_answer:PySem.W.codeIn K JC "Asker.answer" = true)
  (k_Asker_answer:PySem.W.keepIn K (.ref AR)=true)
  (a_Asker_halve:PySem.W.findIn K (.ref C_Asker) "halve" = some (some (.ref BV)))
  (i_Asker_halve:PySem.W.isFn K (.ref BV)=true)
  (l_Asker_halve:K.lookup BV=some ⟨Q0,QX,.func (PySem.W.fnOf "halve" "Asker.halve" (Am C8) (Al C8) (Ad C8) .none Q1 Q2 Q3 QY Kp Q4),QZ⟩)
  (c_Asker_halve:PySem.W.codeIn K Kp "Asker.halve" = true)
  (k_Asker_halve:PySem.W.keepIn K (.ref BV)=true)
  (a_marks_of:PySem.W.nsIn K mainGlobals "marks_of" = some (some (.ref Fh)))
  (l_marks_of:K.lookup Fh=some ⟨VJ,VG,.func (PySem.W.fnOf "marks_of" "marks_of" (Am Fd) (Al Fd) (Ad Fd) .none VL VM VN VH O3 VO),VI⟩)
  (c_marks_of:PySem.W.codeIn K O3 "marks_of" = true)
  (k_marks_of:PySem.W.keepIn K (.ref Fh)=true)
  (a_marks_by_row:PySem.W.nsIn K mainGlobals "marks_by_row" = some (some (.ref Be)))
  (l_marks_by_row:K.lookup Be=some ⟨O7,O4,.func (PySem.W.fnOf "marks_by_row" "marks_by_row" (Am B4) (Al B4) (Ad B4) .none O8 O9 Pa O5 JD Pb),O6⟩)
  (c_marks_by_row:PySem.W.codeIn K JD "marks_by_row" = true)
  (k_marks_by_row:PySem.W.keepIn K (.ref Be)=true)
  (a_ways_by_marks:PySem.W.nsIn K mainGlobals "ways_by_marks" = some (some (.ref Ce)))
  (l_ways_by_marks:K.lookup Ce=some ⟨NB,Ny,.func (PySem.W.fnOf "ways_by_marks" "ways_by_marks" (Am Cb) (Al Cb) (Ad Cb) .none NC NE NF Nz HZ NG),NA⟩)
  (c_ways_by_marks:PySem.W.codeIn K HZ "ways_by_marks" = true)
  (k_ways_by_marks:PySem.W.keepIn K (.ref Ce)=true)
  (a_guess_of:PySem.W.nsIn K mainGlobals "guess_of" = some (some (.ref Fi)))
  (l_guess_of:K.lookup Fi=some ⟨VS,VP,.func (PySem.W.fnOf "guess_of" "guess_of" (Am Fe) (Al Fe) (Ad Fe) .none VT VU VV VQ Pf VW),VR⟩)
  (c_guess_of:PySem.W.codeIn K Pf "guess_of" = true)
  (k_guess_of:PySem.W.keepIn K (.ref Fi)=true)
  (a_Asker_make_guess:PySem.W.findIn K (.ref C_Asker) "make_guess" = some (some (.ref AV)))
  (i_Asker_make_guess:PySem.W.isFn K (.ref AV)=true)
  (l_Asker_make_guess:K.lookup AV=some ⟨K9,K6,.func (PySem.W.fnOf "make_guess" "Asker.make_guess" (Am Br) (Al Br) (Ad Br) .none La Lb Lc K7 Gk Ld),K8⟩)
  (c_Asker_make_guess:PySem.W.codeIn K Gk "Asker.make_guess" = true)
  (k_Asker_make_guess:PySem.W.keepIn K (.ref AV)=true)
  (a_Book_heard:PySem.W.findIn K (.ref C_Book) "heard" = some (some (.ref Co)))
  (i_Book_heard:PySem.W.isFn K (.ref Co)=true)
  (l_Book_heard:K.lookup Co=some ⟨ST,SQ,.func (PySem.W.fnOf "heard" "Book.heard" (Am DD) (Al DD) (Ad DD) .none SU SV SW SR L8 SX),SS⟩)
  (c_Book_heard:PySem.W.codeIn K L8 "Book.heard" = true)
  (k_Book_heard:PySem.W.keepIn K (.ref Co)=true)
  (a_first_unlike:PySem.W.nsIn K mainGlobals "first_unlike" = some (some (.ref CM)))
  (l_first_unlike:K.lookup CM=some ⟨Pj,Pg,.func (PySem.W.fnOf "first_unlike" "first_unlike" (Am CG) (Al CG) (Ad CG) .none Pk Pl Pm Ph JE Po),Pi⟩)
  (c_first_unlike:PySem.W.codeIn K JE "first_unlike" = true)
  (k_first_unlike:PySem.W.keepIn K (.ref CM)=true)
  (a_first_wrong:PySem.W.nsIn K mainGlobals "first_wrong" = some (some (.ref Dd)))
  (l_first_wrong:K.lookup Dd=some ⟨Q8,Q5,.func (PySem.W.fnOf "first_wrong" "first_wrong" (Am C9) (Al C9) (Ad C9) .none Q9 Ra Rb Q6 Kq Rc),Q7⟩)
  (c_first_wrong:PySem.W.codeIn K Kq "first_wrong" = true)
  (k_first_wrong:PySem.W.keepIn K (.ref Dd)=true)
  (a_Asker_wrong_word:PySem.W.findIn K (.ref C_Asker) "wrong_word" = some (some (.ref AW)))
  (i_Asker_wrong_word:PySem.W.isFn K (.ref AW)=true)
  (l_Asker_wrong_word:K.lookup AW=some ⟨Lh,Le,.func (PySem.W.fnOf "wrong_word" "Asker.wrong_word" (Am Bs) (Al Bs) (Ad Bs) .none Li Lj Lk Lf Gm Ll),Lg⟩)
  (c_Asker_wrong_word:PySem.W.codeIn K Gm "Asker.wrong_word" = true)
  (k_Asker_wrong_word:PySem.W.keepIn K (.ref AW)=true)
  (a_Hunt_look_at_guess:PySem.W.findIn K (.ref C_Asker) "look_at_guess" = some (some (.ref AH)))
  (i_Hunt_look_at_guess:PySem.W.isFn K (.ref AH)=true)
  (l_Hunt_look_at_guess:K.lookup AH=some ⟨JI,JF,.func (PySem.W.fnOf "look_at_guess" "Hunt.look_at_guess" (Am Bc) (Al Bc) (Ad Bc) .none JJ JK JL JG FA JM),JH⟩)
  (c_Hunt_look_at_guess:PySem.W.codeIn K FA "Hunt.look_at_guess" = true)
  (k_Hunt_look_at_guess:PySem.W.keepIn K (.ref AH)=true)
  (a_stranger:PySem.W.nsIn K mainGlobals "stranger" = some (some (.ref Fj)))
  (l_stranger:K.lookup Fj=some ⟨V0,VX,.func (PySem.W.fnOf "stranger" "stranger" (Am Ff) (Al Ff) (Ad Ff) .none V1 V2 V3 VY Pp V4),VZ⟩)
  (c_stranger:PySem.W.codeIn K Pp "stranger" = true)
  (k_stranger:PySem.W.keepIn K (.ref Fj)=true)
  (a_Asker_look_at_words:PySem.W.findIn K (.ref C_Asker) "look_at_words" = some (some (.ref Az)))
  (i_Asker_look_at_words:PySem.W.isFn K (.ref Az)=true)
  (l_Asker_look_at_words:K.lookup Az=some ⟨Iv,Iq,.func (PySem.W.fnOf "look_at_words" "Asker.look_at_words" (Am A2) (Al A2) (Ad A2) .none Iw Ix Iy Ir E8 Iz),Iu⟩)
  (c_Asker_look_at_words:PySem.W.codeIn K E8 "Asker.look_at_words" = true)
  (k_Asker_look_at_words:PySem.W.keepIn K (.ref Az)=true)
  (a_Hunt_next_wish:PySem.W.findIn K (.ref C_Asker) "next_wish" = some (some (.ref Bj)))
  (i_Hunt_next_wish:PySem.W.isFn K (.ref Bj)=true)
  (l_Hunt_next_wish:K.lookup Bj=some ⟨MR,MO,.func (PySem.W.fnOf "next_wish" "Hunt.next_wish" (Am BJ) (Al BJ) (Ad BJ) .none MS MT MU MP Hc MV),MQ⟩)
  (c_Hunt_next_wish:PySem.W.codeIn K Hc "Hunt.next_wish" = true)
  (k_Hunt_next_wish:PySem.W.keepIn K (.ref Bj)=true)
  (a_Turns_go_on:PySem.W.findIn K (.ref C_Asker) "go_on" = some (some (.ref AA)))
  (i_Turns_go_on:PySem.W.isFn K (.ref AA)=true)
  (l_Turns_go_on:K.lookup AA=some ⟨Rh,Re,.func (PySem.W.fnOf "go_on" "Turns.go_on" (Am BU) (Al BU) (Ad BU) .none Ri Rj Rk Rf Kr Rl),Rg⟩)
  (c_Turns_go_on:PySem.W.codeIn K Kr "Turns.go_on" = true)
  (k_Turns_go_on:PySem.W.keepIn K (.ref AA)=true)
  (sg_Turns_init:PySem.W.specialIn K (.ref C_Turns) "__getattribute__" = some (some (.builtin "type.__getattribute__")))
  (rd_Turns_init:PySem.W.readsIn K C_Turns (.type "type")=true)
  (a_Turns_init:PySem.W.findCls K (.ref C_Turns) (.type "type") "__init__" = some (.val (.ref C2)))
  (l_Turns_init:K.lookup C2=some ⟨S1,SY,.func (PySem.W.fnOf "__init__" "Turns.__init__" (Am DE) (Al DE) (Ad DE) .none S6 S7 S8 SZ L9 S9),S0⟩)
  (c_Turns_init:PySem.W.codeIn K L9 "Turns.__init__" = true)
  (k_Turns_init:PySem.W.keepIn K (.ref C2)=true)
  (sg_Hunt_init:PySem.W.specialIn K (.ref C_Hunt) "__getattribute__" = some (some (.builtin "type.__getattribute__")))
  (rd_Hunt_init:PySem.W.readsIn K C_Hunt (.type "type")=true)
  (a_Hunt_init:PySem.W.findCls K (.ref C_Hunt) (.type "type") "__init__" = some (.val (.ref DU)))
  (l_Hunt_init:K.lookup DU=some ⟨UY,UV,.func (PySem.W.fnOf "__init__" "Hunt.__init__" (Am Ej) (Al Ej) (Ad Ej) .none UZ U0 U1 UW Nq U2),UX⟩)
  (c_Hunt_init:PySem.W.codeIn K Nq "Hunt.__init__" = true)
  (k_Hunt_init:PySem.W.keepIn K (.ref DU)=true)
  (a_Asker_first_ends:PySem.W.findIn K (.ref C_Asker) "first_ends" = some (some (.ref AY)))
  (i_Asker_first_ends:PySem.W.isFn K (.ref AY)=true)
  (l_Asker_first_ends:K.lookup AY=some ⟨Lp,Lm,.func (PySem.W.fnOf "first_ends" "Asker.first_ends" (Am Bt) (Al Bt) (Ad Bt) .none Lq Lr Ls Ln Gn Lu),Lo⟩)
  (c_Asker_first_ends:PySem.W.codeIn K Gn "Asker.first_ends" = true)
  (k_Asker_first_ends:PySem.W.keepIn K (.ref AY)=true)
  (a_Asker_init:PySem.W.findIn K (.ref C_Asker) "__init__" = some (some (.ref Cy)))
  (i_Asker_init:PySem.W.isFn K (.ref Cy)=true)
  (l_Asker_init:K.lookup Cy=some ⟨Te,Ta,.func (PySem.W.fnOf "__init__" "Asker.__init__" (Am DF) (Al DF) (Ad DF) .none Tf Tg Th Tc Ma Ti),Td⟩)
  (c_Asker_init:PySem.W.codeIn K Ma "Asker.__init__" = true)
  (k_Asker_init:PySem.W.keepIn K (.ref Cy)=true)
  (a_is_mark:PySem.W.nsIn K mainGlobals "is_mark" = some (some (.ref F5)))
  (l_is_mark:K.lookup F5=some ⟨XQ,XM,.func (PySem.W.fnOf "is_mark" "is_mark" (Am F2) (Al F2) (Ad F2) .none XR XS XT XN RK XU),XO⟩)
  (c_is_mark:PySem.W.codeIn K RK "is_mark" = true)
  (k_is_mark:PySem.W.keepIn K (.ref F5)=true)
  (a_check_mark:PySem.W.nsIn K mainGlobals "check_mark" = some (some (.ref DK)))
  (l_check_mark:K.lookup DK=some ⟨Tm,Tj,.func (PySem.W.fnOf "check_mark" "check_mark" (Am DG) (Al DG) (Ad DG) .none Tn To Tp Tk Mb Tq),Tl⟩)
  (c_check_mark:PySem.W.codeIn K Mb "check_mark" = true)
  (k_check_mark:PySem.W.keepIn K (.ref DK)=true)
  (a_Book_check:PySem.W.findIn K (.ref C_Book) "check" = some (some (.ref Bp)))
  (i_Book_check:PySem.W.isFn K (.ref Bp)=true)
  (l_Book_check:K.lookup Bp=some ⟨Tu,Tr,.func (PySem.W.fnOf "check" "Book.check" (Am C0) (Al C0) (Ad C0) .none Tv Tw Tx Ts Mc Ty),Tt⟩)
  (c_Book_check:PySem.W.codeIn K Mc "Book.check" = true)
  (k_Book_check:PySem.W.keepIn K (.ref Bp)=true)
  (a_Book_put:PySem.W.findIn K (.ref C_Book) "put" = some (some (.ref B9)))
  (i_Book_put:PySem.W.isFn K (.ref B9)=true)
  (l_Book_put:K.lookup B9=some ⟨V8,V5,.func (PySem.W.fnOf "put" "Book.put" (Am Ew) (Al Ew) (Ad Ew) .none V9 Wa Wb V6 Pq Wc),V7⟩)
  (c_Book_put:PySem.W.codeIn K Pq "Book.put" = true)
  (k_Book_put:PySem.W.keepIn K (.ref B9)=true)
  (a_Hunt_keep_answer:PySem.W.findIn K (.ref C_Asker) "keep_answer" = some (some (.ref AX)))
  (i_Hunt_keep_answer:PySem.W.isFn K (.ref AX)=true)
  (l_Hunt_keep_answer:K.lookup AX=some ⟨Ly,Lv,.func (PySem.W.fnOf "keep_answer" "Hunt.keep_answer" (Am Bu) (Al Bu) (Ad Bu) .none Lz LA LB Lw Go LC),Lx⟩)
  (c_Hunt_keep_answer:PySem.W.codeIn K Go "Hunt.keep_answer" = true)
  (k_Hunt_keep_answer:PySem.W.keepIn K (.ref AX)=true)
  (a_Asker_hear:PySem.W.findIn K (.ref C_Asker) "hear" = some (some (.ref Cz)))
  (i_Asker_hear:PySem.W.isFn K (.ref Cz)=true)
  (l_Asker_hear:K.lookup Cz=some ⟨TD,Tz,.func (PySem.W.fnOf "hear" "Asker.hear" (Am DH) (Al DH) (Ad DH) .none TF TH TJ TB Md TL),TC⟩)
  (c_Asker_hear:PySem.W.codeIn K Md "Asker.hear" = true)
  (k_Asker_hear:PySem.W.keepIn K (.ref Cz)=true)
  (a_Hunt_keep_objection:PySem.W.findIn K (.ref C_Asker) "keep_objection" = some (some (.ref AB)))
  (i_Hunt_keep_objection:PySem.W.isFn K (.ref AB)=true)
  (l_Hunt_keep_objection:K.lookup AB=some ⟨ID,IA,.func (PySem.W.fnOf "keep_objection" "Hunt.keep_objection" (Am A3) (Al A3) (Ad A3) .none IE IF IG IB E9 IH),IC⟩)
  (c_Hunt_keep_objection:PySem.W.codeIn K E9 "Hunt.keep_objection" = true)
  (k_Hunt_keep_objection:PySem.W.keepIn K (.ref AB)=true)
  (a_Asker_differ:PySem.W.findIn K (.ref C_Asker) "differ" = some (some (.ref BG)))
  (i_Asker_differ:PySem.W.isFn K (.ref BG)=true)
  (l_Asker_differ:K.lookup BG=some ⟨Pu,Pr,.func (PySem.W.fnOf "differ" "Asker.differ" (Am CH) (Al CH) (Ad CH) .none Px PB PD Ps JN PH),Pt⟩)
  (c_Asker_differ:PySem.W.codeIn K JN "Asker.differ" = true)
  (k_Asker_differ:PySem.W.keepIn K (.ref BG)=true)
  (a__law_cell_at:PySem.W.nsIn K mainGlobals "_law_cell_at" = some (some (.ref Bh)))
  (l__law_cell_at:K.lookup Bh=some ⟨PM,PJ,.func (PySem.W.fnOf "_law_cell_at" "_law_cell_at" (Am B5) (Al B5) (Ad B5) .none PN PQ PR PK JO PU),PL⟩)
  (c__law_cell_at:PySem.W.codeIn K JO "_law_cell_at" = true)
  (k__law_cell_at:PySem.W.keepIn K (.ref Bh)=true)
  (a__law_house_by:PySem.W.nsIn K mainGlobals "_law_house_by" = some (some (.ref Ch)))
  (l__law_house_by:K.lookup Ch=some ⟨NK,NH,.func (PySem.W.fnOf "_law_house_by" "_law_house_by" (Am Cc) (Al Cc) (Ad Cc) .none NL NM NN NI H9 NO),NJ⟩)
  (c__law_house_by:PySem.W.codeIn K H9 "_law_house_by" = true)
  (k__law_house_by:PySem.W.keepIn K (.ref Ch)=true)
  (a__law_answer:PySem.W.nsIn K mainGlobals "_law_answer" = some (some (.ref Bx)))
  (l__law_answer:K.lookup Bx=some ⟨Rp,Rm,.func (PySem.W.fnOf "_law_answer" "_law_answer" (Am Ck) (Al Ck) (Ad Ck) .none Rq Rr Rs Rn Ks Rt),Ro⟩)
  (c__law_answer:PySem.W.codeIn K Ks "_law_answer" = true)
  (k__law_answer:PySem.W.keepIn K (.ref Bx)=true)
  (a__law_reached:PySem.W.nsIn K mainGlobals "_law_reached" = some (some (.ref CN)))
  (l__law_reached:K.lookup CN=some ⟨PZ,PV,.func (PySem.W.fnOf "_law_reached" "_law_reached" (Am CI) (Al CI) (Ad CI) .none P0 P1 P2 PX JP P3),PY⟩)
  (c__law_reached:PySem.W.codeIn K JP "_law_reached" = true)
  (k__law_reached:PySem.W.keepIn K (.ref CN)=true)
  (a__law_classes:PySem.W.nsIn K mainGlobals "_law_classes" = some (some (.ref CT)))
  (l__law_classes:K.lookup CT=some ⟨P7,P4,.func (PySem.W.fnOf "_law_classes" "_law_classes" (Am CJ) (Al CJ) (Ad CJ) .none P8 P9 Qa P5 JQ Qb),P6⟩)
  (c__law_classes:PySem.W.codeIn K JQ "_law_classes" = true)
  (k__law_classes:PySem.W.keepIn K (.ref CT)=true)
  (a__law_numbers:PySem.W.nsIn K mainGlobals "_law_numbers" = some (some (.ref CP)))
  (l__law_numbers:K.lookup CP=some ⟨Qf,Qc,.func (PySem.W.fnOf "_law_numbers" "_law_numbers" (Am CK) (Al CK) (Ad CK) .none Qg Qh Qi Qd JR Qj),Qe⟩)
  (c__law_numbers:PySem.W.codeIn K JR "_law_numbers" = true)
  (k__law_numbers:PySem.W.keepIn K (.ref CP)=true)
  (a__law_kinds:PySem.W.nsIn K mainGlobals "_law_kinds" = some (some (.ref DW)))
  (l__law_kinds:K.lookup DW=some ⟨TR,TM,.func (PySem.W.fnOf "_law_kinds" "_law_kinds" (Am DJ) (Al DJ) (Ad DJ) .none TU TV TW TN Me TX),TQ⟩)
  (c__law_kinds:PySem.W.codeIn K Me "_law_kinds" = true)
  (k__law_kinds:PySem.W.keepIn K (.ref DW)=true)
  (a__law_first_apart:PySem.W.nsIn K mainGlobals "_law_first_apart" = some (some (.ref By)))
  (l__law_first_apart:K.lookup By=some ⟨LG,LD,.func (PySem.W.fnOf "_law_first_apart" "_law_first_apart" (Am Bv) (Al Bv) (Ad Bv) .none LH LI LJ LE Gp LK),LF⟩)
  (c__law_first_apart:PySem.W.codeIn K Gp "_law_first_apart" = true)
  (k__law_first_apart:PySem.W.keepIn K (.ref By)=true)
  (a__law_objection:PySem.W.nsIn K mainGlobals "_law_objection" = some (some (.ref BQ)))
  (l__law_objection:K.lookup BQ=some ⟨MZ,MW,.func (PySem.W.fnOf "_law_objection" "_law_objection" (Am BK) (Al BK) (Ad BK) .none M0 M3 M5 MX Hd M6),MY⟩)
  (c__law_objection:PySem.W.codeIn K Hd "_law_objection" = true)
  (k__law_objection:PySem.W.keepIn K (.ref BQ)=true)
  (a__law_most_asks:PySem.W.nsIn K mainGlobals "_law_most_asks" = some (some (.ref BR)))
  (l__law_most_asks:K.lookup BR=some ⟨Na,M7,.func (PySem.W.fnOf "_law_most_asks" "_law_most_asks" (Am BL) (Al BL) (Ad BL) .none Nb Nd Nf M8 He Ng),M9⟩)
  (c__law_most_asks:PySem.W.codeIn K He "_law_most_asks" = true)
  (k__law_most_asks:PySem.W.keepIn K (.ref BR)=true)
  (a_law:PySem.W.nsIn K mainGlobals "law" = some (some (.ref Cb_)))
  (l_law:K.lookup Cb_=some ⟨Ds_,Dq_,.func (PySem.W.fnOf "law" "law" (Am Sb) (Al Sb) (Ad Sb) .none Bj_ Bk_ Bl_ Bi_ Zq Bm_),Dr_⟩)
  (c_law:PySem.W.codeIn K Zq "law" = true)
  (k_law:PySem.W.keepIn K (.ref Cb_)=true)
  (z_all:PySem.W.nsIn K mainGlobals "all" = some none)
  (z_bool:PySem.W.nsIn K mainGlobals "bool" = some none)
  (z_enumerate:PySem.W.nsIn K mainGlobals "enumerate" = some none)
  (z_int:PySem.W.nsIn K mainGlobals "int" = some none)
  (z_isinstance:PySem.W.nsIn K mainGlobals "isinstance" = some none)
  (z_len:PySem.W.nsIn K mainGlobals "len" = some none)
  (z_list:PySem.W.nsIn K mainGlobals "list" = some none)
  (z_max:PySem.W.nsIn K mainGlobals "max" = some none)
  (z_min:PySem.W.nsIn K mainGlobals "min" = some none)
  (z_range:PySem.W.nsIn K mainGlobals "range" = some none)
  (z_set:PySem.W.nsIn K mainGlobals "set" = some none)
  (z_tuple:PySem.W.nsIn K mainGlobals "tuple" = some none)
  (m_AskError:PySem.W.nsIn K mainGlobals "AskError" = some (some (.ref C_AskError)))
  (m_BadWord:PySem.W.nsIn K mainGlobals "BadWord" = some (some (.ref C_BadWord)))
  (m_BadMark:PySem.W.nsIn K mainGlobals "BadMark" = some (some (.ref C_BadMark)))
  (m_OutOfTurn:PySem.W.nsIn K mainGlobals "OutOfTurn" = some (some (.ref C_OutOfTurn)))
  (m_NoDifference:PySem.W.nsIn K mainGlobals "NoDifference" = some (some (.ref C_NoDifference)))
  (m_Contradiction:PySem.W.nsIn K mainGlobals "Contradiction" = some (some (.ref C_Contradiction)))
  (x_BadWord:PySem.W.excIn K C_BadWord bmV "ValueError.__new__" = true)
  (ga_BadWord:PySem.W.findIn K (.ref C_BadWord) "__getattribute__" = some (some (.builtin "BaseException.__getattribute__")))
  (hk_BadWord:PySem.W.findIn K (.ref C_BadWord) "__getattr__" = some none)
  {cd_BadWord:ClassData}
  (cl_BadWord:PySem.W.clsIn K C_BadWord=some cd_BadWord)
  (ca_BadWord:PySem.W.findIn K (.ref C_BadWord) "__class__" = some (some (.builtin "object.__class__")))
  (mo_BadWord:PySem.W.mroIn K C_BadWord (.type "object")=some true)
  (mb_BadWord:PySem.W.mroIn K C_BadWord (.type "BaseException")=some true)
  (e_BadWord:PySem.W.exmOne K (.ref C_BadWord) (.ref C_AskError)=some true)
  (v_BadWord:PySem.W.kitOne K (.ref C_BadWord) (.type "ValueError")=some true)
  (ee_BadWord:PySem.W.exmOne K (.ref C_BadWord) (.ref C_BadWord)=some true)
  (k_BadWord_AskError:PySem.W.kitOne K (.ref C_BadWord) (.ref C_AskError)=some true)
  (k_BadWord_BadWord:PySem.W.kitOne K (.ref C_BadWord) (.ref C_BadWord)=some true)
  (k_BadWord_BadMark:PySem.W.kitOne K (.ref C_BadWord) (.ref C_BadMark)=some false)
  (k_BadWord_OutOfTurn:PySem.W.kitOne K (.ref C_BadWord) (.ref C_OutOfTurn)=some false)
  (k_BadWord_NoDifference:PySem.W.kitOne K (.ref C_BadWord) (.ref C_NoDifference)=some false)
  (k_BadWord_Contradiction:PySem.W.kitOne K (.ref C_BadWord) (.ref C_Contradiction)=some false)
  (x_BadMark:PySem.W.excIn K C_BadMark bmV "ValueError.__new__" = true)
  (ga_BadMark:PySem.W.findIn K (.ref C_BadMark) "__getattribute__" = some (some (.builtin "BaseException.__getattribute__")))
  (hk_BadMark:PySem.W.findIn K (.ref C_BadMark) "__getattr__" = some none)
  {cd_BadMark:ClassData}
  (cl_BadMark:PySem.W.clsIn K C_BadMark=some cd_BadMark)
  (ca_BadMark:PySem.W.findIn K (.ref C_BadMark) "__class__" = some (some (.builtin "object.__class__")))
  (mo_BadMark:PySem.W.mroIn K C_BadMark (.type "object")=some true)
  (mb_BadMark:PySem.W.mroIn K C_BadMark (.type "BaseException")=some true)
  (e_BadMark:PySem.W.exmOne K (.ref C_BadMark) (.ref C_AskError)=some true)
  (v_BadMark:PySem.W.kitOne K (.ref C_BadMark) (.type "ValueError")=some true)
  (ee_BadMark:PySem.W.exmOne K (.ref C_BadMark) (.ref C_BadMark)=some true)
  (k_BadMark_AskError:PySem.W.kitOne K (.ref C_BadMark) (.ref C_AskError)=some true)
  (k_BadMark_BadWord:PySem.W.kitOne K (.ref C_BadMark) (.ref C_BadWord)=some false)
  (k_BadMark_BadMark:PySem.W.kitOne K (.ref C_BadMark) (.ref C_BadMark)=some true)
  (k_BadMark_OutOfTurn:PySem.W.kitOne K (.ref C_BadMark) (.ref C_OutOfTurn)=some false)
  (k_BadMark_NoDifference:PySem.W.kitOne K (.ref C_BadMark) (.ref C_NoDifference)=some false)
  (k_BadMark_Contradiction:PySem.W.kitOne K (.ref C_BadMark) (.ref C_Contradiction)=some false)
  (x_OutOfTurn:PySem.W.excIn K C_OutOfTurn bmV "ValueError.__new__" = true)
  (ga_OutOfTurn:PySem.W.findIn K (.ref C_OutOfTurn) "__getattribute__" = some (some (.builtin "BaseException.__getattribute__")))
  (hk_OutOfTurn:PySem.W.findIn K (.ref C_OutOfTurn) "__getattr__" = some none)
  {cd_OutOfTurn:ClassData}
  (cl_OutOfTurn:PySem.W.clsIn K C_OutOfTurn=some cd_OutOfTurn)
  (ca_OutOfTurn:PySem.W.findIn K (.ref C_OutOfTurn) "__class__" = some (some (.builtin "object.__class__")))
  (mo_OutOfTurn:PySem.W.mroIn K C_OutOfTurn (.type "object")=some true)
  (mb_OutOfTurn:PySem.W.mroIn K C_OutOfTurn (.type "BaseException")=some true)
  (e_OutOfTurn:PySem.W.exmOne K (.ref C_OutOfTurn) (.ref C_AskError)=some true)
  (v_OutOfTurn:PySem.W.kitOne K (.ref C_OutOfTurn) (.type "ValueError")=some true)
  (ee_OutOfTurn:PySem.W.exmOne K (.ref C_OutOfTurn) (.ref C_OutOfTurn)=some true)
  (k_OutOfTurn_AskError:PySem.W.kitOne K (.ref C_OutOfTurn) (.ref C_AskError)=some true)
  (k_OutOfTurn_BadWord:PySem.W.kitOne K (.ref C_OutOfTurn) (.ref C_BadWord)=some false)
  (k_OutOfTurn_BadMark:PySem.W.kitOne K (.ref C_OutOfTurn) (.ref C_BadMark)=some false)
  (k_OutOfTurn_OutOfTurn:PySem.W.kitOne K (.ref C_OutOfTurn) (.ref C_OutOfTurn)=some true)
  (k_OutOfTurn_NoDifference:PySem.W.kitOne K (.ref C_OutOfTurn) (.ref C_NoDifference)=some false)
  (k_OutOfTurn_Contradiction:PySem.W.kitOne K (.ref C_OutOfTurn) (.ref C_Contradiction)=some false)
  (x_NoDifference:PySem.W.excIn K C_NoDifference bmV "ValueError.__new__" = true)
  (ga_NoDifference:PySem.W.findIn K (.ref C_NoDifference) "__getattribute__" = some (some (.builtin "BaseException.__getattribute__")))
  (hk_NoDifference:PySem.W.findIn K (.ref C_NoDifference) "__getattr__" = some none)
  {cd_NoDifference:ClassData}
  (cl_NoDifference:PySem.W.clsIn K C_NoDifference=some cd_NoDifference)
  (ca_NoDifference:PySem.W.findIn K (.ref C_NoDifference) "__class__" = some (some (.builtin "object.__class__")))
  (mo_NoDifference:PySem.W.mroIn K C_NoDifference (.type "object")=some true)
  (mb_NoDifference:PySem.W.mroIn K C_NoDifference (.type "BaseException")=some true)
  (e_NoDifference:PySem.W.exmOne K (.ref C_NoDifference) (.ref C_AskError)=some true)
  (v_NoDifference:PySem.W.kitOne K (.ref C_NoDifference) (.type "ValueError")=some true)
  (ee_NoDifference:PySem.W.exmOne K (.ref C_NoDifference) (.ref C_NoDifference)=some true)
  (k_NoDifference_AskError:PySem.W.kitOne K (.ref C_NoDifference) (.ref C_AskError)=some true)
  (k_NoDifference_BadWord:PySem.W.kitOne K (.ref C_NoDifference) (.ref C_BadWord)=some false)
  (k_NoDifference_BadMark:PySem.W.kitOne K (.ref C_NoDifference) (.ref C_BadMark)=some false)
  (k_NoDifference_OutOfTurn:PySem.W.kitOne K (.ref C_NoDifference) (.ref C_OutOfTurn)=some false)
  (k_NoDifference_NoDifference:PySem.W.kitOne K (.ref C_NoDifference) (.ref C_NoDifference)=some true)
  (k_NoDifference_Contradiction:PySem.W.kitOne K (.ref C_NoDifference) (.ref C_Contradiction)=some false)
  (x_Contradiction:PySem.W.excIn K C_Contradiction bmV "ValueError.__new__" = true)
  (ga_Contradiction:PySem.W.findIn K (.ref C_Contradiction) "__getattribute__" = some (some (.builtin "BaseException.__getattribute__")))
  (hk_Contradiction:PySem.W.findIn K (.ref C_Contradiction) "__getattr__" = some none)
  {cd_Contradiction:ClassData}
  (cl_Contradiction:PySem.W.clsIn K C_Contradiction=some cd_Contradiction)
  (ca_Contradiction:PySem.W.findIn K (.ref C_Contradiction) "__class__" = some (some (.builtin "object.__class__")))
  (mo_Contradiction:PySem.W.mroIn K C_Contradiction (.type "object")=some true)
  (mb_Contradiction:PySem.W.mroIn K C_Contradiction (.type "BaseException")=some true)
  (e_Contradiction:PySem.W.exmOne K (.ref C_Contradiction) (.ref C_AskError)=some true)
  (v_Contradiction:PySem.W.kitOne K (.ref C_Contradiction) (.type "ValueError")=some true)
  (ee_Contradiction:PySem.W.exmOne K (.ref C_Contradiction) (.ref C_Contradiction)=some true)
  (k_Contradiction_AskError:PySem.W.kitOne K (.ref C_Contradiction) (.ref C_AskError)=some true)
  (k_Contradiction_BadWord:PySem.W.kitOne K (.ref C_Contradiction) (.ref C_BadWord)=some false)
  (k_Contradiction_BadMark:PySem.W.kitOne K (.ref C_Contradiction) (.ref C_BadMark)=some false)
  (k_Contradiction_OutOfTurn:PySem.W.kitOne K (.ref C_Contradiction) (.ref C_OutOfTurn)=some false)
  (k_Contradiction_NoDifference:PySem.W.kitOne K (.ref C_Contradiction) (.ref C_NoDifference)=some false)
  (k_Contradiction_Contradiction:PySem.W.kitOne K (.ref C_Contradiction) (.ref C_Contradiction)=some true)
  (gs:PySem.W.specialIn K (.builtin "object.__class__") "__get__" = some (some (.builtin "getset_descriptor.__get__")))
  (tk:PySem.W.takesIn K (.builtin "object.__class__")=some true)
  : ∃ fd:FuncData,(∀ (s:Shared) (v:Value),BindsTo s fd ⟨[v],[]⟩ [("script",v)])/\∀ base:Heap,K.In base->base.Ns mainGlobals mg->FnOk l.prog w K mg base CX0 15 fa fd ["script"] (Z9 K):=by
 have e:=hfa.symm.trans (PySem.W.mg_of X G a_law)
 cases e
 have T:Txt mg:=⟨PySem.W.mg_none_of X G z_all,PySem.W.mg_none_of X G z_bool,PySem.W.mg_none_of X G z_enumerate,PySem.W.mg_none_of X G z_int,PySem.W.mg_none_of X G z_isinstance,PySem.W.mg_none_of X G z_len,PySem.W.mg_none_of X G z_list,PySem.W.mg_none_of X G z_max,PySem.W.mg_none_of X G z_min,PySem.W.mg_none_of X G z_range,PySem.W.mg_none_of X G z_set,PySem.W.mg_none_of X G z_tuple⟩
 have Z:Exs K mg C_AskError C_BadWord C_BadMark C_OutOfTurn C_NoDifference C_Contradiction:=⟨PySem.W.mg_of X G m_AskError,PySem.W.mg_of X G m_BadWord,PySem.W.mg_of X G m_BadMark,PySem.W.mg_of X G m_OutOfTurn,PySem.W.mg_of X G m_NoDifference,PySem.W.mg_of X G m_Contradiction,x_BadWord,⟨ga_BadWord,hk_BadWord,by rw[cl_BadWord];rfl,ca_BadWord,gs,tk,mo_BadWord,mb_BadWord⟩,e_BadWord,v_BadWord,ee_BadWord,k_BadWord_AskError,k_BadWord_BadWord,k_BadWord_BadMark,k_BadWord_OutOfTurn,k_BadWord_NoDifference,k_BadWord_Contradiction,x_BadMark,⟨ga_BadMark,hk_BadMark,by rw[cl_BadMark];rfl,ca_BadMark,gs,tk,mo_BadMark,mb_BadMark⟩,e_BadMark,v_BadMark,ee_BadMark,k_BadMark_AskError,k_BadMark_BadWord,k_BadMark_BadMark,k_BadMark_OutOfTurn,k_BadMark_NoDifference,k_BadMark_Contradiction,x_OutOfTurn,⟨ga_OutOfTurn,hk_OutOfTurn,by rw[cl_OutOfTurn];rfl,ca_OutOfTurn,gs,tk,mo_OutOfTurn,mb_OutOfTurn⟩,e_OutOfTurn,v_OutOfTurn,ee_OutOfTurn,k_OutOfTurn_AskError,k_OutOfTurn_BadWord,k_OutOfTurn_BadMark,k_OutOfTurn_OutOfTurn,k_OutOfTurn_NoDifference,k_OutOfTurn_Contradiction,x_NoDifference,⟨ga_NoDifference,hk_NoDifference,by rw[cl_NoDifference];rfl,ca_NoDifference,gs,tk,mo_NoDifference,mb_NoDifference⟩,e_NoDifference,v_NoDifference,ee_NoDifference,k_NoDifference_AskError,k_NoDifference_BadWord,k_NoDifference_BadMark,k_NoDifference_OutOfTurn,k_NoDifference_NoDifference,k_NoDifference_Contradiction,x_Contradiction,⟨ga_Contradiction,hk_Contradiction,by rw[cl_Contradiction];rfl,ca_Contradiction,gs,tk,mo_Contradiction,mb_Contradiction⟩,e_Contradiction,v_Contradiction,ee_Contradiction,k_Contradiction_AskError,k_Contradiction_BadWord,k_Contradiction_BadMark,k_Contradiction_OutOfTurn,k_Contradiction_NoDifference,k_Contradiction_Contradiction⟩
 have W:Own K mg C_Book C_Turns C_Hunt C_Asker:=⟨PySem.W.mg_of X G aC_Book,⟨pg_Book,hd_Book,po_Book,sa_Book⟩,n_letters_Book,n_marks_Book,PySem.W.mg_of X G aC_Turns,PySem.W.mg_of X G aC_Hunt,PySem.W.mg_of X G aC_Asker,⟨pg_Asker,hd_Asker,po_Asker,sa_Asker⟩,n_wish_Asker,n_letters_Asker,n_most_Asker,n_book_Asker,n_ways_Asker,n_ends_Asker,n_gaps_Asker,n_guess_Asker,n_wrong_Asker,⟨_,PySem.W.mg_of X G q_MOST_MARK⟩⟩
 have FM:=AI (st:=C6) l_Turns_wants c_Turns_wants k_Turns_wants
 have FN:=FM.binds (ps:=["self"]) fun _ _ _ _ _ _ us hl=>match us,hl with | [_],_=>rfl
 have FO:Meth K C_Asker "wants" B0:=⟨a_Turns_wants,i_Turns_wants,k_Turns_wants⟩
 have A8:=AI (st:=AL) l_Turns_check_wants c_Turns_check_wants k_Turns_check_wants
 have AN:=A8.binds (ps:=["self", "deed"]) fun _ _ _ _ _ _ us hl=>match us,hl with | [_,_],_=>rfl
 have AO:Meth K C_Asker "check_wants" Aj:=⟨a_Turns_check_wants,i_Turns_check_wants,k_Turns_check_wants⟩
 have Gv:=AI (st:=DC) l_Hunt_agree c_Hunt_agree k_Hunt_agree
 have Jq:=Gv.binds (ps:=["self"]) fun _ _ _ _ _ _ us hl=>match us,hl with | [_],_=>rfl
 have Jr:Meth K C_Asker "agree" Cw:=⟨a_Hunt_agree,i_Hunt_agree,k_Hunt_agree⟩
 have HE:=AI (st:=Ei) l_Book_init c_Book_init k_Book_init
 have KY:=HE.binds (ps:=["self", "letters"]) fun _ _ _ _ _ _ us hl=>match us,hl with | [_,_],_=>rfl
 have KZ:Mk K C_Book De:=⟨mk_Book,a_Book_init,i_Book_init,kc_Book⟩
 have IU:=AI (st:=FY) l_is_word c_is_word k_is_word
 have On:=IU.binds (ps:=["letters", "word"]) fun _ _ _ _ _ _ us hl=>match us,hl with | [_,_],_=>rfl
 have Oo:=PySem.W.mg_of X G a_is_word
 have C1:=AI (st:=CZ) l_check_word c_check_word k_check_word
 have Ey:=C1.binds (ps:=["letters", "word"]) fun _ _ _ _ _ _ us hl=>match us,hl with | [_,_],_=>rfl
 have Ez:=PySem.W.mg_of X G a_check_word
 have IW:=AI (st:=IR) l_trail c_trail k_trail
 have Mt:=IW.binds (ps:=["house", "word"]) fun _ _ _ _ _ _ us hl=>match us,hl with | [_,_],_=>rfl
 have Mu:=PySem.W.mg_of X G a_trail
 have CL:=AI (st:=CD) l_Book_told c_Book_told k_Book_told
 have BO:=CL.binds (ps:=["self", "word"]) fun _ _ _ _ _ _ us hl=>match us,hl with | [_,_],_=>rfl
 have BP:Meth K C_Book "told" AC:=⟨a_Book_told,i_Book_told,k_Book_told⟩
 have L3:=AI (st:=Hk) l_halved c_halved k_halved
 have Sn:=L3.binds (ps:=["book", "access", "guess", "word", "mark", "last"]) fun _ _ _ _ _ _ us hl=>match us,hl with | [_,_,_,_,_,_],_=>rfl
 have So:=PySem.W.mg_of X G a_halved
 have Fr:=AI (st:=CF) l_Hunt_ask_for c_Hunt_ask_for k_Hunt_ask_for
 have GG:=Fr.binds (ps:=["self", "words"]) fun _ _ _ _ _ _ us hl=>match us,hl with | [_,_],_=>rfl
 have GH:Meth K C_Asker "ask_for" BB:=⟨a_Hunt_ask_for,i_Hunt_ask_for,k_Hunt_ask_for⟩
 have Fx:=AI (st:=Fu) l_rows_of c_rows_of k_rows_of
 have G5:=Fx.binds (ps:=["letters", "access"]) fun _ _ _ _ _ _ us hl=>match us,hl with | [_,_],_=>rfl
 have G6:=PySem.W.mg_of X G a_rows_of
 have OB:=AI (st:=Kw) l_cells c_cells k_cells
 have VB:=OB.binds (ps:=["letters", "access", "ends"]) fun _ _ _ _ _ _ us hl=>match us,hl with | [_,_,_],_=>rfl
 have VC:=PySem.W.mg_of X G a_cells
 have AJ:=AI (st:=Av) l_Asker_look_for_gaps c_Asker_look_for_gaps k_Asker_look_for_gaps
 have Ax:=AJ.binds (ps:=["self"]) fun _ _ _ _ _ _ us hl=>match us,hl with | [_],_=>rfl
 have Ay:Meth K C_Asker "look_for_gaps" Ai:=⟨a_Asker_look_for_gaps,i_Asker_look_for_gaps,k_Asker_look_for_gaps⟩
 have EL:=AI (st:=C7) l_room_behind c_room_behind k_room_behind
 have Hq:=EL.binds (ps:=["house", "word"]) fun _ _ _ _ _ _ us hl=>match us,hl with | [_,_],_=>rfl
 have Hr:=PySem.W.mg_of X G a_room_behind
 have BA:=AI (st:=BT) l_mark_behind c_mark_behind k_mark_behind
 have Cm:=BA.binds (ps:=["house", "word"]) fun _ _ _ _ _ _ us hl=>match us,hl with | [_,_],_=>rfl
 have Cn:=PySem.W.mg_of X G a_mark_behind
 have Dq:=AI (st:=B3) l_Asker_answer c_Asker_answer k_Asker_answer
 have Dr:=Dq.binds (ps:=["self", "house", "word"]) fun _ _ _ _ _ _ us hl=>match us,hl with | [_,_,_],_=>rfl
 have Ds:Meth K C_Asker "answer" AR:=⟨a_Asker_answer,i_Asker_answer,k_Asker_answer⟩
 have FK:=AI (st:=C8) l_Asker_halve c_Asker_halve k_Asker_halve
 have HC:=FK.binds (ps:=["self"]) fun _ _ _ _ _ _ us hl=>match us,hl with | [_],_=>rfl
 have HD:Meth K C_Asker "halve" BV:=⟨a_Asker_halve,i_Asker_halve,k_Asker_halve⟩
 have G7:=AI (st:=Fd) l_marks_of c_marks_of k_marks_of
 have Mw:=G7.binds (ps:=["book", "word", "ends"]) fun _ _ _ _ _ _ us hl=>match us,hl with | [_,_,_],_=>rfl
 have Mx:=PySem.W.mg_of X G a_marks_of
 have B6:=AI (st:=B4) l_marks_by_row c_marks_by_row k_marks_by_row
 have Dn:=B6.binds (ps:=["book", "letters", "access", "ends"]) fun _ _ _ _ _ _ us hl=>match us,hl with | [_,_,_,_],_=>rfl
 have Do:=PySem.W.mg_of X G a_marks_by_row
 have DM:=AI (st:=Cb) l_ways_by_marks c_ways_by_marks k_ways_by_marks
 have F8:=DM.binds (ps:=["letters", "access", "marks"]) fun _ _ _ _ _ _ us hl=>match us,hl with | [_,_,_],_=>rfl
 have F9:=PySem.W.mg_of X G a_ways_by_marks
 have G9:=AI (st:=Fe) l_guess_of c_guess_of k_guess_of
 have MD:=G9.binds (ps:=["book", "letters", "access", "ends"]) fun _ _ _ _ _ _ us hl=>match us,hl with | [_,_,_,_],_=>rfl
 have ME:=PySem.W.mg_of X G a_guess_of
 have Dx:=AI (st:=Br) l_Asker_make_guess c_Asker_make_guess k_Asker_make_guess
 have EO:=Dx.binds (ps:=["self"]) fun _ _ _ _ _ _ us hl=>match us,hl with | [_],_=>rfl
 have EQ:Meth K C_Asker "make_guess" AV:=⟨a_Asker_make_guess,i_Asker_make_guess,k_Asker_make_guess⟩
 have Gs:=AI (st:=DD) l_Book_heard c_Book_heard k_Book_heard
 have Jc:=Gs.binds (ps:=["self"]) fun _ _ _ _ _ _ us hl=>match us,hl with | [_],_=>rfl
 have Jd:Meth K C_Book "heard" Co:=⟨a_Book_heard,i_Book_heard,k_Book_heard⟩
 have D5:=AI (st:=CG) l_first_unlike c_first_unlike k_first_unlike
 have GD:=D5.binds (ps:=["heard", "answer", "house"]) fun _ _ _ _ _ _ us hl=>match us,hl with | [_,_,_],_=>rfl
 have GE:=PySem.W.mg_of X G a_first_unlike
 have EM:=AI (st:=C9) l_first_wrong c_first_wrong k_first_wrong
 have Hx:=EM.binds (ps:=["book", "house"]) fun _ _ _ _ _ _ us hl=>match us,hl with | [_,_],_=>rfl
 have Hy:=PySem.W.mg_of X G a_first_wrong
 have Dy:=AI (st:=Bs) l_Asker_wrong_word c_Asker_wrong_word k_Asker_wrong_word
 have ES:=Dy.binds (ps:=["self"]) fun _ _ _ _ _ _ us hl=>match us,hl with | [_],_=>rfl
 have ET:Meth K C_Asker "wrong_word" AW:=⟨a_Asker_wrong_word,i_Asker_wrong_word,k_Asker_wrong_word⟩
 have CU:=AI (st:=Bc) l_Hunt_look_at_guess c_Hunt_look_at_guess k_Hunt_look_at_guess
 have D0:=CU.binds (ps:=["self"]) fun _ _ _ _ _ _ us hl=>match us,hl with | [_],_=>rfl
 have D1:Meth K C_Asker "look_at_guess" AH:=⟨a_Hunt_look_at_guess,i_Hunt_look_at_guess,k_Hunt_look_at_guess⟩
 have Ha:=AI (st:=Ff) l_stranger c_stranger k_stranger
 have MG:=Ha.binds (ps:=["book", "letters", "access", "ends"]) fun _ _ _ _ _ _ us hl=>match us,hl with | [_,_,_,_],_=>rfl
 have MH:=PySem.W.mg_of X G a_stranger
 have Cp:=AI (st:=A2) l_Asker_look_at_words c_Asker_look_at_words k_Asker_look_at_words
 have DP:=Cp.binds (ps:=["self"]) fun _ _ _ _ _ _ us hl=>match us,hl with | [_],_=>rfl
 have DQ:Meth K C_Asker "look_at_words" Az:=⟨a_Asker_look_at_words,i_Asker_look_at_words,k_Asker_look_at_words⟩
 have Ec:=AI (st:=BJ) l_Hunt_next_wish c_Hunt_next_wish k_Hunt_next_wish
 have Ed:=Ec.binds (ps:=["self"]) fun _ _ _ _ _ _ us hl=>match us,hl with | [_],_=>rfl
 have Ee:Meth K C_Asker "next_wish" Bj:=⟨a_Hunt_next_wish,i_Hunt_next_wish,k_Hunt_next_wish⟩
 have Cq:=AI (st:=BU) l_Turns_go_on c_Turns_go_on k_Turns_go_on
 have BY:=Cq.binds (ps:=["self"]) fun _ _ _ _ _ _ us hl=>match us,hl with | [_],_=>rfl
 have BZ:Meth K C_Asker "go_on" AA:=⟨a_Turns_go_on,i_Turns_go_on,k_Turns_go_on⟩
 have Gu:=AI (st:=DE) l_Turns_init c_Turns_init k_Turns_init
 have Ji:=Gu.binds (ps:=["self"]) fun _ _ _ _ _ _ us hl=>match us,hl with | [_],_=>rfl
 have Jj:CMeth K C_Turns "__init__" C2:=⟨sg_Turns_init,rd_Turns_init,a_Turns_init,k_Turns_init⟩
 have HH:=AI (st:=Ej) l_Hunt_init c_Hunt_init k_Hunt_init
 have K1:=HH.binds (ps:=["self", "letters", "most", "book", "ways", "ends"]) fun _ _ _ _ _ _ us hl=>match us,hl with | [_,_,_,_,_,_],_=>rfl
 have K2:CMeth K C_Hunt "__init__" DU:=⟨sg_Hunt_init,rd_Hunt_init,a_Hunt_init,k_Hunt_init⟩
 have DA:=AI (st:=Bt) l_Asker_first_ends c_Asker_first_ends k_Asker_first_ends
 have EY:=DA.binds (ps:=["self", "letters"]) fun _ _ _ _ _ _ us hl=>match us,hl with | [_,_],_=>rfl
 have EZ:Meth K C_Asker "first_ends" AY:=⟨a_Asker_first_ends,i_Asker_first_ends,k_Asker_first_ends⟩
 have Gw:=AI (st:=DF) l_Asker_init c_Asker_init k_Asker_init
 have Jt:=Gw.binds (ps:=["self", "letters", "most"]) fun _ _ _ _ _ _ us hl=>match us,hl with | [_,_,_],_=>rfl
 have Ju:Mk K C_Asker Cy:=⟨mk_Asker,a_Asker_init,i_Asker_init,kc_Asker⟩
 have IV:=AI (st:=F2) l_is_mark c_is_mark k_is_mark
 have Oq:=IV.binds (ps:=["number"]) fun _ _ _ _ _ _ us hl=>match us,hl with | [_],_=>rfl
 have Os:=PySem.W.mg_of X G a_is_mark
 have Fv:=AI (st:=DG) l_check_mark c_check_mark k_check_mark
 have IY:=Fv.binds (ps:=["mark"]) fun _ _ _ _ _ _ us hl=>match us,hl with | [_],_=>rfl
 have IZ:=PySem.W.mg_of X G a_check_mark
 have EB:=AI (st:=C0) l_Book_check c_Book_check k_Book_check
 have EC:=EB.binds (ps:=["self", "word", "mark"]) fun _ _ _ _ _ _ us hl=>match us,hl with | [_,_,_],_=>rfl
 have ED:Meth K C_Book "check" Bp:=⟨a_Book_check,i_Book_check,k_Book_check⟩
 have FQ:=AI (st:=Ew) l_Book_put c_Book_put k_Book_put
 have FS:=FQ.binds (ps:=["self", "word", "mark"]) fun _ _ _ _ _ _ us hl=>match us,hl with | [_,_,_],_=>rfl
 have FT:Meth K C_Book "put" B9:=⟨a_Book_put,i_Book_put,k_Book_put⟩
 have Dz:=AI (st:=Bu) l_Hunt_keep_answer c_Hunt_keep_answer k_Hunt_keep_answer
 have EV:=Dz.binds (ps:=["self", "number"]) fun _ _ _ _ _ _ us hl=>match us,hl with | [_,_],_=>rfl
 have EW:Meth K C_Asker "keep_answer" AX:=⟨a_Hunt_keep_answer,i_Hunt_keep_answer,k_Hunt_keep_answer⟩
 have Gx:=AI (st:=DH) l_Asker_hear c_Asker_hear k_Asker_hear
 have Jw:=Gx.binds (ps:=["self", "mark"]) fun _ _ _ _ _ _ us hl=>match us,hl with | [_,_],_=>rfl
 have Jx:Meth K C_Asker "hear" Cz:=⟨a_Asker_hear,i_Asker_hear,k_Asker_hear⟩
 have Cr:=AI (st:=A3) l_Hunt_keep_objection c_Hunt_keep_objection k_Hunt_keep_objection
 have DS:=Cr.binds (ps:=["self", "word", "number"]) fun _ _ _ _ _ _ us hl=>match us,hl with | [_,_,_],_=>rfl
 have DT:Meth K C_Asker "keep_objection" AB:=⟨a_Hunt_keep_objection,i_Hunt_keep_objection,k_Hunt_keep_objection⟩
 have Fs:=AI (st:=CH) l_Asker_differ c_Asker_differ k_Asker_differ
 have GQ:=Fs.binds (ps:=["self", "word", "mark"]) fun _ _ _ _ _ _ us hl=>match us,hl with | [_,_,_],_=>rfl
 have GR:Meth K C_Asker "differ" BG:=⟨a_Asker_differ,i_Asker_differ,k_Asker_differ⟩
 have Bi:=AI (st:=B5) l__law_cell_at c__law_cell_at k__law_cell_at
 have BD:=Bi.binds (ps:=["script", "k"]) fun _ _ _ _ _ _ us hl=>match us,hl with | [_,_],_=>rfl
 have BE:=PySem.W.mg_of X G a__law_cell_at
 have DV:=AI (st:=Cc) l__law_house_by c__law_house_by k__law_house_by
 have Gh:=DV.binds (ps:=["script"]) fun _ _ _ _ _ _ us hl=>match us,hl with | [_],_=>rfl
 have Gi:=PySem.W.mg_of X G a__law_house_by
 have BF:=AI (st:=Ck) l__law_answer c__law_answer k__law_answer
 have Ct:=BF.binds (ps:=["house", "word"]) fun _ _ _ _ _ _ us hl=>match us,hl with | [_,_],_=>rfl
 have Cu:=PySem.W.mg_of X G a__law_answer
 have D6:=AI (st:=CI) l__law_reached c__law_reached k__law_reached
 have GM:=D6.binds (ps:=["house"]) fun _ _ _ _ _ _ us hl=>match us,hl with | [_],_=>rfl
 have GN:=PySem.W.mg_of X G a__law_reached
 have Ea:=AI (st:=CJ) l__law_classes c__law_classes k__law_classes
 have GT:=Ea.binds (ps:=["house"]) fun _ _ _ _ _ _ us hl=>match us,hl with | [_],_=>rfl
 have GU:=PySem.W.mg_of X G a__law_classes
 have CQ:=AI (st:=CK) l__law_numbers c__law_numbers k__law_numbers
 have D8:=CQ.binds (ps:=["found", "size"]) fun _ _ _ _ _ _ us hl=>match us,hl with | [_,_],_=>rfl
 have D9:=PySem.W.mg_of X G a__law_numbers
 have Fz:=AI (st:=DJ) l__law_kinds c__law_kinds k__law_kinds
 have Jz:=Fz.binds (ps:=["found", "letters", "most"]) fun _ _ _ _ _ _ us hl=>match us,hl with | [_,_,_],_=>rfl
 have JA:=PySem.W.mg_of X G a__law_kinds
 have Cv:=AI (st:=Bv) l__law_first_apart c__law_first_apart k__law_first_apart
 have E2:=Cv.binds (ps:=["house", "other"]) fun _ _ _ _ _ _ us hl=>match us,hl with | [_,_],_=>rfl
 have E3:=PySem.W.mg_of X G a__law_first_apart
 have Dh:=AI (st:=BK) l__law_objection c__law_objection k__law_objection
 have FG:=Dh.binds (ps:=["house", "shown", "cell"]) fun _ _ _ _ _ _ us hl=>match us,hl with | [_,_,_],_=>rfl
 have FH:=PySem.W.mg_of X G a__law_objection
 have BS:=AI (st:=BL) l__law_most_asks c__law_most_asks k__law_most_asks
 have Dj:=BS.binds (ps:=["m", "letters"]) fun _ _ _ _ _ _ us hl=>match us,hl with | [_,_],_=>rfl
 have Dk:=PySem.W.mg_of X G a__law_most_asks
 have Dt_:=AI (st:=Sb) l_law c_law k_law
 have DE_:=Dt_.binds (ps:=["script"]) fun _ _ _ _ _ _ us hl=>match us,hl with | [_],_=>rfl
 have DF_:=PySem.W.mg_of X G a_law
 refine⟨PySem.W.fnOf "law" "law" (Am Sb) (Al Sb) (Ad Sb) .none Bj_ Bk_ Bl_ Bi_ Zq Bm_,fun s v=>.of_eq rfl,fun base _ _=>?_⟩
 have FL:=Qv (P:=l.prog) (w:=w) (base:=base) FM T W Z
 have AM:=J9 (P:=l.prog) (w:=w) (base:=base) A8 T W Z
 have Jp:=Ss (P:=l.prog) (w:=w) (base:=base) Gv T W Z AM A8 AN AO
 have KW:=Us (P:=l.prog) (w:=w) (base:=base) HE T W Z
 have Om:=Xn (P:=l.prog) (w:=w) (base:=base) IU T W Z
 have Ex:=Sd (P:=l.prog) (w:=w) (base:=base) C1 T W Z Om IU On Oo
 have Ms:=ZX (P:=l.prog) (w:=w) (base:=base) IW T W Z Ex C1 Ey Ez
 have BN:=Ut (P:=l.prog) (w:=w) (base:=base) CL T W Z
 have Sm:=Zc (P:=l.prog) (w:=w) (base:=base) L3 T W Z Ms IW Mt Mu BN CL BO BP
 have GF:=OA (P:=l.prog) (w:=w) (base:=base) Fr T W Z BN CL BO BP
 have G4:=Xq (P:=l.prog) (w:=w) (base:=base) Fx T W Z
 have VA:=ZZ (P:=l.prog) (w:=w) (base:=base) OB T W Z G4 Fx G5 G6
 have Aw:=Id (P:=l.prog) (w:=w) (base:=base) AJ T W Z GF Fr GG GH VA OB VB VC
 have Ho:=Qs (P:=l.prog) (w:=w) (base:=base) EL T W Z Ms IW Mt Mu
 have Cl:=Qt (P:=l.prog) (w:=w) (base:=base) BA T W Z Ho EL Hq Hr
 have Dp:=OC (P:=l.prog) (w:=w) (base:=base) Dq T W Z Cl BA Cm Cn
 have HB:=Qw (P:=l.prog) (w:=w) (base:=base) FK T W Z Sm L3 Sn So Aw AJ Ax Ay Dp Dq Dr Ds
 have Mv:=Vs (P:=l.prog) (w:=w) (base:=base) G7 T W Z BN CL BO BP
 have Dm:=Ou (P:=l.prog) (w:=w) (base:=base) B6 T W Z G4 Fx G5 G6 Mv G7 Mw Mx
 have F7:=Nw (P:=l.prog) (w:=w) (base:=base) DM T W Z
 have MC:=Vw (P:=l.prog) (w:=w) (base:=base) G9 T W Z BN CL BO BP Dm B6 Dn Do F7 DM F8 F9
 have EN:=KO (P:=l.prog) (w:=w) (base:=base) Dx T W Z MC G9 MD ME
 have Jb:=Si (P:=l.prog) (w:=w) (base:=base) Gs T W Z
 have GC:=Ow (P:=l.prog) (w:=w) (base:=base) D5 T W Z Cl BA Cm Cn
 have Hw:=Qu (P:=l.prog) (w:=w) (base:=base) EM T W Z Cl BA Cm Cn Jb Gs Jc Jd GC D5 GD GE
 have ER:=KQ (P:=l.prog) (w:=w) (base:=base) Dy T W Z Hw EM Hx Hy
 have DZ:=Jk (P:=l.prog) (w:=w) (base:=base) CU T W Z EN Dx EO EQ ER Dy ES ET
 have MF:=Vu (P:=l.prog) (w:=w) (base:=base) Ha T W Z Dm B6 Dn Do
 have DO:=Ie (P:=l.prog) (w:=w) (base:=base) Cp T W Z Aw AJ Ax Ay DZ CU D0 D1 MF Ha MG MH
 have Eb:=MI (P:=l.prog) (w:=w) (base:=base) Ec T W Z HB FK HC HD DO Cp DP DQ
 have BX:=Qx (P:=l.prog) (w:=w) (base:=base) Cq T W Z Eb Ec Ed Ee
 have Jh:=Sk (P:=l.prog) (w:=w) (base:=base) Gu T W Z
 have K0:=Uw (P:=l.prog) (w:=w) (base:=base) HH T W Z Jh Gu Ji Jj
 have EX:=KM (P:=l.prog) (w:=w) (base:=base) DA T W Z
 have Js:=Sv (P:=l.prog) (w:=w) (base:=base) Gw T W Z KW HE KY KZ Aw AJ Ax Ay BX Cq BY BZ K0 HH K1 K2 EX DA EY EZ
 have Op:=Xo (P:=l.prog) (w:=w) (base:=base) IV T W Z
 have IX:=Se (P:=l.prog) (w:=w) (base:=base) Fv T W Z Op IV Oq Os
 have EA:=Sh (P:=l.prog) (w:=w) (base:=base) EB T W Z Ex C1 Ey Ez IX Fv IY IZ
 have FP:=Vq (P:=l.prog) (w:=w) (base:=base) FQ T W Z EA EB EC ED
 have EU:=KU (P:=l.prog) (w:=w) (base:=base) Dz T W Z AM A8 AN AO BX Cq BY BZ FP FQ FS FT
 have Jv:=Su (P:=l.prog) (w:=w) (base:=base) Gx T W Z EU Dz EV EW
 have DR:=Ig (P:=l.prog) (w:=w) (base:=base) Cr T W Z AM A8 AN AO Dp Dq Dr Ds BX Cq BY BZ EA EB EC ED FP FQ FS FT
 have GP:=OE (P:=l.prog) (w:=w) (base:=base) Fs T W Z DR Cr DS DT
 have BC:=OF (P:=l.prog) (w:=w) (base:=base) Bi T W Z
 have Gg:=Nx (P:=l.prog) (w:=w) (base:=base) DV T W Z BC Bi BD BE
 have Cs:=Qy (P:=l.prog) (w:=w) (base:=base) BF T W Z
 have GL:=OG (P:=l.prog) (w:=w) (base:=base) D6 T W Z
 have GS:=OI (P:=l.prog) (w:=w) (base:=base) Ea T W Z GL D6 GM GN
 have D7:=OJ (P:=l.prog) (w:=w) (base:=base) CQ T W Z
 have Jy:=Sw (P:=l.prog) (w:=w) (base:=base) Fz T W Z D7 CQ D8 D9
 have E1:=K5 (P:=l.prog) (w:=w) (base:=base) Cv T W Z
 have FF:=MK (P:=l.prog) (w:=w) (base:=base) Dh T W Z Cs BF Ct Cu E1 Cv E2 E3
 have Di:=ML (P:=l.prog) (w:=w) (base:=base) BS T W Z
 have DD_:=Dp_ (P:=l.prog) (w:=w) (base:=base) Dt_ T W Z FL FM FN FO Jp Gv Jq Jr Js Gw Jt Ju Jv Gx Jw Jx GP Fs GQ GR BC Bi BD BE Gg DV Gh Gi Cs BF Ct Cu GS Ea GT GU Jy Fz Jz JA FF Dh FG FH Di BS Dj Dk
 exact DD_
theorem walk {l:PySem.W.OpenLaw}{q:Program}{loose:List Str}{XP:(Str->Option Value)->Heap->Prop}{YP:World->Heap->Prop}{d:DefRec}{K:Params->PySem.W.Frag}(hn:l.most=some 63)(hdf:d.params.defaults=[])
  (hY:∀ (w:World) (h:Heap),YP w h->(K w.params).In h)
  (F:∀ (w:World) (mg:Str->Option Value) (fa:Addr) (h:Heap),(K w.params).In h->h.Ns mainGlobals mg->mg d.name=some (.ref fa) ->
   ∃ fd:FuncData,(∀ (s:Shared) (u:Value),BindsTo s fd ⟨[u],[]⟩ [("script",u)])/\∀ base:Heap,(K w.params).In base->base.Ns mainGlobals mg->FnOk l.prog w (K w.params) mg base CX0 15 fa fd ["script"] (Z9 (K w.params))) :
  PySem.W.WalkO q loose XP YP l.row.toRowW d [] (fun f vs=>PySem.call f vs) :=
 L2.walk_of (n:=63) (k:=15) (x := "script") (CX:=fun _=>CX0) (sp:=fun w=>Z9 (K w.params)) hn (by decide) hdf ⟨rfl,by decide,by decide⟩ hY F (fun _ _ a ns hl _ hS=>⟨a,ns,rfl,hS,hl,fun _=>rfl⟩) fun _ _ _ _ _ z=>z
end Mine
def PySem.W.Fast.tw8903817000971901959:Nat:=0
def PySem.W.Fast.tw933451553341815113:Nat:=0
def PySem.W.Fast.tw14036557829019604694:Nat:=0
def PySem.W.Fast.tw2889735537199105257:Nat:=0
def PySem.W.Fast.tw5436383827582256678:Nat:=0
def PySem.W.Fast.tw10065386375302846471:Nat:=0
def PySem.W.Fast.tw3661071302056022844:Nat:=0
def PySem.W.Fast.tw17346370276610733591:Nat:=0
def PySem.W.Fast.tw689817838985800800:Nat:=0
def PySem.W.Fast.tw7618398996776595936:Nat:=0
def PySem.W.Fast.tw12877044069121788485:Nat:=0
def PySem.W.Fast.tw8193559479701892738:Nat:=0
def PySem.W.Fast.tw16961644529015198194:Nat:=0
def PySem.W.Fast.tw1550121322736147416:Nat:=0
def PySem.W.Fast.tw2167839247090494383:Nat:=0
def PySem.W.Fast.tw9913555011974372876:Nat:=0
def PySem.W.Fast.tw3163232752301235909:Nat:=0
def PySem.W.Fast.tw1292921031261077603:Nat:=0
def PySem.W.Fast.tw1888854249442929075:Nat:=0
def PySem.W.Fast.tw1387064165297684453:Nat:=0
def PySem.W.Fast.tw6614648632848773568:Nat:=0
def PySem.W.Fast.tw3951456139862496009:Nat:=0
def PySem.W.Fast.tw6777912795689717161:Nat:=0
def PySem.W.Fast.tw2059472252678632921:Nat:=0
def PySem.W.Fast.tw115717157853016149:Nat:=0
def PySem.W.Fast.tw9752035433269171975:Nat:=0
def PySem.W.Fast.tw9331757927801149158:Nat:=0
def PySem.W.Fast.tw2458175854744172209:Nat:=0
def PySem.W.Fast.tw2820830429274268204:Nat:=0
def PySem.W.Fast.tw1406916461568963650:Nat:=0
def PySem.W.Fast.tw13482352582400104699:Nat:=0
def PySem.W.Fast.tw4024054518836324099:Nat:=0
def PySem.W.Fast.tw17083943339275181834:Nat:=0
def PySem.W.Fast.tw3695552502591284822:Nat:=0
def PySem.W.Fast.tw12271765887444334129:Nat:=0
def PySem.W.Fast.tw15715467586365421830:Nat:=0
def PySem.W.Fast.tw7409784083326774330:Nat:=0
def PySem.W.Fast.tw6569363714569777903:Nat:=0
def PySem.W.Fast.tw7726739446443091020:Nat:=0
def PySem.W.Fast.tw17000459269317737166:Nat:=0
def PySem.W.Fast.tw13981915437436943000:Nat:=0
def PySem.W.Fast.tw13688288096932005724:Nat:=0
def PySem.W.Fast.tw14831781367674998359:Nat:=0
def PySem.W.Fast.tw13569858749904155172:Nat:=0
def PySem.W.Fast.tw13387503466047373658:Nat:=0
def PySem.W.Fast.tw839121084408802214:Nat:=0
def PySem.W.Fast.tw8442940444383640183:Nat:=0
def PySem.W.Fast.tw12149595302545055798:Nat:=0
def PySem.W.Fast.tw14518399133584017555:Nat:=0
def PySem.W.Fast.tw16001529244921413083:Nat:=0
def PySem.W.Fast.tw3691095198903734389:Nat:=0
def PySem.W.Fast.tw11640301687059328446:Nat:=0
def PySem.W.Fast.tw811784500751536485:Nat:=0
def PySem.W.Fast.tw1924544662261497258:Nat:=0
def PySem.W.Fast.tw13562327683764516406:Nat:=0
def PySem.W.Fast.tw4060016083382600406:Nat:=0
def PySem.W.Fast.tw11886457294711055333:Nat:=0
def PySem.W.Fast.tw6782554544444111161:Nat:=0
def PySem.W.Fast.tw10655107796642107320:Nat:=0
def PySem.W.Fast.tw5386981598392198265:Nat:=0
def PySem.W.Fast.tw11727612730901111346:Nat:=0
def PySem.W.Fast.tw17125785962896574438:Nat:=0
def PySem.W.Fast.tw15546996646853706531:Nat:=0
def PySem.W.Fast.tw740007013698843861:Nat:=0
def PySem.W.Fast.tw104706063271369815:Nat:=0
def PySem.W.Fast.tw10937204218542436187:Nat:=0
def PySem.W.Fast.tw7572676810627246720:Nat:=0
def PySem.W.Fast.tw10030173225301528656:Nat:=0
def PySem.W.Fast.tw1413080621748287805:Nat:=0
def PySem.W.Fast.tw18036667866313578211:Nat:=0
def PySem.W.Fast.tw7871171867986469687:Nat:=0
def PySem.W.Fast.tw12470811047530539083:Nat:=0
def PySem.W.Fast.tw8090707537979367720:Nat:=0
def PySem.W.Fast.tw6686975230359346941:Nat:=0
def PySem.W.Fast.tw8693246540670482266:Nat:=0
def PySem.W.Fast.tw12284266763101817794:Nat:=0
def PySem.W.Fast.tw10290808917924579712:Nat:=0
def PySem.W.Fast.tw3305681694385599290:Nat:=0
def PySem.W.Fast.tw9493331517374066279:Nat:=0
def PySem.W.Fast.tw12436126695704208540:Nat:=0
def PySem.W.Fast.tw17786701681522044021:Nat:=0
def PySem.W.Fast.tw2202499453353747123:Nat:=0
def PySem.W.Fast.tw12929022290828041293:Nat:=0
def PySem.W.Fast.tw5967806250248423918:Nat:=0
def PySem.W.Fast.tw13766827880965977991:Nat:=0
def PySem.W.Fast.tw218451837486102720:Nat:=0
def PySem.W.Fast.tw181303258492195612:Nat:=0
def PySem.W.Fast.tw10807038413927417718:Nat:=0
def PySem.W.Fast.tw4675922401922434751:Nat:=0
def PySem.W.Fast.tw7970522962061764672:Nat:=0
def PySem.W.Fast.tw8188975010880551262:Nat:=0
def PySem.W.Fast.tw8221168304894589078:Nat:=0
def PySem.W.Fast.tw12374094394151757481:Nat:=0
def PySem.W.Fast.tw14973692956767634685:Nat:=0
def PySem.W.Fast.tw16355344497253619707:Nat:=0
def PySem.W.Fast.tw11254268900953414724:Nat:=0
def PySem.W.Fast.tw5350294533223865088:Nat:=0
def PySem.W.Fast.tw10893655932296136016:Nat:=0
def PySem.W.Fast.tw17398770523702136479:Nat:=0
def PySem.W.Fast.tw7985713102859611386:Nat:=0
def PySem.W.Fast.tw5855697242991595549:Nat:=0
def PySem.W.Fast.tw2915288788815226577:Nat:=0
def PySem.W.Fast.tw16695278340026797350:Nat:=0
def PySem.W.Fast.tw9119604360313353763:Nat:=0
def PySem.W.Fast.tw11873270962620005489:Nat:=0
def PySem.W.Fast.tw16805465910530773041:Nat:=0
def PySem.W.Fast.tw17070320853215354236:Nat:=0
def PySem.W.Fast.tw3589772737080132762:Nat:=0
def PySem.W.Fast.tw4063624501063205440:Nat:=0
def PySem.W.Fast.tw3310917891601721285:Nat:=0
def PySem.W.Fast.tw891804276151627301:Nat:=0
def PySem.W.Fast.tw17700535893370853064:Nat:=0
def PySem.W.Fast.tw13974888088726295041:Nat:=0
def PySem.W.Fast.tw7131663779524663890:Nat:=0
def PySem.W.Fast.tw11257014314612751855:Nat:=0
def PySem.W.Fast.tw1327426888718740960:Nat:=0
def PySem.W.Fast.tw5864551624896162770:Nat:=0
def PySem.W.Fast.tw367546526171756391:Nat:=0
def PySem.W.Fast.tw18253418897313392141:Nat:=0
def PySem.W.Fast.tw16290173814961549349:Nat:=0
def PySem.W.Fast.tw4864293287100083055:Nat:=0
def PySem.W.Fast.tw5640921405162420523:Nat:=0
def PySem.W.Fast.tw8672162032443791787:Nat:=0
def PySem.W.Fast.tw699245383303278342:Nat:=0
def PySem.W.Fast.tw4274823936750449300:Nat:=0
def PySem.W.Fast.tw18184467295078145953:Nat:=0
def PySem.W.Fast.tw5765500513520695160:Nat:=0
def PySem.W.Fast.tw17825191007802354854:Nat:=0
def PySem.W.Fast.tw589389469471683238:Nat:=0
def PySem.W.Fast.tw17713017531977683752:Nat:=0
def PySem.W.Fast.tw8230810672842703034:Nat:=0
def PySem.W.Fast.tw6133816918848645573:Nat:=0
def PySem.W.Fast.tw7371645188680229659:Nat:=0
def PySem.W.Fast.tw14783256434191443052:Nat:=0
def PySem.W.Fast.tw632587263045758921:Nat:=0
def PySem.W.Fast.tw17020789909257494613:Nat:=0
def PySem.W.Fast.tw623892829647811676:Nat:=0
def PySem.W.Fast.tw16546045765970665393:Nat:=0
def PySem.W.Fast.tw16899239629513641283:Nat:=0
def PySem.W.Fast.tw14453508488426565871:Nat:=0
def PySem.W.Fast.tw2560098557344760009:Nat:=0
def PySem.W.Fast.tw16136260269895865820:Nat:=0
def PySem.W.Fast.tw16461794391670974052:Nat:=0
def PySem.W.Fast.tw2061843746934776050:Nat:=0
def PySem.W.Fast.tw14138284455353878848:Nat:=0
def PySem.W.Fast.tw9588862118551877434:Nat:=0
def PySem.W.Fast.tw15832740462058964975:Nat:=0
def PySem.W.Fast.tw10203434152715866667:Nat:=0
def PySem.W.Fast.tw2042262767677291071:Nat:=0
def PySem.W.Fast.tw17397100584939878340:Nat:=0
def PySem.W.Fast.tw10799398816281447996:Nat:=0
def PySem.W.Fast.tw12337063981323719219:Nat:=0
def PySem.W.Fast.tw15289710262156954708:Nat:=0
def PySem.W.Fast.tw6930897984425426091:Nat:=0
def PySem.W.Fast.tw16353333277340122044:Nat:=0
def PySem.W.Fast.tw2070282898533841562:Nat:=0
def PySem.W.Fast.tw10824963008005798869:Nat:=0
def PySem.W.Fast.tw5564133609059264238:Nat:=0
def PySem.W.Fast.tw16836195542007956088:Nat:=0
def PySem.W.Fast.tw13574460415057159762:Nat:=0
def PySem.W.Fast.tw12211039488905148800:Nat:=0
def PySem.W.Fast.tw13704123148605024600:Nat:=0
def PySem.W.Fast.tw3822289790747797323:Nat:=0
def PySem.W.Fast.tw14865402776656578055:Nat:=0
def PySem.W.Fast.tw3279286567341141665:Nat:=0
def PySem.W.Fast.tw1165138638780248737:Nat:=0
def PySem.W.Fast.tw18206478016209865682:Nat:=0
def PySem.W.Fast.tw14782747980554689713:Nat:=0
def PySem.W.Fast.tw5691008043225447651:Nat:=0
def PySem.W.Fast.tw14499997030738802281:Nat:=0
def PySem.W.Fast.tw16004297343642714817:Nat:=0
def PySem.W.Fast.tw11486744683956358387:Nat:=0
def PySem.W.Fast.tw385498311051110402:Nat:=0
def PySem.W.Fast.tw6804812150156267805:Nat:=0
def PySem.W.Fast.tw5187286824909424973:Nat:=0
def PySem.W.Fast.tw8345452706526173598:Nat:=0
def PySem.W.Fast.tw11688451498589845736:Nat:=0
def PySem.W.Fast.tw17345766535538377917:Nat:=0
def PySem.W.Fast.tw9090374178834807863:Nat:=0
def PySem.W.Fast.tw11655457953185896112:Nat:=0
def PySem.W.Fast.tw15758310669702984017:Nat:=0
def PySem.W.Fast.tw17358365382058566238:Nat:=0
def PySem.W.Fast.tw15936251009254764486:Nat:=0
def PySem.W.Fast.tw3709471198438539712:Nat:=0
def PySem.W.Fast.tw4881340480988948974:Nat:=0
def PySem.W.Fast.tw3495682730035385111:Nat:=0
def PySem.W.Fast.tw14219206616175457799:Nat:=0
def PySem.W.Fast.tw1989485825987469429:Nat:=0
def PySem.W.Fast.tw3948865534816172661:Nat:=0
def PySem.W.Fast.tw14864370937830176723:Nat:=0
def PySem.W.Fast.tw5847706381221289455:Nat:=0
def PySem.W.Fast.tw5028317307033510214:Nat:=0
def PySem.W.Fast.tw2651528956641051464:Nat:=0
def PySem.W.Fast.tw17235600754291869919:Nat:=0
def PySem.W.Fast.tw1786094460606524066:Nat:=0
def PySem.W.Fast.tw1770067877809788667:Nat:=0
def PySem.W.Fast.tw17836026888103356033:Nat:=0
def PySem.W.Fast.tw10219524153158187443:Nat:=0
def PySem.W.Fast.tw8193508181625247640:Nat:=0
def PySem.W.Fast.tw17792500409135546407:Nat:=0
def PySem.W.Fast.tw11309058587957530943:Nat:=0
def PySem.W.Fast.tw14743672670304605596:Nat:=0
def PySem.W.Fast.tw17843364568010360793:Nat:=0
def PySem.W.Fast.tw15152199029971928278:Nat:=0
def PySem.W.Fast.tw4137064972522882659:Nat:=0
def PySem.W.Fast.tw14665737717646767411:Nat:=0
def PySem.W.Fast.tw8151784640290853710:Nat:=0
def PySem.W.Fast.tw1927756270482775059:Nat:=0
def PySem.W.Fast.tw13448103774847887711:Nat:=0
def PySem.W.Fast.tw9503917787655851156:Nat:=0
def PySem.W.Fast.tw6404268982607564084:Nat:=0
def PySem.W.Fast.tw4959724029923279450:Nat:=0
def PySem.W.Fast.tw15022547792990052474:Nat:=0
def PySem.W.Fast.tw7371570114122929570:Nat:=0
def PySem.W.Fast.tw11797772656336838889:Nat:=0
def PySem.W.Fast.tw17155688235733503328:Nat:=0
def PySem.W.Fast.tw12578515346586793699:Nat:=0
def PySem.W.Fast.tw322345217566479469:Nat:=0
def PySem.W.Fast.tw17340131500303832364:Nat:=0
def PySem.W.Fast.tw8664177122372808504:Nat:=0
def PySem.W.Fast.tw15869386578068308176:Nat:=0
def PySem.W.Fast.tw4454543556932526810:Nat:=0
def PySem.W.Fast.tw9850534277963122000:Nat:=0
def PySem.W.Fast.tw1973072769093397947:Nat:=0
def PySem.W.Fast.tw2341067984705336231:Nat:=0
def PySem.W.Fast.tw4834745692779558981:Nat:=0
def PySem.W.Fast.tw14614774619535659322:Nat:=0
def PySem.W.Fast.tw14482459253137166379:Nat:=0
def PySem.W.Fast.tw10316858922302768076:Nat:=0
def PySem.W.Fast.tw9064364926608166158:Nat:=0
def PySem.W.Fast.tw756336820746047965:Nat:=0
def PySem.W.Fast.tw15745714727920870470:Nat:=0
def PySem.W.Fast.tw14684570465250702250:Nat:=0
def PySem.W.Fast.tw12082820300029547739:Nat:=0
def PySem.W.Fast.tw4748291266071792501:Nat:=0
def PySem.W.Fast.tw11552265075102740756:Nat:=0
def PySem.W.Fast.tw15235799824760654640:Nat:=0
def PySem.W.Fast.tw15941723057308232781:Nat:=0
def PySem.W.Fast.tw12738336497545834335:Nat:=0
def PySem.W.Fast.tw15993871691015994:Nat:=0
def PySem.W.Fast.tw7529068015321785342:Nat:=0
def PySem.W.Fast.tw12960195621086391287:Nat:=0
def PySem.W.Fast.tw12132862485973930396:Nat:=0
def PySem.W.Fast.tw13067283690893478972:Nat:=0
def PySem.W.Fast.tw15130151161126900973:Nat:=0
def PySem.W.Fast.tw10313250491260794270:Nat:=0
def PySem.W.Fast.tw11979435976712014784:Nat:=0
def PySem.W.Fast.tw1718947262792539982:Nat:=0
def PySem.W.Fast.tw3495895280162268629:Nat:=0
def PySem.W.Fast.tw3686621198761698376:Nat:=0
def PySem.W.Fast.tw10626483676455955843:Nat:=0
def PySem.W.Fast.tw5362408892084266456:Nat:=0
def PySem.W.Fast.tw17925683687451808948:Nat:=0
def PySem.W.Fast.tw11074445675346059821:Nat:=0
def PySem.W.Fast.tw18435425193901454483:Nat:=0
def PySem.W.Fast.tw16579142577654543295:Nat:=0
def PySem.W.Fast.tw3024274320087481712:Nat:=0
def PySem.W.Fast.tw10768561070626477484:Nat:=0
def PySem.W.Fast.tw1761562768335808647:Nat:=0
def PySem.W.Fast.tw17835300363597184164:Nat:=0
def PySem.W.Fast.tw8575253514399548143:Nat:=0
def PySem.W.Fast.tw15590912876536136803:Nat:=0
def PySem.W.Fast.tw9311795951869447517:Nat:=0
def PySem.W.Fast.tw3841082915339830888:Nat:=0
def PySem.W.Fast.tw13783266213213263241:Nat:=0
def PySem.W.Fast.tw1127187140053616585:Nat:=0
def PySem.W.Fast.tw11525679545943312261:Nat:=0
def PySem.W.Fast.tw2513393057726793799:Nat:=0
def PySem.W.Fast.tw10795874350865106859:Nat:=0
def PySem.W.Fast.tw16479081410459412428:Nat:=0
def PySem.W.Fast.tw18399093836809621266:Nat:=0
def PySem.W.Fast.tw7582362109439438693:Nat:=0
def PySem.W.Fast.tw12301869507556480118:Nat:=0
def PySem.W.Fast.tw4148774994074425872:Nat:=0
def PySem.W.Fast.tw10285190628596369834:Nat:=0
def PySem.W.Fast.tw16012770883379159023:Nat:=0
def PySem.W.Fast.tw7110681762538882235:Nat:=0
def PySem.W.Fast.tw6166361830382745170:Nat:=0
def PySem.W.Fast.tw7727684440403954542:Nat:=0
def PySem.W.Fast.tw12440661360634362399:Nat:=0
def PySem.W.Fast.tw18103437068097233321:Nat:=0
def PySem.W.Fast.tw9158432774145384422:Nat:=0
def PySem.W.Fast.tw7908129162300902136:Nat:=0
def PySem.W.Fast.tw13867908408720170286:Nat:=0
def PySem.W.Fast.tw9744692067241897176:Nat:=0
def PySem.W.Fast.tw4162750022398881358:Nat:=0
def PySem.W.Fast.tw6092622470034075831:Nat:=0
def PySem.W.Fast.tw14283177699763429205:Nat:=0
def PySem.W.Fast.tw4326001471468710415:Nat:=0
def PySem.W.Fast.tw4287155347168838703:Nat:=0
def PySem.W.Fast.tw5828965892653577223:Nat:=0
def PySem.W.Fast.tw7631913596949551834:Nat:=0
def PySem.W.Fast.tw15858162157975933737:Nat:=0
def PySem.W.Fast.tw3144771702080175762:Nat:=0
def PySem.W.Fast.tw2973886291784084365:Nat:=0
def PySem.W.Fast.tw12398358337001818574:Nat:=0
def PySem.W.Fast.tw13925640906054686669:Nat:=0
def PySem.W.Fast.tw4985811009451370398:Nat:=0
def PySem.W.Fast.tw17927434829379552715:Nat:=0
def PySem.W.Fast.tw17926057568435758185:Nat:=0
def PySem.W.Fast.tw8420093199038188183:Nat:=0
def PySem.W.Fast.tw7613856859989528039:Nat:=0
def PySem.W.Fast.tw16170229799568313134:Nat:=0
def PySem.W.Fast.tw10743000273494085434:Nat:=0
def PySem.W.Fast.tw1479654636277047812:Nat:=0
def PySem.W.Fast.tw11904468550655325073:Nat:=0
def PySem.W.Fast.tw11788973051726896993:Nat:=0
def PySem.W.Fast.tw4022957701031720500:Nat:=0
def PySem.W.Fast.tw10830394642316265983:Nat:=0
def PySem.W.Fast.tw3817481505759172486:Nat:=0
def PySem.W.Fast.tw17347717190633698304:Nat:=0
def PySem.W.Fast.tw16261559258111855099:Nat:=0
def PySem.W.Fast.tw11447572140057996316:Nat:=0
def PySem.W.Fast.tw17156367454183764782:Nat:=0
def PySem.W.Fast.tw9462079557990429833:Nat:=0
def PySem.W.Fast.tw6783325894261670256:Nat:=0
def PySem.W.Fast.tw4766355589462389438:Nat:=0
def PySem.W.Fast.tw11852704468847019214:Nat:=0
def PySem.W.Fast.tw16707048671104776910:Nat:=0
def PySem.W.Fast.tw11318045967463118152:Nat:=0
def PySem.W.Fast.tw8004313929844097057:Nat:=0
def PySem.W.Fast.tw7630347391264802296:Nat:=0
def PySem.W.Fast.tw10026538244067678227:Nat:=0
def PySem.W.Fast.tw17075866370132698661:Nat:=0
def PySem.W.Fast.tw15364682961479612097:Nat:=0
def PySem.W.Fast.tw1169670997645754335:Nat:=0
def PySem.W.Fast.tw2148757171316876643:Nat:=0
def PySem.W.Fast.tw16788135593812118308:Nat:=0
def PySem.W.Fast.tw6124913940696630869:Nat:=0
def PySem.W.Fast.tw922450453178420936:Nat:=0
def PySem.W.Fast.tw4743013873016557083:Nat:=0
def PySem.W.Fast.tw10870530455274867644:Nat:=0
def PySem.W.Fast.tw1464688825374826574:Nat:=0
def PySem.W.Fast.tw16378393655634994320:Nat:=0
def PySem.W.Fast.tw4719906118897417011:Nat:=0
def PySem.W.Fast.tw14252831613137429852:Nat:=0
def PySem.W.Fast.tw5875305720794876115:Nat:=0
def PySem.W.Fast.tw12101267604279958330:Nat:=0
def PySem.W.Fast.tw15867845122388221086:Nat:=0
def PySem.W.Fast.tw15017268022292395073:Nat:=0
def PySem.W.Fast.tw1701793866879199581:Nat:=0
def PySem.W.Fast.tw13726652655302606010:Nat:=0
def PySem.W.Fast.tw1028983759750940420:Nat:=0
def PySem.W.Fast.tw11466257361019605983:Nat:=0
def PySem.W.Fast.tw14266627224827004026:Nat:=0
def PySem.W.Fast.tw15199505243790111645:Nat:=0
def PySem.W.Fast.tw16679906884411231723:Nat:=0
def PySem.W.Fast.tw16033970134981777557:Nat:=0
def PySem.W.Fast.tw5409475474281930111:Nat:=0
def PySem.W.Fast.tw6060514666014575281:Nat:=0
def PySem.W.Fast.tw2728721211841050966:Nat:=0
def PySem.W.Fast.tw17937260075834165232:Nat:=0
def PySem.W.Fast.tw13800783781083579499:Nat:=0
def PySem.W.Fast.tw8831990812544990924:Nat:=0
def PySem.W.Fast.tw6079803659494979531:Nat:=0
def PySem.W.Fast.tw12520744860074326571:Nat:=0
def PySem.W.Fast.tw201280127899232483:Nat:=0
def PySem.W.Fast.tw10497855963067214720:Nat:=0
def PySem.W.Fast.tw9846997064863868669:Nat:=0
def PySem.W.Fast.tw10702335084493627321:Nat:=0
def PySem.W.Fast.tw15789049426498571198:Nat:=0
def PySem.W.Fast.tw8351986676022642057:Nat:=0
def PySem.W.Fast.tw6954209058749458349:Nat:=0
def PySem.W.Fast.tw7055781817564836154:Nat:=0
def PySem.W.Fast.tw8278875406872629583:Nat:=0
def PySem.W.Fast.tw16240453939686325360:Nat:=0
def PySem.W.Fast.tw1003098305197657821:Nat:=0
def PySem.W.Fast.tw2569266910462575925:Nat:=0
def PySem.W.Fast.tw6067850954411363847:Nat:=0
def PySem.W.Fast.tw7237680854308804466:Nat:=0
def PySem.W.Fast.tw4994301426469086415:Nat:=0
def PySem.W.Fast.tw9227356233506208389:Nat:=0
def PySem.W.Fast.tw4610812824595427371:Nat:=0
def PySem.W.Fast.tw11110991372985954977:Nat:=0
def PySem.W.Fast.tw13617649802624494485:Nat:=0
def PySem.W.Fast.tw8201716057437947820:Nat:=0
def PySem.W.Fast.tw6373719893373027012:Nat:=0
def PySem.W.Fast.tw3117555060955345407:Nat:=0
def PySem.W.Fast.tw13224733900022446592:Nat:=0
def PySem.W.Fast.tw2954628708916437390:Nat:=0
def PySem.W.Fast.tw3291887976603838608:Nat:=0
def PySem.W.Fast.tw13498347912107743202:Nat:=0
def PySem.W.Fast.tw14669152753645546204:Nat:=0
def PySem.W.Fast.tw16276445510969020110:Nat:=0
def PySem.W.Fast.tw2701640634287218958:Nat:=0
def PySem.W.Fast.tw5424509526145579633:Nat:=0
def PySem.W.Fast.tw17221601176185973721:Nat:=0
def PySem.W.Fast.tw12629344763885659845:Nat:=0
def PySem.W.Fast.tw12488087062509012554:Nat:=0
def PySem.W.Fast.tw10302766581942210286:Nat:=0
def PySem.W.Fast.tw3642513479711308050:Nat:=0
def PySem.W.Fast.tw8997233575431644981:Nat:=0
def PySem.W.Fast.tw16409272606808457391:Nat:=0
def PySem.W.Fast.tw3895545710083982520:Nat:=0
def PySem.W.Fast.tw12408173029006781438:Nat:=0
def PySem.W.Fast.tw5345358787641022387:Nat:=0
def PySem.W.Fast.tw14351993823023929143:Nat:=0
def PySem.W.Fast.tw10601158129062382787:Nat:=0
def PySem.W.Fast.tw2914968008957573247:Nat:=0
def PySem.W.Fast.tw4719755379663681068:Nat:=0
def PySem.W.Fast.tw11085148454482448101:Nat:=0
def PySem.W.Fast.tw4596436407619964062:Nat:=0
def PySem.W.Fast.tw9439652868719073385:Nat:=0
def PySem.W.Fast.tw13889739698096727490:Nat:=0
def PySem.W.Fast.tw1357723752132144902:Nat:=0
def PySem.W.Fast.tw17042820385258099792:Nat:=0
def PySem.W.Fast.tw17436459598736139368:Nat:=0
def PySem.W.Fast.tw3355688987135065523:Nat:=0
def PySem.W.Fast.tw13543716577675275672:Nat:=0
def PySem.W.Fast.tw14052149172088401576:Nat:=0
def PySem.W.Fast.tw1124966698361282722:Nat:=0
def PySem.W.Fast.tw10696997614348354748:Nat:=0
def PySem.W.Fast.tw5431038000218549258:Nat:=0
def PySem.W.Fast.tw10706912559178708803:Nat:=0
def PySem.W.Fast.tw13372141021487543161:Nat:=0
def PySem.W.Fast.tw16896856671478370548:Nat:=0
def PySem.W.Fast.tw8479804791875336064:Nat:=0
def PySem.W.Fast.tw8760136837228650770:Nat:=0
def PySem.W.Fast.tw1945218428529784180:Nat:=0
def PySem.W.Fast.tw11400170298883097144:Nat:=0
def PySem.W.Fast.tw3576487178308027197:Nat:=0
def PySem.W.Fast.tw3035799517756226403:Nat:=0
def PySem.W.Fast.tw2724717302829866202:Nat:=0
def PySem.W.Fast.tw11802927677654383082:Nat:=0
def PySem.W.Fast.tw9115422792172448471:Nat:=0
def PySem.W.Fast.tw368780444288274802:Nat:=0
def PySem.W.Fast.tw2196826366296957880:Nat:=0
def PySem.W.Fast.tw3437836567739795775:Nat:=0
def PySem.W.Fast.tw10991615410167346555:Nat:=0
def PySem.W.Fast.tw14571343198992663842:Nat:=0
def PySem.W.Fast.tw5841318724775530208:Nat:=0
def PySem.W.Fast.tw5040063244581668523:Nat:=0
def PySem.W.Fast.tw12890651763487849620:Nat:=0
def PySem.W.Fast.tw13372975817287139432:Nat:=0
def PySem.W.Fast.tw6003918268440806387:Nat:=0
def PySem.W.Fast.tw10027162704006962020:Nat:=0
def PySem.W.Fast.tw11092637290758164013:Nat:=0
def PySem.W.Fast.tw14831842576498439787:Nat:=0
def PySem.W.Fast.tw4990193903863233942:Nat:=0
def PySem.W.Fast.tw17820590945378207001:Nat:=0
def PySem.W.Fast.tw3917922874001449137:Nat:=0
def PySem.W.Fast.tw13249993337009662106:Nat:=0
def PySem.W.Fast.tw2633209028217400641:Nat:=0
def PySem.W.Fast.tw8244685865493436368:Nat:=0
def PySem.W.Fast.tw9676628381913347486:Nat:=0
def PySem.W.Fast.tw8500105741407411114:Nat:=0
def PySem.W.Fast.tw10106413522839668801:Nat:=0
def PySem.W.Fast.tw17733151572752513018:Nat:=0
def PySem.W.Fast.tw4782381490390623196:Nat:=0
def PySem.W.Fast.tw737229441762201046:Nat:=0
def PySem.W.Fast.tw7475788194776248314:Nat:=0
def PySem.W.Fast.tw12200983993522468033:Nat:=0
def PySem.W.Fast.tw11338571283391858648:Nat:=0
def PySem.W.Fast.tw6953547921265377377:Nat:=0
def PySem.W.Fast.tw9004752278548626591:Nat:=0
def PySem.W.Fast.tw10867886846950494599:Nat:=0
def PySem.W.Fast.tw8011589957815406863:Nat:=0
def PySem.W.Fast.tw8984276786024064821:Nat:=0
def PySem.W.Fast.tw5727142672326233853:Nat:=0
def PySem.W.Fast.tw9639910562345193393:Nat:=0
def PySem.W.Fast.tw17216782670967402255:Nat:=0
def PySem.W.Fast.tw15583258675865522307:Nat:=0
def PySem.W.Fast.tw6843002835753834800:Nat:=0
def PySem.W.Fast.tw10705927684873975053:Nat:=0
def PySem.W.Fast.tw467412865614479480:Nat:=0
def PySem.W.Fast.tw1146237976721318355:Nat:=0
def PySem.W.Fast.tw13009144480015518811:Nat:=0
def PySem.W.Fast.tw15436572727961039180:Nat:=0
def PySem.W.Fast.tw15609581996798581927:Nat:=0
def PySem.W.Fast.tw1535426084825302227:Nat:=0
def PySem.W.Fast.tw3931919531164242339:Nat:=0
def PySem.W.Fast.tw5944652534786878502:Nat:=0
def PySem.W.Fast.tw5776554279053828214:Nat:=0
def PySem.W.Fast.tw11982538947834748431:Nat:=0
def PySem.W.Fast.tw4798383101884097427:Nat:=0
def PySem.W.Fast.tw6111949404160614953:Nat:=0
def PySem.W.Fast.tw4993840806859224822:Nat:=0
def PySem.W.Fast.tw6508595778378674107:Nat:=0
def PySem.W.Fast.tw7531012714590065347:Nat:=0
def PySem.W.Fast.tw4052789868040472102:Nat:=0
def PySem.W.Fast.tw12368354058275443057:Nat:=0
def PySem.W.Fast.tw15096385548196047038:Nat:=0
def PySem.W.Fast.tw18315808232994034786:Nat:=0
def PySem.W.Fast.tw14162717494054735658:Nat:=0
def PySem.W.Fast.tw7006085849589876511:Nat:=0
def PySem.W.Fast.tw4186667542109326504:Nat:=0
def PySem.W.Fast.tw6776100457839588198:Nat:=0
def PySem.W.Fast.tw9433595297515594662:Nat:=0
def PySem.W.Fast.tw16951932880800401473:Nat:=0
def PySem.W.Fast.tw4064369752147752214:Nat:=0
def PySem.W.Fast.tw447612888099051952:Nat:=0
def PySem.W.Fast.tw98496305138940742:Nat:=0
def PySem.W.Fast.tw12826521845893444872:Nat:=0
def PySem.W.Fast.tw3538903238970386396:Nat:=0
def PySem.W.Fast.tw1819917194939007627:Nat:=0
def PySem.W.Fast.tw14332016938997305971:Nat:=0
def PySem.W.Fast.tw13123548572843301805:Nat:=0
def PySem.W.Fast.tw1807709454026705936:Nat:=0
def PySem.W.Fast.tw8943854022304670146:Nat:=0
def PySem.W.Fast.tw3423304605043903310:Nat:=0
def PySem.W.Fast.tw1335431594581708201:Nat:=0
def PySem.W.Fast.tw1136080451715166378:Nat:=0
def PySem.W.Fast.tw3177250114924132087:Nat:=0
def PySem.W.Fast.tw10536681444233082622:Nat:=0
def PySem.W.Fast.tw7676015852411734233:Nat:=0
def PySem.W.Fast.tw1398970981896522231:Nat:=0
def PySem.W.Fast.tw12058017046643193804:Nat:=0
def PySem.W.Fast.tw1603139562962598536:Nat:=0
def PySem.W.Fast.tw14411753084480874877:Nat:=0
def PySem.W.Fast.tw173651113333039519:Nat:=0
def PySem.W.Fast.tw6594473147103889790:Nat:=0
def PySem.W.Fast.tw9579360663988909763:Nat:=0
def PySem.W.Fast.tw16556423906291602937:Nat:=0
def PySem.W.Fast.tw210583836612075644:Nat:=0
def PySem.W.Fast.tw2616585752156488613:Nat:=0
def PySem.W.Fast.tw8349492280564858180:Nat:=0
def PySem.W.Fast.tw11673113759697357392:Nat:=0
def PySem.W.Fast.tw15569864200852420769:Nat:=0
def PySem.W.Fast.tw13723655844944336543:Nat:=0
def PySem.W.Fast.tw13249805803391612079:Nat:=0
def PySem.W.Fast.tw14235075654211136175:Nat:=0
def PySem.W.Fast.tw17145569752906123027:Nat:=0
def PySem.W.Fast.tw16563693981459423158:Nat:=0
def PySem.W.Fast.tw2712787359532907119:Nat:=0
def PySem.W.Fast.tw11310393645788599921:Nat:=0
def PySem.W.Fast.tw15265923807891133878:Nat:=0
def PySem.W.Fast.tw16497964266034133095:Nat:=0
def PySem.W.Fast.tw16883640547960452782:Nat:=0
def PySem.W.Fast.tw1247973116265654461:Nat:=0
def PySem.W.Fast.tw6970234755290827133:Nat:=0
def PySem.W.Fast.tw15308012445427613038:Nat:=0
def PySem.W.Fast.tw18356656926375720338:Nat:=0
def PySem.W.Fast.tw14897196862405448001:Nat:=0
def PySem.W.Fast.tw6533774987863086657:Nat:=0
def PySem.W.Fast.tw7148070923734558555:Nat:=0
def PySem.W.Fast.tw8728299335209397925:Nat:=0
def PySem.W.Fast.tw3069823977961619205:Nat:=0
def PySem.W.Fast.tw6963563056144711271:Nat:=0
def PySem.W.Fast.tw173361642055614318:Nat:=0
def PySem.W.Fast.tw1038129883345498225:Nat:=0
def PySem.W.Fast.tw4892372069526933430:Nat:=0
def PySem.W.Fast.tw6730381907273863940:Nat:=0
def PySem.W.Fast.tw11007515220985343246:Nat:=0
def PySem.W.Fast.tw13648065732362145978:Nat:=0
def PySem.W.Fast.tw11149914391119533199:Nat:=0
def PySem.W.Fast.tw16854976560469900045:Nat:=0
def PySem.W.Fast.tw13640279163056368535:Nat:=0
def PySem.W.Fast.tw12292156274030261056:Nat:=0
def PySem.W.Fast.tw12956142314499678910:Nat:=0
def PySem.W.Fast.tw2732717357072335321:Nat:=0
def PySem.W.Fast.tw5374038450327882771:Nat:=0
def PySem.W.Fast.tw9804635049332448086:Nat:=0
def PySem.W.Fast.tw13881874152359870716:Nat:=0
def PySem.W.Fast.tw3458558713455101271:Nat:=0
def PySem.W.Fast.tw1090543286876894948:Nat:=0
def PySem.W.Fast.tw6233610792026008227:Nat:=0
def PySem.W.Fast.tw13006936064029386167:Nat:=0
def PySem.W.Fast.tw11919220504055249489:Nat:=0
def PySem.W.Fast.tw18188162165397616430:Nat:=0
def PySem.W.Fast.tw11835766266951940939:Nat:=0
def PySem.W.Fast.tw1323967304847811350:Nat:=0
def PySem.W.Fast.tw927852553744681351:Nat:=0
def PySem.W.Fast.tw16927149058980851328:Nat:=0
def PySem.W.Fast.tw7338171371181220820:Nat:=0
def PySem.W.Fast.tw17477070499715552537:Nat:=0
def PySem.W.Fast.tw17842590716979265329:Nat:=0
def PySem.W.Fast.tw13055550906797505582:Nat:=0
def PySem.W.Fast.tw5580557633195390542:Nat:=0
def PySem.W.Fast.tw2245735120146547496:Nat:=0
def PySem.W.Fast.tw15720690879367003331:Nat:=0
def PySem.W.Fast.tw2794290673724438275:Nat:=0
def PySem.W.Fast.tw399111905488097386:Nat:=0
def PySem.W.Fast.tw5733215429259806143:Nat:=0
def PySem.W.Fast.tw15623090831146745332:Nat:=0
def PySem.W.Fast.tw327120348268751095:Nat:=0
def PySem.W.Fast.tw13318989592816189177:Nat:=0
def PySem.W.Fast.tw2837291708723066246:Nat:=0
def PySem.W.Fast.tw5371970237087687543:Nat:=0
def PySem.W.Fast.tw1424586470589619834:Nat:=0
def PySem.W.Fast.tw1696588281206635199:Nat:=0
def PySem.W.Fast.tw6022195295708381277:Nat:=0
def PySem.W.Fast.tw9469362385952021669:Nat:=0
def PySem.W.Fast.tw8260499940710738409:Nat:=0
def PySem.W.Fast.tw15998820586106557911:Nat:=0
def PySem.W.Fast.tw2547014437347651651:Nat:=0
def PySem.W.Fast.tw18396068710961007655:Nat:=0
def PySem.W.Fast.tw15472839723467824003:Nat:=0
def PySem.W.Fast.tw1806146745234257551:Nat:=0
def PySem.W.Fast.tw552445723348567814:Nat:=0
open PySem PySem.W PyProof.Rows
set_option maxRecDepth 100000 in
set_option maxHeartbeats 0 in
theorem PySem.Challenge.cw_guessroom_k41_whole_a_house_found_holds : PySem.Challenge.rw_guessroom_k41_whole_a_house_found.Holds := by
  w_on; o_law; k_head; (case hw => w_witness2)
  k_fill
  refine Mine.walk (l := PySem.Challenge.rw_guessroom_k41_whole_a_house_found) rfl rfl (fun w h Y => PySem.W.kIn_of Y) ?F
  case F =>
    intro w mg fa h KX G hmg
    refine' Mine.all_mk KX G hmg ?aC_Book ?pg_Book ?hd_Book ?po_Book ?sa_Book ?mk_Book ?kc_Book ?n_letters_Book ?n_marks_Book ?aC_Turns ?aC_Hunt ?aC_Asker ?pg_Asker ?hd_Asker ?po_Asker ?sa_Asker ?mk_Asker ?kc_Asker ?n_wish_Asker ?n_letters_Asker ?n_most_Asker ?n_book_Asker ?n_ways_Asker ?n_ends_Asker ?n_gaps_Asker ?n_guess_Asker ?n_wrong_Asker ?q_MOST_MARK ?a_Turns_wants ?i_Turns_wants ?l_Turns_wants ?c_Turns_wants ?k_Turns_wants ?a_Turns_check_wants ?i_Turns_check_wants ?l_Turns_check_wants ?c_Turns_check_wants ?k_Turns_check_wants ?a_Hunt_agree ?i_Hunt_agree ?l_Hunt_agree ?c_Hunt_agree ?k_Hunt_agree ?a_Book_init ?i_Book_init ?l_Book_init ?c_Book_init ?k_Book_init ?a_is_word ?l_is_word ?c_is_word ?k_is_word ?a_check_word ?l_check_word ?c_check_word ?k_check_word ?a_trail ?l_trail ?c_trail ?k_trail ?a_Book_told ?i_Book_told ?l_Book_told ?c_Book_told ?k_Book_told ?a_halved ?l_halved ?c_halved ?k_halved ?a_Hunt_ask_for ?i_Hunt_ask_for ?l_Hunt_ask_for ?c_Hunt_ask_for ?k_Hunt_ask_for ?a_rows_of ?l_rows_of ?c_rows_of ?k_rows_of ?a_cells ?l_cells ?c_cells ?k_cells ?a_Asker_look_for_gaps ?i_Asker_look_for_gaps ?l_Asker_look_for_gaps ?c_Asker_look_for_gaps ?k_Asker_look_for_gaps ?a_room_behind ?l_room_behind ?c_room_behind ?k_room_behind ?a_mark_behind ?l_mark_behind ?c_mark_behind ?k_mark_behind ?a_Asker_answer ?i_Asker_answer ?l_Asker_answer ?c_Asker_answer ?k_Asker_answer ?a_Asker_halve ?i_Asker_halve ?l_Asker_halve ?c_Asker_halve ?k_Asker_halve ?a_marks_of ?l_marks_of ?c_marks_of ?k_marks_of ?a_marks_by_row ?l_marks_by_row ?c_marks_by_row ?k_marks_by_row ?a_ways_by_marks ?l_ways_by_marks ?c_ways_by_marks ?k_ways_by_marks ?a_guess_of ?l_guess_of ?c_guess_of ?k_guess_of ?a_Asker_make_guess ?i_Asker_make_guess ?l_Asker_make_guess ?c_Asker_make_guess ?k_Asker_make_guess ?a_Book_heard ?i_Book_heard ?l_Book_heard ?c_Book_heard ?k_Book_heard ?a_first_unlike ?l_first_unlike ?c_first_unlike ?k_first_unlike ?a_first_wrong ?l_first_wrong ?c_first_wrong ?k_first_wrong ?a_Asker_wrong_word ?i_Asker_wrong_word ?l_Asker_wrong_word ?c_Asker_wrong_word ?k_Asker_wrong_word ?a_Hunt_look_at_guess ?i_Hunt_look_at_guess ?l_Hunt_look_at_guess ?c_Hunt_look_at_guess ?k_Hunt_look_at_guess ?a_stranger ?l_stranger ?c_stranger ?k_stranger ?a_Asker_look_at_words ?i_Asker_look_at_words ?l_Asker_look_at_words ?c_Asker_look_at_words ?k_Asker_look_at_words ?a_Hunt_next_wish ?i_Hunt_next_wish ?l_Hunt_next_wish ?c_Hunt_next_wish ?k_Hunt_next_wish ?a_Turns_go_on ?i_Turns_go_on ?l_Turns_go_on ?c_Turns_go_on ?k_Turns_go_on ?sg_Turns_init ?rd_Turns_init ?a_Turns_init ?l_Turns_init ?c_Turns_init ?k_Turns_init ?sg_Hunt_init ?rd_Hunt_init ?a_Hunt_init ?l_Hunt_init ?c_Hunt_init ?k_Hunt_init ?a_Asker_first_ends ?i_Asker_first_ends ?l_Asker_first_ends ?c_Asker_first_ends ?k_Asker_first_ends ?a_Asker_init ?i_Asker_init ?l_Asker_init ?c_Asker_init ?k_Asker_init ?a_is_mark ?l_is_mark ?c_is_mark ?k_is_mark ?a_check_mark ?l_check_mark ?c_check_mark ?k_check_mark ?a_Book_check ?i_Book_check ?l_Book_check ?c_Book_check ?k_Book_check ?a_Book_put ?i_Book_put ?l_Book_put ?c_Book_put ?k_Book_put ?a_Hunt_keep_answer ?i_Hunt_keep_answer ?l_Hunt_keep_answer ?c_Hunt_keep_answer ?k_Hunt_keep_answer ?a_Asker_hear ?i_Asker_hear ?l_Asker_hear ?c_Asker_hear ?k_Asker_hear ?a_Hunt_keep_objection ?i_Hunt_keep_objection ?l_Hunt_keep_objection ?c_Hunt_keep_objection ?k_Hunt_keep_objection ?a_Asker_differ ?i_Asker_differ ?l_Asker_differ ?c_Asker_differ ?k_Asker_differ ?a__law_cell_at ?l__law_cell_at ?c__law_cell_at ?k__law_cell_at ?a__law_house_by ?l__law_house_by ?c__law_house_by ?k__law_house_by ?a__law_answer ?l__law_answer ?c__law_answer ?k__law_answer ?a__law_reached ?l__law_reached ?c__law_reached ?k__law_reached ?a__law_classes ?l__law_classes ?c__law_classes ?k__law_classes ?a__law_numbers ?l__law_numbers ?c__law_numbers ?k__law_numbers ?a__law_kinds ?l__law_kinds ?c__law_kinds ?k__law_kinds ?a__law_first_apart ?l__law_first_apart ?c__law_first_apart ?k__law_first_apart ?a__law_objection ?l__law_objection ?c__law_objection ?k__law_objection ?a__law_most_asks ?l__law_most_asks ?c__law_most_asks ?k__law_most_asks ?a_law ?l_law ?c_law ?k_law ?z_all ?z_bool ?z_enumerate ?z_int ?z_isinstance ?z_len ?z_list ?z_max ?z_min ?z_range ?z_set ?z_tuple ?m_AskError ?m_BadWord ?m_BadMark ?m_OutOfTurn ?m_NoDifference ?m_Contradiction ?x_BadWord ?ga_BadWord ?hk_BadWord ?cl_BadWord ?ca_BadWord ?mo_BadWord ?mb_BadWord ?e_BadWord ?v_BadWord ?ee_BadWord ?k_BadWord_AskError ?k_BadWord_BadWord ?k_BadWord_BadMark ?k_BadWord_OutOfTurn ?k_BadWord_NoDifference ?k_BadWord_Contradiction ?x_BadMark ?ga_BadMark ?hk_BadMark ?cl_BadMark ?ca_BadMark ?mo_BadMark ?mb_BadMark ?e_BadMark ?v_BadMark ?ee_BadMark ?k_BadMark_AskError ?k_BadMark_BadWord ?k_BadMark_BadMark ?k_BadMark_OutOfTurn ?k_BadMark_NoDifference ?k_BadMark_Contradiction ?x_OutOfTurn ?ga_OutOfTurn ?hk_OutOfTurn ?cl_OutOfTurn ?ca_OutOfTurn ?mo_OutOfTurn ?mb_OutOfTurn ?e_OutOfTurn ?v_OutOfTurn ?ee_OutOfTurn ?k_OutOfTurn_AskError ?k_OutOfTurn_BadWord ?k_OutOfTurn_BadMark ?k_OutOfTurn_OutOfTurn ?k_OutOfTurn_NoDifference ?k_OutOfTurn_Contradiction ?x_NoDifference ?ga_NoDifference ?hk_NoDifference ?cl_NoDifference ?ca_NoDifference ?mo_NoDifference ?mb_NoDifference ?e_NoDifference ?v_NoDifference ?ee_NoDifference ?k_NoDifference_AskError ?k_NoDifference_BadWord ?k_NoDifference_BadMark ?k_NoDifference_OutOfTurn ?k_NoDifference_NoDifference ?k_NoDifference_Contradiction ?x_Contradiction ?ga_Contradiction ?hk_Contradiction ?cl_Contradiction ?ca_Contradiction ?mo_Contradiction ?mb_Contradiction ?e_Contradiction ?v_Contradiction ?ee_Contradiction ?k_Contradiction_AskError ?k_Contradiction_BadWord ?k_Contradiction_BadMark ?k_Contradiction_OutOfTurn ?k_Contradiction_NoDifference ?k_Contradiction_Contradiction ?gs ?tk
    (case aC_Book => k_is)
    (case pg_Book => k_is)
    (case hd_Book => k_is)
    (case po_Book => k_is)
    (case sa_Book => k_is)
    (case mk_Book => k_is)
    (case kc_Book => k_is)
    (case n_letters_Book => k_is)
    (case n_marks_Book => k_is)
    (case aC_Turns => k_is)
    (case aC_Hunt => k_is)
    (case aC_Asker => k_is)
    (case pg_Asker => k_is)
    (case hd_Asker => k_is)
    (case po_Asker => k_is)
    (case sa_Asker => k_is)
    (case mk_Asker => k_is)
    (case kc_Asker => k_is)
    (case n_wish_Asker => k_is)
    (case n_letters_Asker => k_is)
    (case n_most_Asker => k_is)
    (case n_book_Asker => k_is)
    (case n_ways_Asker => k_is)
    (case n_ends_Asker => k_is)
    (case n_gaps_Asker => k_is)
    (case n_guess_Asker => k_is)
    (case n_wrong_Asker => k_is)
    (case q_MOST_MARK => k_is)
    (case a_Turns_wants => k_is)
    (case i_Turns_wants => k_is)
    (case l_Turns_wants => k_is)
    (case c_Turns_wants => k_is)
    (case k_Turns_wants => k_is)
    (case a_Turns_check_wants => k_is)
    (case i_Turns_check_wants => k_is)
    (case l_Turns_check_wants => k_is)
    (case c_Turns_check_wants => k_is)
    (case k_Turns_check_wants => k_is)
    (case a_Hunt_agree => k_is)
    (case i_Hunt_agree => k_is)
    (case l_Hunt_agree => k_is)
    (case c_Hunt_agree => k_is)
    (case k_Hunt_agree => k_is)
    (case a_Book_init => k_is)
    (case i_Book_init => k_is)
    (case l_Book_init => k_is)
    (case c_Book_init => k_is)
    (case k_Book_init => k_is)
    (case a_is_word => k_is)
    (case l_is_word => k_is)
    (case c_is_word => k_is)
    (case k_is_word => k_is)
    (case a_check_word => k_is)
    (case l_check_word => k_is)
    (case c_check_word => k_is)
    (case k_check_word => k_is)
    (case a_trail => k_is)
    (case l_trail => k_is)
    (case c_trail => k_is)
    (case k_trail => k_is)
    (case a_Book_told => k_is)
    (case i_Book_told => k_is)
    (case l_Book_told => k_is)
    (case c_Book_told => k_is)
    (case k_Book_told => k_is)
    (case a_halved => k_is)
    (case l_halved => k_is)
    (case c_halved => k_is)
    (case k_halved => k_is)
    (case a_Hunt_ask_for => k_is)
    (case i_Hunt_ask_for => k_is)
    (case l_Hunt_ask_for => k_is)
    (case c_Hunt_ask_for => k_is)
    (case k_Hunt_ask_for => k_is)
    (case a_rows_of => k_is)
    (case l_rows_of => k_is)
    (case c_rows_of => k_is)
    (case k_rows_of => k_is)
    (case a_cells => k_is)
    (case l_cells => k_is)
    (case c_cells => k_is)
    (case k_cells => k_is)
    (case a_Asker_look_for_gaps => k_is)
    (case i_Asker_look_for_gaps => k_is)
    (case l_Asker_look_for_gaps => k_is)
    (case c_Asker_look_for_gaps => k_is)
    (case k_Asker_look_for_gaps => k_is)
    (case a_room_behind => k_is)
    (case l_room_behind => k_is)
    (case c_room_behind => k_is)
    (case k_room_behind => k_is)
    (case a_mark_behind => k_is)
    (case l_mark_behind => k_is)
    (case c_mark_behind => k_is)
    (case k_mark_behind => k_is)
    (case a_Asker_answer => k_is)
    (case i_Asker_answer => k_is)
    (case l_Asker_answer => k_is)
    (case c_Asker_answer => k_is)
    (case k_Asker_answer => k_is)
    (case a_Asker_halve => k_is)
    (case i_Asker_halve => k_is)
    (case l_Asker_halve => k_is)
    (case c_Asker_halve => k_is)
    (case k_Asker_halve => k_is)
    (case a_marks_of => k_is)
    (case l_marks_of => k_is)
    (case c_marks_of => k_is)
    (case k_marks_of => k_is)
    (case a_marks_by_row => k_is)
    (case l_marks_by_row => k_is)
    (case c_marks_by_row => k_is)
    (case k_marks_by_row => k_is)
    (case a_ways_by_marks => k_is)
    (case l_ways_by_marks => k_is)
    (case c_ways_by_marks => k_is)
    (case k_ways_by_marks => k_is)
    (case a_guess_of => k_is)
    (case l_guess_of => k_is)
    (case c_guess_of => k_is)
    (case k_guess_of => k_is)
    (case a_Asker_make_guess => k_is)
    (case i_Asker_make_guess => k_is)
    (case l_Asker_make_guess => k_is)
    (case c_Asker_make_guess => k_is)
    (case k_Asker_make_guess => k_is)
    (case a_Book_heard => k_is)
    (case i_Book_heard => k_is)
    (case l_Book_heard => k_is)
    (case c_Book_heard => k_is)
    (case k_Book_heard => k_is)
    (case a_first_unlike => k_is)
    (case l_first_unlike => k_is)
    (case c_first_unlike => k_is)
    (case k_first_unlike => k_is)
    (case a_first_wrong => k_is)
    (case l_first_wrong => k_is)
    (case c_first_wrong => k_is)
    (case k_first_wrong => k_is)
    (case a_Asker_wrong_word => k_is)
    (case i_Asker_wrong_word => k_is)
    (case l_Asker_wrong_word => k_is)
    (case c_Asker_wrong_word => k_is)
    (case k_Asker_wrong_word => k_is)
    (case a_Hunt_look_at_guess => k_is)
    (case i_Hunt_look_at_guess => k_is)
    (case l_Hunt_look_at_guess => k_is)
    (case c_Hunt_look_at_guess => k_is)
    (case k_Hunt_look_at_guess => k_is)
    (case a_stranger => k_is)
    (case l_stranger => k_is)
    (case c_stranger => k_is)
    (case k_stranger => k_is)
    (case a_Asker_look_at_words => k_is)
    (case i_Asker_look_at_words => k_is)
    (case l_Asker_look_at_words => k_is)
    (case c_Asker_look_at_words => k_is)
    (case k_Asker_look_at_words => k_is)
    (case a_Hunt_next_wish => k_is)
    (case i_Hunt_next_wish => k_is)
    (case l_Hunt_next_wish => k_is)
    (case c_Hunt_next_wish => k_is)
    (case k_Hunt_next_wish => k_is)
    (case a_Turns_go_on => k_is)
    (case i_Turns_go_on => k_is)
    (case l_Turns_go_on => k_is)
    (case c_Turns_go_on => k_is)
    (case k_Turns_go_on => k_is)
    (case sg_Turns_init => k_is)
    (case rd_Turns_init => k_is)
    (case a_Turns_init => k_is)
    (case l_Turns_init => k_is)
    (case c_Turns_init => k_is)
    (case k_Turns_init => k_is)
    (case sg_Hunt_init => k_is)
    (case rd_Hunt_init => k_is)
    (case a_Hunt_init => k_is)
    (case l_Hunt_init => k_is)
    (case c_Hunt_init => k_is)
    (case k_Hunt_init => k_is)
    (case a_Asker_first_ends => k_is)
    (case i_Asker_first_ends => k_is)
    (case l_Asker_first_ends => k_is)
    (case c_Asker_first_ends => k_is)
    (case k_Asker_first_ends => k_is)
    (case a_Asker_init => k_is)
    (case i_Asker_init => k_is)
    (case l_Asker_init => k_is)
    (case c_Asker_init => k_is)
    (case k_Asker_init => k_is)
    (case a_is_mark => k_is)
    (case l_is_mark => k_is)
    (case c_is_mark => k_is)
    (case k_is_mark => k_is)
    (case a_check_mark => k_is)
    (case l_check_mark => k_is)
    (case c_check_mark => k_is)
    (case k_check_mark => k_is)
    (case a_Book_check => k_is)
    (case i_Book_check => k_is)
    (case l_Book_check => k_is)
    (case c_Book_check => k_is)
    (case k_Book_check => k_is)
    (case a_Book_put => k_is)
    (case i_Book_put => k_is)
    (case l_Book_put => k_is)
    (case c_Book_put => k_is)
    (case k_Book_put => k_is)
    (case a_Hunt_keep_answer => k_is)
    (case i_Hunt_keep_answer => k_is)
    (case l_Hunt_keep_answer => k_is)
    (case c_Hunt_keep_answer => k_is)
    (case k_Hunt_keep_answer => k_is)
    (case a_Asker_hear => k_is)
    (case i_Asker_hear => k_is)
    (case l_Asker_hear => k_is)
    (case c_Asker_hear => k_is)
    (case k_Asker_hear => k_is)
    (case a_Hunt_keep_objection => k_is)
    (case i_Hunt_keep_objection => k_is)
    (case l_Hunt_keep_objection => k_is)
    (case c_Hunt_keep_objection => k_is)
    (case k_Hunt_keep_objection => k_is)
    (case a_Asker_differ => k_is)
    (case i_Asker_differ => k_is)
    (case l_Asker_differ => k_is)
    (case c_Asker_differ => k_is)
    (case k_Asker_differ => k_is)
    (case a__law_cell_at => k_is)
    (case l__law_cell_at => k_is)
    (case c__law_cell_at => k_is)
    (case k__law_cell_at => k_is)
    (case a__law_house_by => k_is)
    (case l__law_house_by => k_is)
    (case c__law_house_by => k_is)
    (case k__law_house_by => k_is)
    (case a__law_answer => k_is)
    (case l__law_answer => k_is)
    (case c__law_answer => k_is)
    (case k__law_answer => k_is)
    (case a__law_reached => k_is)
    (case l__law_reached => k_is)
    (case c__law_reached => k_is)
    (case k__law_reached => k_is)
    (case a__law_classes => k_is)
    (case l__law_classes => k_is)
    (case c__law_classes => k_is)
    (case k__law_classes => k_is)
    (case a__law_numbers => k_is)
    (case l__law_numbers => k_is)
    (case c__law_numbers => k_is)
    (case k__law_numbers => k_is)
    (case a__law_kinds => k_is)
    (case l__law_kinds => k_is)
    (case c__law_kinds => k_is)
    (case k__law_kinds => k_is)
    (case a__law_first_apart => k_is)
    (case l__law_first_apart => k_is)
    (case c__law_first_apart => k_is)
    (case k__law_first_apart => k_is)
    (case a__law_objection => k_is)
    (case l__law_objection => k_is)
    (case c__law_objection => k_is)
    (case k__law_objection => k_is)
    (case a__law_most_asks => k_is)
    (case l__law_most_asks => k_is)
    (case c__law_most_asks => k_is)
    (case k__law_most_asks => k_is)
    (case a_law => k_is)
    (case l_law => k_is)
    (case c_law => k_is)
    (case k_law => k_is)
    (case z_all => k_is)
    (case z_bool => k_is)
    (case z_enumerate => k_is)
    (case z_int => k_is)
    (case z_isinstance => k_is)
    (case z_len => k_is)
    (case z_list => k_is)
    (case z_max => k_is)
    (case z_min => k_is)
    (case z_range => k_is)
    (case z_set => k_is)
    (case z_tuple => k_is)
    (case m_AskError => k_is)
    (case m_BadWord => k_is)
    (case m_BadMark => k_is)
    (case m_OutOfTurn => k_is)
    (case m_NoDifference => k_is)
    (case m_Contradiction => k_is)
    (case x_BadWord => k_exc)
    (case ga_BadWord => k_is)
    (case hk_BadWord => k_is)
    (case cl_BadWord => k_is)
    (case ca_BadWord => k_is)
    (case mo_BadWord => k_is)
    (case mb_BadWord => k_is)
    (case e_BadWord => kts_exm)
    (case v_BadWord => kit_is)
    (case ee_BadWord => kts_exm)
    (case k_BadWord_AskError => kit_is)
    (case k_BadWord_BadWord => kit_is)
    (case k_BadWord_BadMark => kit_is)
    (case k_BadWord_OutOfTurn => kit_is)
    (case k_BadWord_NoDifference => kit_is)
    (case k_BadWord_Contradiction => kit_is)
    (case x_BadMark => k_exc)
    (case ga_BadMark => k_is)
    (case hk_BadMark => k_is)
    (case cl_BadMark => k_is)
    (case ca_BadMark => k_is)
    (case mo_BadMark => k_is)
    (case mb_BadMark => k_is)
    (case e_BadMark => kts_exm)
    (case v_BadMark => kit_is)
    (case ee_BadMark => kts_exm)
    (case k_BadMark_AskError => kit_is)
    (case k_BadMark_BadWord => kit_is)
    (case k_BadMark_BadMark => kit_is)
    (case k_BadMark_OutOfTurn => kit_is)
    (case k_BadMark_NoDifference => kit_is)
    (case k_BadMark_Contradiction => kit_is)
    (case x_OutOfTurn => k_exc)
    (case ga_OutOfTurn => k_is)
    (case hk_OutOfTurn => k_is)
    (case cl_OutOfTurn => k_is)
    (case ca_OutOfTurn => k_is)
    (case mo_OutOfTurn => k_is)
    (case mb_OutOfTurn => k_is)
    (case e_OutOfTurn => kts_exm)
    (case v_OutOfTurn => kit_is)
    (case ee_OutOfTurn => kts_exm)
    (case k_OutOfTurn_AskError => kit_is)
    (case k_OutOfTurn_BadWord => kit_is)
    (case k_OutOfTurn_BadMark => kit_is)
    (case k_OutOfTurn_OutOfTurn => kit_is)
    (case k_OutOfTurn_NoDifference => kit_is)
    (case k_OutOfTurn_Contradiction => kit_is)
    (case x_NoDifference => k_exc)
    (case ga_NoDifference => k_is)
    (case hk_NoDifference => k_is)
    (case cl_NoDifference => k_is)
    (case ca_NoDifference => k_is)
    (case mo_NoDifference => k_is)
    (case mb_NoDifference => k_is)
    (case e_NoDifference => kts_exm)
    (case v_NoDifference => kit_is)
    (case ee_NoDifference => kts_exm)
    (case k_NoDifference_AskError => kit_is)
    (case k_NoDifference_BadWord => kit_is)
    (case k_NoDifference_BadMark => kit_is)
    (case k_NoDifference_OutOfTurn => kit_is)
    (case k_NoDifference_NoDifference => kit_is)
    (case k_NoDifference_Contradiction => kit_is)
    (case x_Contradiction => k_exc)
    (case ga_Contradiction => k_is)
    (case hk_Contradiction => k_is)
    (case cl_Contradiction => k_is)
    (case ca_Contradiction => k_is)
    (case mo_Contradiction => k_is)
    (case mb_Contradiction => k_is)
    (case e_Contradiction => kts_exm)
    (case v_Contradiction => kit_is)
    (case ee_Contradiction => kts_exm)
    (case k_Contradiction_AskError => kit_is)
    (case k_Contradiction_BadWord => kit_is)
    (case k_Contradiction_BadMark => kit_is)
    (case k_Contradiction_OutOfTurn => kit_is)
    (case k_Contradiction_NoDifference => kit_is)
    (case k_Contradiction_Contradiction => kit_is)
    (case gs => k_is)
    (case tk => k_is)
