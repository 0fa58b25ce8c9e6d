import PyProof.Rows.All
import Wide.All
import OpenK.AllK
import Wide.FinOn
import Lean
import PyProof.EqAt
import PyProof.EqKinds
import PyProof.TupleCall
import KE.KRevIter
import PyProof.ListRange
import PyProof.TupleOfGen
import PyProof.Draws
import PyProof.EnumMake
import PyProof.EnumFor
import PyProof.NeKinds
import KE.KDictList
import PyProof.Rows.TupDisplay
import PyProof.ZipIter
import PyProof.Rows.ZipGen
import KE.KItemsList
import PyProof.Rows.SumAny
import PyProof.StrWalks
import PyProof.StrCalls
import PyProof.StrCalls3
import PyProof.StrLawsFirst
import PyProof.StrLawsIn
import PyProof.SliceStr2
import PyProof.StrBlockI
import PyProof.Rows.StrWeight2
import PyProof.ListNew
import PyProof.DictRoadsH
import PyProof.WalkInts
import PyProof.Rows.MinMaxN
import KE.KDictLaws
import PyProof.StrCalls2
import PyProof.StrLawsChain
import KE.KIntText
import KE.KxText
import KE.KMinKey
import KE.KPairComp
import PyProof.MaxThree
import PyProof.DictValues
import OpenK.KCls
import PyProof.Rows.SortShellK
import KE.KSortTup
import KE.KLam
import KE.KNestM
import PyProof.AttrMissHeap
import KE.KDictOf
import PyProof.TupleKey
import PyProof.SetKind
import PyProof.IsRules
import PyProof.Rows.SetFrom
import PySem.Challenge.RW_guessroom_k59_whole_any_say_teacher
set_option compiler.extract_closed false
local macro_rules | `(s!$_) => `(by lia)
set_option Elab.async false
set_option linter.all false
set_option maxRecDepth 100000
namespace L2
open PySem PySem.Spec PyProof.Rows
noncomputable abbrev Key:=Sum Int Str
noncomputable def Fi_:Key->Value->Bool
 |.inl k,v=>Value.isInt k v
 |.inr x,v=>Value.isStrOf x v
noncomputable def keyH (w:World):Key->Int
 |.inl k=>hashInt k
 |.inr x=>hashStr w x
def ED:∀{k:Key} {v:Value},Fi_ k v=true->(∃i t,k=Sum.inl i/\v=Value.int i t)\/(∃x t,k=Sum.inr x/\v=Value.str x t)
 |.inl i,v,h=>by
  obtain⟨t,e⟩:=Value.isInt_shape (k:=i) (v:=v) h
  exact .inl ⟨i,t,rfl,e⟩
 |.inr x,v,h=>by
  obtain⟨t,e⟩:=Value.isStrOf_shape (x:=x) (v:=v) h
  exact .inr ⟨x,t,rfl,e⟩
def Gj_ (i:Int)(t:Tok):Fi_ (.inl i) (.int i t)=true:=by simp[Fi_,Value.isInt]
def Gk_ (x:Str)(t:Tok):Fi_ (.inr x) (.str x t)=true:=by simp[Fi_,Value.isStrOf]
def LJ_ (a b:Int):decide ((Sum.inl a:Key)=Sum.inl b)=(a==b):=by
 by_cases e:a=b
 ·subst e;simp
 ·have h:¬ (Sum.inl a:Key)=Sum.inl b:=fun q=>e (Sum.inl.inj q)
  rw[decide_eq_false h]
  exact (beq_eq_false_iff_ne.mpr e).symm
def LK_ (a b:Str):decide ((Sum.inr a:Key)=Sum.inr b)=decide (a=b):=by
 by_cases e:a=b
 ·subst e;simp
 ·have h:¬ (Sum.inr a:Key)=Sum.inr b:=fun q=>e (Sum.inr.inj q)
  rw[decide_eq_false h,decide_eq_false e]
def LL_ (a:Int)(b:Str):decide ((Sum.inl a:Key)=Sum.inr b)=false:=decide_eq_false (fun q=>nomatch q)
def LM_ (a:Str)(b:Int):decide ((Sum.inr a:Key)=Sum.inl b)=false:=decide_eq_false (fun q=>nomatch q)
noncomputable def EE (prog:Program)(w:World):PySem.KeyKind prog w Key where
 is:=Fi_
 hash:=keyH w
 inj:=fun v a b ha hb=>by
  rcases ED ha with ⟨i,t,rfl,rfl⟩|⟨x,t,rfl,rfl⟩
  ·rcases ED hb with ⟨j,u,rfl,e⟩|⟨y,u,rfl,e⟩
   ·injection e with e1 _;rw[e1]
   ·exact nomatch e
  ·rcases ED hb with ⟨j,u,rfl,e⟩|⟨y,u,rfl,e⟩
   ·exact nomatch e
   ·injection e with e1 _;rw[e1]
 byValue:=fun k v h=>by
  rcases ED h with ⟨i,t,rfl,rfl⟩|⟨x,t,rfl,rfl⟩<;>rfl
 pyHash:=fun hv h=>by
  rcases ED hv with ⟨i,t,rfl,rfl⟩|⟨x,t,rfl,rfl⟩
  ·exact wpAny_pyHash_int h
  ·exact wpAny_pyHash_str h
 eqBool:=fun hu hv h=>by
  rcases ED hu with ⟨i,t,rfl,rfl⟩|⟨x,t,rfl,rfl⟩
  ·rcases ED hv with ⟨j,u,rfl,rfl⟩|⟨y,u,rfl,rfl⟩
   ·rw[LJ_]at h;exact wpAny_eqBool_int h
   ·rw[LL_]at h;exact SeqAt.EqAt.int_str i t y u _ _ _ _ h
  ·rcases ED hv with ⟨j,u,rfl,rfl⟩|⟨y,u,rfl,rfl⟩
   ·rw[LM_]at h;exact SeqAt.EqAt.str_int x t j u _ _ _ _ h
   ·rw[LK_]at h;exact wpAny_eqBool_str h
 «strs» := fun k x t v h=>by
  rcases ED h with ⟨i,u,rfl,e⟩|⟨y,u,rfl,e⟩
  ·exact nomatch e
  ·injection e with e1 _
   subst e1
   cases v<;>rfl
def CV_ (prog:Program)(w:World)(i:Int)(t:Tok):(EE prog w).is (.inl i) (.int i t)=true:=Gj_ i t
def CW_ (prog:Program)(w:World)(x:Str)(t:Tok):(EE prog w).is (.inr x) (.str x t)=true:=Gk_ x t
inductive V where
 | non|bl (b:Bool)|int (i:Int)|str (x:Str)|byt (b:Array UInt8)|flt (b:UInt64)|ref (a:Addr)|ty (n:String)
 deriving DecidableEq
noncomputable def RelV:V->Value->Prop
 |.non,u=>u=Value.none
 |.bl b,u=>u=Value.bool b
 |.int i,u=>∃t,u=Value.int i t
 |.str x,u=>∃t,u=Value.str x t
 |.byt b,u=>∃t,u=Value.bytes b t
 |.flt b,u=>∃t,u=Value.float b t
 |.ref a,u=>u=Value.ref a
 |.ty n,u=>u=Value.type n
noncomputable abbrev Vals:List V->List Value->Prop:=Paired RelV
def Vals.length   (r:Vals xs us):xs.length=us.length:=Paired.length r
def Vals.get:∀{xs:List V} {us:List Value} {i:Nat} {x:V},Vals xs us->xs[i]?=some x->∃u,us[i]?=some u/\RelV x u
 |_,_,_,_,.nil,e=>by simp at e
 |_,_,0,_,.cons r _,e=>by simp at e;subst e;exact⟨_,rfl,r⟩
 |_,_,i+1,x,.cons _ t,e=>by
  obtain⟨u,h1,h2⟩:=Vals.get (i:=i) (x:=x) t (by simpa using e)
  exact⟨u,by simpa using h1,h2⟩
def Vals.set {x:V}{u:Value}(r:RelV x u):∀{xs:List V} {us:List Value} (i:Nat),Vals xs us->Vals (xs.set i x) (us.set i u)
 |_,_,_,.nil=>.nil
 |_,_,0,.cons _ t=>.cons r t
 |_,_,i+1,.cons q t=>.cons q (Vals.set r i t)
def Vals.append:∀{xs ys:List V} {us ws:List Value},Vals xs us->Vals ys ws->Vals (xs++ys) (us++ws)
 |_,_,_,_,.nil,s=>s
 |_,_,_,_,.cons r t,s=>.cons r (Vals.append t s)
def Vals.take:∀{xs:List V} {us:List Value} (n:Nat),Vals xs us->Vals (xs.take n) (us.take n)
 |_,_,0,_=>.nil
 |_,_,_+1,.nil=>.nil
 |_,_,n+1,.cons r t=>.cons r (Vals.take n t)
def Vals.drop:∀{xs:List V} {us:List Value} (n:Nat),Vals xs us->Vals (xs.drop n) (us.drop n)
 |_,_,0,r=>r
 |_,_,_+1,.nil=>.nil
 |_,_,n+1,.cons _ t=>Vals.drop n t
noncomputable def RelO:Option V->Option Value->Prop
 |some v,some u=>RelV v u
 |none,none=>True
 |_,_=>False
noncomputable def KV {κ:Type}:List (κ×V)->List (κ×Value)->Prop:=Paired fun (p:κ×V) (q:κ×Value)=>p.1=q.1/\RelV p.2 q.2
noncomputable def kV:Key->V
 |.inl i=>.int i
 |.inr x=>.str x
inductive HO where
 | lst (xs:List V)
 | tup (xs:List V)
 | dK (kvs:List (Key×V))|dT (kvs:List (List Key×V))
 | set (S:Int->Bool) (n:Nat)
 | ins (C dx:Addr) (fs:List (Str×V))
 | own (x:Addr)
 | xd (fs:List (Str×V))
 | met (f x:Addr)
 | rng (lo hi:Int)
 | frz (o:Obj) (u:HO)
 | tbl (ps:Array Value)
 | ext (φ:Heap->Prop)
noncomputable abbrev Hp:=Addr->Option HO
noncomputable def upd (H:Hp)(a:Addr)(o:HO):Hp:=fun b=>if b=a then some o else H b
def Ab    : upd H a o a=some o:=by unfold upd;rw[if_pos rfl]
def Ag    (h:b≠a):upd H a o b=H b:=by unfold upd;rw[if_neg h]
def Nn_ {H:Hp}{a b:Addr}{o u:HO}(h:H a=some o)(h':H b=some u)(d:o≠u):a≠b:=by
 intro e;subst e;rw[h]at h';exact d (Option.some.inj h')
def C3 {H:Hp}{a b:Addr}{o:HO}(h:H a=some o)(h':H b=none):a≠b:=by
 intro e;subst e;rw[h]at h';cases h'
section
variable (P:Program) (w:World)
noncomputable def C4 (H:Hp)(h:Heap)(a:Addr):HO->Prop
 |.lst xs=>xs.length<=sizeLine/\∃(its:List Value) (n:Nat),Vals xs its/\h.get? a=some {cls:=.type "list",data:=.seq its.toArray n}
 |.tup xs=>xs.length<=sizeLine/\∃its:List Value,Vals xs its/\IsTup h a its.toArray
 |.dK kvs=>kvs.length<=sizeLine/\(a==sysModules)=false/\∃vs,KV kvs vs/\h.DictOf (EE P w) a vs
 |.dT kvs=>kvs.length<=sizeLine/\(a==sysModules)=false/\∃xs:List (List Key×Addr×Value),
   Paired (fun (p:List Key×V) (q:List Key×Addr×Value)=>p.1=q.1/\H q.2.1=some (.tup (p.1.map kV))/\RelV p.2 q.2.2) kvs xs /\
   ∃o es ep,h.get? a=some o/\o.ExactDict/\o.data=.dict es ep/\es.toList=xs.map (entryOfKey (tupleKind (EE P w)))/\(xs.map (·.1)).Nodup
 |.set S n=>h.SetOf (intKind P w) a S n
 |.ins C dx fs=>H dx=some (.own a)/\fs.length<=1000/\dx≠a/\h.get? a=some (PySem.W.instObj C dx) /\
   ∃mA,h.Ns1 dx mA/\(∀f,RelO (fs.lookup f) (mA f))/\PySem.Within mA (fs.map (·.1))
 |.own _=>∃o,h.get? a=some o
 |.xd fs=>∃mA,h.Ns1 a mA/\∀f,RelO (fs.lookup f) (mA f)
 |.rng lo hi=>∃t u v,h.get? a=some {cls:=.type "range",data:=.fields #[.int lo t,.int hi u,.int 1 v]}
 |.frz o u=>h.get? a=some o/\C4 H h a u
 |.tbl ps=>h.get? a=some {cls:=.none,data:=.fields ps}
 |.met f x=>h.get? a=some (PySem.W.methodObj (.ref f) (.ref x))
 |.ext φ=>φ h/\(∃o,h.get? a=some o)/\∀h1 h2:Heap,φ h1->(∀o,h1.get? a=some o->h2.get? a=some o)->φ h2
noncomputable def HOk (H:Hp)(h:Heap):Prop:=∀a o,H a=some o->C4 P w H h a o
end
section
variable {P:Program} {w:World} {H H':Hp} {h h':Heap} {a:Addr} {o:HO}
def C4.lt (x:C4 P w H h a o):a<h.objs.size:=by
 cases o with
 |lst xs=>obtain⟨_,_,_,_,e⟩:=x;exact Heap.lt_size e
 |tup xs=>obtain⟨_,_,_,p⟩:=x;exact p.lt
 |dK kvs=>obtain⟨_,_,_,_,o,_,_,e,_⟩:=x;exact Heap.lt_size e
 |dT kvs=>obtain⟨_,_,_,_,o,_,_,e,_⟩:=x;exact Heap.lt_size e
 |set S n=>obtain⟨o,_,_,_,e,_⟩:=x;exact Heap.lt_size e
 |ins C dx fs=>obtain⟨_,_,_,e,_⟩:=x;exact Heap.lt_size e
 |own y=>obtain⟨_,e⟩:=x;exact Heap.lt_size e
 |xd fs=>obtain⟨_,⟨_,_,_,e,_⟩,_⟩:=x;exact Heap.lt_size e
 |rng lo hi=>obtain⟨_,_,_,e⟩:=x;exact Heap.lt_size e
 |frz ob u=>obtain⟨e,_⟩:=x;exact Heap.lt_size e
 |tbl ps=>exact Heap.lt_size (show h.get? a=some _ from x)
 |met f y=>exact Heap.lt_size (show h.get? a=some _ from x)
 |ext φ=>obtain⟨_,⟨_,e⟩,_⟩:=x;exact Heap.lt_size e
def Paired.mapP {α β:Type}{F G:α->β->Prop}:∀{l₁:List α} {l₂:List β},Paired F l₁ l₂->(∀a b,F a b->G a b)->Paired G l₁ l₂
 |_,_,.nil,_=>.nil
 |_,_,.cons r t,f=>.cons (f _ _ r) (Paired.mapP t f)
def C4.stay (x:C4 P w H h a o)(k:∀b u,(b=a\/H b=some (.own a))->h.get? b=some u->h'.get? b=some u)
  (ho:∀b,H b=some (.own a)->H' b=some (.own a)) (ht:∀b xs,H b=some (.tup xs)->H' b=some (.tup xs)):C4 P w H' h' a o:=by
 induction o with
 |lst xs=>obtain⟨z,its,n,r,e⟩:=x;exact⟨z,its,n,r,k _ _ (.inl rfl) e⟩
 |tup xs=>obtain⟨z,its,r,ob,e,c⟩:=x;exact⟨z,its,r,ob,k _ _ (.inl rfl) e,c⟩
 |dK kvs=>obtain⟨z,y,vs,r,ob,es,ep,e,c⟩:=x;exact⟨z,y,vs,r,ob,es,ep,k _ _ (.inl rfl) e,c⟩
 |dT kvs=>
  obtain⟨z,y,xs,r,ob,es,ep,e,c⟩:=x
  exact⟨z,y,xs,Paired.mapP r fun p q z=>⟨z.1,ht _ _ z.2.1,z.2.2⟩,ob,es,ep,k _ _ (.inl rfl) e,c⟩
 |set S n=>obtain⟨ob,es,ep,t,e,c⟩:=x;exact⟨ob,es,ep,t,k _ _ (.inl rfl) e,c⟩
 |ins C dx fs=>
  obtain⟨d,z,ne,e,mA,⟨od,es,ep,e2,c⟩,r⟩:=x
  exact⟨ho _ d,z,ne,k _ _ (.inl rfl) e,mA,⟨od,es,ep,k _ _ (.inr d) e2,c⟩,r⟩
 |own y=>obtain⟨ob,e⟩:=x;exact⟨ob,k _ _ (.inl rfl) e⟩
 |xd fs=>obtain⟨mA,⟨od,es,ep,e,c⟩,r⟩:=x;exact⟨mA,⟨od,es,ep,k _ _ (.inl rfl) e,c⟩,r⟩
 |rng lo hi=>obtain⟨t,u,v,e⟩:=x;exact⟨t,u,v,k _ _ (.inl rfl) e⟩
 |frz ob u ih=>obtain⟨e,q⟩:=x;exact⟨k _ _ (.inl rfl) e,ih q⟩
 |tbl ps=>
  have e:h.get? a=some {cls:=.none,data:=.fields ps}:=x
  show h'.get? a=some {cls:=.none,data:=.fields ps}
  exact k a _ (.inl rfl) e
 |met f y=>
  have e:h.get? a=some (PySem.W.methodObj (.ref f) (.ref y)):=x
  show h'.get? a=some (PySem.W.methodObj (.ref f) (.ref y))
  exact k a _ (.inl rfl) e
 |ext φ=>obtain⟨p,⟨o,e⟩,st⟩:=x;exact⟨st _ _ p fun o q=>k _ _ (.inl rfl) q,⟨o,k _ _ (.inl rfl) e⟩,st⟩
def HOk.lt (x:HOk P w H h)(e:H a=some o):a<h.objs.size:=(x a o e).lt
def HOk.fresh (x:HOk P w H h)(e:h.objs.size<=a):H a=none:=by
 cases q:H a with
 |none=>rfl
 |some u=>exact absurd (Nat.lt_of_lt_of_le (x.lt q) e) (Nat.lt_irrefl _)
def HOk.kept (x:HOk P w H h)(k:∀b u,h.get? b=some u->h'.get? b=some u):HOk P w H h':=fun a o e=>
 (x a o e).stay (fun b u _ q=>k b u q) (fun _ q=>q) fun _ _ q=>q
def HOk.laid (x:HOk P w H h)(k:∀b u,h.get? b=some u->h'.get? b=some u)(hp:h.objs.size<=a)(new:C4 P w (upd H a o) h' a o):HOk P w (upd H a o) h':=fun b u e=>by
 have hn:=x.fresh hp
 by_cases hb:b=a
 ·subst hb;rw[Ab]at e;cases e;exact new
 ·rw[Ag hb]at e
  exact (x b u e).stay (fun c v _ q=>k c v q) (fun c q=>by rw[Ag (C3 q hn)];exact q) fun c xs q=>by rw[Ag (C3 q hn)];exact q
end
noncomputable def Rd (H:Hp)(a:Addr)(u:HO):Prop:=H a=some u \/ ∃o,H a=some (.frz o u)
def Rd.ok       (r:Rd H a u)(x:HOk P w H h):C4 P w H h a u:=by
 rcases r with r|⟨o,r⟩
 ·exact x a u r
 ·obtain⟨_,q⟩:=x a _ r
  exact q
noncomputable def Mut:Option HO->Prop
 |some (.lst _)=>True
 |some (.dK _)=>True
 |some (.dT _)=>True
 |some (.set _ _)=>True
 |some (.ins _ _ _)=>True
 |some (.ext _)=>True
 |_=>False
section
variable {P:Program} {w:World} {H:Hp} {h h':Heap} {x e:Addr} {o':HO}
def HOk.write (ok:HOk P w H h)(mu:Mut (H x))(he:e=x\/H e=some (.own x))(k:∀b u,b≠e->h.get? b=some u->h'.get? b=some u)(heo:∃u,h'.get? e=some u)
  (new:C4 P w (upd H x o') h' x o'):HOk P w (upd H x o') h':=fun b u q=>by
 have nown:∀c y,H c=some (.own y)->c≠x:=fun c y r z=>by subst z;rw[r]at mu;exact mu
 have ntup:∀c xs,H c=some (.tup xs)->c≠x:=fun c xs r z=>by subst z;rw[r]at mu;exact mu
 by_cases hb:b=x
 ·subst hb;rw[Ab]at q;cases q;exact new
 ·rw[Ag hb]at q
  by_cases hbe:b=e
  ·have q':H b=some (.own x):=by
    rcases he with z|z
    ·exact absurd (hbe.trans z) hb
    ·rw[hbe];exact z
   rw[q]at q';cases q'
   obtain⟨v,hv⟩:=heo
   exact⟨v,by rw[hbe];exact hv⟩
  ·refine (ok b u q).stay (fun c v hc r=>k c v ?_ r) (fun c r=>by rw[Ag (nown c b r)];exact r) fun c xs r=>by rw[Ag (ntup c xs r)];exact r
   rcases hc with rfl|hc
   ·exact hbe
   ·rintro rfl
    rcases he with z|z
    ·exact nown c b hc z
    ·rw[hc]at z;cases z;exact hb rfl
end
structure Un (fs ex:List Addr)(H H':Hp)(h h':Heap):Prop where
 keep:∀b o,h.get? b=some o->H b=none->b∉fs->b∉ex->h'.get? b=some o
 slot:∀b o,h.get? b=some o->H b=none->b∈fs->b∉ex->∃sl,h'.get? b=some {o with slots:=sl}
 free:∀b o,h.get? b=some o->H b=none->b∉ex->H' b=none
 there:∀b o,h.get? b=some o->b∉ex->∃o',h'.get? b=some o'
 tups:∀b xs,H b=some (.tup xs)->H' b=some (.tup xs)
 frzs:∀b o u,H b=some (.frz o u)->H' b=some (.frz o u)
 tbls:∀b ps,H b=some (.tbl ps)->∃more,H' b=some (.tbl (ps++more))
section
variable {fs fs' ex ex':List Addr} {H H1 H2:Hp} {h h1 h2 h':Heap} {a x e:Addr} {o:HO}
def Un.any (u:Un fs ex H H1 h h1)   (q:h.get? b=some ob)(n:H b=none)(hx:b∉ex):∃sl,h1.get? b=some {ob with slots:=sl}:=by
 by_cases hb:b∈fs
 ·exact u.slot b ob q n hb hx
 ·exact⟨ob.slots,u.keep b ob q n hb hx⟩
def Un.kept (k:∀b u,h.get? b=some u->h'.get? b=some u):Un fs ex H H h h' :=
 ⟨fun b ob q _ _ _=>k b ob q,fun b ob q _ _ _=>⟨ob.slots,k b ob q⟩,fun _ _ _ n _=>n,fun b ob q _=>⟨ob,k b ob q⟩,fun _ _ q=>q,fun _ _ _ q=>q,fun _ ps q=>⟨#[],by rw[q];simp⟩⟩
def Un.refl:Un fs ex H H h h:=Un.kept fun _ _ q=>q
def Un.laid (k:∀b u,h.get? b=some u->h'.get? b=some u)(hp:h.objs.size<=a)(hn:H a=none):Un fs ex H (upd H a o) h h' where
 keep:=fun b u q _ _ _=>k b u q
 slot:=fun b u q _ _ _=>⟨u.slots,k b u q⟩
 free:=fun b u q n _=>by rw[Ag (Nat.ne_of_lt (Nat.lt_of_lt_of_le (Heap.lt_size q) hp))];exact n
 there:=fun b u q _=>⟨u,k b u q⟩
 tups:=fun b xs q=>by rw[Ag (C3 q hn)];exact q
 frzs:=fun b u xs q=>by rw[Ag (C3 q hn)];exact q
 tbls:=fun b ps q=>⟨#[],by rw[Ag (C3 q hn),q];simp⟩
def Un.write (mu:Mut (H x))(he:e=x\/H e=some (.own x))(k:∀b u,b≠e->h.get? b=some u->h'.get? b=some u)(heo:∃u,h'.get? e=some u):Un fs ex H (upd H x o) h h':=by
 have hx:∀b,H b=none->b≠x:=fun b n z=>by subst z;rw[n]at mu;exact mu
 have hb:∀b,H b=none->b≠e:=fun b n z=>by
  subst z
  rcases he with r|r
  ·exact hx b n r
  ·rw[n]at r;cases r
 have hm:∀b u,H b=some u->¬ Mut (some u)->b≠x:=fun b u q nm z=>by subst z;rw[q]at mu;exact nm mu
 refine⟨fun b u q n _ _=>k b u (hb b n) q,fun b u q n _ _=>⟨u.slots,k b u (hb b n) q⟩,fun b u q n _=>by rw[Ag (hx b n)];exact n,fun b u q _=>?_,
  fun b xs q=>by rw[Ag (hm b _ q fun z=>z)];exact q,fun b u xs q=>by rw[Ag (hm b _ q fun z=>z)];exact q,fun b ps q=>⟨#[],by rw[Ag (hm b _ q fun z=>z),q];simp⟩⟩
 by_cases hbe:b=e
 ·subst hbe;exact heo
 ·exact⟨u,k b u hbe q⟩
end
noncomputable def trk (h:Heap)(H:Hp):List Addr:=(List.range h.objs.size).filter fun a=>(H a).isSome
noncomputable def hidT (h:Heap)(H:Hp):Heap:=PySem.W.hideAll h (trk h H)
def Gl_ (h:Heap)(H:Hp):(hidT h H).objs.size=h.objs.size:=PySem.W.hideAll_size _ _
def Iq_     (e:h.get? b=some o)(n:H b=none):(hidT h H).get? b=some o:=
 PySem.W.hideAll_get _ e fun hm=>by
  have q:(H b).isSome=true:=(List.mem_filter.mp hm).2
  rw[n]at q;simp at q
def KJ_     (e:(hidT h H).get? b=some o):h.get? b=some o/\H b=none:=by
 have e':h.get? b=some o:=PySem.W.of_hideAll (trk h H) e
 refine⟨e',?_⟩
 cases q:H b with
 |none=>rfl
 |some x=>
  have hm:b∈trk h H:=List.mem_filter.mpr ⟨List.mem_range.mpr (Heap.lt_size e'),by simp[q]⟩
  have z:(hidT h H).get? b=none:=PySem.W.hideAll_none (trk h H) hm
  rw[z]at e;cases e
noncomputable def KK_ (g h:Heap)(L:Addr):List (Addr×Obj):=(List.range h.objs.size).filterMap fun a=>if a=L\/(g.get? a).isSome=true then none else (h.get? a).map fun o=>(a,o)
noncomputable def rest (g h:Heap)(L d:Addr):List (Addr×Obj):=(KK_ g h L).filter fun p=>decide (p.1≠d)
end L2
namespace L2
open PySem PySem.Spec PyProof.Rows
structure Mod (K:PySem.W.Frag)(mg:Str->Option Value)(base:Heap):Prop where
 kin:K.In base
 glob:base.Ns mainGlobals mg
 blt:∃mb,base.Ns builtinsNs mb/\∀x:Str,x ≠ "__name__" -> mb x=bootBuiltins x
 nolimit:base.NoLimit
structure Cx where
 prog:Program
 w:World
 K:PySem.W.Frag
 mg:Str->Option Value
 base:Heap
 A:Around
 N:List Str
 s₀:Shared
 H₀:Hp
 env:Env
 outer:List Env
 stack:List Env
 ex:List Addr
 fn:Str->Bool
 calm:Bool
 pn:List (Addr×Obj)
 xe:Value->Shared->Prop
noncomputable def frs (l:List Env):List Addr:=l.filterMap (·.frame)
noncomputable abbrev Cx.fs (X:Cx):List Addr:=frs X.outer
noncomputable def Vis (sc:Scope)(x:Str):Prop:=sc.names.lookup x=some .local\/sc.names.lookup x=some .cell\/sc.names.lookup x=some .free
noncomputable def Loc (sc:Scope)(x:Str):Prop:=sc.names.lookup x=some .local\/sc.names.lookup x=some .cell
noncomputable def Look (env:Env)(h:Heap)(m:Str->Option Value)(x:Str)(u:Value):Prop:=
 (env.kindOf x=some .local/\m x=some u)\/((env.kindOf x=some .cell\/env.kindOf x=some .free)/\∃c,env.cells.lookup x=some c/\h.IsCell c (some u))
structure Cx.Ok (X:Cx):Prop where
 mod:Mod X.K X.mg X.base
 kind:X.env.scope.kind=.function
 glob:X.env.globals=mainGlobals
 blt:X.env.builtins=builtinsNs
 above:X.s₀.heap.objs.size<=X.env.locals
 inj:∀x y c,X.env.cells.lookup x=some c->X.env.cells.lookup y=some c->x=y
 has:∀x,(X.env.kindOf x=some .cell\/X.env.kindOf x=some .free)->∃c,X.env.cells.lookup x=some c
 cab:∀x c,X.fn x=true->X.env.cells.lookup x=some c->X.s₀.heap.objs.size<=c
 hd:X.calm=true->X.A.handled=none
 frames:X.A.frames=some X.stack
 stk:X.stack=X.outer\/(X.stack=X.env::X.outer/\X.env.frame=some X.env.locals)
 exf:∀b∈X.ex,b≠X.env.locals/\∀x c,X.env.cells.lookup x=some c->c≠b
 bs:∀b o,X.base.get? b=some o->X.s₀.heap.get? b=some o/\X.H₀ b=none
 bsz:X.base.objs.size<=X.s₀.heap.objs.size
 noex:∀b o,X.base.get? b=some o->b∉X.ex
 exfs:∀b∈X.ex,b∉X.fs
 funs:X.s₀.heap.FunFrames X.base X.outer
 frf:∀b∈X.fs,X.H₀ b=none
structure Inv (X:Cx)(pins:List (Addr×Obj))(σ:List (Option V))(H:Hp)(s:Shared):Prop where
 ok:X.Ok
 os:s.os=X.s₀.os
 bare:AllBare s.gens
 base:Un X.fs X.ex X.H₀ H X.s₀.heap s.heap
 loc:∃m,s.heap.Ns X.env.locals m/\∀(i:Nat) (x:Str) (v:V),X.N[i]?=some x->σ[i]?=some (some v)->Vis X.env.scope x->∃u,RelV v u/\Look X.env s.heap m x u
 cell:∀x c,X.env.cells.lookup x=some c->∃v,s.heap.IsCell c v
 free:H X.env.locals=none
 freeC:∀x c,X.env.cells.lookup x=some c->H c=none
 pin:∀p∈X.pn++pins,s.heap.get? p.1=some p.2/\H p.1=none/\p.1≠X.env.locals/\p.1∉X.fs/\∀v,p.2.data ≠ .cell v
 hok:HOk X.prog X.w H s.heap
 len:σ.length=X.N.length
section
variable {X:Cx} {pins:List (Addr×Obj)} {σ:List (Option V)} {H H':Hp} {s:Shared} {h':Heap}
def Cx.Ok.nofr (ok:X.Ok)   (e:X.base.get? b=some o):b∉X.fs:=fun hb=>by
 have:=(ok.funs.mem hb).1
 rw[e]at this;cases this
def Inv.bs (I:Inv X pins σ H s):∀b o,X.base.get? b=some o->s.heap.get? b=some o/\H b=none:=fun b o e=>
 ⟨I.base.keep b o (I.ok.bs b o e).1 (I.ok.bs b o e).2 (I.ok.nofr e) (I.ok.noex b o e),I.base.free b o (I.ok.bs b o e).1 (I.ok.bs b o e).2 (I.ok.noex b o e)⟩
def Inv.bk (I:Inv X pins σ H s):∀b o,X.base.get? b=some o->s.heap.get? b=some o:=fun b o e=>(I.bs b o e).1
def Inv.mod (I:Inv X pins σ H s):Mod X.K X.mg X.base:=I.ok.mod
def Inv.kIn (I:Inv X pins σ H s):X.K.In s.heap:=I.ok.mod.kin.keeps I.bk
def Inv.lt (I:Inv X pins σ H s):X.env.locals<s.heap.objs.size:=let ⟨_,hn,_⟩:=I.loc;hn.lt
def Inv.sz (I:Inv X pins σ H s):X.s₀.heap.objs.size<=s.heap.objs.size:=Nat.le_trans I.ok.above (Nat.le_of_lt I.lt)
def Inv.nofs (I:Inv X pins σ H s)  (h:s.heap.objs.size<=a):a∉X.fs:=fun hb=>by
 obtain⟨_,o,ho,_⟩:=I.ok.funs.mem hb
 exact absurd (Nat.lt_of_lt_of_le (Heap.lt_size ho) (Nat.le_trans I.sz h)) (Nat.lt_irrefl _)
def Inv.cne (I:Inv X pins σ H s):∀x c,X.env.cells.lookup x=some c->c≠X.env.locals:=fun x c e z=>by
 obtain⟨v,o,ho,hd⟩:=I.cell x c e
 obtain⟨m,⟨o',es,ep,ho',hd',_⟩,_⟩:=I.loc
 rw[z,ho']at ho;cases ho;rw[hd']at hd;cases hd
def Inv.funs (I:Inv X pins σ H s):s.heap.FunFrames X.base X.outer:=by
 have all:∀(l:List Env),(∀b∈frs l,b∈X.fs)->X.s₀.heap.FunFrames X.base l->s.heap.FunFrames X.base l:=by
  intro l
  induction l with
  |nil=>intro _ _;trivial
  |cons env r ih=>
   intro hs hl
   obtain⟨hk,⟨L,o,hf,hn,ho,hd⟩,hr⟩:=hl
   have hL:L∈X.fs:=hs L (by unfold frs;rw[List.filterMap_cons,hf];exact List.mem_cons_self)
   obtain⟨sl,e⟩:=I.base.slot L o ho (I.ok.frf L hL) hL fun z=>I.ok.exfs L z hL
   exact⟨hk,⟨L,_,hf,hn,e,hd⟩,ih (fun b hb=>hs b (by unfold frs;rw[List.filterMap_cons,hf];exact List.mem_cons_of_mem _ hb)) hr⟩
 exact all X.outer (fun _ hb=>hb) I.ok.funs
def Inv.stack (I:Inv X pins σ H s):s.heap.FunFrames X.base X.stack:=by
 rcases I.ok.stk with e|⟨e,hf⟩
 ·rw[e];exact I.funs
 ·rw[e]
  obtain⟨m,hn,_⟩:=I.loc
  refine .cons (by rw[I.ok.kind];decide) hf hn ?_ I.funs
  exact Heap.get?_none_of_le (Nat.le_trans I.ok.bsz I.ok.above)
def Inv.stkSub (I:Inv X pins σ H s):∀b∈frs X.stack,b∈X.env.locals::X.fs:=fun b hb=>by
 rcases I.ok.stk with e|⟨e,hf⟩
 ·rw[e]at hb;exact List.mem_cons_of_mem _ hb
 ·rw[e]at hb
  unfold frs at hb
  rw[List.filterMap_cons,hf]at hb
  exact hb
def Inv.stkFree (I:Inv X pins σ H s):∀b∈frs X.stack,H b=none:=fun b hb=>by
 rcases List.mem_cons.mp (I.stkSub b hb) with e|hb
 ·rw[e];exact I.free
 ·obtain⟨_,o,ho,_⟩:=I.ok.funs.mem hb
  exact I.base.free b o ho (I.ok.frf b hb) fun z=>I.ok.exfs b z hb
def Inv.step {g':Array GenState}{t':Nat}{d':Drawn}{ch:List Addr}(I:Inv X pins σ H s)
  (hch:∀b∈ch,(b∈X.ex\/X.s₀.heap.objs.size<=b)/\b≠X.env.locals/\(∀x c,X.env.cells.lookup x=some c->c≠b)/\∀p∈X.pn++pins,p.1≠b)
  (keep:∀b o,b≠X.env.locals->b∉X.fs->b∉ch->s.heap.get? b=some o->H b=none->h'.get? b=some o)
  (slot:∀b o,b≠X.env.locals->b∈X.fs->b∉ch->s.heap.get? b=some o->H b=none->∃sl,h'.get? b=some {o with slots:=sl}) (free:∀b o,b∉ch->s.heap.get? b=some o->H b=none->H' b=none)
  (there:∀b o,b∉ch->s.heap.get? b=some o->∃o',h'.get? b=some o')
  (tups:∀b xs,H b=some (.tup xs)->H' b=some (.tup xs)) (frzs:∀b o u,H b=some (.frz o u)->H' b=some (.frz o u)) (tbls:∀b ps,H b=some (.tbl ps)->∃more,H' b=some (.tbl (ps++more)))
  (ns:∀m,s.heap.Ns X.env.locals m->h'.Ns X.env.locals m) (hok:HOk X.prog X.w H' h') (hg:AllBare g'):
  Inv X pins σ H' {s with heap:=h',gens:=g',drawn:=d',toks:=t' }:=by
 have neL:∀b o,X.s₀.heap.get? b=some o->b≠X.env.locals:=fun b o e=>Nat.ne_of_lt (Nat.lt_of_lt_of_le (Heap.lt_size e) I.ok.above)
 have neC:∀b o,X.s₀.heap.get? b=some o->b∉X.ex->b∉ch:=fun b o e hx hb=>by
  rcases (hch b hb).1 with z|z
  ·exact hx z
  ·exact absurd (Nat.lt_of_lt_of_le (Heap.lt_size e) z) (Nat.lt_irrefl _)
 have cellK:∀x c,X.env.cells.lookup x=some c->∀v,s.heap.IsCell c v->h'.IsCell c v:=fun x c e v ⟨o,ho,hd⟩=>by
  have nch:c∉ch:=fun z=>(hch c z).2.2.1 x c e rfl
  by_cases hc:c∈X.fs
  ·obtain⟨sl,q⟩:=slot c o (I.cne x c e) hc nch ho (I.freeC x c e)
   exact⟨_,q,hd⟩
  ·exact⟨o,keep c o (I.cne x c e) hc nch ho (I.freeC x c e),hd⟩
 refine⟨I.ok,I.os,hg,⟨fun b o e n hb hx=>?_,fun b o e n hb hx=>?_,fun b o e n hx=>?_,fun b o e hx=>?_,fun b xs e=>tups b xs (I.base.tups b xs e),fun b o xs e=>frzs b o xs (I.base.frzs b o xs e),fun b ps e=>?_⟩,?_,fun x c e=>?_,?_,fun x c e=>?_,fun p hp=>?_,hok,I.len⟩
 ·exact keep b o (neL b o e) hb (neC b o e hx) (I.base.keep b o e n hb hx) (I.base.free b o e n hx)
 ·obtain⟨sl,e1⟩:=I.base.slot b o e n hb hx
  obtain⟨sl',e2⟩:=slot b _ (neL b o e) hb (neC b o e hx) e1 (I.base.free b o e n hx)
  exact⟨sl',e2⟩
 ·obtain⟨o',e1⟩:=I.base.there b o e hx
  exact free b o' (neC b o e hx) e1 (I.base.free b o e n hx)
 ·obtain⟨o',e1⟩:=I.base.there b o e hx
  exact there b o' (neC b o e hx) e1
 ·obtain⟨m1,e1⟩:=I.base.tbls b ps e
  obtain⟨m2,e2⟩:=tbls b _ e1
  exact⟨m1++m2,by rw[e2,Array.append_assoc]⟩
 ·obtain⟨m,hn,hl⟩:=I.loc
  refine⟨m,ns m hn,fun i x v e1 e2 e3=>?_⟩
  obtain⟨u,r,l⟩:=hl i x v e1 e2 e3
  refine⟨u,r,?_⟩
  rcases l with l|⟨k,c,e,z⟩
  ·exact .inl l
  ·exact .inr ⟨k,c,e,cellK x c e _ z⟩
 ·obtain⟨v,z⟩:=I.cell x c e
  exact⟨v,cellK x c e v z⟩
 ·obtain⟨m,⟨o,_,_,ho,_⟩,_⟩:=I.loc
  exact free _ o (fun z=>(hch _ z).2.1 rfl) ho I.free
 ·obtain⟨v,o,ho,hd⟩:=I.cell x c e
  exact free c o (fun z=>(hch c z).2.2.1 x c e rfl) ho (I.freeC x c e)
 ·obtain⟨e,n,ne,nf,d⟩:=I.pin p hp
  have nch:p.1∉ch:=fun z=>(hch p.1 z).2.2.2 p hp rfl
  exact⟨keep p.1 p.2 ne nf nch e n,free p.1 p.2 nch e n,ne,nf,d⟩
def Inv.un  (I:Inv X pins σ H s)(u:Un X.fs [] H H' s.heap h')(hok:HOk X.prog X.w H' h'):Inv X pins σ H' {s with heap:=h',toks:=t' }:=by
 obtain⟨m,⟨o,es,ep,ho,r⟩,_⟩:=id I.loc
 obtain⟨sl,hL⟩:=u.any ho I.free (by simp)
 exact I.step (g':=s.gens) (d':=s.drawn) (ch:=[]) (fun _ z=>nomatch z) (fun b o _ hb _ e n=>u.keep b o e n hb (by simp)) (fun b o _ hb _ e n=>u.slot b o e n hb (by simp)) (fun b o _ e n=>u.free b o e n (by simp)) (fun b o _ e=>u.there b o e (by simp)) u.tups u.frzs u.tbls (fun m' hm=>by
  obtain⟨o',es',ep',ho',r'⟩:=hm
  rw[ho]at ho';cases ho'
  exact⟨_,es',ep',hL,r'⟩) hok I.bare
def Inv.call     (I:Inv X pins σ H s)(u:Un (frs X.stack) ch H H' s.heap h')(hok:HOk X.prog X.w H' h')(hg:AllBare g')
  (hch:∀b∈ch,(b∈X.ex\/X.s₀.heap.objs.size<=b)/\b≠X.env.locals/\(∀x c,X.env.cells.lookup x=some c->c≠b)/\∀p∈X.pn++pins,p.1≠b):
  Inv X pins σ H' {s with heap:=h',gens:=g',drawn:=d',toks:=t' }:=by
 obtain⟨m,⟨o,es,ep,ho,r⟩,_⟩:=id I.loc
 obtain⟨sl,hL⟩:=u.any ho I.free fun z=>(hch _ z).2.1 rfl
 exact I.step (ch:=ch) hch (fun b o hL hb hc e n=>u.keep b o e n (fun z=>(List.mem_cons.mp (I.stkSub b z)).elim hL hb) hc) (fun b o _ _ hc e n=>u.any e n hc) (fun b o hc e n=>u.free b o e n hc) (fun b o hc e=>u.there b o e hc) u.tups u.frzs u.tbls (fun m' hm=>by
  obtain⟨o',es',ep',ho',r'⟩:=hm
  rw[ho]at ho';cases ho'
  exact⟨_,es',ep',hL,r'⟩) hok hg
def Inv.turned  {it:Addr}(I:Inv X pins σ H s)(k:∀b o,b≠it->s.heap.get? b=some o->h'.get? b=some o)(hn:H it=none)(hL:it≠X.env.locals)
  (h1:it∈X.ex\/X.s₀.heap.objs.size<=it) (h2:∀x c,X.env.cells.lookup x=some c->c≠it) (h3:∀p∈X.pn++pins,p.1≠it):Inv X pins σ H {s with heap:=h',toks:=t' }:=by
 have nit:∀b u,H b=some u->b≠it:=fun b u e z=>by rw[z,hn]at e;cases e
 refine I.step (g':=s.gens) (d':=s.drawn) (ch:=[it]) (fun b hb=>?_) (fun b o _ _ hc e _=>k b o (fun z=>hc (by simp[z])) e) (fun b o _ _ hc e _=>⟨o.slots,k b o (fun z=>hc (by simp[z])) e⟩) (fun _ _ _ _ n=>n)
  (fun b o hc e=>⟨o,k b o (fun z=>hc (by simp[z])) e⟩) (fun _ _ e=>e) (fun _ _ _ e=>e) (fun b ps e=>⟨#[],by rw[e];simp⟩) (fun m hm=>?_) (fun b u e=>?_) I.bare
 ·have e:b=it:=by simpa using hb
  subst e
  exact⟨h1,hL,h2,h3⟩
 ·obtain⟨o,es,ep,ho,r⟩:=hm
  exact⟨o,es,ep,k _ o (Ne.symm hL) ho,r⟩
 ·refine (I.hok b u e).stay (fun c v hc q=>k c v ?_ q) (fun _ q=>q) fun _ _ q=>q
  rcases hc with z|z
  ·rw[z];exact nit b u e
  ·exact nit c _ z
def Inv.tok (I:Inv X pins σ H s)(t:Nat):Inv X pins σ H {s with toks:=t}:=I.un (h':=s.heap) (t':=t) Un.refl I.hok
def Inv.kept  (I:Inv X pins σ H s)(k:∀b u,s.heap.get? b=some u->h'.get? b=some u):Inv X pins σ H {s with heap:=h',toks:=t' }:=I.un (Un.kept k) (I.hok.kept k)
def Inv.laid    (I:Inv X pins σ H s)(k:∀b u,s.heap.get? b=some u->h'.get? b=some u)(hp:s.heap.objs.size<=a)(new:C4 X.prog X.w (upd H a o) h' a o):
  Inv X pins σ (upd H a o) {s with heap:=h',toks:=t' }:=I.un (Un.laid k hp (I.hok.fresh hp)) (I.hok.laid k hp new)
def Inv.write    (I:Inv X pins σ H s)(mu:Mut (H x))(he:e=x\/H e=some (.own x))(k:∀b u,b≠e->s.heap.get? b=some u->h'.get? b=some u)(heo:∃u,h'.get? e=some u)
  (new:C4 X.prog X.w (upd H x o) h' x o):Inv X pins σ (upd H x o) {s with heap:=h',toks:=t' }:=I.un (Un.write mu he k heo) (I.hok.write mu he k heo new)
def Inv.pins_of  (I:Inv X pins σ H s)(h:∀p∈pins',s.heap.get? p.1=some p.2/\H p.1=none/\p.1≠X.env.locals/\p.1∉X.fs/\∀v,p.2.data ≠ .cell v):Inv X pins' σ H s:=
 ⟨I.ok,I.os,I.bare,I.base,I.loc,I.cell,I.free,I.freeC,fun p hp=>(List.mem_append.mp hp).elim (fun z=>I.pin p (List.mem_append_left _ z)) (h p),I.hok,I.len⟩
def Em_ {N:List Str}(hN:N.Nodup){i j:Nat}{x:Str}(a:N[i]?=some x)(b:N[j]?=some x):i=j:=by
 obtain⟨h1,e1⟩:=List.getElem?_eq_some_iff.mp a
 obtain⟨h2,e2⟩:=List.getElem?_eq_some_iff.mp b
 exact (List.getElem_inj hN).mp (e1.trans e2.symm)
def AL_         (I:Inv X pins σ H s)(hN:X.N.Nodup)(hi:X.N[i]?=some x)(hx:Loc X.env.scope x)(r:RelV v u)
  (h:∀s',Inv X pins (σ.set i (some v)) H s'->(∃a,Heap.SameBut a s.heap s'.heap/\(a=X.env.locals\/X.env.cells.lookup x=some a))->Q () s') (hf:X.fn x=true\/X.env.scope.names.lookup x=some .local:=by first|exact .inl rfl|exact .inr rfl|assumption):wpAny M A (storeName X.env x u) Q E s:=by
 obtain⟨m,hn,hl⟩:=id I.loc
 have hcls:(X.env.scope.kind == .class||(X.env.scope.kind == .module&&X.env.locals != X.env.globals))=false:=by rw[I.ok.kind];rfl
 have hiσ:i<σ.length:=by rw[I.len];exact (List.getElem?_eq_some_iff.mp hi).1
 have cne:=I.cne
 have tracked:∀{a:Addr} {h':Heap},(∃o,s.heap.get? a=some o/\H a=none)->Heap.SameBut a s.heap h'->HOk X.prog X.w H h':=fun {a h'} ha hs b ob e=>by
  obtain⟨_,_,hfree⟩:=ha
  refine (I.hok b ob e).stay (fun c w' hc q=>(hs.2 c ?_).trans q) (fun _ q=>q) fun _ _ q=>q
  rintro rfl
  rcases hc with rfl|hc
  ·rw[hfree]at e;cases e
  ·rw[hfree]at hc;cases hc
 rcases hx with hk|hk
 ·refine wpAny_storeName_local hk hn (fun h' hn' hs=>?_) hcls
  obtain⟨oL,_,_,hoL,_⟩:=id hn
  refine h _ ⟨I.ok,I.os,I.bare,⟨fun b o e n hb hx=>?_,fun b o e n hb hx=>?_,I.base.free,fun b o e hx=>?_,I.base.tups,I.base.frzs,I.base.tbls⟩,⟨_,hn',fun j y v' e1 e2 e3=>?_⟩,fun y c e=>?_,I.free,I.freeC,fun p hp=>?_,tracked ⟨oL,hoL,I.free⟩ hs,by simpa using I.len⟩ ⟨_,hs,.inl rfl⟩
  ·exact (hs.2 b (Nat.ne_of_lt (Nat.lt_of_lt_of_le (Heap.lt_size e) I.ok.above))).trans (I.base.keep b o e n hb hx)
  ·obtain⟨sl,e1⟩:=I.base.slot b o e n hb hx
   exact⟨sl,(hs.2 b (Nat.ne_of_lt (Nat.lt_of_lt_of_le (Heap.lt_size e) I.ok.above))).trans e1⟩
  ·obtain⟨o',e1⟩:=I.base.there b o e hx
   exact⟨o',(hs.2 b (Nat.ne_of_lt (Nat.lt_of_lt_of_le (Heap.lt_size e) I.ok.above))).trans e1⟩
  ·by_cases hj:j=i
   ·subst hj
    rw[hi]at e1;cases e1
    rw[List.getElem?_set_self hiσ]at e2
    cases e2
    exact⟨u,r,.inl ⟨hk,by simp⟩⟩
   ·rw[List.getElem?_set_ne (Ne.symm hj)]at e2
    obtain⟨u',r',q⟩:=hl j y v' e1 e2 e3
    refine⟨u',r',?_⟩
    rcases q with ⟨k,e⟩|⟨k,c,e,z⟩
    ·refine .inl ⟨k,?_⟩
     have:y≠x:=fun e=>hj (Em_ hN e1 (e ▸ hi))
     simp[this,e]
    ·exact .inr ⟨k,c,e,z.sameBut hs (cne y c e)⟩
  ·obtain⟨w',z⟩:=I.cell y c e
   exact⟨w',z.sameBut hs (cne y c e)⟩
  ·obtain⟨e,n,ne,nf,d⟩:=I.pin p hp
   exact⟨(hs.2 p.1 ne).trans e,n,ne,nf,d⟩
 ·have hfn:X.fn x=true:=by
   rcases hf with z|z
   ·exact z
   ·rw[z]at hk;cases hk
  obtain⟨c,hc⟩:=I.ok.has x (.inl hk)
  obtain⟨w',z⟩:=I.cell x c hc
  refine wpAny_storeName_cell I.ok.kind hk hc z (fun h' hc' hs=>?_)
  obtain⟨oc,hoc,hocd⟩:=id z
  refine h {s with heap:=h' } ⟨I.ok,I.os,I.bare,⟨fun b o e n hb hx=>?_,fun b o e n hb hx=>?_,I.base.free,fun b o e hx=>?_,I.base.tups,I.base.frzs,I.base.tbls⟩,⟨m,hn.sameBut hs (Ne.symm (cne x c hc)),fun j y v' e1 e2 e3=>?_⟩,fun y c' e=>?_,I.free,I.freeC,fun p hp=>?_,tracked ⟨oc,hoc,I.freeC x c hc⟩ hs,by simpa using I.len⟩ ⟨c,hs,.inr hc⟩
  ·exact (hs.2 b (Nat.ne_of_lt (Nat.lt_of_lt_of_le (Heap.lt_size e) (I.ok.cab x c hfn hc)))).trans (I.base.keep b o e n hb hx)
  ·obtain⟨sl,e1⟩:=I.base.slot b o e n hb hx
   exact⟨sl,(hs.2 b (Nat.ne_of_lt (Nat.lt_of_lt_of_le (Heap.lt_size e) (I.ok.cab x c hfn hc)))).trans e1⟩
  ·obtain⟨o',e1⟩:=I.base.there b o e hx
   exact⟨o',(hs.2 b (Nat.ne_of_lt (Nat.lt_of_lt_of_le (Heap.lt_size e) (I.ok.cab x c hfn hc)))).trans e1⟩
  ·by_cases hj:j=i
   ·subst hj
    rw[hi]at e1;cases e1
    rw[List.getElem?_set_self hiσ]at e2
    cases e2
    exact⟨u,r,.inr ⟨.inl hk,c,hc,hc'⟩⟩
   ·rw[List.getElem?_set_ne (Ne.symm hj)]at e2
    obtain⟨u',r',q⟩:=hl j y v' e1 e2 e3
    refine⟨u',r',?_⟩
    rcases q with q|⟨k,c',e,z'⟩
    ·exact .inl q
    ·refine .inr ⟨k,c',e,z'.sameBut hs ?_⟩
     rintro rfl
     exact hj (Em_ hN e1 (I.ok.inj _ _ _ e hc ▸ hi))
  ·by_cases hcc:c'=c
   ·subst hcc;exact⟨_,hc'⟩
   ·obtain⟨w2,z2⟩:=I.cell y c' e
    exact⟨w2,z2.sameBut hs hcc⟩
  ·obtain⟨e,n,ne,nf,d⟩:=I.pin p hp
   refine⟨(hs.2 p.1 ?_).trans e,n,ne,nf,d⟩
   intro q
   rw[q,hoc]at e
   have q':oc=p.2:=Option.some.inj e
   exact d w' (by rw[<-q'];exact hocd)
def En_         (I:Inv X pins σ H s)(hN:X.N.Nodup)(hi:X.N[i]?=some x)(hx:Loc X.env.scope x)(r:RelV v u)
  (h:∀s',Inv X pins (σ.set i (some v)) H s'->Q () s') (hf:X.fn x=true\/X.env.scope.names.lookup x=some .local:=by first|exact .inl rfl|exact .inr rfl|assumption):wpAny M A (storeName X.env x u) Q E s:=
 AL_ I hN hi hx r (fun s' I' _=>h s' I') hf
def Inv.call'   (I:Inv X pins σ H s)(ho:s'.os=s.os)(u:Un (frs X.stack) ch H H' s.heap s'.heap)(hok:HOk X.prog X.w H' s'.heap)(hg:AllBare s'.gens)
  (hch:∀b∈ch,(b∈X.ex\/X.s₀.heap.objs.size<=b)/\b≠X.env.locals/\(∀x c,X.env.cells.lookup x=some c->c≠b)/\∀p∈X.pn++pins,p.1≠b):Inv X pins σ H' s':=by
 obtain⟨h',g',d',t',o'⟩:=s'
 have e:o'=s.os:=ho
 subst e
 exact I.call (g':=g') (t':=t') (d':=d') u hok hg hch
end
noncomputable abbrev XK:=Value->Option Addr->Hp->Prop
noncomputable abbrev St:=List (Option V)
noncomputable abbrev VK:=V->Hp->Prop
noncomputable abbrev TE:=St->Hp->VK->Prop
noncomputable abbrev TT:=St->Hp->(Bool->Hp->Prop)->Prop
noncomputable abbrev TA:=St->Hp->(List V->Hp->Prop)->Prop
structure Ends where
 nx:St->Hp->Prop
 rt:VK
 bk:St->Hp->Prop:=fun _ _=>False
 ct:St->Hp->Prop:=fun _ _=>False
noncomputable abbrev TS:=Ends->St->Hp->Prop
noncomputable def EP (X:Cx)(pins:List (Addr×Obj))(σ:St)(Q:VK)(u:Value)(s':Shared):Prop:=∃v H',Inv X pins σ H' s'/\RelV v u/\Q v H'
noncomputable def TP (X:Cx)(pins:List (Addr×Obj))(σ:St)(Q:Bool->Hp->Prop)(b:Bool)(s':Shared):Prop:=∃H',Inv X pins σ H' s'/\Q b H'
noncomputable def AP (X:Cx)(pins:List (Addr×Obj))(σ:St)(Q:List V->Hp->Prop)(us:List Value)(s':Shared):Prop:=∃vs H',Inv X pins σ H' s'/\Vals vs us/\Q vs H'
noncomputable def SP (X:Cx)(pins:List (Addr×Obj))(D:Ends)(f:Flow)(s':Shared):Prop:=
 match f with
 |.next=>∃σ' H',Inv X pins σ' H' s'/\D.nx σ' H'
 |.brk=>∃σ' H',Inv X pins σ' H' s'/\D.bk σ' H'
 |.cont=>∃σ' H',Inv X pins σ' H' s'/\D.ct σ' H'
 |.ret u=>∃v σ' H',Inv X pins σ' H' s'/\RelV v u/\D.rt v H'
noncomputable def PE (X:Cx)(e:Expr)(t:TE):Prop:=
 ∀(pins:List (Addr×Obj)) (s:Shared) (σ:St) (H:Hp) (Q:VK),Inv X pins σ H s->t σ H Q->wpAny (model X.prog X.w) X.A (eval e X.env) (EP X pins σ Q) X.xe s
noncomputable def PT (X:Cx)(e:Expr)(t:TT):Prop:=
 ∀(pins:List (Addr×Obj)) (s:Shared) (σ:St) (H:Hp) (Q:Bool->Hp->Prop),Inv X pins σ H s->t σ H Q->wpAny (model X.prog X.w) X.A (isTrue e X.env (eval e X.env)) (TP X pins σ Q) X.xe s
noncomputable def PW (X:Cx)(e:Expr)(t:TT):Prop:=
 ∀(whole:Sem Value) (pins:List (Addr×Obj)) (s:Shared) (σ:St) (H:Hp) (Q:Bool->Hp->Prop),Inv X pins σ H s->t σ H Q->wpAny (model X.prog X.w) X.A (isTrue e X.env whole) (TP X pins σ Q) X.xe s
def PW.pt    (h:PW X e t):PT X e t:=h _
noncomputable def PA (X:Cx)(es:List Expr)(t:TA):Prop:=
 ∀(pos:Pos) (pins:List (Addr×Obj)) (s:Shared) (σ:St) (H:Hp) (Q:List V->Hp->Prop),Inv X pins σ H s->t σ H Q->wpAny (model X.prog X.w) X.A (spliced (backTo pos (starEach es X.env))) (AP X pins σ Q) X.xe s
noncomputable def PS (X:Cx)(st:Stmt)(t:TS):Prop:=
 ∀(pins:List (Addr×Obj)) (s:Shared) (σ:St) (H:Hp) (D:Ends),Inv X pins σ H s->t D σ H->wpAny (model X.prog X.w) X.A (exec st X.env) (SP X pins D) X.xe s
noncomputable def PSs (X:Cx)(st:List Stmt)(t:TS):Prop:=
 ∀(pins:List (Addr×Obj)) (s:Shared) (σ:St) (H:Hp) (D:Ends),Inv X pins σ H s->t D σ H->wpAny (model X.prog X.w) X.A (execs st X.env) (SP X pins D) X.xe s
def thn        (h:wpAny M A t Q E s)(hQ:∀a s,Q a s->Q' a s):wpAny M A t Q' E s:=wpAny_mono h hQ fun _ _ x=>x
end L2
namespace L2
open PySem PySem.Spec PyProof.Rows
section
variable {X:Cx}
noncomputable def tVar (i:Nat):TE:=fun σ H Q=>∃v,σ[i]?=some (some v)/\Q v H
noncomputable def tC (v:V):TE:=fun _ H Q=>Q v H
def LN_    (hN:X.N[i]?=some x)(hv:Vis X.env.scope x)(hd:(x==("__debug__" : Str))=false:=by decide)(hcd:(x==("__classdict__" : Str))=false:=by decide):PE X (.Name x pos) (tVar i):=by
 intro pins s σ H Q I h
 obtain⟨v,e,h⟩:=h
 obtain⟨m,hn,hl⟩:=I.loc
 obtain⟨u,r,l⟩:=hl i x v hN e hv
 have fin:EP X pins σ Q u s:=⟨v,H,I,r,h⟩
 rcases l with ⟨hk,hm⟩|⟨hk,c,hc,hcell⟩
 ·exact wpAny_Name (wpAny_loadName_local I.ok.kind hk hn hm fin) hd
 ·rcases hk with hk|hk
  ·exact wpAny_Name (wpAny_loadName_cell I.ok.kind hk hc hcell fin) hd
  ·exact wpAny_Name (wpAny_loadName_free I.ok.kind hk hc hcell fin hcd) hd
def Ah {i j pos}:PE X (.Constant (.int i) j pos) (tC (.int i)):=fun _ _ _ H _ I h=>wpAny_Constant_int ⟨.int i,H,I.tok _,⟨_,rfl⟩,h⟩
def Ek {b j pos}:PE X (.Constant (.bool b) j pos) (tC (.bl b)):=fun _ _ _ H _ I h=>Constant_bool ⟨.bl b,H,I,rfl,h⟩
def Gk {j pos}:PE X (.Constant .none j pos) (tC .non):=fun _ _ _ H _ I h=>Constant_none ⟨.non,H,I,rfl,h⟩
def El {x j pos}:PE X (.Constant (.str x) j pos) (tC (.str x)):=fun _ _ _ H _ I h=>Calls.Constant_str ⟨.str x,H,I.tok _,⟨_,rfl⟩,h⟩
noncomputable def Gl (X:Cx)(x:Str):Prop:=X.env.kindOf x=some .globalImplicit
def U0          (I:Inv X pins σ H s)(hg:Gl X x)(hm:X.mg x=some u)(h:Q u s)
  (hd:(x==("__debug__" : Str))=false:=by decide):wpAny (model X.prog X.w) X.A (eval (.Name x pos) X.env) Q E s:=
 Calls.Name_function_global I.ok.kind hg (Calls.loadGlobal_global (by rw[I.ok.glob];exact I.mod.glob.keeps I.bk) hm h) hd
def U1          (I:Inv X pins σ H s)(hg:Gl X x)(hm:X.mg x=none)(hv:bootBuiltins x=some u)(h:Q u s)
  (hn:x ≠ "__name__" := by decide) (hd:(x==("__debug__" : Str))=false:=by decide):wpAny (model X.prog X.w) X.A (eval (.Name x pos) X.env) Q E s:=by
 obtain⟨mb,h1,h2⟩:=I.mod.blt
 exact Calls.Name_function_global I.ok.kind hg (Calls.loadGlobal_builtin (by rw[I.ok.glob];exact I.mod.glob.keeps I.bk) hm (by rw[I.ok.blt];exact h1.keeps I.bk) ((h2 x hn).trans hv) h) hd
def Gm_     (hg:Gl X x)(hm:X.mg x=some u)(r:RelV v u)(hd:(x==("__debug__" : Str))=false:=by decide):PE X (.Name x pos) (tC v):=
 fun _ _ _ H _ I h=>U0 I hg hm ⟨v,H,I,r,h⟩ hd
def Mm     (hg:Gl X x)(hm:X.mg x=none)(hv:bootBuiltins x=some u)(r:RelV v u)(hn:x ≠ "__name__" := by decide)(hd:(x==("__debug__" : Str))=false:=by decide):PE X (.Name x pos) (tC v):=
 fun _ _ _ H _ I h=>U1 I hg hm hv ⟨v,H,I,r,h⟩ hn hd
variable {a b:Expr} {ta tb:TE} {pos:Pos}
noncomputable def PC (X:Cx)(op:CmpOp)(a b:Expr)(t:TE):Prop:=
 ∀(pins:List (Addr×Obj)) (s:Shared) (σ:St) (H:Hp) (Q:VK),Inv X pins σ H s->t σ H Q ->
  wpAny (model X.prog X.w) X.A (eval a X.env) (fun v s₁=>wpAny (model X.prog X.w) X.A (eval b X.env) (fun u s₂=>wpAny (model X.prog X.w) X.A (compareOp op v u) (EP X pins σ Q) X.xe s₂) X.xe s₁) X.xe s
def Ir_ (b:Expr)  (h:op ≠ .In)(h2:op ≠ .NotIn):behindInMarks op b=false:=by
 have e1:(op==CmpOp.In)=false:=by cases op<;>first|rfl|exact absurd rfl h
 have e2:(op==CmpOp.NotIn)=false:=by cases op<;>first|rfl|exact absurd rfl h2
 cases b<;>simp[behindInMarks,e1,e2]
noncomputable def tB (t:TE):TT:=fun σ H Q=>t σ H fun x H1=>∃c,x=.bl c/\Q c H1
def Gn_   (h:PC X op a b t)(h1:behindInMarks op b=false:=by first|exact Ir_ _ (by decide) (by decide)|rfl):PT X (.Compare a [op] [b] pos) (tB t):=by
 intro pins s σ H Q I hw
 refine wpAny_isTrue_Compare1 (thn (h pins s σ H _ I hw) fun v s1 h1=>thn h1 fun u s2 h2=>thn h2 fun c s3 ⟨x,H1,I1,r1,q1⟩=>?_) h1
 obtain⟨d,rfl,q⟩:=q1
 cases r1
 exact wpAny_truthy_bool ⟨H1,I1,q⟩
def ET   (h:PE X e t)(he:∀whole,isTrue e X.env whole=(do let v <- whole;standAt e.pos;holding [v] (truthy v)):=by intro _;rfl):PT X e (tB t):=by
 intro pins s σ H Q I hw
 refine isTrue_plain (thn (h pins s σ H _ I hw) fun v s1 ⟨x,H1,I1,r1,q1⟩=>?_) (he _)
 obtain⟨d,rfl,q⟩:=q1
 cases r1
 exact wpAny_truthy_bool ⟨H1,I1,q⟩
variable {tA tB':TT} {rest:List Expr}
noncomputable def tAnd (t u:TT):TT:=fun σ H Q=>t σ H fun c H1=>if c=true then u σ H1 Q else Q false H1
noncomputable def tOr (t u:TT):TT:=fun σ H Q=>t σ H fun c H1=>if c=true then Q true H1 else u σ H1 Q
noncomputable def tNot (t:TT):TT:=fun σ H Q=>t σ H fun c H1=>Q (!c) H1
def Go_ (ha:PT X a tA):PW X (.BoolOp .And [a] pos) tA:=by
 intro wh pins s σ H Q I h
 refine isTrue_and (thn (ha pins s σ H Q I h) fun c s1 e=>?_)
 cases c with
 |true=>exact isTrue_and_nil e
 |false=>exact e
def GN (ha:PT X a tA):PW X (.BoolOp .Or [a] pos) tA:=by
 intro wh pins s σ H Q I h
 refine isTrue_or (thn (ha pins s σ H Q I h) fun c s1 e=>?_)
 cases c with
 |false=>exact isTrue_or_nil e
 |true=>exact e
def Jw_ (ha:PT X a tA)(hb:PW X (.BoolOp .And (b::rest) pos) tB'):PW X (.BoolOp .And (a::b::rest) pos) (tAnd tA tB'):=by
 intro wh pins s σ H Q I h
 refine isTrue_and (thn (ha pins s σ H _ I h) fun c s1 ⟨H1,I1,q1⟩=>?_)
 cases c with
 |true=>exact hb wh pins s1 σ H1 Q I1 q1
 |false=>exact⟨H1,I1,q1⟩
def JD (ha:PT X a tA)(hb:PW X (.BoolOp .Or (b::rest) pos) tB'):PW X (.BoolOp .Or (a::b::rest) pos) (tOr tA tB'):=by
 intro wh pins s σ H Q I h
 refine isTrue_or (thn (ha pins s σ H _ I h) fun c s1 ⟨H1,I1,q1⟩=>?_)
 cases c with
 |true=>exact⟨H1,I1,q1⟩
 |false=>exact hb wh pins s1 σ H1 Q I1 q1
def EU (ha:PT X a tA):PT X (.UnaryOp .Not a pos) (tNot tA):=by
 intro pins s σ H Q I h
 exact isTrue_not (ha pins s σ H (fun c H1=>Q (!c) H1) I h)
noncomputable def LO_ (ta tb:TE):TE:=fun σ H Q=>ta σ H fun x H1=>∃c,x=.bl c/\if c=true then tb σ H1 Q else Q (.bl false) H1
noncomputable def tOrV (ta tb:TE):TE:=fun σ H Q=>ta σ H fun x H1=>∃c,x=.bl c/\if c=true then Q (.bl true) H1 else tb σ H1 Q
noncomputable def LP_ (ta:TE):TE:=fun σ H Q=>ta σ H fun x H1=>∃c,x=.bl c/\Q (.bl (!c)) H1
def XB {op}  (h:PE X a t):PE X (.BoolOp op [a] pos) t:=fun pins s σ H Q I hw=>BoolOp_one (h pins s σ H Q I hw)
def Eo_ (ha:PE X a ta)(hb:PE X (.BoolOp .And (b::rest) pos) tb):PE X (.BoolOp .And (a::b::rest) pos) (LO_ ta tb):=by
 intro pins s σ H Q I h
 refine BoolOp_and (thn (ha pins s σ H _ I h) fun v s1 ⟨x,H1,I1,r1,q1⟩=>?_)
 obtain⟨c,rfl,q1⟩:=q1
 cases r1
 refine wpAny_truthy_bool ?_
 cases c with
 |true=>exact hb pins s1 σ H1 Q I1 q1
 |false=>exact⟨.bl false,H1,I1,rfl,q1⟩
def LQ_ (ha:PE X a ta)(hb:PE X (.BoolOp .Or (b::rest) pos) tb):PE X (.BoolOp .Or (a::b::rest) pos) (tOrV ta tb):=by
 intro pins s σ H Q I h
 refine BoolOp_or (thn (ha pins s σ H _ I h) fun v s1 ⟨x,H1,I1,r1,q1⟩=>?_)
 obtain⟨c,rfl,q1⟩:=q1
 cases r1
 refine wpAny_truthy_bool ?_
 cases c with
 |false=>exact hb pins s1 σ H1 Q I1 q1
 |true=>exact⟨.bl true,H1,I1,rfl,q1⟩
def Jx_ (ha:PE X a ta):PE X (.UnaryOp .Not a pos) (LP_ ta):=by
 intro pins s σ H Q I h
 refine UnaryOp_ (thn (ha pins s σ H _ I h) fun v s1 ⟨x,H1,I1,r1,q1⟩=>?_)
 obtain⟨c,rfl,q1⟩:=q1
 cases r1
 exact not_of (wpAny_truthy_bool ⟨.bl (!c),H1,I1,rfl,q1⟩)
end
end L2
namespace L2
open PySem PySem.Spec PyProof.Rows
noncomputable def SqL (K:PySem.W.Frag)(H:Hp)(a:Addr)(xs:List V):Prop:=
 Rd H a (.lst xs) \/
  ∃(o:Obj) (its:Array Value) (n:Nat),K.lookup a=some o/\o.cls=.type "list" /\ o.dict=none/\o.data=.seq its n/\its.size<=sizeLine/\Vals xs its.toList
noncomputable def SqT (K:PySem.W.Frag)(H:Hp)(a:Addr)(xs:List V):Prop:=
 Rd H a (.tup xs) \/
  ∃(o:Obj) (its:Array Value) (n:Nat),K.lookup a=some o/\o.cls=.type "tuple" /\ o.data=.seq its n/\its.size<=sizeLine/\Vals xs its.toList
noncomputable def absV:Value->Option V
 |.none=>some .non
 |.bool b=>some (.bl b)
 |.int i _=>some (.int i)
 |.str x _=>some (.str x)
 |.bytes b _=>some (.byt b)
 |.float b _=>some (.flt b)
 |.ref a=>some (.ref a)
 |.type n=>some (.ty n)
 |_=>none
def RelV.abs   (r:RelV x u):absV u=some x:=by
 cases x with
 |non=>cases r;rfl
 |bl _=>cases r;rfl
 |int _=>obtain⟨t,rfl⟩:=r;rfl
 |str _=>obtain⟨t,rfl⟩:=r;rfl
 |byt _=>obtain⟨t,rfl⟩:=r;rfl
 |flt _=>obtain⟨t,rfl⟩:=r;rfl
 |ref _=>cases r;rfl
 |ty _=>cases r;rfl
def RelV.inj   (r:RelV x u)(q:RelV y u):x=y:=Option.some.inj (r.abs.symm.trans q.abs)
def Vals.inj:∀{xs ys:List V} {us:List Value},Vals xs us->Vals ys us->xs=ys
 |_,_,_,.nil,.nil=>rfl
 |_,_,_,.cons r t,.cons r' t'=>by rw[r.inj r',Vals.inj t t']
section
variable {X:Cx} {pins:List (Addr×Obj)} {σ:St} {H:Hp} {s:Shared} {a:Addr} {xs ys:List V}
def SqL.of {K:PySem.W.Frag}(h:H a=some (.lst xs)):SqL K H a xs:=.inl (.inl h)
def SqT.of {K:PySem.W.Frag}(h:H a=some (.tup xs)):SqT K H a xs:=.inl (.inl h)
def Inv.list (I:Inv X pins σ H s)(h:SqL X.K H a xs):∃its:List Value,Vals xs its/\PlainL s.heap a its.toArray/\xs.length<=sizeLine:=by
 rcases h with h|⟨o,its,n,hk,hc,hd,hs,hz,r⟩
 ·obtain⟨z,its,n,r,e⟩:=h.ok I.hok
  exact⟨its,r,⟨_,n,e,rfl,rfl,rfl⟩,z⟩
 ·refine⟨its.toList,r,⟨o,n,I.kIn a o hk,hc,hd,by simpa using hs⟩,?_⟩
  have e:=r.length
  simp only[Array.length_toList]at e
  lia
def Inv.tuple (I:Inv X pins σ H s)(h:SqT X.K H a xs):∃its:List Value,Vals xs its/\IsTup s.heap a its.toArray/\xs.length<=sizeLine:=by
 rcases h with h|⟨o,its,n,hk,hc,hs,hz,r⟩
 ·obtain⟨z,its,r,p⟩:=h.ok I.hok
  exact⟨its,r,p,z⟩
 ·refine⟨its.toList,r,⟨o,I.kIn a o hk,hc,n,by simpa using hs⟩,?_⟩
  have e:=r.length
  simp only[Array.length_toList]at e
  lia
def Inv.list_inj (I:Inv X pins σ H s)(h:SqL X.K H a xs)(h':SqL X.K H a ys):xs=ys:=by
 obtain⟨its,r,⟨o,n,e,_,_,d⟩,_⟩:=I.list h
 obtain⟨its',r',⟨o',n',e',_,_,d'⟩,_⟩:=I.list h'
 rw[e]at e';cases e'
 rw[d]at d'
 injection d' with d1 _
 have:its=its':=by simpa using congrArg Array.toList d1
 subst this
 exact r.inj r'
def Inv.tuple_inj (I:Inv X pins σ H s)(h:SqT X.K H a xs)(h':SqT X.K H a ys):xs=ys:=by
 obtain⟨its,r,⟨o,e,_,n,d⟩,_⟩:=I.tuple h
 obtain⟨its',r',⟨o',e',_,n',d'⟩,_⟩:=I.tuple h'
 rw[e]at e';cases e'
 rw[d]at d'
 injection d' with d1 _
 have:its=its':=by simpa using congrArg Array.toList d1
 subst this
 exact r.inj r'
end
noncomputable abbrev Cx.wish (X:Cx)(E:Value->Shared->Prop):Cx:={X with xe:=E}
noncomputable abbrev Cx.nox (X:Cx):Cx:=X.wish fun _ _=>False
def Cx.Ok.wish {X:Cx}(ok:X.Ok)(E:Value->Shared->Prop):(X.wish E).Ok:=
 ⟨ok.mod,ok.kind,ok.glob,ok.blt,ok.above,ok.inj,ok.has,ok.cab,ok.hd,ok.frames,ok.stk,ok.exf,ok.bs,ok.bsz,ok.noex,ok.exfs,ok.funs,ok.frf⟩
def Cx.Ok.unwish {X:Cx}{E:Value->Shared->Prop}(ok:(X.wish E).Ok):X.Ok:=
 ⟨ok.mod,ok.kind,ok.glob,ok.blt,ok.above,ok.inj,ok.has,ok.cab,ok.hd,ok.frames,ok.stk,ok.exf,ok.bs,ok.bsz,ok.noex,ok.exfs,ok.funs,ok.frf⟩
section
variable {X:Cx} {pins:List (Addr×Obj)} {σ:St} {H:Hp} {s:Shared} {E:Value->Shared->Prop}
def Inv.wish (I:Inv X pins σ H s)(E:Value->Shared->Prop):Inv (X.wish E) pins σ H s:=⟨I.ok.wish E,I.os,I.bare,I.base,I.loc,I.cell,I.free,I.freeC,I.pin,I.hok,I.len⟩
def Inv.unwish (I:Inv (X.wish E) pins σ H s):Inv X pins σ H s:=⟨I.ok.unwish,I.os,I.bare,I.base,I.loc,I.cell,I.free,I.freeC,I.pin,I.hok,I.len⟩
def SP.unwish    (h:SP (X.wish E) pins D f s'):SP X pins D f s':=by
 cases f with
 |next=>obtain⟨σ',H',I,q⟩:=h;exact⟨σ',H',I.unwish,q⟩
 |brk=>obtain⟨σ',H',I,q⟩:=h;exact⟨σ',H',I.unwish,q⟩
 |cont=>obtain⟨σ',H',I,q⟩:=h;exact⟨σ',H',I.unwish,q⟩
 |ret u=>obtain⟨v,σ',H',I,r,q⟩:=h;exact⟨v,σ',H',I.unwish,r,q⟩
def PSs.nox {st:List Stmt}  (h:PSs X.nox st t):PSs X st t:=fun pins s σ H D I hw=>
 wpAny_mono (h pins s σ H D (I.wish _) hw) (fun _ _ q=>q.unwish) fun _ _ z=>False.elim z
end
section
variable {X:Cx} {st:Stmt} {rest:List Stmt} {t u:TS} {e:Expr} {te:TE} {pos:Pos}
noncomputable def LR_:TS:=fun D σ H=>D.nx σ H
noncomputable def tSeq (t u:TS):TS:=fun D σ H=>t {D with nx:=u D} σ H
def AL:PSs X [] LR_:=fun _ _ σ H _ I h=>wpAny_execs_nil ⟨σ,H,I,h⟩
def Ac (h1:PS X st t)(h2:PSs X rest u):PSs X (st::rest) (tSeq t u):=by
 intro pins s σ H D I h
 refine wpAny_execs_cons (thn (h1 pins s σ H {D with nx:=u D} I h) fun f s1 q=>?_)
 cases f with
 |next=>
  obtain⟨σ',H',I',q⟩:=q
  exact h2 pins s1 σ' H' D I' q
 |ret v=>exact q
 |brk=>exact q
 |cont=>exact q
def Af (h1:PS X st t):PSs X [st] t:=by
 intro pins s σ H D I h
 refine wpAny_execs_cons (thn (h1 pins s σ H D I h) fun f s1 q=>?_)
 cases f with
 |next=>exact wpAny_execs_nil q
 |ret v=>exact q
 |brk=>exact q
 |cont=>exact q
def Inv.quiet     (I:Inv X pins σ H s):interactive X.env=false:=by simp[interactive,I.ok.kind]
noncomputable def LS_ (te:TE):TS:=fun D σ H=>te σ H fun _ H1=>D.nx σ H1
def Bc (he:PE X e te)(hs:swapsWith e none pos.line X.env=pure false:=by rfl):PS X (.Expr e pos) (LS_ te):=by
 intro pins s σ H D I h
 exact wpAny_Expr_any (thn (he pins s σ H _ I h) fun v s1 ⟨x,H1,I1,r1,q1⟩=>⟨σ,H1,I1,q1⟩) I.quiet hs
noncomputable def tRet (te:TE):TS:=fun D σ H=>te σ H D.rt
def An (he:PE X e te):PS X (.Return (some e) pos) (tRet te):=by
 intro pins s σ H D I h
 exact wpAny_Return_some (thn (he pins s σ H _ I h) fun v s1 ⟨x,H1,I1,r1,q1⟩=>⟨x,σ,H1,I1,r1,q1⟩)
noncomputable def tIfS (c:TT)(t u:TS):TS:=fun D σ H=>c σ H fun b H1=>if b=true then t D σ H1 else u D σ H1
def B7    (hc:PT X c tc)(ha:PSs X a t)(hb:PSs X b u):PS X (.If c a b pos) (tIfS tc t u):=by
 intro pins s σ H D I h
 refine wpAny_If (thn (hc pins s σ H _ I h) fun d s1 ⟨H1,I1,q1⟩=>?_)
 cases d with
 |true=>exact ha pins s1 σ H1 D I1 q1
 |false=>exact hb pins s1 σ H1 D I1 q1
end
noncomputable abbrev TG:=V->St->Hp->(St->Hp->Prop)->Prop
noncomputable abbrev TGs:=List V->St->Hp->(St->Hp->Prop)->Prop
noncomputable def PG (X:Cx)(target:Expr)(t:TG):Prop:=
 ∀(pins:List (Addr×Obj)) (s:Shared) (σ:St) (H:Hp) (v:V) (u:Value) (Q:St->Hp->Prop),Inv X pins σ H s->RelV v u->t v σ H Q ->
  wpAny (model X.prog X.w) X.A (assign target X.env u) (fun _ s'=>∃σ' H',Inv X pins σ' H' s'/\Q σ' H') X.xe s
noncomputable def PGs (X:Cx)(ts:List Expr)(t:TGs):Prop:=
 ∀(pins:List (Addr×Obj)) (s:Shared) (σ:St) (H:Hp) (vs:List V) (us:List Value) (Q:St->Hp->Prop),Inv X pins σ H s->Vals vs us->t vs σ H Q ->
  wpAny (model X.prog X.w) X.A (assignInOrder ((assignEach ts X.env).map (·.2)) us) (fun _ s'=>∃σ' H',Inv X pins σ' H' s'/\Q σ' H') X.xe s
noncomputable abbrev TSet:=V->V->V->Hp->(Hp->Prop)->Prop
noncomputable def PSet (X:Cx)(t:TSet):Prop:=
 ∀(pins:List (Addr×Obj)) (s:Shared) (σ:St) (H:Hp) (o i v:V) (ov iv u:Value) (Q:Hp->Prop),Inv X pins σ H s->RelV o ov->RelV i iv->RelV v u->t o i v H Q ->
  wpAny (model X.prog X.w) X.A (setItem ov iv u) (fun _ s'=>∃H',Inv X pins σ H' s'/\Q H') X.xe s
section
variable {X:Cx} {pos:Pos}
noncomputable def CX_ (i:Nat):TG:=fun v σ H Q=>Q (σ.set i (some v)) H
def Bm   (hN:X.N.Nodup)(hi:X.N[i]?=some x)(hx:Loc X.env.scope x)(hf:X.fn x=true\/X.env.scope.names.lookup x=some .local:=by first|exact .inl rfl|exact .inr rfl|assumption):PG X (.Name x pos) (CX_ i):=by
 intro pins s σ H v u Q I r h
 exact wpAny_assign_Name (En_ I hN hi hx r (fun s' I'=>⟨_,H,I',h⟩) hf)
noncomputable def gNil:TGs:=fun vs σ H Q=>vs=[]/\Q σ H
noncomputable def LT_ (t:TG)(u:TGs):TGs:=fun vs σ H Q=>∃v r,vs=v::r/\t v σ H fun σ' H'=>u r σ' H' Q
def X1:PGs X [] gNil:=by
 intro pins s σ H vs us Q I r h
 obtain⟨e,h⟩:=h
 subst e
 cases r
 exact assignInOrder_nil ⟨σ,H,I,h⟩
def JF     (h1:PG X e t)(h2:PGs X es u)
  (hs:(assignEach (e::es) X.env).map (·.2)=assign e X.env::(assignEach es X.env).map (·.2):=by rfl):PGs X (e::es) (LT_ t u):=by
 intro pins s σ H vs us Q I r h
 obtain⟨v,vr,e1,h⟩:=h
 subst e1
 cases r with
 |cons r rr=>
  rw[hs]
  refine assignInOrder_cons (thn (h1 pins s σ H _ _ _ I r h) fun _ s1 ⟨σ1,H1,I1,q1⟩=>?_)
  exact h2 pins s1 σ1 H1 _ _ Q I1 rr q1
noncomputable def gTup (K:PySem.W.Frag)(n:Nat)(t:TGs):TG:=fun v σ H Q=>∃a xs,v=.ref a/\SqT K H a xs/\xs.length=n/\t xs σ H Q
def Ep_     (hc:X.calm=true)(h:PGs X es t)
  (hn:(assignEach es X.env).length=n:=by rfl) (hst:(assignEach es X.env).findIdx? (·.1)=none:=by rfl):PG X (.Tuple es k pos) (gTup X.K n t):=by
 intro pins s σ H v u Q I r hw
 obtain⟨a,xs,e1,hq,hl,hw⟩:=hw
 subst e1
 cases r
 obtain⟨its,rv,ht,hz⟩:=I.tuple hq
 refine assign_Tuple_tuple (I.ok.hd hc) ht (by simp[hn,<-hl,rv.length]) hst fun h' hx=>?_
 have I1:Inv X pins σ H {s with heap:=h' }:=I.kept (t':=s.toks) fun b o e=>hx b o (Nat.ne_of_lt (Heap.lt_size e)) e
 exact h pins _ σ H xs _ Q I1 (by simpa using rv) hw
noncomputable def gSub (to ti:TE)(t:TSet):TG:=fun v σ H Q=>to σ H fun o H1=>ti σ H1 fun i H2=>t o i v H2 fun H3=>Q σ H3
def Gp_    (ho:PE X o to)(hi:PE X i ti)(hs:PSet X t)
  (ha:∀v,assign (.Subscript o i pos) X.env v=(do
   let ov <- holding [v] (eval o X.env)
   let iv <- holding [v,ov] (eval i X.env)
   standAt pos
   holding [v,ov,iv] (setItem ov iv v)
   release [v,ov,iv] []):=by intro _;rfl):PG X (.Subscript o i pos) (gSub to ti t):=by
 intro pins s σ H v u Q I r h
 rw[ha]
 refine wpAny_bind (wpAny_holding (thn (ho pins s σ H _ I h) fun ov s1 ⟨x,H1,I1,r1,q1⟩=>?_))
 refine wpAny_bind (wpAny_holding (thn (hi pins s1 σ H1 _ I1 q1) fun iv s2 ⟨y,H2,I2,r2,q2⟩=>?_))
 refine wpAny_bind (wpAny_standAt (wpAny_bind (wpAny_holding (thn (hs pins s2 σ H2 x y v ov iv u _ I2 r1 r2 r q2) fun _ s3 ⟨H3,I3,q3⟩=>?_))))
 exact wpAny_release ⟨σ,H3,I3,q3⟩
noncomputable def tAsg (te:TE)(g:TG):TS:=fun D σ H=>te σ H fun x H1=>g x σ H1 D.nx
def Gq_    (he:PE X e te)(hg:PG X tg g)(hs:swapsWithSole [tg] e pos.line X.env=pure false:=by rfl)(hw:swappedStores [tg] e X.env=pure none:=by rfl)
  (h1:(assignEach [tg] X.env).map (·.2)=[assign tg X.env]:=by rfl):PS X (.Assign [tg] e pos) (tAsg te g):=by
 intro pins s σ H D I h
 refine wpAny_Assign_stores (thn (he pins s σ H _ I h) fun v s1 ⟨x,H1,I1,r1,q1⟩=>?_) hs hw
 rw[h1]
 exact thn (hg pins s1 σ H1 x v _ I1 r1 q1) fun _ s2 q=>q
def Kk      (hN:X.N.Nodup)(hi:X.N[i]?=some x)(hx:Loc X.env.scope x)(he:PE X e te)(hs:swapsWith e (some (.Name x pos')) pos.line X.env=pure false:=by rfl)(hf:X.fn x=true\/X.env.scope.names.lookup x=some .local:=by first|exact .inl rfl|exact .inr rfl|assumption):
  PS X (.Assign [.Name x pos'] e pos) (tAsg te (CX_ i)):=by
 intro pins s σ H D I h
 refine wpAny_Assign_Name (thn (he pins s σ H _ I h) fun v s1 ⟨y,H1,I1,r1,q1⟩=>?_) hs
 exact En_ I1 hN hi hx r1 (fun s2 I2=>⟨_,H1,I2,q1⟩) hf
end
section
variable {X:Cx} {pos:Pos}
noncomputable def Jy_ (c:TT)(tb:TS):TS:=fun D σ H=>∃W:Nat->St->Hp->Prop,(∃m,W m σ H)/\∀m σ H,W m σ H ->
 c σ H fun b H1=>if b=true then ∃N:St->Hp->Prop,(∀σ' H',N σ' H'->∃m',m'<m/\W m' σ' H')/\tb {D with nx:=N,ct:=N,bk:=D.nx} σ H1 else D.nx σ H1
def X2     (hp:PassesOwn (model X.prog X.w) X.A X.env X.xe)(hc:PT X c tc)(hb:PSs X body tb):PS X (.While c body [] pos) (Jy_ tc tb):=by
 intro pins s σ H D I h
 obtain⟨W,⟨m0,w0⟩,turn⟩:=h
 refine wpAny_While (codeAny_whileLoop (fun n s'=>∃σ' H',Inv X pins σ' H' s'/\W n σ' H') ?_ m0 ⟨σ,H,I,w0⟩)
 rintro n s1 ⟨σ1,H1,I1,w1⟩
 refine wpAny_passesOwn hp (thn (hc pins s1 σ1 H1 _ I1 (turn n σ1 H1 w1)) fun b s2 ⟨H2,I2,q2⟩=>?_)
 cases b with
 |true=>
  obtain⟨N,hN,q2⟩:=q2
  rw[if_pos rfl]
  refine wpAny_passesOwn hp (thn (hb pins s2 σ1 H2 _ I2 q2) fun f s3 q3=>?_)
  cases f with
  |next=>
   obtain⟨σ3,H3,I3,n3⟩:=q3
   obtain⟨m',hm,w3⟩:=hN σ3 H3 n3
   exact⟨m',hm,σ3,H3,I3,w3⟩
  |cont=>
   obtain⟨σ3,H3,I3,n3⟩:=q3
   obtain⟨m',hm,w3⟩:=hN σ3 H3 n3
   exact⟨m',hm,σ3,H3,I3,w3⟩
  |brk=>exact q3
  |ret v=>exact q3
 |false=>
  rw[if_neg Bool.false_ne_true]
  exact wpAny_execs_nil ⟨σ1,H2,I2,q2⟩
end
structure It where
 go:Nat->Hp->Prop
 yld:Nat->Hp->V->Hp->Prop
 stop:Nat->Hp->Prop
noncomputable def FpOk (X:Cx)(pins:List (Addr×Obj))(H:Hp)(b:Addr):Prop:=
 H b=none/\b≠X.env.locals/\b∉X.fs/\(b∈X.ex\/X.s₀.heap.objs.size<=b)/\(∀x c,X.env.cells.lookup x=some c->c≠b)/\∀p∈X.pn++pins,p.1≠b
def Inv.fpOk       (I:Inv X pins σ H s)(hb:s.heap.objs.size<=b)(hn:H' b=none):FpOk X pins H' b:=by
 refine⟨hn,Nat.ne_of_gt (Nat.lt_of_lt_of_le I.lt hb),I.nofs hb,.inr (Nat.le_trans I.sz hb),fun x c e z=>?_,fun p hp z=>?_⟩
 ·obtain⟨v,q⟩:=I.cell x c e
  exact absurd (Nat.lt_of_lt_of_le q.lt (by rw[z];exact hb)) (Nat.lt_irrefl _)
 ·exact absurd (Nat.lt_of_lt_of_le (Heap.lt_size (I.pin p hp).1) (by rw[z];exact hb)) (Nat.lt_irrefl _)
structure Turn (P:Program)(w:World)(K:PySem.W.Frag)(tg:Expr)(J:It)(fp:List Addr)(it:Addr)(tn:Nat->Heap->Prop):Prop where
 mem:it∈fp
 obj:∀i h,tn i h->∀b∈fp,∃o,h.get? b=some o/\∀v,o.data ≠ .cell v
 keep:∀i h h',tn i h->(∀b∈fp,∀o,h.get? b=some o->h'.get? b=some o)->tn i h'
 item:∀(X:Cx),X.prog=P->X.w=w->X.K=K->X.calm=true->∀(i:Nat) (pins:List (Addr×Obj)) (s:Shared) (σ:St) (H:Hp) (E:Value->Shared->Prop),Inv X pins σ H s->(∀b∈fp,FpOk X pins H b)->tn i s.heap->J.go i H ->
  wpAny (model P w) X.A (pyNext (.ref it)) (fun r s1=>∃u,r=some u /\
   wpAny (model P w) X.A (letOwnedTupleGo tg (.ref it) u) (fun _ s2=>∃x H',Inv X pins σ H' s2/\RelV x u/\J.yld i H x H'/\tn (i+1) s2.heap/\∀b∈fp,H' b=none) E s1) E s
 done:∀(X:Cx),X.prog=P->X.w=w->X.K=K->X.calm=true->∀(i:Nat) (pins:List (Addr×Obj)) (s:Shared) (σ:St) (H:Hp) (E:Value->Shared->Prop),Inv X pins σ H s->(∀b∈fp,FpOk X pins H b)->tn i s.heap->J.stop i H ->
  wpAny (model P w) X.A (pyNext (.ref it)) (fun r s1=>r=none/\Inv X pins σ H s1) E s
 self:∀(A:Around) (i:Nat) (s:Shared) (Q:Value->Shared->Prop) (E:Value->Shared->Prop),tn i s.heap->Q (.ref it) s->wpAny (model P w) A (pyIter (.ref it)) Q E s
noncomputable abbrev TI:=St->Hp->(It->Hp->Prop)->Prop
noncomputable def PIE (X:Cx)(pins:List (Addr×Obj))(σ:St)(tg:Expr)(R:It->Hp->Prop)(itv:Value)(s2:Shared):Prop:=
 ∃(it:Addr) (fp:List Addr) (tn:Nat->Heap->Prop) (J:It) (H':Hp),itv=.ref it/\Inv X pins σ H' s2/\Turn X.prog X.w X.K tg J fp it tn/\tn 0 s2.heap/\(∀b∈fp,FpOk X pins H' b)/\R J H'
noncomputable def PI (X:Cx)(tg iter:Expr)(wi:TI):Prop:=
 ∀(pins:List (Addr×Obj)) (s:Shared) (σ:St) (H:Hp) (R:It->Hp->Prop),Inv X pins σ H s->wi σ H R ->
  wpAny (model X.prog X.w) X.A (eval iter X.env) (fun v s1=>wpAny (model X.prog X.w) X.A (pyIter v) (PIE X pins σ tg R) X.xe s1) X.xe s
def Is_      {it:Addr}      (ho:s.heap.get? it=some o)(hc:o.cls=.type n)(hd:o.data=.fields vs)
    (hn:["enumerate","zip","dict_itemiterator","dict_reverseitemiterator","odict_iterator","itertools.zip_longest","itertools.pairwise"].contains n=false) (hQ:Q () s):wpAny M A (letOwnedTupleGo tg (.ref it) u) Q E s:=by
  unfold letOwnedTupleGo
  cases tg<;>first
    | exact wpAny_pure hQ
    | (cases u<;>first
        | exact wpAny_pure hQ
        | (refine wpAny_bind (wpAny_load ho ?_)
           rw[hc,hd]
           show wpAny M A (if (["enumerate","zip","dict_itemiterator","dict_reverseitemiterator","odict_iterator","itertools.zip_longest","itertools.pairwise"].contains n&&vs[0]? == some (rawInt _))=true then _ else _) Q E s
           rw[if_neg (by intro h;rw[hn,Bool.false_and]at h;cases h)]
           exact wpAny_pure hQ))
noncomputable def Itl (K:PySem.W.Frag)(a:Addr):It:=
 ⟨fun i H=>∃xs x,SqL K H a xs/\xs[i]?=some x,fun i H x H'=>H'=H/\∀xs,SqL K H a xs->xs[i]?=some x,fun i H=>∃xs,SqL K H a xs/\xs.length<=i⟩
noncomputable def Itt (K:PySem.W.Frag)(a:Addr):It:=
 ⟨fun i H=>∃xs x,SqT K H a xs/\xs[i]?=some x,fun i H x H'=>H'=H/\∀xs,SqT K H a xs->xs[i]?=some x,fun i H=>∃xs,SqT K H a xs/\xs.length<=i⟩
noncomputable def Itr (lo:Int)(n:Nat):It:=⟨fun i _=>i<n,fun i H x H'=>H'=H/\x=.int (lo+i),fun i _=>n<=i⟩
def Gr_ {P:Program}{w:World}{K:PySem.W.Frag}{tg:Expr}(a it:Addr):Turn P w K tg (Itl K a) [it] it (fun i h=>h.IsListIter it a i) where
 mem:=by simp
 obj:=fun i h st b hb=>by
  have e:b=it:=by simpa using hb
  subst e
  obtain⟨o,e,c,d⟩:=st
  exact⟨o,e,fun v z=>by rw[d]at z;cases z⟩
 keep:=fun i h h' st k=>st.at fun o e=>k it (by simp) o e
 item:=by
  intro X hP hw hK hc i pins s σ H E I hf st hg
  subst hP hw hK
  obtain⟨xs,x,hq,hx⟩:=hg
  obtain⟨its,rv,p,hz⟩:=I.list hq
  obtain⟨u,hu,ru⟩:=rv.get hx
  obtain⟨f0,f1,f2,f3,f4,f5⟩:=hf it (by simp)
  refine wpAny_pyNext_list_item st p.isList (x:=u) (by simpa using hu) fun h' st' sb=>?_
  have I1:Inv X pins σ H {s with heap:=h' }:=I.turned (t':=s.toks) (fun b o hb e=>(sb.2 b hb).trans e) f0 f1 f3 f4 f5
  obtain⟨o,e,c,d⟩:=id st'
  exact⟨u,rfl,Is_ (s:={s with heap:=h' }) e c d (by decide) ⟨x,H,I1,ru,⟨rfl,fun ys hy=>by rw[I.list_inj hy hq];exact hx⟩,st',fun b hb=>(hf b hb).1⟩⟩
 done:=by
  intro X hP hw hK hc i pins s σ H E I hf st hg
  subst hP hw hK
  obtain⟨xs,hq,hx⟩:=hg
  obtain⟨its,rv,p,hz⟩:=I.list hq
  obtain⟨f0,f1,f2,f3,f4,f5⟩:=hf it (by simp)
  have hl:=rv.length
  exact wpAny_pyNext_list_end (I.ok.hd hc) st p.isList (by simp;lia) fun h' eb=>⟨rfl,I.turned (t':=s.toks) (fun b o hb e=>eb b o hb e) f0 f1 f3 f4 f5⟩
 self:=fun _ _ _ _ _ st h=>wpAny_pyIter_listiter st h
def Fj_ {P:Program}{w:World}{K:PySem.W.Frag}{tg:Expr}(a it:Addr):Turn P w K tg (Itt K a) [it] it (fun i h=>h.IsTupleIter it a i) where
 mem:=by simp
 obj:=fun i h st b hb=>by
  have e:b=it:=by simpa using hb
  subst e
  obtain⟨o,e,c,d⟩:=st
  exact⟨o,e,fun v z=>by rw[d]at z;cases z⟩
 keep:=fun i h h' st k=>st.at fun o e=>k it (by simp) o e
 item:=by
  intro X hP hw hK hc i pins s σ H E I hf st hg
  subst hP hw hK
  obtain⟨xs,x,hq,hx⟩:=hg
  obtain⟨its,rv,p,hz⟩:=I.tuple hq
  obtain⟨u,hu,ru⟩:=rv.get hx
  obtain⟨f0,f1,f2,f3,f4,f5⟩:=hf it (by simp)
  refine wpAny_pyNext_tuple_item st (show s.heap.IsTuple a its.toArray from p) (x:=u) (by simpa using hu) fun h' st' sb=>?_
  have I1:Inv X pins σ H {s with heap:=h' }:=I.turned (t':=s.toks) (fun b o hb e=>(sb.2 b hb).trans e) f0 f1 f3 f4 f5
  obtain⟨o,e,c,d⟩:=id st'
  exact⟨u,rfl,Is_ (s:={s with heap:=h' }) e c d (by decide) ⟨x,H,I1,ru,⟨rfl,fun ys hy=>by rw[I.tuple_inj hy hq];exact hx⟩,st',fun b hb=>(hf b hb).1⟩⟩
 done:=by
  intro X hP hw hK hc i pins s σ H E I hf st hg
  subst hP hw hK
  obtain⟨xs,hq,hx⟩:=hg
  obtain⟨its,rv,p,hz⟩:=I.tuple hq
  obtain⟨f0,f1,f2,f3,f4,f5⟩:=hf it (by simp)
  have hl:=rv.length
  exact wpAny_pyNext_tuple_end (I.ok.hd hc) st (show s.heap.IsTuple a its.toArray from p) (by simp;lia) fun h' eb=>⟨rfl,I.turned (t':=s.toks) (fun b o hb e=>eb b o hb e) f0 f1 f3 f4 f5⟩
 self:=fun _ _ _ _ _ st h=>wpAny_pyIter_tupleiter st h
def Fk_ {P:Program}{w:World}{K:PySem.W.Frag}{tg:Expr}(it:Addr)(lo:Int)(n:Nat):Turn P w K tg (Itr lo n) [it] it (fun i h=>IsRangeIter h it (lo+(i:Nat)*1) ((n:Int)-(i:Nat)) 1) where
 mem:=by simp
 obj:=fun i h st b hb=>by
  have e:b=it:=by simpa using hb
  subst e
  exact⟨_,st,fun v z=>by
   have z':Data.fields _=Data.cell v:=z
   cases z'⟩
 keep:=fun i h h' st k=>k it (by simp) _ st
 item:=by
  intro X hP hw hK hc i pins s σ H E I hf st hg
  subst hP hw hK
  obtain⟨f0,f1,f2,f3,f4,f5⟩:=hf it (by simp)
  have W:=Walks.range (prog:=X.prog) (w:=X.w) (I.ok.hd hc) it lo 1 n
  refine W.item i s _ _ hg st fun v h' tk hv st' kk=>?_
  obtain⟨t,rfl⟩:=hv
  have I1:Inv X pins σ H {s with heap:=h',toks:=tk}:=I.turned (fun b o hb e=>kk b o (by simpa using hb) e) f0 f1 f3 f4 f5
  refine⟨_,rfl,Is_ (s:={s with heap:=h',toks:=tk}) (n := "range_iterator") st' rfl rfl (by decide) ⟨.int (lo+i),H,I1,⟨t,?_⟩,⟨rfl,rfl⟩,st',fun b hb=>(hf b hb).1⟩⟩
  rw[Int.mul_one]
 done:=by
  intro X hP hw hK hc i pins s σ H E I hf st hg
  subst hP hw hK
  obtain⟨f0,f1,f2,f3,f4,f5⟩:=hf it (by simp)
  exact wpAny_pyNext_range_end (I.ok.hd hc) st (by have:n<=i:=hg;lia) fun h' eb=>⟨rfl,I.turned (t':=s.toks) (fun b o hb e=>eb b o hb e) f0 f1 f3 f4 f5⟩
 self:=fun _ _ _ _ _ st h=>wpAny_pyIter_rangeiter st h
end L2
namespace L2
open PySem PySem.Spec PyProof.Rows
section
variable {X:Cx} {tg:Expr}
noncomputable def LU_ (K:PySem.W.Frag)(tl:TE):TI:=fun σ H R=>tl σ H fun x H1=>∃a,x=.ref a/\(∃xs,SqL K H1 a xs)/\R (Itl K a) H1
noncomputable def iTup (K:PySem.W.Frag)(tl:TE):TI:=fun σ H R=>tl σ H fun x H1=>∃a,x=.ref a/\(∃xs,SqT K H1 a xs)/\R (Itt K a) H1
def Ge   (hl:PE X l tl):PI X tg l (LU_ X.K tl):=by
 intro pins s σ H R I h
 refine thn (hl pins s σ H _ I h) fun v s1 ⟨x,H1,I1,r1,q1⟩=>?_
 obtain⟨a,e,⟨xs,hq⟩,q⟩:=q1
 subst e
 cases r1
 obtain⟨its,rv,p,hz⟩:=I1.list hq
 refine wpAny_pyIter_list p.isList ?_
 refine⟨s1.heap.objs.size,[s1.heap.objs.size],_,_,H1,rfl,I1.kept (t':=s1.toks) fun b o e=>Heap.get?_push_of_some _ e,Gr_ a _,⟨_,Heap.get?_push_size _ rfl,rfl,rfl⟩,fun b hb=>?_,q⟩
 have e:b=s1.heap.objs.size:=by simpa using hb
 subst e
 exact I1.fpOk (Nat.le_refl _) (I1.hok.fresh (Nat.le_refl _))
def Eq_   (hl:PE X l tl):PI X tg l (iTup X.K tl):=by
 intro pins s σ H R I h
 refine thn (hl pins s σ H _ I h) fun v s1 ⟨x,H1,I1,r1,q1⟩=>?_
 obtain⟨a,e,⟨xs,hq⟩,q⟩:=q1
 subst e
 cases r1
 obtain⟨its,rv,p,hz⟩:=I1.tuple hq
 refine wpAny_pyIter_tuple (show s1.heap.IsTuple a its.toArray from p) ?_
 refine⟨s1.heap.objs.size,[s1.heap.objs.size],_,_,H1,rfl,I1.kept (t':=s1.toks) fun b o e=>Heap.get?_push_of_some _ e,Fj_ a _,⟨_,Heap.get?_push_size _ rfl,rfl,rfl⟩,fun b hb=>?_,q⟩
 have e:b=s1.heap.objs.size:=by simpa using hb
 subst e
 exact I1.fpOk (Nat.le_refl _) (I1.hok.fresh (Nat.le_refl _))
def Er_       {lo hi:Int}   (I:Inv X pins σ H s)(h1 : -(2 ^ 62)<=lo)(h2:lo<2 ^ 62)(h3 : -(2 ^ 62)<=hi)(h4:hi<2 ^ 62)
  (q:R (Itr lo (hi-lo).toNat) H):wpAny (model X.prog X.w) X.A (pyIter (.ref s.heap.objs.size)) (PIE X pins σ tg R) E {s with heap:=s.heap.push {cls:=.type "range",data:=.fields #[.int lo t,.int hi u,.int 1 v]},toks:=tk}:=by
 refine wpAny_pyIter_range (IsRange.new ..) (small_one h1 h2 h3 h4) ?_
 have I1:Inv X pins σ H {s with heap:=s.heap.push {cls:=.type "range",data:=.fields #[.int lo t,.int hi u,.int 1 v]},toks:=tk}:=I.kept fun b o e=>Heap.get?_push_of_some _ e
 refine⟨(s.heap.push {cls:=.type "range",data:=.fields #[.int lo t,.int hi u,.int 1 v]}).objs.size,[(s.heap.push {cls:=.type "range",data:=.fields #[.int lo t,.int hi u,.int 1 v]}).objs.size],_,_,H,rfl,
  I1.kept (t':=tk) fun b o e=>Heap.get?_push_of_some _ e,Fk_ _ lo (hi-lo).toNat,?_,fun b hb=>?_,q⟩
 ·have e1:lo+((0:Nat):Int)*1=lo:=by simp
  have e2:(((hi-lo).toNat:Nat):Int)-((0:Nat):Int)=Builtin.Range.rangeSize lo hi 1:=by rw[rangeSize_one];split<;>lia
  show IsRangeIter _ _ (lo+((0:Nat):Int)*1) ((((hi-lo).toNat:Nat):Int)-((0:Nat):Int)) 1
  rw[e1,e2]
  exact Heap.get?_push_size _ rfl
 ·have e:b=(s.heap.push {cls:=.type "range",data:=.fields #[.int lo t,.int hi u,.int 1 v]}).objs.size:=by simpa using hb
  subst e
  exact I1.fpOk (Nat.le_refl _) (I1.hok.fresh (Nat.le_refl _))
noncomputable def LV_ (ta:TA):TI:=fun σ H R=>ta σ H fun vs H1=>∃j:Int,vs=[.int j] /\ -(2 ^ 62)<=j/\j<2 ^ 62/\R (Itr 0 j.toNat) H1
noncomputable def LW_ (ta:TA):TI:=fun σ H R=>ta σ H fun vs H1=>∃i j:Int,vs=[.int i,.int j]/\(-(2 ^ 62)<=i/\i<2 ^ 62 /\ -(2 ^ 62)<=j/\j<2 ^ 62)/\R (Itr i (j-i).toNat) H1
def EV    (hg:Gl X "range")(hm:X.mg "range"=none)(ha:PA X [a] ta)(hs:starEach [a] X.env=[(false,eval a X.env)]:=by rfl):PI X tg (.Call (.Name "range" p) [a] [] pos) (LV_ ta):=by
 intro pins s σ H R I h
 refine Call_ (U1 I hg hm boot_range (PyProof.Rows.callWith_type1 (thn (ha pos pins s σ H _ I h) fun us s1 ⟨vs,H1,I1,r1,q1⟩=>?_) hs rfl))
 obtain⟨j,e,q1,q2,q⟩:=q1
 subst e
 cases r1 with
 |cons r rr=>
  cases rr
  obtain⟨t,rfl⟩:=r
  exact call_range_1 (Er_ I1 s!"" s!"" q1 q2 (by simpa using q))
def Gs_    (hg:Gl X "range")(hm:X.mg "range"=none)(ha:PA X [a,b] ta)(hs:starEach [a,b] X.env=[(false,eval a X.env),(false,eval b X.env)]:=by rfl)(hs2:starEach [b] X.env=[(false,eval b X.env)]:=by rfl):
  PI X tg (.Call (.Name "range" p) [a,b] [] pos) (LW_ ta):=by
 intro pins s σ H R I h
 refine Call_ (U1 I hg hm boot_range (PyProof.Rows.callWith_type1 (thn (ha pos pins s σ H _ I h) fun us s1 ⟨vs,H1,I1,r1,q1⟩=>?_) (by rw[hs,hs2]) (by rw[hs2];rfl)))
 obtain⟨i,j,e,⟨q1,q2,q3,q4⟩,q⟩:=q1
 subst e
 cases r1 with
 |cons r rr=>
  cases rr with
  |cons r' rr=>
   cases rr
   obtain⟨t,rfl⟩:=r
   obtain⟨t',rfl⟩:=r'
   exact call_range_2 (Er_ I1 q1 q2 q3 q4 q)
noncomputable def tFor (wi:TI)(g:TG)(tb:TS):TS:=fun D σ H=>wi σ H fun J H1=>∃W:Nat->Nat->St->Hp->Prop,(∃m,W 0 m σ H1)/\∀i m σ H,W i m σ H ->
 (J.stop i H/\D.nx σ H)\/(J.go i H/\∃N:St->Hp->Prop,(∀σ' H',N σ' H'->∃m',m'<m/\W (i+1) m' σ' H')/\∀x H',J.yld i H x H'->g x σ H' fun σ2 H2=>tb {D with nx:=N,ct:=N,bk:=D.nx} σ2 H2)
noncomputable def AM_ (fp:List Addr)(h:Heap):List (Addr×Obj):=fp.filterMap fun b=>(h.get? b).map fun o=>(b,o)
def Oc     (hb:b∈fp)(e:h.get? b=some o):(b,o)∈AM_ fp h:=List.mem_filterMap.mpr ⟨b,hb,by rw[e];rfl⟩
def Gt_    (hp:p∈AM_ fp h):p.1∈fp/\h.get? p.1=some p.2:=by
 obtain⟨b,hb,e⟩:=List.mem_filterMap.mp hp
 cases q:h.get? b with
 |none=>rw[q]at e;cases e
 |some o=>
  rw[q]at e
  have e':(b,o)=p:=Option.some.inj e
  subst e'
  exact⟨hb,q⟩
def Inv.pinned      (I:Inv X pins σ H s)(hf:∀b∈fp,FpOk X pins H b)(ho:∀b∈fp,∃o,s.heap.get? b=some o/\∀v,o.data ≠ .cell v):Inv X (pins++AM_ fp s.heap) σ H s:=
 I.pins_of fun p hp=>(List.mem_append.mp hp).elim (fun z=>I.pin p (List.mem_append_right _ z)) fun z=>by
  obtain⟨hb,e⟩:=Gt_ z
  obtain⟨f0,f1,f2,_⟩:=hf p.1 hb
  obtain⟨o,e',d⟩:=ho p.1 hb
  rw[e]at e';cases e'
  exact⟨e,f0,f1,f2,d⟩
def Inv.unpinned     (I:Inv X (pins++pl) σ H s):Inv X pins σ H s:=I.pins_of fun p hp=>I.pin p (List.mem_append_right _ (List.mem_append_left _ hp))
def E7 {iter:Expr}  {wi:TI}    (hp:PassesOwn (model X.prog X.w) X.A X.env X.xe)(hc:X.calm=true)(hi:PI X tg iter wi)(hg:PG X tg g)(hb:PSs X body tb)
  (hs:∀x,foldedSetIterable iter X.env x=pure x:=by intro _;rfl):PS X (.For tg iter body [] pos) (tFor wi g tb):=by
 intro pins s σ H D I h
 refine wpAny_For (thn (hi pins s σ H _ I h) fun v s1 h1=>thn h1 fun itv s2 h2=>?_) hs
 obtain⟨it,fp,tn,J,H2,e,I2,T,st2,f2,W,⟨m0,w0⟩,turn⟩:=h2
 subst e
 -- what stays true of the iterator's objects through the loop
 have stat:∀{H':Hp},(∀b∈fp,H' b=none)->∀b∈fp,FpOk X pins H' b:=fun hn b hb=>⟨hn b hb,(f2 b hb).2⟩
 refine codeAny_forLoop_any (fun n s'=>∃i σ' H',Inv X pins σ' H' s'/\tn i s'.heap/\(∀b∈fp,H' b=none)/\W i n σ' H') ?_ m0 ⟨0,σ,H2,I2,st2,fun b hb=>(f2 b hb).1,w0⟩
 rintro n s3 ⟨i,σ3,H3,I3,st3,fr3,w3⟩
 rcases turn i n σ3 H3 w3 with ⟨stop,qn⟩|⟨go,N,hN,step⟩
 ·refine wpAny_passesOwn hp (thn (T.done X rfl rfl rfl hc i pins s3 σ3 H3 X.xe I3 (stat fr3) st3 stop) fun r s4 ⟨hr,I4⟩=>?_)
  subst hr
  exact wpAny_execs_nil ⟨σ3,H3,I4,qn⟩
 ·refine wpAny_passesOwn hp (thn (T.item X rfl rfl rfl hc i pins s3 σ3 H3 X.xe I3 (stat fr3) st3 go) fun r s4 ⟨u,hr,h4⟩=>?_)
  subst hr
  refine wpAny_passesOwn hp (thn h4 fun _ s5 ⟨x,H5,I5,r5,y5,st5,fr5⟩=>?_)
  have I5':=I5.pinned (stat fr5) (T.obj _ _ st5)
  refine wpAny_passesOwn hp (thn (hg _ s5 σ3 H5 x u _ I5' r5 (step x H5 y5)) fun _ s6 ⟨σ6,H6,I6,q6⟩=>?_)
  refine wpAny_passesOwn hp (thn (hb _ s6 σ6 H6 _ I6 q6) fun f s7 q7=>?_)
  have again:∀{σ7:St} {H7:Hp},Inv X (pins++AM_ fp s5.heap) σ7 H7 s7->N σ7 H7->∃m,m<n/\∃i σ' H',Inv X pins σ' H' s7/\tn i s7.heap/\(∀b∈fp,H' b=none)/\W i m σ' H':=fun {σ7 H7} I7 n7=>by
   obtain⟨m',hm,w7⟩:=hN σ7 H7 n7
   refine⟨m',hm,i+1,σ7,H7,I7.unpinned,T.keep _ _ _ st5 fun b hb o e=>(I7.pin (b,o) (List.mem_append_right _ (List.mem_append_right _ (Oc hb e)))).1,fun b hb=>?_,w7⟩
   obtain⟨o,e,d⟩:=T.obj _ _ st5 b hb
   exact (I7.pin (b,o) (List.mem_append_right _ (List.mem_append_right _ (Oc hb e)))).2.1
  cases f with
  |next=>obtain⟨σ7,H7,I7,n7⟩:=q7;exact again I7 n7
  |cont=>obtain⟨σ7,H7,I7,n7⟩:=q7;exact again I7 n7
  |brk=>obtain⟨σ7,H7,I7,q7⟩:=q7;exact⟨σ7,H7,I7.unpinned,q7⟩
  |ret v=>obtain⟨x7,σ7,H7,I7,r7,q7⟩:=q7;exact⟨x7,σ7,H7,I7.unpinned,r7,q7⟩
end
def It_ {K:PySem.W.Frag}{a:Addr}{xs:List V}{g:TG}{tb:TS}{D:Ends}{σ:St}{H:Hp}(Pv:Nat->St->Hp->Prop)(h0:Pv 0 σ H)(hl:∀i σ H,i<=xs.length->Pv i σ H->SqL K H a xs)
  (hs:∀i x σ H,xs[i]?=some x->Pv i σ H->g x σ H fun σ2 H2=>tb {D with nx:=Pv (i+1),ct:=Pv (i+1),bk:=D.nx} σ2 H2) (hd:∀σ H,Pv xs.length σ H->D.nx σ H):
  ∃W:Nat->Nat->St->Hp->Prop,(∃m,W 0 m σ H)/\∀i m σ H,W i m σ H ->
   ((Itl K a).stop i H/\D.nx σ H)\/((Itl K a).go i H/\∃N:St->Hp->Prop,(∀σ' H',N σ' H'->∃m',m'<m/\W (i+1) m' σ' H')/\∀x H',(Itl K a).yld i H x H'->g x σ H' fun σ2 H2=>tb {D with nx:=N,ct:=N,bk:=D.nx} σ2 H2):=by
 refine⟨fun i m σ H=>m=xs.length-i/\i<=xs.length/\Pv i σ H,⟨xs.length,by simp,Nat.zero_le _,h0⟩,?_⟩
 rintro i m σ H ⟨rfl,hi,p⟩
 have q:=hl i σ H hi p
 by_cases hlt:i<xs.length
 ·refine .inr ⟨⟨xs,xs[i],q,by simp[hlt]⟩,Pv (i+1),fun σ' H' p'=>⟨xs.length-(i+1),by lia,rfl,hlt,p'⟩,fun x H' y=>?_⟩
  obtain⟨e,y⟩:=y
  subst e
  exact hs i x σ _ (y xs q) p
 ·have e:i=xs.length:=by lia
  subst e
  exact .inl ⟨⟨xs,q,Nat.le_refl _⟩,hd σ H p⟩
def KL_ {K:PySem.W.Frag}{a:Addr}{xs:List V}{g:TG}{tb:TS}{D:Ends}{σ:St}{H:Hp}(Pv:Nat->St->Hp->Prop)(h0:Pv 0 σ H)(hl:∀i σ H,i<=xs.length->Pv i σ H->SqT K H a xs)
  (hs:∀i x σ H,xs[i]?=some x->Pv i σ H->g x σ H fun σ2 H2=>tb {D with nx:=Pv (i+1),ct:=Pv (i+1),bk:=D.nx} σ2 H2) (hd:∀σ H,Pv xs.length σ H->D.nx σ H):
  ∃W:Nat->Nat->St->Hp->Prop,(∃m,W 0 m σ H)/\∀i m σ H,W i m σ H ->
   ((Itt K a).stop i H/\D.nx σ H)\/((Itt K a).go i H/\∃N:St->Hp->Prop,(∀σ' H',N σ' H'->∃m',m'<m/\W (i+1) m' σ' H')/\∀x H',(Itt K a).yld i H x H'->g x σ H' fun σ2 H2=>tb {D with nx:=N,ct:=N,bk:=D.nx} σ2 H2):=by
 refine⟨fun i m σ H=>m=xs.length-i/\i<=xs.length/\Pv i σ H,⟨xs.length,by simp,Nat.zero_le _,h0⟩,?_⟩
 rintro i m σ H ⟨rfl,hi,p⟩
 have q:=hl i σ H hi p
 by_cases hlt:i<xs.length
 ·refine .inr ⟨⟨xs,xs[i],q,by simp[hlt]⟩,Pv (i+1),fun σ' H' p'=>⟨xs.length-(i+1),by lia,rfl,hlt,p'⟩,fun x H' y=>?_⟩
  obtain⟨e,y⟩:=y
  subst e
  exact hs i x σ _ (y xs q) p
 ·have e:i=xs.length:=by lia
  subst e
  exact .inl ⟨⟨xs,q,Nat.le_refl _⟩,hd σ H p⟩
def Gu_ {lo:Int}{n:Nat}{g:TG}{tb:TS}{D:Ends}{σ:St}{H:Hp}(Pv:Nat->St->Hp->Prop)(h0:Pv 0 σ H)
  (hs:∀i σ H,i<n->Pv i σ H->g (.int (lo+i)) σ H fun σ2 H2=>tb {D with nx:=Pv (i+1),ct:=Pv (i+1),bk:=D.nx} σ2 H2) (hd:∀σ H,Pv n σ H->D.nx σ H):
  ∃W:Nat->Nat->St->Hp->Prop,(∃m,W 0 m σ H)/\∀i m σ H,W i m σ H ->
   ((Itr lo n).stop i H/\D.nx σ H)\/((Itr lo n).go i H/\∃N:St->Hp->Prop,(∀σ' H',N σ' H'->∃m',m'<m/\W (i+1) m' σ' H')/\∀x H',(Itr lo n).yld i H x H'->g x σ H' fun σ2 H2=>tb {D with nx:=N,ct:=N,bk:=D.nx} σ2 H2):=by
 refine⟨fun i m σ H=>m=n-i/\i<=n/\Pv i σ H,⟨n,by simp,Nat.zero_le _,h0⟩,?_⟩
 rintro i m σ H ⟨rfl,hi,p⟩
 by_cases hlt:i<n
 ·refine .inr ⟨hlt,Pv (i+1),fun σ' H' p'=>⟨n-(i+1),by lia,rfl,hlt,p'⟩,fun x H' y=>?_⟩
  obtain⟨e,y⟩:=y
  subst e y
  exact hs i σ _ hlt p
 ·have e:i=n:=by lia
  subst e
  exact .inl ⟨Nat.le_refl _,hd σ H p⟩
end L2
namespace L2
open PySem PySem.Spec PyProof.Rows
noncomputable abbrev R2:=V->V->Hp->VK->Prop
noncomputable def OpR (X:Cx)(f:Value->Value->Sem Value)(r:R2):Prop:=
 ∀(pins:List (Addr×Obj)) (s:Shared) (σ:St) (H:Hp) (x y:V) (v u:Value) (Q:VK),Inv X pins σ H s->RelV x v->RelV y u->r x y H Q ->
  wpAny (model X.prog X.w) X.A (f v u) (EP X pins σ Q) X.xe s
noncomputable def UnR (X:Cx)(f:Value->Sem Value)(r:V->Hp->VK->Prop):Prop:=
 ∀(pins:List (Addr×Obj)) (s:Shared) (σ:St) (H:Hp) (x:V) (v:Value) (Q:VK),Inv X pins σ H s->RelV x v->r x H Q ->
  wpAny (model X.prog X.w) X.A (f v) (EP X pins σ Q) X.xe s
noncomputable def Oj (X:Cx)(f:Value)(r:List V->Hp->VK->Prop):Prop:=
 ∀(pins:List (Addr×Obj)) (s:Shared) (σ:St) (H:Hp) (xs:List V) (us:List Value) (Q:VK),Inv X pins σ H s->Vals xs us->r xs H Q ->
  wpAny (model X.prog X.w) X.A (call f us) (EP X pins σ Q) X.xe s
noncomputable def tOp (r:R2)(ta tb:TE):TE:=fun σ H Q=>ta σ H fun x H1=>tb σ H1 fun y H2=>r x y H2 Q
noncomputable def tUn (r:V->Hp->VK->Prop)(ta:TE):TE:=fun σ H Q=>ta σ H fun x H1=>r x H1 Q
noncomputable def rI (C:Int->Int->Prop)(g:Int->Int->V):R2:=fun x y H Q=>∃i j,x=.int i/\y=.int j/\C i j/\Q (g i j) H
noncomputable def rI0 (g:Int->Int->V):R2:=fun x y H Q=>∃i j,x=.int i/\y=.int j/\Q (g i j) H
noncomputable def rU (g:Int->V):V->Hp->VK->Prop:=fun x H Q=>∃i,x=.int i/\Q (g i) H
section
variable {X:Cx} {a b c:Expr} {ta tb tc:TE} {pos:Pos}
def binT (ha:PE X a ta)(hb:PE X b tb){pins:List (Addr×Obj)}{s:Shared}{σ:St}{H:Hp}{R:V->V->Hp->Prop}(I:Inv X pins σ H s)
  (h:ta σ H fun x H1=>tb σ H1 fun y H2=>R x y H2) {Q:Value->Shared->Prop} {f:Value->Value->Sem Value}
  (hf:∀v u s2 x y H2,Inv X pins σ H2 s2->RelV x v->RelV y u->R x y H2->wpAny (model X.prog X.w) X.A (f v u) Q X.xe s2):
  wpAny (model X.prog X.w) X.A (eval a X.env) (fun v s₁=>wpAny (model X.prog X.w) X.A (eval b X.env) (fun u s₂=>wpAny (model X.prog X.w) X.A (f v u) Q X.xe s₂) X.xe s₁) X.xe s:=by
 refine thn (ha pins s σ H _ I h) fun v s1 ⟨x,H1,I1,r1,q1⟩=>?_
 refine thn (hb pins s1 σ H1 _ I1 q1) fun u s2 ⟨y,H2,I2,r2,q2⟩=>?_
 exact hf v u s2 x y H2 I2 r1 r2 q2
def BU   (ho:OpR X (binaryOp op) r)(ha:PE X a ta)(hb:PE X b tb):PE X (.BinOp a op b pos) (tOp r ta tb):=by
 intro pins s σ H Q I h
 exact wpAny_BinOp (binT ha hb I h fun v u s2 x y H2 I2 rx ry q=>ho pins s2 σ H2 x y v u Q I2 rx ry q)
def Fl_   (ho:UnR X (unaryOp op) r)(ha:PE X a ta):PE X (.UnaryOp op a pos) (tUn r ta):=by
 intro pins s σ H Q I h
 exact UnaryOp_ (thn (ha pins s σ H _ I h) fun v s1 ⟨x,H1,I1,r1,q1⟩=>ho pins s1 σ H1 x v Q I1 r1 q1)
def opI {f:Value->Value->Sem Value}{C:Int->Int->Prop}{g:Int->Int->Int}
  (rule:∀(i j:Int) (t u:Tok) (s:Shared) (Q:Value->Shared->Prop) (E:Value->Shared->Prop),C i j->Q (.int (g i j) s.toks) {s with toks:=s.toks+1}->wpAny (model X.prog X.w) X.A (f (.int i t) (.int j u)) Q E s):
  OpR X f (rI C fun i j=>.int (g i j)):=by
 intro pins s σ H x y v u Q I rx ry h
 obtain⟨i,j,rfl,rfl,hc,q⟩:=h
 obtain⟨t,rfl⟩:=rx
 obtain⟨t',rfl⟩:=ry
 exact rule i j t t' s _ _ hc ⟨.int (g i j),H,I.tok _,⟨_,rfl⟩,q⟩
def opI0 {f:Value->Value->Sem Value}{g:Int->Int->Int}
  (rule:∀(i j:Int) (t u:Tok) (s:Shared) (Q:Value->Shared->Prop) (E:Value->Shared->Prop),Q (.int (g i j) s.toks) {s with toks:=s.toks+1}->wpAny (model X.prog X.w) X.A (f (.int i t) (.int j u)) Q E s):
  OpR X f (rI0 fun i j=>.int (g i j)):=by
 intro pins s σ H x y v u Q I rx ry h
 obtain⟨i,j,rfl,rfl,q⟩:=h
 obtain⟨t,rfl⟩:=rx
 obtain⟨t',rfl⟩:=ry
 exact rule i j t t' s _ _ ⟨.int (g i j),H,I.tok _,⟨_,rfl⟩,q⟩
def opB0 {f:Value->Value->Sem Value}{g:Int->Int->Bool}
  (rule:∀(i j:Int) (t u:Tok) (s:Shared) (Q:Value->Shared->Prop) (E:Value->Shared->Prop),Q (.bool (g i j)) s->wpAny (model X.prog X.w) X.A (f (.int i t) (.int j u)) Q E s):
  OpR X f (rI0 fun i j=>.bl (g i j)):=by
 intro pins s σ H x y v u Q I rx ry h
 obtain⟨i,j,rfl,rfl,q⟩:=h
 obtain⟨t,rfl⟩:=rx
 obtain⟨t',rfl⟩:=ry
 exact rule i j t t' s _ _ ⟨.bl (g i j),H,I,rfl,q⟩
noncomputable def CDiv (i j:Int):Prop:=0<j/\j<1073741824
noncomputable def CMul (i j:Int):Prop:=(-(2 ^ 64)<i/\i<2 ^ 64)\/(-(2 ^ 64)<j/\j<2 ^ 64)
def CMul.ok  (h:CMul i j):IntMulOk i j:=by
 rcases h with ⟨h1,h2⟩|⟨h1,h2⟩
 ·exact .of_left (intBits_le_64 h1 h2)
 ·exact .of_right (intBits_le_64 h1 h2)
def Hb:OpR X (binaryOp .Add) (rI0 fun i j=>.int (i+j)):=opI0 fun _ _ _ _ _ _ _ q=>add_int q
def AN_:OpR X (binaryOp .Sub) (rI0 fun i j=>.int (i-j)):=opI0 fun _ _ _ _ _ _ _ q=>sub_int q
def OB:OpR X (binaryOp .Mult) (rI CMul fun i j=>.int (i*j)):=opI fun _ _ _ _ _ _ _ hc q=>mul_int q hc.ok
def OL:OpR X (binaryOp .FloorDiv) (rI CDiv fun i j=>.int (i / j)):=opI fun i j _ _ _ _ _ hc q=>by
 have h1:(0:Int)<j:=hc.1
 have h2:j<1073741824:=hc.2
 exact floordiv_int s!"" (by rw[Int.fdiv_eq_ediv_of_nonneg i s!""];exact q) (.inl (PyProof.noPylong_small s!""))
def IW:OpR X (binaryOp .Mod) (rI (fun _ j=>0<j) fun i j=>.int (i%j)):=opI fun i j _ _ _ _ _ hc q=>by
 have h1:(0:Int)<j:=hc
 exact mod_int' s!"" (by rw[Int.fmod_eq_emod_of_nonneg i s!""];exact q)
def unI {f:Value->Sem Value}{g:Int->Int}
  (rule:∀(i:Int) (t:Tok) (s:Shared) (Q:Value->Shared->Prop) (E:Value->Shared->Prop),Q (.int (g i) s.toks) {s with toks:=s.toks+1}->wpAny (model X.prog X.w) X.A (f (.int i t)) Q E s):
  UnR X f (rU fun i=>.int (g i)):=by
 intro pins s σ H x v Q I rx h
 obtain⟨i,rfl,q⟩:=h
 obtain⟨t,rfl⟩:=rx
 exact rule i t s _ _ ⟨.int (g i),H,I.tok _,⟨_,rfl⟩,q⟩
def XC:UnR X (unaryOp .USub) (rU fun i=>.int (-i)):=unI fun _ _ _ _ _ q=>neg_int q
end
noncomputable def scal:V->V->Bool
 |.non,.non=>true | .non,.int _=>true | .int _,.non=>true | .non,.bl _=>true | .bl _,.non=>true | .non,.str _=>true | .str _,.non=>true
 |.int _,.int _=>true | .bl _,.bl _=>true | .str _,.str _=>true | .byt _,.byt _=>true
 |.int _,.str _=>true | .str _,.int _=>true | .bl _,.str _=>true | .str _,.bl _=>true
 |_,_=>false
noncomputable def rEq:R2:=fun x y H Q=>scal x y=true/\Q (.bl (decide (x=y))) H
noncomputable def rNe:R2:=fun x y H Q=>scal x y=true/\Q (.bl (!decide (x=y))) H
def Gv_  : decide (V.int i=V.int j)=(i==j):=by
 rw[Bool.eq_iff_iff]
 simp
def Jz_  : decide (V.bl i=V.bl j)=(i==j):=by
 rw[Bool.eq_iff_iff]
 simp
def Gw_  : decide (V.str i=V.str j)=(i==j):=by
 rw[Bool.eq_iff_iff]
 simp
def Gx_  : decide (V.byt i=V.byt j)=(i.toList==j.toList):=by
 rw[Bool.eq_iff_iff]
 cases i
 cases j
 simp
section
variable {X:Cx} {a b c:Expr} {ta tb tc:TE} {pos:Pos}
def CU       (I:Inv X pins σ H s)(q:Q (.bl k) H)(e:k=k'):EP X pins σ Q (.bool k') s:=by
 subst e
 exact⟨.bl k,H,I,rfl,q⟩
def KY:OpR X (compareOp .Eq) rEq:=by
 intro pins s σ H x y v u Q I rx ry h
 obtain⟨hs,q⟩:=h
 cases x with
 |non=>
  cases rx
  cases y with
  |non=>cases ry;exact PySem.EqNone.eq_none_none (CU I q (by simp))
  |bl j=>cases ry;exact PySem.EqNone.eq_none_bool (CU I q (by simp))
  |int j=>obtain⟨t',rfl⟩:=ry;exact PySem.EqNone.eq_none_int (CU I q (by simp))
  |str j=>obtain⟨t',rfl⟩:=ry;exact PySem.EqNone.eq_none_str (CU I q (by simp))
  |_=>exact absurd (show false=true from hs) Bool.false_ne_true
 |bl i=>
  cases rx
  cases y with
  |non=>cases ry;exact PySem.EqNone.eq_bool_none (CU I q (by simp))
  |bl j=>cases ry;exact eq_bool (CU I q Jz_)
  |str j=>obtain⟨t',rfl⟩:=ry;exact PySem.EqMixed.eq_bool_str (CU I q (by simp))
  |_=>exact absurd (show false=true from hs) Bool.false_ne_true
 |int i=>
  obtain⟨t,rfl⟩:=rx
  cases y with
  |non=>cases ry;exact PySem.EqNone.eq_int_none (CU I q (by simp))
  |int j=>obtain⟨t',rfl⟩:=ry;exact eq_int (CU I q Gv_)
  |str j=>obtain⟨t',rfl⟩:=ry;exact PySem.EqMixed.eq_int_str (CU I q (by simp))
  |_=>exact absurd (show false=true from hs) Bool.false_ne_true
 |str i=>
  obtain⟨t,rfl⟩:=rx
  cases y with
  |non=>cases ry;exact PySem.EqNone.eq_str_none (CU I q (by simp))
  |bl j=>cases ry;exact PySem.EqMixed.eq_str_bool (CU I q (by simp))
  |int j=>obtain⟨t',rfl⟩:=ry;exact PySem.EqMixed.eq_str_int (CU I q (by simp))
  |str j=>obtain⟨t',rfl⟩:=ry;exact eq_str (CU I q Gw_)
  |_=>exact absurd (show false=true from hs) Bool.false_ne_true
 |byt i=>
  obtain⟨t,rfl⟩:=rx
  cases y with
  |byt j=>obtain⟨t',rfl⟩:=ry;exact PySem.W.eq_bytes (CU I q Gx_)
  |_=>exact absurd (show false=true from hs) Bool.false_ne_true
 |_=>cases y<;>exact absurd (show false=true from hs) Bool.false_ne_true
def Rb:OpR X (compareOp .NotEq) rNe:=by
 intro pins s σ H x y v u Q I rx ry h
 obtain⟨hs,q⟩:=h
 cases x with
 |non=>
  cases rx
  cases y with
  |non=>cases ry;exact PySem.EqNone.ne_none_none (CU I q (by simp))
  |bl j=>cases ry;exact PySem.EqNone.ne_none_bool (CU I q (by simp))
  |int j=>obtain⟨t',rfl⟩:=ry;exact PySem.EqNone.ne_none_int (CU I q (by simp))
  |str j=>obtain⟨t',rfl⟩:=ry;exact PySem.EqNone.ne_none_str (CU I q (by simp))
  |_=>exact absurd (show false=true from hs) Bool.false_ne_true
 |bl i=>
  cases rx
  cases y with
  |non=>cases ry;exact PySem.EqNone.ne_bool_none (CU I q (by simp))
  |bl j=>cases ry;exact ne_bool (CU I q (congrArg not Jz_))
  |str j=>obtain⟨t',rfl⟩:=ry;exact PySem.EqMixed.ne_bool_str (CU I q (by simp))
  |_=>exact absurd (show false=true from hs) Bool.false_ne_true
 |int i=>
  obtain⟨t,rfl⟩:=rx
  cases y with
  |non=>cases ry;exact PySem.EqNone.ne_int_none (CU I q (by simp))
  |int j=>obtain⟨t',rfl⟩:=ry;exact ne_int (CU I q (congrArg not Gv_))
  |str j=>obtain⟨t',rfl⟩:=ry;exact PySem.EqMixed.ne_int_str (CU I q (by simp))
  |_=>exact absurd (show false=true from hs) Bool.false_ne_true
 |str i=>
  obtain⟨t,rfl⟩:=rx
  cases y with
  |non=>cases ry;exact PySem.EqNone.ne_str_none (CU I q (by simp))
  |bl j=>cases ry;exact PySem.EqMixed.ne_str_bool (CU I q (by simp))
  |int j=>obtain⟨t',rfl⟩:=ry;exact PySem.EqMixed.ne_str_int (CU I q (by simp))
  |str j=>obtain⟨t',rfl⟩:=ry;exact ne_str (CU I q (congrArg not Gw_))
  |_=>exact absurd (show false=true from hs) Bool.false_ne_true
 |byt i=>
  obtain⟨t,rfl⟩:=rx
  cases y with
  |byt j=>obtain⟨t',rfl⟩:=ry;exact PySem.W.ne_bytes (CU I q (congrArg not Gx_))
  |_=>exact absurd (show false=true from hs) Bool.false_ne_true
 |_=>cases y<;>exact absurd (show false=true from hs) Bool.false_ne_true
def Gy_:OpR X (compareOp .Lt) (rI0 fun i j=>.bl (decide (i<j))):=opB0 fun _ _ _ _ _ _ _ q=>lt_int q
def Iu_:OpR X (compareOp .LtE) (rI0 fun i j=>.bl (decide (i<=j))):=opB0 fun _ _ _ _ _ _ _ q=>le_int q
def Gz_:OpR X (compareOp .Gt) (rI0 fun i j=>.bl (decide (j<i))):=opB0 fun _ _ _ _ _ _ _ q=>gt_int q
def No_:OpR X (compareOp .GtE) (rI0 fun i j=>.bl (decide (j<=i))):=opB0 fun _ _ _ _ _ _ _ q=>ge_int q
def XD:OpR X (compareOp .Is) (fun x y H Q=>y=.non/\Q (.bl (decide (x=.non))) H):=by
 intro pins s σ H x y v u Q I rx ry h
 obtain⟨rfl,q⟩:=h
 cases ry
 refine is_none_gen (CU I q ?_)
 cases x<;>first
  | (cases rx;rfl)
  | (obtain⟨t,rfl⟩:=rx;rfl)
def GA_:OpR X (compareOp .IsNot) (fun x y H Q=>y=.non/\Q (.bl (!decide (x=.non))) H):=by
 intro pins s σ H x y v u Q I rx ry h
 obtain⟨rfl,q⟩:=h
 cases ry
 refine isnot_none_gen (CU I q ?_)
 cases x<;>first
  | (cases rx;rfl)
  | (obtain⟨t,rfl⟩:=rx;rfl)
def A0 (b:Expr)  (h:op ≠ .In:=by decide)(h2:op ≠ .NotIn:=by decide):behindInMarks op b=false:=by
 have e1:(op==CmpOp.In)=false:=by cases op<;>first|rfl|exact absurd rfl h
 have e2:(op==CmpOp.NotIn)=false:=by cases op<;>first|rfl|exact absurd rfl h2
 cases b<;>simp[behindInMarks,e1,e2]
def J1   (ho:OpR X (compareOp op) r)(ha:PE X a ta)(hb:PE X b tb)(hm:behindInMarks op b=false):PE X (.Compare a [op] [b] pos) (tOp r ta tb):=by
 intro pins s σ H Q I h
 exact wpAny_Compare1 (binT ha hb I h fun v u s2 x y H2 I2 rx ry q=>ho pins s2 σ H2 x y v u Q I2 rx ry q) hm
noncomputable def Iv_ (t:TE):TT:=fun σ H Q=>t σ H fun x H'=>∃k,x=.bl k/\Q k H'
def AF   (ho:OpR X (compareOp op) r)(ha:PE X a ta)(hb:PE X b tb)(hm:behindInMarks op b=false):PT X (.Compare a [op] [b] pos) (Iv_ (tOp r ta tb)):=by
 intro pins s σ H Q I h
 refine wpAny_isTrue_Compare1 (thn (ha pins s σ H _ I h) fun v s1 ⟨x,H1,I1,r1,q1⟩=>thn (hb pins s1 σ H1 _ I1 q1) fun u s2 ⟨y,H2,I2,r2,q2⟩ =>
  thn (ho pins s2 σ H2 x y v u _ I2 r1 r2 q2) fun c s3 ⟨z,H3,I3,r3,k,e,q3⟩=>?_) hm
 subst e
 cases r3
 exact wpAny_truthy_bool ⟨H3,I3,q3⟩
noncomputable def JA_ (r r':R2)(ta tb tc:TE):TE:=fun σ H Q=>ta σ H fun x H1=>tb σ H1 fun y H2=>r x y H2 fun z H3=>∃k,z=.bl k /\
 (if k=true then tc σ H3 fun w' H4=>r' y w' H4 Q else Q (.bl false) H3)
def Es_   (ho:OpR X (compareOp op) r)(ho':OpR X (compareOp op') r')(ha:PE X a ta)(hb:PE X b tb)(hc:PE X c tc)
  (hm:lastMarks [op,op'] [b,c]=false:=by with_unfolding_all rfl):PE X (.Compare a [op,op'] [b,c] pos) (JA_ r r' ta tb tc):=by
 intro pins s σ H Q I h
 refine Compare_chain (thn (ha pins s σ H _ I h) fun v s1 ⟨x,H1,I1,r1,q1⟩=>chain_link (thn (hb pins s1 σ H1 _ I1 q1) fun u s2 ⟨y,H2,I2,r2,q2⟩ =>
  thn (ho pins s2 σ H2 x y v u _ I2 r1 r2 q2) fun d s3 ⟨z,H3,I3,r3,k,e,q3⟩=>?_)) hm
 subst e
 cases r3
 refine wpAny_truthy_bool ?_
 cases k with
 |false=>exact ite_ff ⟨.bl false,H3,I3,rfl,q3⟩
 |true=>exact ite_tt (chain_last (thn (hc pins s3 σ H3 _ I3 q3) fun w' s4 ⟨z',H4,I4,r4,q4⟩=>ho' pins s4 σ H4 y z' u w' Q I4 r2 r4 q4))
def Et_:(sizeLine:Nat)<2 ^ 63:=by rw[sizeLine_eq];decide
def vals1   (r:Vals [x] us):∃u,us=[u]/\RelV x u:=by
 cases r with
 |cons r1 r2=>cases r2;exact⟨_,rfl,r1⟩
def vals2   (r:Vals [x,y] us):∃u w',us=[u,w']/\RelV x u/\RelV y w':=by
 cases r with
 |cons r1 r2=>
  cases r2 with
  |cons r3 r4=>cases r4;exact⟨_,_,rfl,r1,r3⟩
def AO_ (hc:X.calm=true):Oj X (.builtin "max") (fun xs H Q=>∃i j,xs=[.int i,.int j]/\Q (.int (if j > i then j else i)) H):=by
 intro pins s σ H xs us Q I r h
 obtain⟨i,j,rfl,q⟩:=h
 obtain⟨u,w',rfl,⟨t,rfl⟩,⟨t',rfl⟩⟩:=vals2 r
 refine max_two_ints (I.ok.hd hc) fun h' tk k=>⟨_,H,I.kept k,?_,q⟩
 by_cases hj:j > i
 ·rw[if_pos hj,if_pos hj];exact⟨_,rfl⟩
 ·rw[if_neg hj,if_neg hj];exact⟨_,rfl⟩
end
end L2
namespace L2
open PySem PySem.Spec PyProof.Rows
structure ObjM (h:Heap)(x dx C:Addr)(mA:Str->Option Value):Prop where
 obj:h.get? x=some (PySem.W.instObj C dx)
 ns:h.Ns1 dx mA
 ne:dx≠x
def GB_ {h:Heap}{dx:Addr}{mA:Str->Option Value}(n:h.Ns1 dx mA):∃od,h.get? dx=some od/\∀name,PySem.W.lookIn name od=some (mA name):=by
 obtain⟨o,es,ep,ho,hd,hk,_,hm⟩:=n
 refine⟨o,ho,fun name=>?_⟩
 have e:=hm name
 unfold nsFind findBy at e
 rw[<-Array.find?_toList]at e
 unfold PySem.W.lookIn
 rw[hd]
 dsimp only
 split
 ·rename_i y q
  rw[q]at e
  exact congrArg some e
 ·rename_i q
  rw[q]at e
  have a:es.toList.any (·.refKey)=false:=by
   rw[List.any_eq_false]
   intro y hy
   obtain⟨z,t,hkey⟩:=hk y (Array.mem_toList_iff.mp hy)
   simp[DictEntry.refKey,hkey]
  have a':¬ es.toList.any (·.refKey)=true:=by rw[a];exact Bool.false_ne_true
  rw[if_neg a']
  exact congrArg some e
def ObjM.look    (I:ObjM h x dx C mA):∃od,PySem.W.InstAt h x (PySem.W.instObj C dx) C (some od)/\∀name,PySem.W.lookIn name od=some (mA name):=
 let ⟨od,ho,hl⟩:=GB_ I.ns
 ⟨od,⟨I.obj,rfl,rfl,ho⟩,hl⟩
section
variable {prog:Program} {w:World} {A:Around} {E:Value->Shared->Prop} {s:Shared} {K:PySem.W.Frag} {x dx C f:Addr} {mA:Str->Option Value} {name:Str} {v:Value}
def KM_   (X:K.In s.heap)(I:ObjM s.heap x dx C mA)(hg:PySem.W.plainGet K C name=true)(hh:PySem.W.hasDictIn K C=true)
  (ha:PySem.W.findIn K (.ref C) name=some none) (hv:mA name=some v) (hv':PySem.W.handedIn v=true) (h:Q v {s with toks:=s.toks+1}):
  wpAny (model prog w) A (getAttr (.ref x) name expr) Q E s:=by
 obtain⟨od,J,hl⟩:=I.look
 exact PySem.W.get_value X J (PySem.W.plainGet_of hg).1 (PySem.W.findObj_own hh ha rfl (by rw[hl,hv])) hv' h
def Iw_   (X:K.In s.heap)(I:ObjM s.heap x dx C mA)(hg:PySem.W.plainGet K C name=true)
  (hf:PySem.W.findIn K (.ref C) name=some (some (.ref f))) (ht:PySem.W.isFn K (.ref f)=true) (hv:mA name=none) (h:Q (.ref f,[.ref x]) s):
  wpAny (model prog w) A (getMethod (.ref x) name pl) Q E s:=by
 obtain⟨od,J,hl⟩:=I.look
 exact PySem.W.method_fn X J (PySem.W.plainGet_of hg).1 (PySem.W.plainGet_of hg).2 hf (beq_iff_eq.mp ht) (by show (PySem.W.lookIn name od).map (·.isSome)=some false;rw[hl,hv];rfl) h
def KN_   (X:K.In s.heap)(I:ObjM s.heap x dx C mA)
  (hs:PySem.W.findIn K (.ref C) "__setattr__"=some (some (.builtin "object.__setattr__"))) (hp:PySem.W.plainOver K C=true) (ht:PySem.W.takerIn K C name=some none) (hh:PySem.W.hasDictIn K C=true)
  (hw:PySem.Within mA ns) (hsz:ns.length<=sizeLine)
  (h:∀h',ObjM h' x dx C (fun y=>if y=name then some v else mA y)->Heap.SameBut dx s.heap h'->Q () {s with heap:=h',toks:=s.toks+2}):
  wpAny (model prog w) A (setAttr (.ref x) name v) Q E s:=by
 obtain⟨od,J,hl⟩:=I.look
 refine PySem.W.set_plain X J hs (PySem.W.osa_open (s:={s with toks:=s.toks+1}) (r:=none) X J hp ht fun b=>?_)
 obtain⟨cd,hc,hd'⟩:=PySem.W.any_some hh
 have hx:s.heap.get? x=some ⟨.ref C,some dx,.plain,#[]⟩:=I.obj
 refine wpAny_bind (wpAny_pure (wpAny_bind (wpAny_bind (wpAny_loadPart hx (wpAny_bind (PySem.W.Looks.here (s:={s with toks:=s.toks+1}) (PySem.W.looks_clsIn X hc) ?_))))))
 rw[hd']
 refine wpAny_pure (a:=some dx) (wpAny_bind (wpAny_pure (wpAny_bind ?_)))
 refine wpAny_nsSet1 (s:={s with toks:=s.toks+1}) I.ns fun h' hn2 hs2=>?_
 obtain⟨oD,esD,epD,hoD,hdD,hcD⟩:=hn2.count (PySem.Within.cons name v hw)
 refine wpAny_bind (wpAny_lookBehind hoD (by rw[hdD];exact pastItsLine_dict (Nat.le_trans hcD (by rw[List.length_cons];lia))) ?_)
 exact wpAny_pure (h _ ⟨(hs2.2 _ (Ne.symm I.ne)).trans I.obj,hn2,I.ne⟩ hs2)
def Ix_   {kw:List (Str×Value)}(X:K.In s.heap)(hm:PySem.W.makesIn K C=true)
  (hi:PySem.W.findIn K (.ref C) "__init__"=some (some (.ref f))) (hf:PySem.W.typeIn K (.ref f)=some (.type "function"))
  (h:codeAny (model prog w) (A.under (.builtin "type.__call__" ⟨.ref C::vs,kw⟩)) (.call (.ref f) ⟨.ref (s.heap.objs.size+1)::vs,kw⟩) (PySem.W.InitBack (s.heap.objs.size+1) R)
   {s with heap:=(s.heap.push PySem.W.emptyDict).push (PySem.W.instObj C s.heap.objs.size)}):
  codeAny (model prog w) A (.call (.ref C) ⟨vs,kw⟩) R s:=by
 obtain⟨hh,g,d,t,os⟩:=s
 exact PySem.W.make_core (PySem.W.makes_of X hm) (PySem.W.looks_findIn X hi) (fun self=>PySem.W.bind_fn X self hf) (.inl rfl) h
end
noncomputable def putF (f:Str)(v:V):List (Str×V)->List (Str×V)
 |[]=>[(f,v)]
 | (g,x)::r=>if g=f then (g,v)::r else (g,x)::putF f v r
def Gf (f g:Str)(v:V):∀fs:List (Str×V),(putF f v fs).lookup g=if g=f then some v else fs.lookup g
 |[]=>by
  show List.lookup g [(f,v)]=_
  by_cases h:g=f
  ·have hb:(g==f)=true:=beq_iff_eq.mpr h
   simp only[List.lookup,hb,if_pos h]
  ·have hb:(g==f)=false:=beq_eq_false_iff_ne.mpr h
   simp only[List.lookup,hb,if_neg h]
 | (k,x)::r=>by
  have ih:=Gf f g v r
  rw[show putF f v ((k,x)::r)=(if k=f then (k,v)::r else (k,x)::putF f v r) from rfl]
  by_cases hk:k=f
  ·rw[if_pos hk]
   by_cases h:g=k
   ·have hb:(g==k)=true:=beq_iff_eq.mpr h
    simp only[List.lookup,hb,if_pos (h.trans hk)]
   ·have hb:(g==k)=false:=beq_eq_false_iff_ne.mpr h
    simp only[List.lookup,hb,if_neg (fun e:g=f=>h (e.trans hk.symm))]
  ·rw[if_neg hk]
   by_cases h:g=k
   ·have hb:(g==k)=true:=beq_iff_eq.mpr h
    simp only[List.lookup,hb,if_neg (fun e:g=f=>hk (h.symm.trans e))]
   ·have hb:(g==k)=false:=beq_eq_false_iff_ne.mpr h
    simp only[List.lookup,hb]
    exact ih
def U2 (f:Str)(v:V):∀fs:List (Str×V),f∈(putF f v fs).map (·.1)/\∀g,g∈fs.map (·.1)->g∈(putF f v fs).map (·.1)
 |[]=>⟨by simp[putF],fun g h=>by simp at h⟩
 | (k,x)::r=>by
  obtain⟨i1,i2⟩:=U2 f v r
  rw[show putF f v ((k,x)::r)=(if k=f then (k,v)::r else (k,x)::putF f v r) from rfl]
  by_cases hk:k=f
  ·rw[if_pos hk]
   subst hk
   exact⟨by simp,fun g h=>by simpa using h⟩
  ·rw[if_neg hk]
   refine⟨?_,fun g h=>?_⟩
   ·rw[List.map_cons]
    exact List.mem_cons_of_mem _ i1
   ·rw[List.map_cons]at h ⊢
    rcases List.mem_cons.mp h with e|e
    ·exact List.mem_cons.mpr (.inl e)
    ·exact List.mem_cons_of_mem _ (i2 g e)
def U3 (f:Str)(v:V):∀fs:List (Str×V),(putF f v fs).length<=fs.length+1
 |[]=>by simp[putF]
 | (k,x)::r=>by
  have ih:=U3 f v r
  rw[show putF f v ((k,x)::r)=(if k=f then (k,v)::r else (k,x)::putF f v r) from rfl]
  by_cases hk:k=f
  ·rw[if_pos hk,List.length_cons,List.length_cons];lia
  ·rw[if_neg hk,List.length_cons,List.length_cons];lia
def RelO.some_of   (r:RelO (some v) o):∃u,o=some u/\RelV v u:=by
 cases o with
 |none=>exact (show False from r).elim
 |some u=>exact⟨u,rfl,r⟩
def RelO.none_of  (r:RelO none o):o=none:=by
 cases o with
 |none=>rfl
 |some u=>exact (show False from r).elim
def GC_   (r:RelV v u):PySem.W.handedIn u=true:=by
 cases v with
 |non=>cases (show u=Value.none from r);rfl
 |bl b=>cases (show u=Value.bool b from r);rfl
 |int i=>obtain⟨t,e⟩:=(show ∃t,u=Value.int i t from r);cases e;rfl
 |str x=>obtain⟨t,e⟩:=(show ∃t,u=Value.str x t from r);cases e;rfl
 |byt b=>obtain⟨t,e⟩:=(show ∃t,u=Value.bytes b t from r);cases e;rfl
 |flt b=>obtain⟨t,e⟩:=(show ∃t,u=Value.float b t from r);cases e;rfl
 |ref a=>cases (show u=Value.ref a from r);rfl
 |ty n=>cases (show u=Value.type n from r);rfl
section
variable {P:Program} {w:World} {H H':Hp} {h h':Heap} {a C dx:Addr} {fs fs':List (Str×V)}
def X3 (hok:HOk P w H h)(e:H a=some (.ins C dx fs)):∃mA,ObjM h a dx C mA/\(∀f,RelO (fs.lookup f) (mA f))/\PySem.Within mA (fs.map (·.1))/\fs.length<=1000/\H dx=some (.own a):=by
 obtain⟨d,z,ne,ob,mA,n,r,q⟩:=(show C4 P w H h a (.ins C dx fs) from hok a _ e)
 exact⟨mA,⟨ob,n,ne⟩,r,q,z,d⟩
end
structure Cls (K:PySem.W.Frag)(C:Addr):Prop where
 pg:PySem.W.plainGet K C Str.empty=true
 hd:PySem.W.hasDictIn K C=true
 po:PySem.W.plainOver K C=true
 sa:PySem.W.findIn K (.ref C) "__setattr__"=some (some (.builtin "object.__setattr__"))
def Cls.get {K:PySem.W.Frag}  (c:Cls K C)(f:Str):PySem.W.plainGet K C f=true:=c.pg
noncomputable def FN (K:PySem.W.Frag)(C:Addr)(f:Str):Prop:=PySem.W.findIn K (.ref C) f=some none
def FN.taker {K:PySem.W.Frag}   (n:FN K C f):PySem.W.takerIn K C f=some none:=by
 unfold PySem.W.takerIn
 rw[show PySem.W.findIn K (.ref C) f=some none from n]
 rfl
structure Meth (K:PySem.W.Frag)(C:Addr)(m:Str)(f:Addr):Prop where
 at_:PySem.W.findIn K (.ref C) m=some (some (.ref f))
 fn:PySem.W.isFn K (.ref f)=true
 kp:PySem.W.keepIn K (.ref f)=true
section
variable {X:Cx} {pins:List (Addr×Obj)} {σ:St} {H:Hp} {s:Shared} {a C dx:Addr} {fs:List (Str×V)} {f:Str} {v:V} {A:Around} {E:Value->Shared->Prop}
def Fm_   (I:Inv X pins σ H s)(e:H a=some (.ins C dx fs))(c:Cls X.K C)(n:FN X.K C f)(l:fs.lookup f=some v)
  (h:∀u s',Inv X pins σ H s'->RelV v u->Q u s'):wpAny (model X.prog X.w) A (getAttr (.ref a) f b) Q E s:=by
 obtain⟨mA,O,r,_,_,_⟩:=X3 I.hok e
 obtain⟨u,hu,ru⟩:=RelO.some_of (v:=v) (o:=mA f) (by rw[<-l];exact r f)
 exact KM_ I.kIn O (c.get f) c.hd n hu (GC_ ru) (h u _ (I.tok _) ru)
def XE     (I:Inv X pins σ H s)(e:H a=some (.ins C dx fs))(c:Cls X.K C)(k:Meth X.K C m g)(l:fs.lookup m=none)
  (h:Q (.ref g,[.ref a]) s):wpAny (model X.prog X.w) A (getMethod (.ref a) m pl) Q E s:=by
 obtain⟨mA,O,r,_,_,_⟩:=X3 I.hok e
 have hn:mA m=none:=RelO.none_of (by rw[<-l];exact r m)
 exact Iw_ I.kIn O (c.get m) k.at_ k.fn hn h
def Fn_    (I:Inv X pins σ H s)(e:H a=some (.ins C dx fs))(c:Cls X.K C)(n:FN X.K C f)(hl:fs.length<1000)(ry:RelV y u)
  (h:∀s',Inv X pins σ (upd H a (.ins C dx (putF f y fs))) s'->Q () s'):wpAny (model X.prog X.w) A (setAttr (.ref a) f u) Q E s:=by
 obtain⟨mA,O,r,wi,_,ho⟩:=X3 I.hok e
 have hz:(fs.map (·.1)).length<=sizeLine:=by rw[List.length_map,sizeLine_eq];lia
 refine KN_ I.kIn O c.sa c.po n.taker c.hd wi hz fun h' O' sb=>h _ ?_
 have hd:∃o,h'.get? dx=some o:=let ⟨o,_,_,e',_⟩:=O'.ns;⟨o,e'⟩
 refine I.write (x:=a) (e:=dx) (by rw[e];exact True.intro) (.inr ho) (fun b q hb z=>(sb.2 b hb).trans z) hd ?_
 refine⟨by rw[Ag O.ne];exact ho,?_,O.ne,O'.obj,_,O'.ns,fun g=>?_,fun g hg=>?_⟩
 ·have:=U3 f y fs;lia
 ·show RelO ((putF f y fs).lookup g) (if g=f then some u else mA g)
  rw[Gf]
  by_cases q:g=f
  ·rw[if_pos q,if_pos q];exact ry
  ·rw[if_neg q,if_neg q];exact r g
 ·by_cases q:g=f
  ·rw[q];exact (U2 f y fs).1
  ·refine (U2 f y fs).2 g (wi g fun z=>hg ?_)
   show (if g=f then some u else mA g)=none
   rw[if_neg q];exact z
def Inv.made (I:Inv X pins σ H s):Inv X pins σ (upd (upd H s.heap.objs.size (.own (s.heap.objs.size+1))) (s.heap.objs.size+1) (.ins C s.heap.objs.size []))
  {s with heap:=(s.heap.push PySem.W.emptyDict).push (PySem.W.instObj C s.heap.objs.size)}:=by
 have e1:(s.heap.push PySem.W.emptyDict).get? s.heap.objs.size=some PySem.W.emptyDict:=Heap.get?_push_size s.heap rfl
 have e2:((s.heap.push PySem.W.emptyDict).push (PySem.W.instObj C s.heap.objs.size)).get? (s.heap.objs.size+1)=some (PySem.W.instObj C s.heap.objs.size):=by
  have:=Heap.get?_push_size (s.heap.push PySem.W.emptyDict) (o:=PySem.W.instObj C s.heap.objs.size) rfl
  rwa [Heap.size_push]at this
 have e3:(s.heap.push PySem.W.emptyDict).Ns s.heap.objs.size (fun _=>none):=⟨PySem.W.emptyDict,#[],_,e1,rfl,(fun e he=>absurd he (by simp)),fun _=>rfl⟩
 have I1:=I.laid (a:=s.heap.objs.size) (o:=.own (s.heap.objs.size+1)) (h':=s.heap.push PySem.W.emptyDict) (t':=s.toks) (fun b u q=>Heap.get?_push_of_some _ q) (Nat.le_refl _) ⟨_,e1⟩
 refine I1.laid (a:=s.heap.objs.size+1) (o:=.ins C s.heap.objs.size []) (t':=s.toks) (fun b u q=>Heap.get?_push_of_some _ q) (Nat.le_of_eq (Heap.size_push _ _)) ?_
 have ne:s.heap.objs.size≠s.heap.objs.size+1:=Nat.ne_of_lt (Nat.lt_succ_self _)
 refine⟨by rw[Ag ne,Ab],Nat.zero_le _,ne,e2,fun _=>none,(Heap.Ns1.of_empty e3).at fun o q=>Heap.get?_push_of_some _ q,fun _=>True.intro,fun y hy=>absurd rfl hy⟩
def KO_         (hb:attributeBase e f env (eval e env)=eval e env)
  (h:wpAny (model prog w) A (eval e env) (fun o s₁=>wpAny (model prog w) A (getAttr o f true) Q E s₁) E s):wpAny (model prog w) A (eval (.Attribute e f pos) env) Q E s:=
 Attribute_any_ h (by rw[arm_eval_Attribute,hb])
end
noncomputable def tFld (K:PySem.W.Frag)(ta:TE)(f:Str):TE:=fun σ H Q=>ta σ H fun x H1=>∃a C dx fs v,x=.ref a/\H1 a=some (.ins C dx fs)/\Cls K C/\FN K C f/\fs.lookup f=some v/\Q v H1
noncomputable def sFld (K:PySem.W.Frag)(ta tv:TE)(f:Str):TS:=fun D σ H=>tv σ H fun y H1=>ta σ H1 fun x H2=>∃a C dx fs,x=.ref a/\H2 a=some (.ins C dx fs)/\Cls K C/\FN K C f/\fs.length<1000 /\
 D.nx σ (upd H2 a (.ins C dx (putF f y fs)))
section
variable {X:Cx} {o e value:Expr} {f:Str} {pos pos' tpos:Pos} {ta tv:TE}
def AY (he:PE X e ta)(hb:attributeBase e f X.env (eval e X.env)=eval e X.env):PE X (.Attribute e f pos) (tFld X.K ta f):=by
 intro pins s σ H Q I h
 refine KO_ hb (thn (he pins s σ H _ I h) fun u s1 ⟨x,H1,I1,rx,a,C,dx,fs,v,ex,ea,c,n,l,q⟩=>?_)
 subst ex
 obtain rfl:u=Value.ref a:=rx
 exact Fm_ I1 ea c n l fun u' s2 I2 ru=>⟨v,H1,I2,ru,q⟩
def Gm (ha:PE X o ta)(hv:PE X value tv)(hs:swapsWith value (some (.Attribute o f pos')) pos.line X.env=pure false):PS X (.Assign [.Attribute o f pos'] value pos) (sFld X.K ta tv f):=by
 intro pins s σ H D I h
 refine plainObj_wpAny_Assign_Attribute (thn (hv pins s σ H _ I h) fun u s1 ⟨y,H1,I1,ry,q⟩=>thn (ha pins s1 σ H1 _ I1 q) fun ov s2 ⟨x,H2,I2,rx,a,C,dx,fs,ex,ea,c,n,l,q2⟩=>?_) hs
 subst ex
 obtain rfl:ov=Value.ref a:=rx
 exact Fn_ I2 ea c n l ry fun s3 I3=>⟨σ,_,I3,q2⟩
end
section
variable {X:Cx} {pins:List (Addr×Obj)} {σ:St} {H:Hp} {s:Shared} {A:Around} {E:Value->Shared->Prop} {Q:Value->Shared->Prop} {c:Value} {b:Bool}
inductive TyOf (K:PySem.W.Frag)(H:Hp):V->Value->Prop where
 | non:TyOf K H .non (.type "NoneType")
 | bl (x:Bool):TyOf K H (.bl x) (.type "bool")
 | int (i:Int):TyOf K H (.int i) (.type "int")
 | str (x:Str):TyOf K H (.str x) (.type "str")
 | flt (x:UInt64):TyOf K H (.flt x) (.type "float")
 | lst {a:Addr} {xs:List V} (e:H a=some (.lst xs)):TyOf K H (.ref a) (.type "list")
 | frz {a:Addr} {o:Obj} {xs:List V} (e:H a=some (.frz o (.lst xs))):TyOf K H (.ref a) (.type "list")
 | tup {a:Addr} {xs:List V} (e:H a=some (.tup xs)):TyOf K H (.ref a) (.type "tuple")
 | dK {a:Addr} {kvs:List (Key×V)} (e:H a=some (.dK kvs)):TyOf K H (.ref a) (.type "dict")
 | dT {a:Addr} {kvs:List (List Key×V)} (e:H a=some (.dT kvs)):TyOf K H (.ref a) (.type "dict")
 | ins {a C dx:Addr} {fs:List (Str×V)} (e:H a=some (.ins C dx fs)) (cl:Cls K C) (ha:PySem.W.findIn K (.ref C) "__class__"=some (some (.builtin "object.__class__")))
   (hn:PySem.W.specialIn K (.builtin "object.__class__") "__get__"=some (some (.builtin "getset_descriptor.__get__"))) (htk:PySem.W.takesIn K (.builtin "object.__class__")=some true)
   (hm:PySem.W.mroIn K C (.type "object")=some true):TyOf K H (.ref a) (.ref C)
def GD_   (I:Inv X pins σ H s)(rx:RelV x u)(ty:TyOf X.K H x t)(e:PySem.W.kitOne X.K t c=some b)(h:∀tk,Q (.bool b) {s with toks:=tk}):
  wpAny (model X.prog X.w) A (call (.builtin "isinstance") [u,c]) Q E s:=by
 cases ty with
 |non=>cases (show u=Value.none from rx);exact PySem.W.kia_one PySem.W.kitx_none I.kIn True.intro e (fun z=>nomatch z) h
 |bl y=>cases (show u=Value.bool y from rx);exact PySem.W.kia_one PySem.W.kitx_bool I.kIn True.intro e (fun z=>nomatch z) h
 |int i=>obtain⟨t,q⟩:=(show ∃t,u=Value.int i t from rx);cases q;exact PySem.W.kia_one PySem.W.kitx_int I.kIn True.intro e (fun z=>nomatch z) h
 |str y=>obtain⟨t,q⟩:=(show ∃t,u=Value.str y t from rx);cases q;exact PySem.W.kia_one PySem.W.kitx_str I.kIn True.intro e (fun z=>nomatch z) h
 |flt y=>obtain⟨t,q⟩:=(show ∃t,u=Value.float y t from rx);cases q;exact PySem.W.kia_one PySem.W.kitx_float I.kIn True.intro e (fun z=>nomatch z) h
 |@lst a xs ea=>
  cases (show u=Value.ref a from rx)
  obtain⟨_,_,n,_,h1⟩:=(show C4 X.prog X.w H s.heap a (.lst xs) from I.hok a _ ea)
  exact PySem.W.kia_one PySem.W.kitx_list I.kIn ⟨_,h1,rfl⟩ e (fun z=>nomatch z) h
 |@frz a ob xs ea=>
  cases (show u=Value.ref a from rx)
  obtain⟨_,_,_,n,_,h1⟩:=(show C4 X.prog X.w H s.heap a (.frz ob (.lst xs)) from I.hok a _ ea)
  exact PySem.W.kia_one PySem.W.kitx_list I.kIn ⟨_,h1,rfl⟩ e (fun z=>nomatch z) h
 |@tup a xs ea=>
  cases (show u=Value.ref a from rx)
  obtain⟨_,_,_,p⟩:=(show C4 X.prog X.w H s.heap a (.tup xs) from I.hok a _ ea)
  obtain⟨o,h1,h2,_⟩:=p
  exact PySem.W.kia_one PySem.W.kitx_tuple I.kIn ⟨o,h1,h2⟩ e (fun z=>nomatch z) h
 |@dK a kvs ea=>
  cases (show u=Value.ref a from rx)
  obtain⟨_,_,vs,_,p⟩:=(show C4 X.prog X.w H s.heap a (.dK kvs) from I.hok a _ ea)
  obtain⟨o,es,ep,h1,h2,_⟩:=p
  exact PySem.W.kia_one PySem.W.kitx_dict I.kIn ⟨o,h1,h2.1⟩ e (fun z=>nomatch z) h
 |@dT a kvs ea=>
  cases (show u=Value.ref a from rx)
  obtain⟨_,_,xs,_,o,es,ep,h1,h2,_⟩:=(show C4 X.prog X.w H s.heap a (.dT kvs) from I.hok a _ ea)
  exact PySem.W.kia_one PySem.W.kitx_dict I.kIn ⟨o,h1,h2.1⟩ e (fun z=>nomatch z) h
 |@ins a C dx fs ea cl ha hn htk hm=>
  cases (show u=Value.ref a from rx)
  obtain⟨mA,O,_⟩:=X3 I.hok ea
  obtain⟨od,J,_⟩:=O.look
  exact PySem.W.kia_one (PySem.W.kitx_own (cl.get _) cl.hd ha hn htk hm) I.kIn J e (fun z=>nomatch z) h
end
end L2
namespace L2
open PySem PySem.Spec PyProof.Rows
structure Room (k:Nat)(A:Around):Prop where
 hd:A.handled=none
 dp:A.depth+3*k+5<recursionLimit
 un:A.units+16*k+200<cLine
def Room.mono   (r:Room k A)(h:j<=k):Room j A:=⟨r.hd,by have:=r.dp;lia,by have:=r.un;lia⟩
def Room.deeper   (r:Room (k+1) A)(env:Env):Room k (A.deeper env):=
 ⟨r.hd,by have:=r.dp;show A.depth+1+3*k+5<_;lia,by have:=r.un;show A.units+3+16*k+200<_;lia⟩
def Fo_ {A:Around}{C:Addr}{us:List Value}{kw:List (Str×Value)}:(A.under (.builtin "type.__call__" ⟨.ref C::us,kw⟩)).depth=A.depth+1:=by
 first|rfl|simp[Around.under,Code.weight,Code.isCreation,Code.isGuard,Code.isCaller,Code.frames,Code.isFrame,guardIds]
def Fp_ {A:Around}{C:Addr}{us:List Value}{kw:List (Str×Value)}:(A.under (.builtin "type.__call__" ⟨.ref C::us,kw⟩)).units=A.units+1:=by
 first|rfl|simp[Around.under,Code.cUnits,Code.frames,Code.isFrame]
def Room.make   (r:Room (k+1) A)(C:Addr)(us:List Value)(kw:List (Str×Value)):Room k (A.under (.builtin "type.__call__" ⟨.ref C::us,kw⟩)):=
 ⟨r.hd,by have:=r.dp;rw[Fo_];lia,by have:=r.un;rw[Fp_];lia⟩
def Room.depth   (r:Room k A):A.depth<recursionLimit:=by have:=r.dp;lia
def Room.units   (r:Room k A):A.units+64<cLine:=by have:=r.un;lia
noncomputable def tNil:TA:=fun _ H Q=>Q [] H
noncomputable def LX_ (ta:TE)(tr:TA):TA:=fun σ H Q=>ta σ H fun x H1=>tr σ H1 fun xs H2=>Q (x::xs) H2
section
variable {X:Cx} {e:Expr} {es:List Expr} {te:TE} {t:TA} {pos:Pos}
def Ae:PA X [] tNil:=fun _ _ _ _ H Q I h=>Calls.spliced_nil ⟨[],H,I,.nil,h⟩
def Aa (ha:PE X e te)(hr:PA X es t)(hs:starEach (e::es) X.env=(false,eval e X.env)::starEach es X.env:=by rfl):PA X (e::es) (LX_ te t):=by
 intro pos pins s σ H Q I h
 rw[hs]
 show wpAny _ _ (spliced ((false,eval e X.env)::backTo pos (starEach es X.env))) _ _ s
 refine Calls.spliced_cons (thn (ha pins s σ H _ I h) fun u s1 ⟨x,H1,I1,r1,q1⟩=>?_)
 exact thn (hr pos pins s1 σ H1 _ I1 q1) fun us s2 ⟨xs,H2,I2,r2,q2⟩=>⟨x::xs,H2,I2,.cons r1 r2,q2⟩
noncomputable def tTup (t:TA):TE:=fun σ H Q=>t σ H fun xs H1=>xs.length<=sizeLine/\∀p,H1 p=none->Q (.ref p) (upd H1 p (.tup xs))
noncomputable def tLst (t:TA):TE:=fun σ H Q=>t σ H fun xs H1=>xs.length<=sizeLine/\∀p,H1 p=none->Q (.ref p) (upd H1 p (.lst xs))
def F3 {x1}(h:PA X es t):PE X (.Tuple es x1 pos) (tTup t):=by
 intro pins s σ H Q I hq
 refine wpAny_Tuple_spliced (thn (h pos pins s σ H _ I hq) fun us s1 ⟨xs,H1,I1,r,z,q⟩=>⟨by rw[<-r.length];exact z,?_⟩)
 have hf:H1 s1.heap.objs.size=none:=I1.hok.fresh (Nat.le_refl _)
 refine⟨.ref s1.heap.objs.size,upd H1 s1.heap.objs.size (.tup xs),I1.laid (t':=s1.toks) (fun b u e=>Heap.get?_push_of_some _ e) (Nat.le_refl _) ?_,rfl,q _ hf⟩
 exact⟨z,us,r,⟨_,Heap.get?_push_size _ rfl,rfl,_,rfl⟩⟩
def JG (h:PA X es t):PE X (.List es pos) (tLst t):=by
 intro pins s σ H Q I hq
 refine wpAny_List_spliced (thn (h pos pins s σ H _ I hq) fun us s1 ⟨xs,H1,I1,r,z,q⟩=>⟨by rw[<-r.length];exact z,?_⟩)
 have hf:H1 s1.heap.objs.size=none:=I1.hok.fresh (Nat.le_refl _)
 refine⟨.ref s1.heap.objs.size,upd H1 s1.heap.objs.size (.lst xs),I1.laid (t':=s1.toks) (fun b u e=>Heap.get?_push_of_some _ e) (Nat.le_refl _) ?_,rfl,q _ hf⟩
 exact⟨z,us,0,r,Heap.get?_push_size _ rfl⟩
end
noncomputable abbrev Sp:=List V->Hp->VK->XK->Prop
noncomputable abbrev CXT:=List Env->Hp->Shared->XK->Value->Shared->Prop
structure Env0 (P:Program)(w:World)(K:PySem.W.Frag)(mg:Str->Option Value)(base:Heap)(A:Around)(outer:List Env)(s:Shared)(H:Hp):Prop where
 frames:A.frames=some outer
 mod:Mod K mg base
 bs:∀b o,base.get? b=some o->s.heap.get? b=some o/\H b=none
 bsz:base.objs.size<=s.heap.objs.size
 funs:s.heap.FunFrames base outer
 frf:∀b∈frs outer,H b=none
 hok:HOk P w H s.heap
 bare:AllBare s.gens
noncomputable def CE (outer:List Env)(P:Program)(w:World)(H:Hp)(s:Shared)(Q:VK)(u:Value)(s':Shared):Prop:=
 ∃v H',s'.os=s.os/\AllBare s'.gens/\Un (frs outer) [] H H' s.heap s'.heap/\HOk P w H' s'.heap/\RelV v u/\Q v H'
noncomputable def CR (CX:CXT)(outer:List Env)(P:Program)(w:World)(H:Hp)(s:Shared)(Q:VK)(E:XK)(r:Result)(s':Shared):Prop:=
 match r with
 |.ok (.ret u)=>CE outer P w H s Q u s'
 |.ok _=>False
 |.error e=>CX outer H s E e s'
structure FnOk (P:Program)(w:World)(K:PySem.W.Frag)(mg:Str->Option Value)(base:Heap)(CX:CXT)(k:Nat)(f:Addr)(fd:FuncData)(ps:List Str)(sp:Sp):Prop where
 len:∀vs H Q E,sp vs H Q E->vs.length=ps.length
 run:∀(A:Around) (outer:List Env) (s:Shared) (H:Hp) (args:Args) (us:List Value) (vs:List V) (Q:VK) (E:XK),Room k A->Env0 P w K mg base A outer s H->BindsTo s fd args (ps.zip us)->Vals vs us->sp vs H Q E ->
  codeAny (model P w) A (.call (.ref f) args) (CR CX outer P w H s Q E) s
def Env0.make   {K:PySem.W.Frag}       (e:Env0 P w K mg base A outer s H)(C:Addr)(us:List Value)(kw:List (Str×Value)):
  Env0 P w K mg base (A.under (.builtin "type.__call__" ⟨.ref C::us,kw⟩)) outer s H:=⟨by first|exact e.frames|(simpa [Around.under,Code.envs,Code.isFrame,pushEnvs] using e.frames),e.mod,e.bs,e.bsz,e.funs,e.frf,e.hok,e.bare⟩
section
variable {X:Cx} {pins:List (Addr×Obj)} {σ:St} {H:Hp} {s s':Shared}
def Inv.env0 (I:Inv X pins σ H s):Env0 X.prog X.w X.K X.mg X.base X.A X.stack s H:=
 ⟨I.ok.frames,I.ok.mod,I.bs,Nat.le_trans I.ok.bsz I.sz,I.stack,I.stkFree,I.hok,I.bare⟩
def Inv.after   (I:Inv X pins σ H s)(h:CE X.stack X.prog X.w H s Q u s'):EP X pins σ Q u s':=by
 obtain⟨v,H',os,bare,un,hok,r,q⟩:=h
 obtain⟨hh,g,d,t,os'⟩:=s'
 obtain rfl:os'=s.os:=os
 exact⟨v,H',I.call (h':=hh) (g':=g) (d':=d) (t':=t) (ch:=[]) un hok bare (fun b z=>absurd z (by simp)),r,q⟩
end
noncomputable def KP_ (sp:Sp)(dvs:List V)(E:XK)(t:TA):TE:=fun σ H Q=>t σ H fun vs H1=>sp (vs++dvs) H1 Q E
noncomputable def KQ_ (C:Addr)(m:Str)(sp:Sp)(dvs:List V)(E:XK)(ta:TE)(t:TA):TE:=fun σ H Q=>ta σ H fun x H1=>∃a dx fs,x=.ref a/\H1 a=some (.ins C dx fs)/\fs.lookup m=none /\
 t σ H1 fun vs H2=>sp (x::(vs++dvs)) H2 Q E
noncomputable def LY_ (C:Addr)(sp:Sp)(dvs:List V)(E:XK)(t:TA):TE:=fun σ H Q=>t σ H fun vs H1=>∀x dx,H1 x=none->H1 dx=none->dx≠x ->
 sp (.ref x::(vs++dvs)) (upd (upd H1 dx (.own x)) x (.ins C dx [])) (fun v H2=>v=.non/\Q (.ref x) H2) E
noncomputable def Au (K:PySem.W.Frag)(fd:FuncData)(ps:List Str)(ds:List Value):Prop:=
 ∀(s:Shared) (us:List Value),K.In s.heap->(us++ds).length=ps.length->BindsTo s fd ⟨us,[]⟩ (ps.zip (us++ds))
def Au.all {K:PySem.W.Frag}   (h:∀us:List Value,us.length=ps.length->bindArgs fd ⟨us,[]⟩=pure (ps.zip us)):Au K fd ps []:=fun s us _ hl=>by
 rw[List.append_nil]at hl ⊢
 exact .of_eq (h us hl)
noncomputable def Mn (CX:CXT)(X:Cx)(E:XK):Prop:=∀(pins:List (Addr×Obj)) (σ:St) (H:Hp) (s:Shared) (e:Value) (s':Shared),Inv X pins σ H s->CX X.stack H s E e s'->X.xe e s'
section
variable {X:Cx} {CX:CXT} {k:Nat} {f C:Addr} {fd:FuncData} {ps:List Str} {sp:Sp} {dvs:List V} {ds:List Value} {E:XK} {x m:Str} {p pos apos:Pos} {e o:Expr} {es:List Expr} {ta:TE} {t:TA}
def AP_        (F:FnOk X.prog X.w X.K X.mg X.base CX k f fd ps sp)(hr:Room k X.A)(hb:Au X.K fd ps ds)(hd:Vals dvs ds)(hx:Mn CX X E)
  (I:Inv X pins σ H s) (r:Vals vs us) (h:sp (vs++dvs) H Q E):wpAny (model X.prog X.w) X.A (call (.ref f) us) (EP X pins σ Q) X.xe s:=by
 have r2:Vals (vs++dvs) (us++ds):=r.append hd
 have hl:(us++ds).length=ps.length:=by rw[<-r2.length];exact F.len _ _ _ _ h
 refine wpAny_call (codeAny_mono (F.run X.A X.stack s H ⟨us,[]⟩ (us++ds) (vs++dvs) Q E hr I.env0 (hb s us I.kIn hl) r2 h) fun r s' hq=>?_)
 cases r with
 |error e=>exact hx pins σ H s e s' I hq
 |ok fl=>
  cases fl with
  |ret u=>exact I.after hq
  |next=>exact False.elim hq
  |brk=>exact False.elim hq
  |cont=>exact False.elim hq
def Ay (F:FnOk X.prog X.w X.K X.mg X.base CX k f fd ps sp)(hr:Room k X.A)(hg:Gl X x)(hm:X.mg x=some (.ref f))(hk:PySem.W.keepIn X.K (.ref f)=true)(hb:Au X.K fd ps ds)(hd:Vals dvs ds)(hx:Mn CX X E)
  (ha:PA X (e::es) t) (hdb:(x==("__debug__" : Str))=false:=by decide) (he:starEach (e::es) X.env=(false,eval e X.env)::starEach es X.env:=by rfl) (hpl:(backTo pos (starEach es X.env)).any (·.1)=false:=by rfl):
  PE X (.Call (.Name x p) (e::es) [] pos) (KP_ sp dvs E t):=by
 intro pins s σ H Q I h
 refine wpAny_Call_Name_kw (U0 I hg hm ?_ hdb)
 refine PySem.W.callWith_K (h₀:=X.base) I.ok.mod.kin hk (thn (ha pos pins s σ H _ I h) fun us s1 ⟨vs,H1,I1,r,q⟩=>⟨I1.kIn,?_⟩) he hpl
 exact AP_ F hr hb hd hx I1 r q
def DV  (he:PE X o ta)(c:Cls X.K C)(hm:Meth X.K C m f)(F:FnOk X.prog X.w X.K X.mg X.base CX k f fd ps sp)(hr:Room k X.A)(hb:Au X.K fd ps ds)(hd:Vals dvs ds)(hx:Mn CX X E)(ha:PA X (e::es) t)
  (hst:starEach (e::es) X.env=(false,eval e X.env)::starEach es X.env:=by rfl) (hpl:(backTo pos (starEach es X.env)).any (·.1)=false:=by rfl)
  (ht:eval (.Call (.Attribute o m apos) (e::es) [] pos) X.env=(do
   let ov <- eval o X.env
   standAt apos.atName
   let (f,first) <- holding [ov] (getMethod ov m pl)
   callWith pos f first (backTo pos (starEach (e::es) X.env)) (backToKw pos (keywordEach [] X.env))):=by rfl):
  PE X (.Call (.Attribute o m apos) (e::es) [] pos) (KQ_ C m sp dvs E ta t):=by
 intro pins s σ H Q I h
 refine PySem.W.methodCall_KW (pl:=pl) (thn (he pins s σ H _ I h) fun u s1 ⟨x,H1,I1,rx,a,dx,fs,ex,ea,l,q⟩=>?_) ht
 subst ex
 obtain rfl:u=Value.ref a:=rx
 refine XE I1 ea c hm l ?_
 refine PySem.W.callWith_K (first:=[.ref a]) (h₀:=X.base) I.ok.mod.kin hm.kp (thn (ha pos pins s1 σ H1 _ I1 q) fun us s2 ⟨vs,H2,I2,r,q2⟩=>⟨I2.kIn,?_⟩) hst hpl
 exact AP_ (us:=.ref a::us) (vs:=.ref a::vs) F hr hb hd hx I2 (.cons rfl r) q2
def AM  (he:PE X o ta)(c:Cls X.K C)(hm:Meth X.K C m f)(F:FnOk X.prog X.w X.K X.mg X.base CX k f fd ps sp)(hr:Room k X.A)(hb:Au X.K fd ps ds)(hd:Vals dvs ds)(hx:Mn CX X E)
  (ht:eval (.Call (.Attribute o m apos) [] [] pos) X.env=(do
   let ov <- eval o X.env
   standAt apos.atName
   let (f,first) <- holding [ov] (getMethod ov m pl)
   callWith pos f first (backTo pos (starEach [] X.env)) (backToKw pos (keywordEach [] X.env))):=by rfl):
  PE X (.Call (.Attribute o m apos) [] [] pos) (KQ_ C m sp dvs E ta tNil):=by
 intro pins s σ H Q I h
 refine PySem.W.methodCall_KW (pl:=pl) (thn (he pins s σ H _ I h) fun u s1 ⟨x,H1,I1,rx,a,dx,fs,ex,ea,l,q⟩=>?_) ht
 subst ex
 obtain rfl:u=Value.ref a:=rx
 refine XE I1 ea c hm l ?_
 exact PySem.W.callWith_K0 (first:=[.ref a]) I1.kIn hm.kp (AP_ (us:=[.ref a]) (vs:=[.ref a]) F hr hb hd hx I1 (.cons rfl .nil) q)
structure Mk (K:PySem.W.Frag)(C f:Addr):Prop where
 makes:PySem.W.makesIn K C=true
 init:PySem.W.findIn K (.ref C) "__init__"=some (some (.ref f))
 fn:PySem.W.isFn K (.ref f)=true
 kp:PySem.W.keepIn K (.ref C)=true
def Iy_        (M:Mk X.K C f)(F:FnOk X.prog X.w X.K X.mg X.base CX k f fd ps sp)(hr:Room (k+1) X.A)(hb:Au X.K fd ps ds)(hd:Vals dvs ds)
  (hx:Mn CX X E) (I:Inv X pins σ H s) (r:Vals vs us)
  (h:∀x dx,H x=none->H dx=none->dx≠x->sp (.ref x::(vs++dvs)) (upd (upd H dx (.own x)) x (.ins C dx [])) (fun v H2=>v=.non/\Q (.ref x) H2) E):
  wpAny (model X.prog X.w) X.A (call (.ref C) us) (EP X pins σ Q) X.xe s:=by
 have hq:=h (s.heap.objs.size+1) s.heap.objs.size (I.hok.fresh (Nat.le_succ _)) (I.hok.fresh (Nat.le_refl _)) (Nat.ne_of_lt (Nat.lt_succ_self _))
 have I2:=Inv.made (C:=C) I
 have r2:Vals (V.ref (s.heap.objs.size+1)::(vs++dvs)) (Value.ref (s.heap.objs.size+1)::(us++ds)):=.cons rfl (r.append hd)
 have hl:(Value.ref (s.heap.objs.size+1)::us++ds).length=ps.length:=by
  have e:=r2.length
  rw[F.len _ _ _ _ hq]at e
  exact e.symm
 refine wpAny_call (Ix_ (f:=f) I.kIn M.makes M.init (beq_iff_eq.mp M.fn) (codeAny_mono (F.run _ X.stack _ _ ⟨Value.ref (s.heap.objs.size+1)::us,[]⟩ (Value.ref (s.heap.objs.size+1)::(us++ds)) _ _ E (hr.make C us [])
  (I2.env0.make C us []) (hb _ (Value.ref (s.heap.objs.size+1)::us) I2.kIn hl) r2 hq) fun r s' hq'=>?_))
 cases r with
 |error e=>exact hx pins σ _ _ e s' I2 hq'
 |ok fl=>
  cases fl with
  |ret u=>
   obtain⟨v,H',I3,rv,ev,q3⟩:=I2.after hq'
   subst ev
   exact⟨rv,⟨V.ref (s.heap.objs.size+1),H',I3,rfl,q3⟩⟩
  |next=>exact False.elim hq'
  |brk=>exact False.elim hq'
  |cont=>exact False.elim hq'
def CY_ (M:Mk X.K C f)(F:FnOk X.prog X.w X.K X.mg X.base CX k f fd ps sp)(hr:Room (k+1) X.A)(hg:Gl X x)(hm:X.mg x=some (.ref C))(hb:Au X.K fd ps ds)(hd:Vals dvs ds)(hx:Mn CX X E)
  (ha:PA X (e::es) t) (hdb:(x==("__debug__" : Str))=false:=by decide) (he:starEach (e::es) X.env=(false,eval e X.env)::starEach es X.env:=by rfl) (hpl:(backTo pos (starEach es X.env)).any (·.1)=false:=by rfl):
  PE X (.Call (.Name x p) (e::es) [] pos) (LY_ C sp dvs E t):=by
 intro pins s σ H Q I h
 refine wpAny_Call_Name_kw (U0 I hg hm ?_ hdb)
 refine PySem.W.callWith_K (h₀:=X.base) I.ok.mod.kin M.kp (thn (ha pos pins s σ H _ I h) fun us s1 ⟨vs,H1,I1,r,q⟩=>⟨I1.kIn,?_⟩) he hpl
 exact Iy_ M F hr hb hd hx I1 r q
end
structure FnScope (N P:List Str)(sc:Scope):Prop where
 kind:sc.kind=.function
 co:sc.isCoroutine=false
 gen:sc.isGenerator=false
 nd:N.Nodup
 pre:N.take P.length=P
 par:∀x∈P,sc.names.lookup x=some .local\/sc.names.lookup x=some .cell
 nofree:∀y∈sc.names,y.2 ≠ .free
def AQ_ {kindOf:Str->Option NameKind}{x:Str}:∀{binds:List (Str×Value)} {m:Str->Option Value},(∀v,(x,v)∉binds)->bindL kindOf binds m x=m x
 |[],_,_=>rfl
 | (n,v)::r,m,h=>by
  unfold bindL
  rw[AQ_ fun w hw=>h w (List.mem_cons_of_mem _ hw)]
  split
  ·have:x≠n:=by rintro rfl;exact h v List.mem_cons_self
   simp[this]
  ·rfl
def AR_ {kindOf:Str->Option NameKind}{x:Str}:∀{binds:List (Str×Value)} {m:Str->Option Value},(∀v,(x,v)∉binds)->bindC kindOf binds m x=m x
 |[],_,_=>rfl
 | (n,v)::r,m,h=>by
  unfold bindC
  rw[AR_ fun w hw=>h w (List.mem_cons_of_mem _ hw)]
  split
  ·rfl
  ·have:x≠n:=by rintro rfl;exact h v List.mem_cons_self
   simp[this]
def AS_ {kindOf:Str->Option NameKind}{x:Str}{v:Value}:∀{P:List Str} {vs:List Value} {i:Nat} {m:Str->Option Value},P.Nodup->P[i]?=some x->vs[i]?=some v->kindOf x=some .local ->
  bindL kindOf (P.zip vs) m x=some v
 |[],_,_,_,_,h,_,_=>by simp at h
 |_::_,[],_,_,_,_,h,_=>by simp at h
 |p::P,w::vs,0,m,nd,h1,h2,hk=>by
  simp at h1 h2;subst h1;subst h2
  show bindL kindOf ((p,w)::P.zip vs) m p=_
  unfold bindL
  rw[AQ_ fun v hv=>(List.nodup_cons.mp nd).1 (List.of_mem_zip hv).1,if_pos hk]
  simp
 |p::P,w::vs,i+1,m,nd,h1,h2,hk=>by
  show bindL kindOf ((p,w)::P.zip vs) m x=_
  unfold bindL
  exact AS_ (i:=i) (List.nodup_cons.mp nd).2 (by simpa using h1) (by simpa using h2) hk
def AT_ {kindOf:Str->Option NameKind}{x:Str}{v:Value}:∀{P:List Str} {vs:List Value} {i:Nat} {m:Str->Option Value},P.Nodup->P[i]?=some x->vs[i]?=some v->kindOf x≠some .local ->
  bindC kindOf (P.zip vs) m x=some v
 |[],_,_,_,_,h,_,_=>by simp at h
 |_::_,[],_,_,_,_,h,_=>by simp at h
 |p::P,w::vs,0,m,nd,h1,h2,hk=>by
  simp at h1 h2;subst h1;subst h2
  show bindC kindOf ((p,w)::P.zip vs) m p=_
  unfold bindC
  rw[AR_ fun v hv=>(List.nodup_cons.mp nd).1 (List.of_mem_zip hv).1,if_neg hk]
  simp
 |p::P,w::vs,i+1,m,nd,h1,h2,hk=>by
  show bindC kindOf ((p,w)::P.zip vs) m x=_
  unfold bindC
  exact AT_ (i:=i) (List.nodup_cons.mp nd).2 (by simpa using h1) (by simpa using h2) hk
noncomputable def start (N:List Str)(vs:List V):St:=vs.map some++List.replicate (N.length-vs.length) none
noncomputable def cxOf (CX:CXT)(P:Program)(w:World)(K:PySem.W.Frag)(mg:Str->Option Value)(base:Heap)(N:List Str)(qual:Str)(scope:Scope)(f:Addr)(cd:Value)(A:Around)(outer:List Env)(s:Shared)(H:Hp)(E:XK):Cx where
 prog:=P
 w:=w
 K:=K
 mg:=mg
 base:=base
 A:=A.deeper (envOfC qual scope s.heap.objs.size f cd)
 N:=N
 s₀:=s
 H₀:=H
 env:=envOfC qual scope s.heap.objs.size f cd
 outer:=outer
 stack:=envOfC qual scope s.heap.objs.size f cd::outer
 ex:=[]
 calm:=true
 fn:=fun _=>true
 pn:=[]
 xe:=fun e s'=>wpAny (model P w) (A.deeper (envOfC qual scope s.heap.objs.size f cd)) (leaving (envOfC qual scope s.heap.objs.size f cd) e) (fun _ s''=>CX outer H s E e s'') (fun e' s''=>CX outer H s E e' s'') s'
def Eu_ {sc:Scope}{n:Nat}{x:Str}(h:sc.names.lookup x=some .cell):∃c,(cellsFrom n sc.names []).lookup x=some c:=by
 have q:=PySem.W.cellsFrom_some sc.names n [] (.inl h)
 exact Option.isSome_iff_exists.mp q
def GE_    {K:PySem.W.Frag}
  (S:FnScope N ps scope) (hd:A.handled=none) (e0:Env0 P w K mg base A outer s H) (hl:vs.length=ps.length) (r:Vals vs us)
  (x:InCallC s s.heap.objs.size (bindL (envOfC qual scope s.heap.objs.size f cd).kindOf (ps.zip us) fun _=>none) (cellsFrom (s.heap.objs.size+1) scope.names []) (bindC (envOfC qual scope s.heap.objs.size f cd).kindOf (ps.zip us) fun _=>none) s1):
  Inv (cxOf CX P w K mg base N qual scope f cd A outer s H E) [] (start N vs) H s1:=by
 have hpl:ps.length<=N.length:=by have:=congrArg List.length S.pre;rw[List.length_take]at this;lia
 obtain⟨h1,tk,rfl,hk⟩:=x.done
 have noA:∀b:Addr,b∉(cxOf CX P w K mg base N qual scope f cd A outer s H E).ex:=fun b z=>absurd (show b∈([]:List Addr) from z) (by simp)
 refine⟨⟨e0.mod,S.kind,rfl,rfl,Nat.le_refl _,fun y z c h1 h2=>?_,fun y hy=>?_,fun y c _ h=>?_,fun _=>hd,Around.frames_deeper e0.frames,.inr ⟨rfl,rfl⟩,fun b z=>absurd z (noA b),e0.bs,e0.bsz,fun b _ _=>noA b,fun b z=>absurd z (noA b),e0.funs,e0.frf⟩,
  rfl,e0.bare,Un.kept hk,⟨_,x.toInCall.ns,fun i y v h1 h2 h3=>?_⟩,fun y c h=>⟨_,x.cell y c h⟩,e0.hok.fresh (Nat.le_refl _),fun y c h=>?_,fun p hp=>absurd (show p∈([]:List (Addr×Obj)) from hp) (by simp),e0.hok.kept hk,?_⟩
 ·exact name_of_addr x.apart (PySem.mem_of_lookup h1) (PySem.mem_of_lookup h2)
 ·have hy:scope.names.lookup y=some .cell\/scope.names.lookup y=some .free:=hy
  rcases hy with hy|hy
  ·exact Eu_ hy
  ·exact absurd rfl (S.nofree _ (PySem.mem_of_lookup hy))
 ·exact Nat.le_of_lt (x.above y c (PySem.mem_of_lookup h))
 ·have hi:i<vs.length:=by
   unfold start at h2
   by_cases hi:i<vs.length
   ·exact hi
   ·rw[List.getElem?_append_right (by simpa using hi)]at h2
    rw[List.getElem?_replicate]at h2
    split at h2<;>cases h2
  have ha:vs[i]?=some v:=by
   unfold start at h2
   rw[List.getElem?_append_left (by simpa using hi),List.getElem?_map]at h2
   cases e:vs[i]? with
   |none=>rw[e]at h2;cases h2
   |some a=>rw[e]at h2;cases h2;rfl
  obtain⟨u,hu,rv⟩:=r.get ha
  have hp:ps[i]?=some y:=by
   rw[<-S.pre,List.getElem?_take_of_lt s!""];exact h1
  have ndP:ps.Nodup:=by rw[<-S.pre];exact S.nd.sublist (List.take_sublist _ _)
  refine⟨u,rv,?_⟩
  rcases S.par y (List.mem_of_getElem? hp) with k|k
  ·exact .inl ⟨k,AS_ ndP hp hu k⟩
  ·obtain⟨c,e⟩:=Eu_ (n:=s.heap.objs.size+1) k
   refine .inr ⟨.inl k,c,e,?_⟩
   have q:=x.cell y c e
   rw[AT_ ndP hp hu (by show scope.names.lookup y≠_;rw[k];decide)]at q
   exact q
 ·exact e0.hok.fresh (Nat.le_of_lt (x.above y c (PySem.mem_of_lookup h)))
 ·unfold start
  show _=N.length
  rw[List.length_append,List.length_map,List.length_replicate]
  lia
def LZ_    {K:PySem.W.Frag}         {dV kV doc pm cdv ct oc:Value}
       (lk:K.lookup f=some ⟨oc,od,.func (PySem.W.fnOf name qual params body scope dV kV doc pm an cdv ct),osl⟩) (hcd:PySem.W.codeIn K cdv qual=true) (S:FnScope N ps scope)
    (len:∀vs H Q E,sp vs H Q E->vs.length=ps.length)
    (hbody:∀(A:Around) (outer:List Env) (s:Shared) (H:Hp) (vs:List V) (Q:VK) (E:XK),Room k (A.deeper (envOfC qual scope s.heap.objs.size f cdv))->sp vs H Q E ->
      ∃t,PSs (cxOf CX P w K mg base N qual scope f cdv A outer s H E) body t/\t {nx:=fun _ H'=>Q .non H',rt:=Q} (start N vs) H):
    FnOk P w K mg base CX (k+1) f (PySem.W.fnOf name qual params body scope dV kV doc pm an cdv ct) ps sp:=by
  refine⟨len,fun A outer s H args us vs Q E hr e0 hb r hsp=>?_⟩
  have hl:=len _ _ _ _ hsp
  have KX:K.In s.heap:=e0.mod.kin.keeps fun b o e=>(e0.bs b o e).1
  have lim:s.heap.NoLimit:=e0.mod.nolimit.keeps fun b o e=>(e0.bs b o e).1
  have hkind:∀y∈ps.zip us,scope.names.lookup y.1=some .local\/(scope.names.lookup y.1=some .cell/\((cellsFrom (s.heap.objs.size+1) scope.names []).lookup y.1).isSome=true):=fun ⟨n,v⟩ hy=>by
    rcases S.par n (List.of_mem_zip hy).1 with q|q
    . exact .inl q
    . exact .inr ⟨q,PySem.W.cellsFrom_some _ _ _ (.inl q)⟩
  refine codeAny_call_function hr.depth (KX _ _ lk) rfl S.co S.gen rfl (PySem.W.codeRec_of KX hcd) (hb _ _ _ _ ?_)
  refine wpAny_newFunctionEnv_cells S.kind hkind fun env he s1 x=>?_
  subst he
  refine⟨lim.keeps x.toInCall.keep,codeAny_func ?_⟩
  obtain⟨t,ht,hq⟩:=hbody A outer s H vs Q E (hr.deeper _) hsp
  have I:Inv (cxOf CX P w K mg base N qual scope f cdv A outer s H E) [] (start N vs) H s1:=GE_ S hr.hd e0 hl r x
  refine wpAny_mono (ht [] s1 (start N vs) H _ I hq) (fun fl s' hs=>?_) fun e s' hs=>hs
  have fin:∀{σ':St} {H':Hp} {v:V} {u:Value},Inv (cxOf CX P w K mg base N qual scope f cdv A outer s H E) [] σ' H' s'->RelV v u->Q v H'->CE outer P w H s Q u s' :=
    fun {σ' H' v u} J rv q=>⟨v,H',J.os,J.bare,J.base,J.hok,rv,q⟩
  cases fl with
  |ret u=>
    obtain⟨v,σ',H',J,rv,q⟩:=hs
    exact fin J rv q
  |next=>
    obtain⟨σ',H',J,q⟩:=hs
    exact fin (v:=V.non) (u:=Value.none) J rfl q
  |brk=>
    obtain⟨_,_,_,q⟩:=hs
    exact False.elim q
  |cont=>
    obtain⟨_,_,_,q⟩:=hs
    exact False.elim q
end L2
namespace L2
open PySem PySem.Spec PyProof.Rows
section
variable {X:Cx} {x:Str} {p pos:Pos} {e:Expr} {es:List Expr} {t:TA} {id T:String} {r:List V->Hp->VK->Prop}
noncomputable def tCB (r:List V->Hp->VK->Prop)(t:TA):TE:=fun σ H Q=>t σ H fun vs H1=>r vs H1 Q
def AG (hc:Oj X (.builtin id) r)(hg:Gl X x)(hm:X.mg x=none)(hv:bootBuiltins x=some (.builtin id))(ha:PA X (e::es) t)(hn:x ≠ "__name__" := by decide)(hdb:(x==("__debug__" : Str))=false:=by decide)
  (he:starEach (e::es) X.env=(false,eval e X.env)::starEach es X.env:=by rfl) (hpl:(backTo pos (starEach es X.env)).any (·.1)=false:=by rfl):PE X (.Call (.Name x p) (e::es) [] pos) (tCB r t):=by
 intro pins s σ H Q I h
 refine wpAny_Call_Name_kw (U1 I hg hm hv ?_ hn hdb)
 exact PyProof.Rows.callWith_builtin1 (thn (ha pos pins s σ H _ I h) fun us s1 ⟨vs,H1,I1,r1,q1⟩=>hc pins s1 σ H1 vs us Q I1 r1 q1) he hpl
def Ci (hc:Oj X (.type T) r)(hg:Gl X x)(hm:X.mg x=none)(hv:bootBuiltins x=some (.type T))(ha:PA X (e::es) t)(hn:x ≠ "__name__" := by decide)(hdb:(x==("__debug__" : Str))=false:=by decide)
  (he:starEach (e::es) X.env=(false,eval e X.env)::starEach es X.env:=by rfl) (hpl:(backTo pos (starEach es X.env)).any (·.1)=false:=by rfl):PE X (.Call (.Name x p) (e::es) [] pos) (tCB r t):=by
 intro pins s σ H Q I h
 refine wpAny_Call_Name_kw (U1 I hg hm hv ?_ hn hdb)
 exact PyProof.Rows.callWith_type1 (thn (ha pos pins s σ H _ I h) fun us s1 ⟨vs,H1,I1,r1,q1⟩=>hc pins s1 σ H1 vs us Q I1 r1 q1) he hpl
end
end L2
namespace HT
open PySem PyProof.Rows
section
variable {prog:Program} {w:World} {A:Around} {E:Value->Shared->Prop} {s:Shared}
def cat_tup    (ht:IsTup s.heap t vs.toArray)(hb:IsTup s.heap b ws.toArray)(hv:vs ≠ [])
  (h1:ws=[]->Q (.ref t) s) (h2:ws ≠ []->Q (.ref s.heap.objs.size) {s with heap:=s.heap.push {cls:=.type "tuple",data:=.seq (vs++ws).toArray} })
  (hsz:vs.length+ws.length<=sizeLine):wpAny (model prog w) A (binaryOp .Add (.ref t) (.ref b)) Q E s:=by
 obtain⟨⟨cls,dd,data,sl⟩,ho,hc,n,hd⟩:=id ht
 obtain⟨⟨cls2,dd2,data2,sl2⟩,ho2,hc2,n2,hd2⟩:=id hb
 simp only at hc hd hc2 hd2
 subst hc hd hc2 hd2
 have e:vs.toArray++ws.toArray=(vs++ws).toArray:=by simp
 by_cases hw:ws=[]
 ·exact concat_meets ⟨_,ho,rfl⟩ ⟨_,ho2,rfl⟩ noFill_tuple_add seq_tuple_add PySem.F.slot_tuple_add PySem.F.entry_tuple_add (PySem.F.args_tuple_add_2 _ _)
   (tuple_addW1 t b vs.toArray ws.toArray n n2 dd dd2 sl sl2 (by simpa using hv) (by simp[hw])) ⟨ho,ho2,h1 hw⟩
 ·refine concat_meets ⟨_,ho,rfl⟩ ⟨_,ho2,rfl⟩ noFill_tuple_add seq_tuple_add PySem.F.slot_tuple_add PySem.F.entry_tuple_add (PySem.F.args_tuple_add_2 _ _)
   (tuple_addW2 t b vs.toArray ws.toArray n n2 dd dd2 sl sl2 (by simpa using hv) (by simpa using hw) (by rw[List.size_toArray,List.size_toArray];exact hsz)) ⟨ho,ho2,?_⟩
  rw[e]
  exact h2 hw
noncomputable def sIx (n d:Nat):Option Int->Nat
 |none=>d
 |some v=>if v<0 then (v+(n:Int)).toNat else min v.toNat n
def sIx_none (n d:Nat):sIx n d none=d:=rfl
def sIx_nat (n d k:Nat):sIx n d (some (k:Int))=min k n:=by
 show (if (k:Int)<0 then ((k:Int)+(n:Int)).toNat else min (k:Int).toNat n)=min k n
 rw[if_neg s!"",Int.toNat_natCast]
def Ma_ (n d:Nat)(hd:d<=n)(o:Option Int):sIx n d o<=n:=by
 cases o with
 |none=>exact hd
 |some v=>
  show (if v<0 then (v+(n:Int)).toNat else min v.toNat n)<=n
  by_cases hv:v<0
  ·rw[if_pos hv];lia
  ·rw[if_neg hv];exact Nat.min_le_right _ _
def GF_ (v:Int)(n d:Nat):(if v<0 then max (v+(n:Int)) 0 else min v (n:Int))=((sIx n d (some v):Nat):Int):=by
 show (if v<0 then max (v+(n:Int)) 0 else min v (n:Int))=(((if v<0 then (v+(n:Int)).toNat else min v.toNat n):Nat):Int)
 by_cases hv:v<0
 ·simp only[if_pos hv];lia
 ·simp only[if_neg hv];lia
def Fq_ (lo hi:Option Int)(n:Nat):Builtin.Slice.sliceAdjust lo hi 1 (n:Int)=(((sIx n 0 lo:Nat):Int),((sIx n n hi:Nat):Int)):=by
 have h1:¬ ((1:Int)<0):=by lia
 unfold Builtin.Slice.sliceAdjust
 simp only[h1,if_false]
 refine Prod.ext ?_ ?_
 ·cases lo with
  |none=>rfl
  |some v=>exact GF_ v n 0
 ·cases hi with
  |none=>rfl
  |some v=>exact GF_ v n n
def Fr_ (i j:Nat):Builtin.Slice.slicePlaces (i:Int) (j:Int) 1=j-i:=by
 unfold Builtin.Slice.slicePlaces
 have h1:(1:Int) > 0:=by lia
 simp only[h1,if_true,Int.ediv_one]
 split<;>lia
def XF    (p:IsPart v o)(h:Q o s):wpAny (model prog w) A (Builtin.Slice.slicePartIndex v) Q E s:=by
 cases p with
 |none=>exact slicePart_none h
 |int i t=>exact slicePart_int h
def Lr {sl:Addr}{vl vu:Value}{lo hi:Option Int}{n:Nat}{Q:Int×Int×Nat->Shared->Prop}(hs:s.heap.IsSliceOf sl vl vu .none)(pl:IsPart vl lo)(pu:IsPart vu hi)
  (h:Q (((sIx n 0 lo:Nat):Int),1,sIx n n hi-sIx n 0 lo) s):wpAny (model prog w) A (Builtin.Slice.sliceApplied (.ref sl) (pure (n:Int))) Q E s:=by
 obtain⟨os,hos,hcs,hds⟩:=id hs
 unfold Builtin.Slice.sliceApplied Builtin.Slice.sliceFields
 refine wpAny_bind (wpAny_bind (wpAny_field hos hds (x:=vl) rfl (wpAny_bind (wpAny_field hos hds (x:=vu) rfl (wpAny_bind (wpAny_field hos hds (x:=.none) rfl (wpAny_pure ?_)))))))
 refine wpAny_bind (slicePart_none ?_)
 show wpAny _ _ (if ((1:Int)==0)=true then _ else _) _ _ s
 rw[if_neg (by decide)]
 refine wpAny_bind (XF pl (wpAny_bind (XF pu (wpAny_bind (wpAny_pure ?_)))))
 show wpAny _ _ (match Builtin.Slice.sliceAdjust lo hi 1 (n:Int) with|(lo,hi)=>pure (lo,(1:Int),Builtin.Slice.slicePlaces lo hi 1)) _ _ s
 rw[Fq_ lo hi n]
 show wpAny _ _ (pure (((sIx n 0 lo:Nat):Int),(1:Int),Builtin.Slice.slicePlaces ((sIx n 0 lo:Nat):Int) ((sIx n n hi:Nat):Int) 1)) _ _ s
 rw[Fr_]
 exact wpAny_pure h
def Iz_ (xs:Array Value)(i k:Nat):((List.range k).filterMap fun (m:Nat)=>xs[((i:Int)+(m:Int)*1).toNat]?).toArray=((xs.toList.drop i).take k).toArray:=by
 have e:(fun (m:Nat)=>xs[((i:Int)+(m:Int)*1).toNat]?)=fun m=>xs[i+m]?:=by
  funext m
  have:((i:Int)+(m:Int)*1).toNat=i+m:=by lia
  rw[this]
 rw[e]
 have:=pick_run xs i k
 rw[List.filterMap_map]at this
 have e2:((fun x=>xs[x]?) ∘ fun x=>i+x)=fun m=>xs[i+m]?:=rfl
 rw[e2]at this
 rw[this]
def getItem_tuple_cut {t sl:Addr}   {lo hi:Option Int}  (ht:IsTup s.heap t items)(hs:s.heap.IsSliceOf sl vl vu .none)(pl:IsPart vl lo)(pu:IsPart vu hi)
  (hw:¬ (sIx items.size 0 lo=0/\sIx items.size items.size hi=items.size))
  (h:Q (.ref s.heap.objs.size) {s with heap:=s.heap.push {cls:=.type "tuple",data:=.seq ((items.toList.drop (sIx items.size 0 lo)).take (sIx items.size items.size hi-sIx items.size 0 lo)).toArray} })
  (hsz:items.size<=sizeLine):wpAny (model prog w) A (getItem (.ref t) (.ref sl)) Q E s:=by
 have htake:sizeOk (.seq ((items.toList.drop (sIx items.size 0 lo)).take (sIx items.size items.size hi-sIx items.size 0 lo)).toArray):=by
  show ((items.toList.drop (sIx items.size 0 lo)).take (sIx items.size items.size hi-sIx items.size 0 lo)).toArray.size<=sizeLine
  rw[List.size_toArray,List.length_take,List.length_drop,Array.length_toList]
  lia
 have hj:sIx items.size items.size hi<=items.size:=Ma_ _ _ (Nat.le_refl _) hi
 obtain⟨os,hos,hcs,hds⟩:=id hs
 have hTs:s.TypeIs (.ref sl) "slice" := ⟨os,hos,hcs⟩
 unfold getItem
 try with_reducible refine wpAny_holding ?_
 first|refine wpAny_bind (wpAny_pure ?_)|skip
 refine wpAny_bind (wpAny_sequenceKey ht.typeIs (by decide) ?_)
 refine wpAny_bind (wpAny_callSpecial?_slot (name:=Str.ofString "__getitem__") ht.typeIs PyProof.Rows.slot_tuple_getitem
  (wpAny_call_entry PyProof.Rows.slot_tuple_getitem ht.typeIs entry_tuple_getitem ?_ (args_tuple_getitem _ _)))
 show wpAny _ _ (Builtin.Tuple.tupleItemsOf (.ref t) >>= _) _ _ s
 refine wpAny_bind (tupleItemsOf_ ht ?_)
 refine wpAny_bind (wpAny_typeOf hTs ?_)
 rw[if_pos (by decide)]
 refine wpAny_bind (Lr hs pl pu ?_)
 have hno:¬ ((((sIx items.size 0 lo:Nat):Int)==0&&(1:Int)==1&&(sIx items.size items.size hi-sIx items.size 0 lo)==items.size)=true):=by
  intro q
  rw[Bool.and_eq_true,Bool.and_eq_true]at q
  have q1:((sIx items.size 0 lo:Nat):Int)=0:=eq_of_beq q.1.1
  have q2:sIx items.size items.size hi-sIx items.size 0 lo=items.size:=eq_of_beq q.2
  exact hw ⟨by lia,by lia⟩
 show wpAny _ _ (if (((sIx items.size 0 lo:Nat):Int)==0&&(1:Int)==1&&(sIx items.size items.size hi-sIx items.size 0 lo)==items.size)=true then _ else _) _ _ s
 rw[if_neg hno,Iz_]
 first
  | exact wpAny_bind (m:=Builtin.Tuple.tupleExact _) (wpAny_newObj_type (wpAny_pure ⟨_,rfl,wpAny_pure h⟩) htake)
  | exact wpAny_bind (m:=Builtin.Tuple.tupleExact _) (wpAny_newObj_type (wpAny_bind (wpAny_pure (wpAny_pure ⟨_,rfl,wpAny_pure h⟩))) htake)
  | exact wpAny_bind (wpAny_bind (m:=Builtin.Tuple.tupleExact _) (wpAny_newObj_type (wpAny_pure (wpAny_pure ⟨_,rfl,wpAny_pure h⟩)) htake))
  | exact wpAny_bind (wpAny_bind (m:=Builtin.Tuple.tupleExact _) (wpAny_newObj_type (wpAny_pure ⟨_,rfl,wpAny_pure h⟩) htake))
end
end HT
namespace L2
open PySem PySem.Spec PyProof.Rows
noncomputable abbrev TO:=St->Hp->(Option Int->Hp->Prop)->Prop
noncomputable def PO (X:Cx)(e:Option Expr)(t:TO):Prop:=
 ∀(pins:List (Addr×Obj)) (s:Shared) (σ:St) (H:Hp) (Q:Option Int->Hp->Prop),Inv X pins σ H s->t σ H Q ->
  wpAny (model X.prog X.w) X.A (evalPart e X.env) (fun u s'=>∃o H',Inv X pins σ H' s'/\IsPart u o/\Q o H') X.xe s
noncomputable def GG_:TO:=fun _ H Q=>Q none H
noncomputable def Mb_ (t:TE):TO:=fun σ H Q=>t σ H fun x H1=>∃i,x=.int i/\Q (some i) H1
section
variable {X:Cx} {e:Expr} {te:TE} {lo hi:Option Expr} {tl th:TO} {pos p2:Pos}
def Hk:PO X none GG_:=by
 intro pins s σ H Q I h
 rw[evalPart_none]
 exact wpAny_pure ⟨none,H,I,.none,h⟩
def Hl (h:PE X e te):PO X (some e) (Mb_ te):=by
 intro pins s σ H Q I hw
 rw[evalPart_some]
 refine thn (h pins s σ H _ I hw) fun u s1 ⟨x,H1,I1,r1,q1⟩=>?_
 obtain⟨i,rfl,q⟩:=q1
 obtain⟨t,rfl⟩:=r1
 exact⟨some i,H1,I1,.int i t,q⟩
noncomputable def SlR (X:Cx)(r:V->Option Int->Option Int->Hp->VK->Prop):Prop:=
 ∀(pins:List (Addr×Obj)) (s:Shared) (σ:St) (H:Hp) (x:V) (v vl vu:Value) (lo hi:Option Int) (sl:Addr) (Q:VK),Inv X pins σ H s->RelV x v->s.heap.IsSliceOf sl vl vu .none->IsPart vl lo->IsPart vu hi->r x lo hi H Q ->
  ∃T id,typeLookup (.type T) "__getitem__"=pure (some (.builtin id))/\s.TypeIs v T/\wpAny (model X.prog X.w) X.A (getItem v (.ref sl)) (EP X pins σ Q) X.xe s
noncomputable def tSl (r:V->Option Int->Option Int->Hp->VK->Prop)(te:TE)(tl th:TO):TE:=fun σ H Q=>te σ H fun x H1=>tl σ H1 fun l H2=>th σ H2 fun u H3=>r x l u H3 Q
def FK  (hr:SlR X r)(he:PE X e te)(hl:PO X lo tl)(hu:PO X hi th):PE X (.Subscript e (.Slice lo hi none p2) pos) (tSl r te tl th):=by
 intro pins s σ H Q I h
 refine Subscript_ (thn (he pins s σ H _ I h) fun v s1 ⟨x,H1,I1,r1,q1⟩=>?_)
 refine wpAny_Slice (thn (hl pins s1 σ H1 _ I1 q1) fun vl s2 ⟨l,H2,I2,pl,q2⟩=>thn (hu pins s2 σ H2 _ I2 q2) fun vu s3 ⟨u,H3,I3,pu,q3⟩=>?_)
 rw[evalPart_none]
 refine wpAny_pure ?_
 have I4:Inv X pins σ H3 {s3 with heap:=s3.heap.push {cls:=.type "slice",data:=.fields #[vl,vu,.none]} }:=I3.kept (t':=s3.toks) fun b ob q=>Heap.get?_push_of_some _ q
 obtain⟨T,id,hT,ht,hg⟩:=hr pins {s3 with heap:=s3.heap.push {cls:=.type "slice",data:=.fields #[vl,vu,.none]} } σ H3 x v vl vu l u s3.heap.objs.size Q I4 r1 (Heap.IsSliceOf.new ..) pl pu q3
 show wpAny (model X.prog X.w) X.A (subscriptTail e (.Slice lo hi none p2) v (.ref s3.heap.objs.size)) (EP X pins σ Q) X.xe {s3 with heap:=s3.heap.push {cls:=.type "slice",data:=.fields #[vl,vu,.none]} }
 exact tail_any (ops:=[.ref s3.heap.objs.size,v]) ht hT hg (by with_unfolding_all rfl)
noncomputable def cutV (xs:List V)(lo hi:Option Int):List V:=(xs.drop (HT.sIx xs.length 0 lo)).take (HT.sIx xs.length xs.length hi-HT.sIx xs.length 0 lo)
def U4 (xs:List V)(lo hi:Option Int):(cutV xs lo hi).length<=xs.length:=by
 unfold cutV
 rw[List.length_take,List.length_drop]
 lia
noncomputable def rSlT (K:PySem.W.Frag):V->Option Int->Option Int->Hp->VK->Prop:=fun x lo hi H Q=>∃a xs,x=.ref a/\SqT K H a xs /\
 ¬ (HT.sIx xs.length 0 lo=0/\HT.sIx xs.length xs.length hi=xs.length)/\∀p,H p=none->Q (.ref p) (upd H p (.tup (cutV xs lo hi)))
def GH_:SlR X (rSlT X.K):=by
 intro pins s σ H x v vl vu lo hi sl Q I rx hs pl pu h
 obtain⟨a,xs,rfl,hx,hw,q⟩:=h
 cases rx
 obtain⟨its,r,ht,hz⟩:=I.tuple hx
 have hlen:its.toArray.size=xs.length:=by rw[List.size_toArray];exact r.length.symm
 refine⟨"tuple",_,PyProof.Rows.slot_tuple_getitem.lookup,ht.typeIs,?_⟩
 refine HT.getItem_tuple_cut ht hs pl pu (by rw[hlen];exact hw) ?_ (by rw[hlen];exact hz)
 rw[hlen]
 refine⟨.ref s.heap.objs.size,_,I.laid (t':=s.toks) (o:=.tup (cutV xs lo hi)) (fun b ob q=>Heap.get?_push_of_some _ q) (Nat.le_refl _) ?_,rfl,q _ (I.hok.fresh (Nat.le_refl _))⟩
 exact⟨Nat.le_trans (U4 xs lo hi) hz,_,(r.drop (HT.sIx xs.length 0 lo)).take (HT.sIx xs.length xs.length hi-HT.sIx xs.length 0 lo),IsTup.new _ _⟩
noncomputable def Np_ (K:PySem.W.Frag):R2:=fun x y H Q=>∃a b xs ys,x=.ref a/\y=.ref b/\SqT K H a xs/\SqT K H b ys/\xs ≠ []/\xs.length+ys.length<=sizeLine /\
 (ys=[]->Q (.ref a) H)/\(ys ≠ []->∀p,H p=none->Q (.ref p) (upd H p (.tup (xs++ys))))
def Vals.nil_iff   (r:Vals xs us):us=[]↔xs=[]:=by
 cases r with
 |nil=>simp
 |cons _ _=>simp
def KR_:OpR X (binaryOp .Add) (Np_ X.K):=by
 intro pins s σ H x y v u Q I rx ry h
 obtain⟨a,b,xs,ys,rfl,rfl,ha,hb,hx,hz,q1,q2⟩:=h
 cases rx
 cases ry
 obtain⟨its,r1,p1,_⟩:=I.tuple ha
 obtain⟨its2,r2,p2,_⟩:=I.tuple hb
 refine HT.cat_tup p1 p2 (fun z=>hx (r1.nil_iff.mp z)) (fun z=>⟨.ref a,H,I,rfl,q1 (r2.nil_iff.mp z)⟩) (fun z=>?_) (by rw[<-r1.length,<-r2.length];exact hz)
 refine⟨.ref s.heap.objs.size,_,I.laid (t':=s.toks) (o:=.tup (xs++ys)) (fun b ob q=>Heap.get?_push_of_some _ q) (Nat.le_refl _) ?_,rfl,q2 (fun w=>z (r2.nil_iff.mpr w)) _ (I.hok.fresh (Nat.le_refl _))⟩
 exact⟨by rw[List.length_append];exact hz,_,r1.append r2,IsTup.new _ _⟩
end
end L2
namespace L2
open PySem PySem.Spec PyProof.Rows
noncomputable def ixN (n:Nat)(i:Int):Option Nat:=if 0<=i then (if i<n then some i.toNat else none) else if -(n:Int)<=i then some (i+n).toNat else none
noncomputable def atI {α:Type}(xs:List α)(i:Int):Option α:=(ixN xs.length i).bind fun j=>xs[j]?
def GI_    (h:ixN n i=some j):seqIndex? i n=some j/\j<n /\ -(n:Int)<=i/\i<n:=by
 unfold ixN at h
 by_cases h0:0<=i
 ·rw[if_pos h0]at h
  by_cases h1:i<n
  ·rw[if_pos h1]at h
   have e:i.toNat=j:=Option.some.inj h
   exact⟨by rw[seqIndex_of h0 h1,e],by lia,by lia,h1⟩
  ·rw[if_neg h1]at h;cases h
 ·rw[if_neg h0]at h
  by_cases h1 : -(n:Int)<=i
  ·rw[if_pos h1]at h
   have e:(i+n).toNat=j:=Option.some.inj h
   exact⟨by rw[seqIndex_neg s!"" h1,e],by lia,h1,by lia⟩
  ·rw[if_neg h1]at h;cases h
def GJ_     (h:atI xs i=some v):∃j,seqIndex? i xs.length=some j/\xs[j]?=some v/\j<xs.length /\ -(xs.length:Int)<=i/\i<xs.length:=by
 unfold atI at h
 cases e:ixN xs.length i with
 |none=>rw[e]at h;cases h
 |some j=>
  rw[e]at h
  obtain⟨h1,h2,h3,h4⟩:=GI_ e
  exact⟨j,h1,h,h2,h3,h4⟩
def Cr {α:Type}{xs:List α}{j:Nat}{v:α}(h:xs[j]?=some v):atI xs (j:Int)=some v:=by
 have hj:j<xs.length:=(List.getElem?_eq_some_iff.mp h).1
 have e:ixN xs.length (j:Int)=some j:=by
  unfold ixN
  rw[if_pos s!"",if_pos s!""];simp
 unfold atI;rw[e];exact h
noncomputable def GK_ (b:Expr):Prop:=∀o i,subscripted b false o i=operate [o,i] (getItem o i)
noncomputable def IxR (X:Cx)(r:R2):Prop:=
 ∀(value slice:Expr) (pins:List (Addr×Obj)) (s:Shared) (σ:St) (H:Hp) (x y:V) (v u:Value) (Q:VK),Inv X pins σ H s->RelV x v->RelV y u->r x y H Q ->
  subscripted slice false v u=operate [v,u] (getItem v u)->wpAny (model X.prog X.w) X.A (subscriptTail value slice v u) (EP X pins σ Q) X.xe s
noncomputable def MtR (X:Cx)(id:String)(r:V->List V->Hp->VK->Prop):Prop:=
 ∀(pins:List (Addr×Obj)) (s:Shared) (σ:St) (H:Hp) (x:V) (xs:List V) (v:Value) (us:List Value) (Q:VK),Inv X pins σ H s->RelV x v->Vals xs us->r x xs H Q ->
  wpAny (model X.prog X.w) X.A (call (.builtin id) (v::us)) (EP X pins σ Q) X.xe s
section
variable {X:Cx} {a b:Expr} {ta tb:TE} {pos:Pos}
def Nq_  (hr:IxR X r)(ha:PE X a ta)(hb:PE X b tb)(hs:GK_ b):PE X (.Subscript a b pos) (tOp r ta tb):=by
 intro pins s σ H Q I h
 exact Subscript_ (binT ha hb I h fun v u s2 x y H2 I2 rx ry q=>hr a b pins s2 σ H2 x y v u Q I2 rx ry q (hs _ _))
noncomputable def rIxL (K:PySem.W.Frag):R2:=fun x y H Q=>∃p xs i v,x=.ref p/\y=.int i/\SqL K H p xs/\atI xs i=some v/\Q v H
noncomputable def rIxT (K:PySem.W.Frag):R2:=fun x y H Q=>∃p xs i v,x=.ref p/\y=.int i/\SqT K H p xs/\atI xs i=some v/\Q v H
def Cj:IxR X (rIxL X.K):=by
 intro value slice pins s σ H x y v u Q I rx ry h hs
 obtain⟨p,xs,i,z,rfl,rfl,hq,he,q⟩:=h
 cases rx
 obtain⟨t,rfl⟩:=ry
 obtain⟨its,r,pl,hz⟩:=I.list hq
 obtain⟨j,h1,h2,h3,h4,h5⟩:=GJ_ he
 obtain⟨w,ew,rw'⟩:=r.get h2
 have hl:=r.length
 have hn:=Et_
 have fin:EP X pins σ Q w s:=⟨z,H,I,rw',q⟩
 by_cases h0:0<=i
 ·have hj:i.toNat=j:=by
   rw[seqIndex_of h0 h5]at h1
   exact Option.some.inj h1
  exact item_listR pl.isList h0 s!"" (by rw[hj];simpa using ew) fin hs
 ·have hj:(i+(its.toArray.size:Int)).toNat=j:=by
   rw[seqIndex_neg s!"" h4]at h1
   rw[List.size_toArray,<-hl]
   exact Option.some.inj h1
  exact subscriptTail_builtinR (x:=w) pl.isList.typeIs slot_list_getitem.lookup
   (wpAny_getItem_list_neg (Q:=fun r s'=>r=w/\EP X pins σ Q r s') pl.isList s!"" (by rw[List.size_toArray]<;>lia) s!"" (by rw[hj];simpa using ew) ⟨rfl,fin⟩) hs
def AZ:IxR X (rIxT X.K):=by
 intro value slice pins s σ H x y v u Q I rx ry h hs
 obtain⟨p,xs,i,z,rfl,rfl,hq,he,q⟩:=h
 cases rx
 obtain⟨t,rfl⟩:=ry
 obtain⟨its,r,pl,hz⟩:=I.tuple hq
 obtain⟨j,h1,h2,h3,h4,h5⟩:=GJ_ he
 obtain⟨w,ew,rw'⟩:=r.get h2
 have hl:=r.length
 have hn:=Et_
 have fin:EP X pins σ Q w s:=⟨z,H,I,rw',q⟩
 exact subscriptTail_builtinR (x:=w) pl.typeIs slot_tuple_getitem.lookup
  (getItem_tuple (j:=j) (Q:=fun r s'=>r=w/\EP X pins σ Q r s') pl s!"" s!"" (by rw[List.size_toArray,<-hl];exact h1) (by simpa using ew) ⟨rfl,fin⟩) hs
def Fs_ (its:List Value)(n j:Nat)(u:Value):Obj.mapSeq (·.setIfInBounds j u) {cls:=.type "list",data:=.seq its.toArray n}={cls:=.type "list",data:=.seq (its.set j u).toArray n}:=by
 simp[Obj.mapSeq]
def Inv.lst {pins:List (Addr×Obj)}{σ:St}{H:Hp}{s:Shared}{p:Addr}{xs:List V}(I:Inv X pins σ H s)(h:H p=some (.lst xs)):
  ∃(its:List Value) (n:Nat),Vals xs its/\s.heap.get? p=some {cls:=.type "list",data:=.seq its.toArray n}/\xs.length<=sizeLine:=by
 obtain⟨z,its,n,r,e⟩:=I.hok p _ h
 exact⟨its,n,r,e,z⟩
def Inv.lstUpd       {its its':List Value}   (I:Inv X pins σ H s)(h:H p=some (.lst xs))
  (ho:s.heap.get? p=some {cls:=.type "list",data:=.seq its.toArray n}) (hf:f {cls:=.type "list",data:=.seq its.toArray n}={cls:=.type "list",data:=.seq its'.toArray n' }) (r:Vals ys its') (hz:ys.length<=sizeLine) (t:Nat):
  Inv X pins σ (upd H p (.lst ys)) {s with heap:=s.heap.update p f,toks:=t}:=by
 have e:(s.heap.update p f).get? p=some {cls:=.type "list",data:=.seq its'.toArray n' }:=by
  rw[Heap.get?_update_self f ho (by rw[hf]<;>rfl),hf]
 refine I.write (x:=p) (e:=p) (by rw[h];trivial) (.inl rfl) (fun b u hb q=>(Heap.get?_update_other _ _ (Ne.symm hb)).trans q) ⟨_,e⟩ ?_
 exact⟨hz,its',n',r,e⟩
noncomputable def Mc_:V->V->V->Hp->(Hp->Prop)->Prop:=fun o i v H Q=>∃p xs k j,o=.ref p/\i=.int k/\H p=some (.lst xs)/\ixN xs.length k=some j/\Q (upd H p (.lst (xs.set j v)))
def set_list:PSet X Mc_:=by
 intro pins s σ H o i v ov iv u Q I ro ri rv h
 obtain⟨p,xs,k,j,rfl,rfl,hp,hj,q⟩:=h
 cases ro
 obtain⟨t,rfl⟩:=ri
 obtain⟨its,n,r,ho,hz⟩:=I.lst hp
 obtain⟨h1,h2,h3,h4⟩:=GI_ hj
 have hl:=r.length
 have hn:=Et_
 have I':Inv X pins σ (upd H p (.lst (xs.set j v))) {s with heap:=s.heap.update p (Obj.mapSeq (·.setIfInBounds j u))}:=
  I.lstUpd hp ho (Fs_ its n j u) (r.set rv j) (by rw[List.length_set];exact hz) s.toks
 by_cases h0:0<=k
 ·have hk:k.toNat=j:=by
   rw[seqIndex_of h0 h4]at h1
   exact Option.some.inj h1
  exact PySem.W.ki_setAt ho h0 s!"" (by rw[List.size_toArray,<-hl];exact h4) (by rw[hk];exact⟨_,I',q⟩)
 ·have hk:(k+(its.toArray.size:Int)).toNat=j:=by
   rw[seqIndex_neg s!"" h3]at h1
   rw[List.size_toArray,<-hl]
   exact Option.some.inj h1
  exact PySem.W.ki_setBack ho s!"" (by rw[List.size_toArray,<-hl];exact h3) s!"" (by rw[hk];exact⟨_,I',q⟩)
def AU_ (lo hi:Option Int)(n:Nat):(sliceBounds lo hi none n).1=((HT.sIx n 0 lo:Nat):Int)/\(sliceBounds lo hi none n).2.1=((HT.sIx n n hi:Nat):Int)/\(sliceBounds lo hi none n).2.2=1:=by
 refine⟨?_,?_,rfl⟩
 ·cases lo with
  |none=>simp[sliceBounds,HT.sIx]
  |some i=>
   simp only[sliceBounds,HT.sIx,Option.getD_none,show (1:Int) > 0 by decide,if_true]
   by_cases h:i<0
   ·simp only[h,if_true]<;>lia
   ·simp only[h,if_false]<;>lia
 ·cases hi with
  |none=>simp[sliceBounds,HT.sIx]
  |some i=>
   simp only[sliceBounds,HT.sIx,Option.getD_none,show (1:Int) > 0 by decide,if_true]
   by_cases h:i<0
   ·simp only[h,if_true]<;>lia
   ·simp only[h,if_false]<;>lia
def X4 (its:List Value)(lo hi:Option Int):slicePick its.toArray lo hi none=((its.drop (HT.sIx its.length 0 lo)).take (HT.sIx its.length its.length hi-HT.sIx its.length 0 lo)).toArray:=by
 obtain⟨h1,h2,h3⟩:=AU_ lo hi its.toArray.size
 unfold slicePick
 rw[h1,h2,h3]
 simp only[sliceRange_one,pick_run,List.size_toArray]<;>rfl
noncomputable def rSlL (K:PySem.W.Frag):V->Option Int->Option Int->Hp->VK->Prop:=fun x lo hi H Q=>∃a xs,x=.ref a/\SqL K H a xs/\∀p,H p=none->Q (.ref p) (upd H p (.lst (cutV xs lo hi)))
def Mo:SlR X (rSlL X.K):=by
 intro pins s σ H x v vl vu lo hi sl Q I rx hs pl pu h
 obtain⟨a,xs,rfl,hx,q⟩:=h
 cases rx
 obtain⟨its,r,ht,hz⟩:=I.list hx
 have hlen:=r.length
 refine⟨"list",_,slot_list_getitem.lookup,ht.isList.typeIs,?_⟩
 refine wpAny_getItem_list_slice ht.isList hs pl pu .none (by simp) ?_ (by rw[List.size_toArray]<;>lia)
 rw[X4,<-hlen]
 refine⟨.ref s.heap.objs.size,_,I.laid (t':=s.toks) (o:=.lst (cutV xs lo hi)) (fun b ob q=>Heap.get?_push_of_some _ q) (Nat.le_refl _) ?_,rfl,q _ (I.hok.fresh (Nat.le_refl _))⟩
 exact⟨Nat.le_trans (U4 xs lo hi) hz,_,0,(r.drop (HT.sIx xs.length 0 lo)).take (HT.sIx xs.length xs.length hi-HT.sIx xs.length 0 lo),Heap.get?_push_size _ rfl⟩
noncomputable def X5:V->Bool
 |.non=>true
 |.bl _=>true
 |.int _=>true
 |.str _=>true
 |_=>false
noncomputable def eqV:V->V->Bool
 |.non,.non=>true
 |.bl a,.bl b=>a==b
 |.bl a,.int b=>(if a then 1 else 0)==b
 |.int a,.bl b=>a==(if b then 1 else 0)
 |.int a,.int b=>a==b
 |.str a,.str b=>a==b
 |_,_=>false
def JB_     (ry:RelV y u)(rx:RelV x v)(fy:X5 y=true)(fx:X5 x=true):SeqAt.EqAt A s u v (eqV y x):=by
 cases y with
 |non=>
  cases ry
  cases x with
  |non=>cases rx;exact SeqAt.EqAt.same _
  |bl b=>cases rx;exact SeqAt.EqAt.none_bool b
  |int b=>obtain⟨t,rfl⟩:=rx;exact SeqAt.EqAt.none_int b t
  |str b=>obtain⟨t,rfl⟩:=rx;exact SeqAt.EqAt.none_str b t
  |_=>exact absurd (show false=true from fx) Bool.false_ne_true
 |bl a=>
  cases ry
  cases x with
  |non=>cases rx;exact SeqAt.EqAt.bool_none a
  |bl b=>cases rx;exact SeqAt.EqAt.bool_bool a b
  |int b=>obtain⟨t,rfl⟩:=rx;exact SeqAt.EqAt.bool_int a b t
  |str b=>obtain⟨t,rfl⟩:=rx;exact SeqAt.EqAt.bool_str a b t
  |_=>exact absurd (show false=true from fx) Bool.false_ne_true
 |int a=>
  obtain⟨t',rfl⟩:=ry
  cases x with
  |non=>cases rx;exact SeqAt.EqAt.int_none a t'
  |bl b=>cases rx;exact SeqAt.EqAt.int_bool a t' b
  |int b=>obtain⟨t,rfl⟩:=rx;exact SeqAt.EqAt.int_int a t' b t
  |str b=>obtain⟨t,rfl⟩:=rx;exact SeqAt.EqAt.int_str a t' b t
  |_=>exact absurd (show false=true from fx) Bool.false_ne_true
 |str a=>
  obtain⟨t',rfl⟩:=ry
  cases x with
  |non=>cases rx;exact SeqAt.EqAt.str_none a t'
  |bl b=>cases rx;exact SeqAt.EqAt.str_bool a t' b
  |int b=>obtain⟨t,rfl⟩:=rx;exact SeqAt.EqAt.str_int a t' b t
  |str b=>obtain⟨t,rfl⟩:=rx;exact SeqAt.EqAt.str_str a t' b t
  |_=>exact absurd (show false=true from fx) Bool.false_ne_true
 |_=>exact absurd (show false=true from fy) Bool.false_ne_true
def Aj:Oj X (.builtin "len") (fun xs H Q=>∃p ys,xs=[.ref p]/\(SqL X.K H p ys\/SqT X.K H p ys)/\Q (.int ys.length) H):=by
 intro pins s σ H xs us Q I r h
 obtain⟨p,ys,rfl,hq,q⟩:=h
 obtain⟨u,rfl,rx⟩:=vals1 r
 cases rx
 have hn:=Et_
 rcases hq with hq|hq
 ·obtain⟨its,r',pl,hz⟩:=I.list hq
  have hlen:=r'.length
  exact Calls.call_len_list pl.isList (by simp only[List.size_toArray]<;>lia) ⟨.int ys.length,H,I.tok _,⟨s.toks+1,by rw[List.size_toArray,hlen]⟩,q⟩
 ·obtain⟨its,r',pl,hz⟩:=I.tuple hq
  have hlen:=r'.length
  exact len_tuple pl (by simp only[List.size_toArray]<;>lia) ⟨.int ys.length,H,I.tok _,⟨s.toks+1,by rw[List.size_toArray,hlen]⟩,q⟩
def Mp:Oj X (.type "list") (fun xs H Q=>∃p ys,xs=[.ref p]/\(SqL X.K H p ys\/SqT X.K H p ys)/\∀l,H l=none->Q (.ref l) (upd H l (.lst ys))):=by
 intro pins s σ H xs us Q I r h
 obtain⟨p,ys,rfl,hq,q⟩:=h
 obtain⟨u,rfl,rx⟩:=vals1 r
 cases rx
 have fin:∀(its:List Value),Vals ys its->ys.length<=sizeLine->∀(h':Heap) (c':Nat),(∀b o',s.heap.get? b=some o'->h'.get? b=some o') ->
   h'.get? s.heap.objs.size=some {cls:=.type "list",dict:=none,data:=.seq its.toArray c',slots := #[]}->EP X pins σ Q (.ref s.heap.objs.size) {s with heap:=h' }:=fun its r' hz h' c' kp e=>
  ⟨.ref s.heap.objs.size,_,I.laid (t':=s.toks) kp (Nat.le_refl _) (show C4 X.prog X.w _ h' _ (.lst ys) from ⟨hz,its,c',r',e⟩),rfl,q _ (I.hok.fresh (Nat.le_refl _))⟩
 rcases hq with hq|hq
 ·obtain⟨its,r',pl,hz⟩:=I.list hq
  have hlen:=r'.length
  obtain⟨o,ho,hc,n,hd⟩:=pl.isList
  exact call_list_seq p (.inl rfl) ho hc hd (fun h' c' kp e=>fin its r' hz h' c' kp e) (by simp only[List.size_toArray]<;>lia)
 ·obtain⟨its,r',pl,hz⟩:=I.tuple hq
  have hlen:=r'.length
  obtain⟨o,ho,hc,n,hd⟩:=pl
  exact call_list_seq p (.inr rfl) ho hc hd (fun h' c' kp e=>fin its r' hz h' c' kp e) (by simp only[List.size_toArray]<;>lia)
def X6:Oj X (.type "tuple") (fun xs H Q=>∃p ys,xs=[.ref p]/\((SqL X.K H p ys/\∀l,H l=none->Q (.ref l) (upd H l (.tup ys)))\/(SqT X.K H p ys/\Q (.ref p) H))):=by
 intro pins s σ H xs us Q I r h
 obtain⟨p,ys,rfl,h⟩:=h
 obtain⟨u,rfl,rx⟩:=vals1 r
 cases rx
 rcases h with ⟨hq,q⟩|⟨hq,q⟩
 ·obtain⟨its,r',pl,hz⟩:=I.list hq
  have hlen:=r'.length
  refine call_tuple_list pl.isList (fun h' kp=>?_) (by simp only[List.size_toArray]<;>lia)
  have I1:Inv X pins σ H {s with heap:=h' }:=I.kept (t':=s.toks) kp
  have I2:Inv X pins σ (upd H h'.objs.size (.tup ys)) {s with heap:=h'.push {cls:=.type "tuple",data:=.seq its.toArray} }:=
   I1.laid (t':=s.toks) (fun b o e=>Heap.get?_push_of_some _ e) (Nat.le_refl _) (show C4 X.prog X.w _ _ _ (.tup ys) from ⟨hz,its,r',IsTup.new _ _⟩)
  exact⟨.ref h'.objs.size,_,I2,rfl,q _ (I1.hok.fresh (Nat.le_refl _))⟩
 ·obtain⟨its,r',pl,hz⟩:=I.tuple hq
  exact call_tuple_same pl ⟨.ref p,H,I,rfl,q⟩
noncomputable def tyV (K:PySem.W.Frag)(T:String)(x:V)(H:Hp):Prop:=match x with
 |.str _=>T = "str"
 |.int _=>T = "int"
 |.ref p=>(T = "list" /\ ∃xs,SqL K H p xs)\/(T = "tuple" /\ ∃o,K.lookup p=some o/\o.cls=.type "tuple" /\ o.dict=none) \/
   (T = "dict" /\ ((∃kvs,H p=some (.dK kvs)) \/ ∃kvs,H p=some (.dT kvs)))\/(T = "set" /\ ∃S n,H p=some (.set S n))
 |_=>False
def JC_        (I:Inv X pins σ H s)(r:RelV x v)(ty:tyV X.K T x H):
  s.TypeIs v T/\∀a,v=.ref a->∃ob,s.heap.get? a=some ob/\ob.dict=none:=by
 cases x with
 |str z=>
  obtain⟨t,rfl⟩:=r
  cases (show T = "str" from ty)
  exact⟨typeIs_str s z t,fun _ e=>nomatch e⟩
 |int i=>
  obtain⟨t,rfl⟩:=r
  cases (show T = "int" from ty)
  exact⟨typeIs_int s i t,fun _ e=>nomatch e⟩
 |ref p=>
  cases r
  rcases ty with ⟨rfl,xs,hq⟩|⟨rfl,o,hk,hc,hd⟩|⟨rfl,hk⟩|⟨rfl,S,n,hk⟩
  ·obtain⟨its,_,pl,_⟩:=I.list hq
   refine⟨pl.isList.typeIs,fun a e=>?_⟩
   cases e
   obtain⟨o,n,e,c,hd,_⟩:=pl
   exact⟨o,e,hd⟩
  ·refine⟨⟨o,I.kIn p o hk,hc⟩,fun a e=>?_⟩
   cases e
   exact⟨o,I.kIn _ o hk,hd⟩
  ·have z:∃o,s.heap.get? p=some o/\o.ExactDict:=by
    rcases hk with ⟨kvs,hk⟩|⟨kvs,hk⟩
    ·obtain⟨_,_,_,_,o,_,_,e,ex,_⟩:=I.hok p _ hk
     exact⟨o,e,ex⟩
    ·obtain⟨_,_,_,_,o,_,_,e,ex,_⟩:=I.hok p _ hk
     exact⟨o,e,ex⟩
   obtain⟨o,e,ex⟩:=z
   refine⟨⟨o,e,ex.1⟩,fun a e2=>?_⟩
   cases e2
   exact⟨o,e,ex.2.1⟩
  ·obtain⟨o,_,_,_,e,ex,_⟩:=I.hok p _ hk
   refine⟨⟨o,e,ex.1⟩,fun a e2=>?_⟩
   cases e2
   exact⟨o,e,ex.2.1⟩
 |_=>exact False.elim ty
noncomputable def tBM0 (K:PySem.W.Frag)(T:String)(r:V->List V->Hp->VK->Prop)(to:TE):TE:=fun σ H Q=>to σ H fun x H1=>tyV K T x H1/\r x [] H1 Q
noncomputable def tBM (K:PySem.W.Frag)(T:String)(r:V->List V->Hp->VK->Prop)(to:TE)(t:TA):TE:=fun σ H Q=>to σ H fun x H1=>tyV K T x H1/\t σ H1 fun xs H2=>r x xs H2 Q
variable {o e:Expr} {es:List Expr} {to:TE} {t:TA} {name:Str} {apos cpos:Pos} {T id:String} {r:V->List V->Hp->VK->Prop}
def JD_ (pa:PlainAttrs T)(slot:Slot T name id)(hty:typeOf (.builtin id)=pure (.type "method_descriptor"))(hm:MtR X id r)(ho:PE X o to)
  (hbase:attributeBase o name X.env (eval o X.env)=eval o X.env:=by rfl) (hline:(apos.endLine==cpos.line)=true:=by rfl):PE X (.Call (.Attribute o name apos) [] [] cpos) (tBM0 X.K T r to):=by
 intro pins s σ H Q I h
 refine wpAny_Call_method0_late hbase hline (thn (ho pins s σ H _ I h) fun v s1 ⟨x,H1,I1,r1,ty,q1⟩=>?_)
 obtain⟨h1,h2⟩:=JC_ I1 r1 ty
 exact⟨T,id,pa,slot,hty,h1,h2,Calls.callWith_builtin rfl (PySem.evalArgs_none (hm pins s1 σ H1 x [] v [] Q I1 r1 .nil q1))⟩
def U5 (pa:PlainAttrs T)(slot:Slot T name id)(hty:typeOf (.builtin id)=pure (.type "method_descriptor"))(hm:MtR X id r)(ho:PE X o to)(ha:PA X (e::es) t)
  (hbase:attributeBase o name X.env (eval o X.env)=eval o X.env:=by rfl)
  (hfew:((backTo cpos (starEach (e::es) X.env)).all (fun x => !x.1)&&(backToKw cpos (keywordEach [] X.env)).all (fun x=>x.1.isSome)
   && decide ((e::es).length+([]:List Keyword).length+(if ([]:List Keyword).isEmpty then 0 else 1)<30))=true:=by rfl)
  (hline:(apos.endLine==cpos.line)=true:=by rfl) (hs:starEach (e::es) X.env=(false,eval e X.env)::starEach es X.env:=by rfl) (hplain:(backTo cpos (starEach es X.env)).any (·.1)=false:=by rfl):
  PE X (.Call (.Attribute o name apos) (e::es) [] cpos) (tBM X.K T r to t):=by
 intro pins s σ H Q I h
 refine wpAny_Call_method_late hbase hfew hline rfl (thn (ho pins s σ H _ I h) fun v s1 ⟨x,H1,I1,r1,ty,q1⟩=>?_)
 obtain⟨h1,h2⟩:=JC_ I1 r1 ty
 refine⟨T,id,pa,slot,hty,h1,h2,?_⟩
 have hA:=ha cpos pins s1 σ H1 _ I1 q1
 rw[hs]at hA ⊢
 refine Calls.callWith_builtin (by show (false||(backTo cpos (starEach es X.env)).any (·.1))=false;rw[hplain]<;>rfl) (Calls.evalArgs_plain ?_)
 exact thn hA fun us s2 ⟨vs,H2,I2,r2,q2⟩=>hm pins s2 σ H2 x vs v us Q I2 r1 r2 q2
/- xs.append(e),list.index on a module's tuple .. are MtR facts of 06m -/
end
end L2
namespace L2
open PySem PySem.Spec PyProof.Rows
noncomputable def MtM (X:Cx)(id:String)(r:V->List V->Hp->VK->Prop):Prop:=
 ∀(pins:List (Addr×Obj)) (s:Shared) (σ:St) (H:Hp) (x:V) (xs:List V) (v:Value) (us:List Value) (Q:VK),Inv X pins σ H s->RelV x v->Vals xs us->r x xs H Q ->
  wpAny (model X.prog X.w) X.A (call (.builtin id) (v::us)) (EP X pins σ Q) X.xe s
def Vals.one:∀{x:V} {us:List Value},Vals [x] us->∃u,us=[u]/\RelV x u
 |_,_,.cons r .nil=>⟨_,rfl,r⟩
def Vals.zero:∀{us:List Value},Vals [] us->us=[]
 |_,.nil=>rfl
def Vals.eraseIdx:∀{xs:List V} {us:List Value} (i:Nat),Vals xs us->Vals (xs.eraseIdx i) (us.eraseIdx i)
 |_,_,_,.nil=>.nil
 |_,_,0,.cons _ t=>t
 |_,_,i+1,.cons r t=>.cons r (Vals.eraseIdx i t)
def AV_ {α:Type}:∀(l:List α) (i:Nat),(l.eraseIdx i).length<=l.length
 |[],_=>Nat.le_refl _
 |_::_,0=>Nat.le_succ _
 |_::r,i+1=>Nat.succ_le_succ (AV_ r i)
section
variable {X:Cx} {pins:List (Addr×Obj)} {σ:St} {H:Hp} {s:Shared} {l b:Addr} {xs ys zs:List V}
def Inv.lset {its its':List Value}    (I:Inv X pins σ H s)(hH:H l=some (.lst xs))
  (e:s.heap.get? l=some {cls:=.type "list",data:=.seq its.toArray n}) (hf:f its.toArray=its'.toArray) (hv:Vals ys its') (hz:ys.length<=sizeLine):
  Inv X pins σ (upd H l (.lst ys)) {s with heap:=s.heap.update l (Obj.mapSeq f),toks:=t' }:=by
 have q:=PySem.IsL.update e f
 rw[hf]at q
 refine I.write (x:=l) (e:=l) (by rw[hH];exact trivial) (.inl rfl) (fun b' u hb hu=>(Heap.get?_update_other s.heap (Obj.mapSeq f) (Ne.symm hb)).trans hu) ⟨_,q⟩ ?_
 exact⟨hz,its',_,hv,q⟩
def Inv.lnew {its:List Value}  (I:Inv X pins σ H s)(hv:Vals ys its)(hz:ys.length<=sizeLine):
  Inv X pins σ (upd H s.heap.objs.size (.lst ys)) {s with heap:=s.heap.push {cls:=.type "list",data:=.seq its.toArray},toks:=t' }:=
 I.laid (fun _ _ q=>Heap.get?_push_of_some _ q) (Nat.le_refl _) ⟨hz,its,0,hv,Heap.get?_push_size _ rfl⟩
def Inv.fresh (I:Inv X pins σ H s):H s.heap.objs.size=none:=I.hok.fresh (Nat.le_refl _)
def Inv.lstM (I:Inv X pins σ H s)(hH:H l=some (.lst xs)):xs.length<=sizeLine/\∃(its:List Value) (n:Nat),Vals xs its/\xs.length=its.length/\s.heap.get? l=some {cls:=.type "list",data:=.seq its.toArray n}:=by
 obtain⟨z,its,n,r,e⟩:=I.hok l _ hH
 exact⟨z,its,n,r,r.length,e⟩
end
section
variable {X:Cx}
noncomputable def GL_:V->List V->Hp->VK->Prop:=fun x vs H Q=>∃l xs y,x=.ref l/\vs=[y]/\H l=some (.lst xs)/\xs.length<sizeLine/\Q .non (upd H l (.lst (xs++[y])))
def GO:MtM X "list.append" GL_:=by
 intro pins s σ H x vs v us Q I rx rv h
 obtain⟨l,xs,y,rfl,rfl,hH,hz,q⟩:=h
 cases rx
 obtain⟨u,rfl,ru⟩:=rv.one
 obtain⟨z,its,n,r,hl,e⟩:=I.lstM hH
 refine call_meets F.slot_list_append ⟨_,e,rfl⟩ F.entry_list_append (F.args_list_append_2 _ _) (PySem.list_append l its.toArray n u (by rw[List.size_toArray];lia)) ⟨e,?_⟩
 refine⟨.non,_,I.lset (its':=its++[u]) hH e (by simp) (r.append (.cons ru .nil)) ?_,rfl,q⟩
 rw[List.length_append,List.length_singleton]
 lia
noncomputable def JE_:V->List V->Hp->VK->Prop:=fun x vs H Q=>∃l xs i k y,x=.ref l/\vs=[.int i]/\H l=some (.lst xs) /\ -(2 ^ 63)<=i/\i<2 ^ 63/\seqIndex? i xs.length=some k/\xs[k]?=some y/\Q y (upd H l (.lst (xs.eraseIdx k)))
def IA_:MtM X "list.pop" JE_:=by
 intro pins s σ H x vs v us Q I rx rv h
 obtain⟨l,xs,i,k,y,rfl,rfl,hH,h1,h2,hk,hy,q⟩:=h
 cases rx
 obtain⟨u,rfl,ru⟩:=rv.one
 obtain⟨t,rfl⟩:=ru
 obtain⟨z,its,n,r,hl,e⟩:=I.lstM hH
 obtain⟨w,hw,rw'⟩:=r.get hy
 refine call_meets F.slot_list_pop ⟨_,e,rfl⟩ F.entry_list_pop (F.args_list_pop_2 _ _)
  (MeetsSeq.list_pop_at l its.toArray n i t k w (fitsIndex_both h1 h2) (by rw[List.size_toArray,<-hl];exact hk) (by rw[<-Array.getElem?_toList];exact hw) (by rw[List.size_toArray];lia)) ⟨e,?_⟩
 refine⟨y,_,I.lset (its':=its.eraseIdx k) hH e ?_ (r.eraseIdx k) ?_,rw',q⟩
 ·show its.toArray.eraseIdxIfInBounds k=(its.eraseIdx k).toArray
  rw[List.eraseIdxIfInBounds_toArray]
 ·have:=AV_ xs k
  lia
noncomputable def JF_:V->List V->Hp->VK->Prop:=fun x vs H Q=>∃l xs,x=.ref l/\vs=[]/\H l=some (.lst xs)/\Q .non (upd H l (.lst []))
def Ev_:MtM X "list.clear" JF_:=by
 intro pins s σ H x vs v us Q I rx rv h
 obtain⟨l,xs,rfl,rfl,hH,q⟩:=h
 cases rx
 have hus:=rv.zero
 subst hus
 obtain⟨z,its,n,r,hl,e⟩:=I.lstM hH
 refine call_meets F.slot_list_clear ⟨_,e,rfl⟩ F.entry_list_clear (F.args_list_clear_1 _) (AutoSeq1.list_clear_list_0 l its.toArray n (by rw[List.size_toArray];lia)) ⟨e,?_⟩
 exact⟨.non,_,I.lset (its':=[]) (ys:=[]) hH e rfl .nil (Nat.zero_le _),rfl,q⟩
noncomputable def rCat:R2:=fun x y H Q=>∃l b xs zs,x=.ref l/\y=.ref b/\H l=some (.lst xs)/\H b=some (.lst zs)/\xs.length+zs.length<=sizeLine/\∀p,H p=none->Q (.ref p) (upd H p (.lst (xs++zs)))
def Md_:OpR X (binaryOp .Add) rCat:=by
 intro pins s σ H x y v u Q I rx ry h
 obtain⟨l,b,xs,zs,rfl,rfl,hH,hB,hz,q⟩:=h
 cases rx
 cases ry
 obtain⟨z,its,n,r,hl,e⟩:=I.lstM hH
 obtain⟨z2,its2,n2,r2,hl2,e2⟩:=I.lstM hB
 refine PySem.P.add_list e e2 ?_ (by rw[List.size_toArray,List.size_toArray];lia)
 have ea:its.toArray++its2.toArray=(its++its2).toArray:=by simp
 rw[ea]
 exact⟨.ref _,_,I.lnew (t':=s.toks) (r.append r2) (by rw[List.length_append];lia),rfl,q _ I.fresh⟩
end
end L2
namespace Att
open PySem PySem.W PySem.Calls PyProof.Rows
def U6   : ∀(ns:List Int) (vs:List Value),WellAll P h vs (ns.map WData.int)->IntsAre vs ns:=by
 intro ns
 induction ns with
 |nil=>
  intro vs w
  rw[List.map_nil]at w
  cases w
  exact .nil
 |cons n ns ih=>
  intro vs w
  rw[List.map_cons]at w
  cases w with
  |cons a b=>
   cases a
   exact .cons _ _ (ih _ b)
def GM_ {l:OpenLaw}{n:Nat}(hn:l.most=some n){P:Params}{h:Heap}{args:List WData}{vals:List Value}
  (hpre:l.row.toRowW.claim.pre args=true) (hwl:WellAll P h vals args):
  ∃a vs ns,vals=[Value.ref a]/\args=[WData.list (ns.map WData.int)]/\h.get? a=some {cls:=.type "list",data:=.seq vs.toArray}/\IntsAre vs ns/\ns.length<=n:=by
 have hsh:WShape.hasAll [] args [.list .int]=true:=(pre_splitW hpre).1
 have hc:l.pre.holds [] {args:=args}=true:=(pre_splitW hpre).2
 obtain⟨d,r,rfl,h1,h2⟩:=hasAllW_cons hsh
 obtain rfl:=hasAllW_nil h2
 obtain⟨xs,rfl,h3⟩:=hasW_list h1
 obtain⟨ns,rfl⟩:=items_int h3
 have hlen:ns.length<=n:=by
  unfold OpenLaw.pre at hc
  have h4:(WTm.not (.lt (.lit (.int (n:Int))) (.len (.arg 0)))).holds [] {args:=[.list (ns.map .int)]}=true:=by
   have h4:=(holds_andW hc).1
   rw[hn]at h4
   exact h4
  have h5:=condW_of h4 (w_not (w_lt w_lit (w_len_list (w_arg rfl))))
  rw[List.length_map]at h5
  refine Nat.le_of_not_lt fun q=>?_
  have q':(n:Int)<((ns.length:Nat):Int):=by lia
  first
   | (rw[decide_eq_true q']at h5;exact absurd h5 (by decide))
   | (simp at h5;lia)
 cases hwl with
 |cons w1 w2=>
  cases w2
  cases w1 with
  |list ho hall=>exact⟨_,_,ns,rfl,rfl,ho,U6 ns _ hall,hlen⟩
def GN_ (l:OpenLaw)(args:List WData):l.row.toRowW.claim.post args (.bool true) args=true:=
 postW_of (r:=l.row.toRowW) (X:=(true==true))
  (show WShape.has [] (.bool true) .bool=true by first|rfl|decide|simp[WShape.has,WShape.arms,WShape.armsAll])
  (show (WTm.eq .res (.lit (.bool true))).value [] {args:=args,res:=some (.bool true),after:=args}=some (.bool (true==true)) from w_eq_bool (w_res rfl) w_lit) rfl
def attach_call {l:OpenLaw}{n:Nat}{q:Program}{loose:List Str}{XP:(Str->Option Value)->Heap->Prop}{YP:World->Heap->Prop}{d:DefRec}
  (hn:l.most=some n) (hdf:d.params.defaults=[])
  (call:∀(w:World) (s₀ s₁:Shared) (mg mb:Str->Option Value) (fa:Addr) (o:Obj) (pm cd doc:Value) (a:Addr) (vs:List Value) (ns:List Int),
   Ground q loose [] XP w s₀ mg mb s₁.heap->YP w s₁.heap ->
   s₁.heap.get? fa=some o->o.data=.func (docDef d.name d.params d.body d.scope pm cd doc)->s₁.heap.CodeRec cd d.name->mg d.name=some (.ref fa) ->
   s₁.heap.get? a=some {cls:=.type "list",data:=.seq vs.toArray}->IntsAre vs ns->ns.length<=n->s₁.gens = #[] ->
   codeAny (model l.prog w) callerA (.call (.ref fa) ⟨[.ref a],[]⟩) (fun r s'=>r=.ok (.ret (.bool true))/\OldK s₁.heap s'.heap/\s'.os=s₁.os/\AllBare s'.gens) s₁):
  WalkO q loose XP YP l.row.toRowW d [] (fun f vs=>PySem.call f vs):=by
 intro w s₀ s₁ mg mb G Y fa o pm cd doc dV kV ho hd hcd hD hmg hg args vals as hpre hlay hrd hwl hlo
 obtain rfl:dV=.none:=Dflts.none hD hdf
 obtain rfl:kV=.none:=Dflts.noKw hD
 obtain⟨a,vs,ns,rfl,rfl,hobj,hints,hlen⟩:=GM_ hn hpre hwl
 refine enter_call (codeAny_mono (call w s₀ s₁ mg mb fa o pm cd doc a vs ns G Y ho (fd_plain hd) hcd hmg hobj hints hlen hg) fun r s' hq=>?_)
 obtain⟨rfl,h2,h3,h4⟩:=hq
 exact⟨.inl ⟨.bool true,.bool true,[],rfl,fun _=>rfl,.bool true,GN_ l _,fun _=>⟨List.Pairwise.nil,fun _ hm=>(nomatch hm)⟩⟩,h2,h3,h4⟩
end Att
namespace L2
open PySem PySem.Spec PyProof.Rows
def AW_:∀{vs:List Value} {ns:List Int},IntsAre vs ns->Vals (ns.map V.int) vs
 |_,_,.nil=>.nil
 |_,_,.cons n t h=>.cons ⟨t,rfl⟩ (AW_ h)
noncomputable def Only (H:Hp):Prop:=∀b,H b=none \/ ∃o xs,H b=some (.frz o (.lst xs))
def IB_   {K:PySem.W.Frag}
  (KX:K.In s₁.heap) (hns:s₁.heap.Ns mainGlobals mg) (hb:s₁.heap.Ns builtinsNs mb) (hbb:∀x:Str,x ≠ "__name__" -> mb x=bootBuiltins x) (hlim:s₁.heap.NoLimit) (hg:s₁.gens = #[])
  (ha:s₁.heap.get? a=some {cls:=.type "list",data:=.seq vs.toArray}) (hi:IntsAre vs ns) (hl:ns.length<=sizeLine) (hr:Room k callerA)
  (F:∀base:Heap,K.In base->base.Ns mainGlobals mg->FnOk P w K mg base CX k fa fd [x] sp) (hbind:∀(s:Shared) (u:Value),BindsTo s fd ⟨[u],[]⟩ [(x,u)])
  (hsp:∀H:Hp,Only H->SqL K H a (ns.map V.int)->sp [.ref a] H (fun v _=>v=.bl true) fun _ _ _=>False)
  (hCX:∀H e s',CX [] H s₁ (fun _ _ _=>False) e s'->False):
  codeAny (model P w) callerA (.call (.ref fa) ⟨[.ref a],[]⟩) (fun r s'=>r=.ok (.ret (.bool true))/\OldK s₁.heap s'.heap/\s'.os=s₁.os/\AllBare s'.gens) s₁:=by
 have rv:=AW_ hi
 have lenV:=hi.length
 -- from an abstract heap in which nothing but the script may be tracked
 have core:∀H:Hp,Only H->SqL K H a (ns.map V.int)->HOk P w H s₁.heap->(∀b,H b≠none->b=a)->(H a≠none->K.lookup a=none) ->
   codeAny (model P w) callerA (.call (.ref fa) ⟨[.ref a],[]⟩) (fun r s'=>r=.ok (.ret (.bool true))/\OldK s₁.heap s'.heap/\s'.os=s₁.os/\AllBare s'.gens) s₁:=by
  intro H hO hS hok hA hK
  have base_of:∀{b:Addr} {o:Obj},s₁.heap.get? b=some o->H b=none->(hidT s₁.heap H).get? b=some o:=fun e n=>Iq_ e n
  have noA:∀{b:Addr} {o:Obj} {es:Array DictEntry} {ep:Nat},s₁.heap.get? b=some o->o.data=.dict es ep->H b=none:=fun {b o es ep} e d=>by
   cases q:H b with
   |none=>rfl
   |some u=>
    have e':b=a:=hA b (by rw[q];simp)
    subst e'
    rw[ha]at e;cases e
    have d':Data.seq vs.toArray _=Data.dict es ep:=d
    cases d'
  have nsK:∀{b:Addr} {m:Str->Option Value},s₁.heap.Ns b m->(hidT s₁.heap H).Ns b m:=fun {b m} ⟨o,es,ep,e,d,r⟩=>⟨o,es,ep,base_of e (noA e d),d,r⟩
  have hKb:K.In (hidT s₁.heap H):=fun b o e=>base_of (KX b o e) (by
   cases q:H b with
   |none=>rfl
   |some u=>
    have e':b=a:=hA b (by rw[q];simp)
    subst e'
    rw[hK (by rw[q];simp)]at e;cases e)
  have hM:Mod K mg (hidT s₁.heap H):=⟨hKb,nsK hns,⟨mb,nsK hb,hbb⟩,let ⟨mc,h1,h2⟩:=hlim;⟨mc,nsK h1,h2⟩⟩
  have e0:Env0 P w K mg (hidT s₁.heap H) callerA [] s₁ H:=⟨rfl,hM,fun b o e=>KJ_ e,Nat.le_of_eq (Gl_ _ _),trivial,fun b hb=>absurd (show b∈([]:List Addr) from hb) (by simp),hok,.of_eq hg⟩
  refine codeAny_mono ((F _ hKb (nsK hns)).run callerA [] s₁ H ⟨[.ref a],[]⟩ [.ref a] [.ref a] _ _ hr e0 (hbind s₁ (.ref a)) (.cons rfl .nil) (hsp H hO hS)) fun r s' h=>?_
  cases r with
  |error e=>exact (hCX H e s' h).elim
  |ok fl=>
   cases fl with
   |next=>exact False.elim h
   |brk=>exact False.elim h
   |cont=>exact False.elim h
   |ret u=>
    obtain⟨v,H',os,bare,un,hok',r',q⟩:=h
    have q':v=.bl true:=q
    subst q'
    obtain rfl:u=Value.bool true:=r'
    refine⟨rfl,OldK.of_keep fun b o e=>?_,os,bare⟩
    cases q:H b with
    |none=>exact un.keep b o e q (by intro z;exact absurd (show b∈([]:List Addr) from z) (by simp)) (by simp)
    |some u=>
     rcases hO b with z|⟨ob,xs,z⟩
     ·rw[q]at z;cases z
     ·have z2:=un.frzs b ob _ z
      obtain⟨e1,_⟩:=hok b _ z
      obtain⟨e2,_⟩:=hok' b _ z2
      rw[e]at e1;cases e1
      exact e2
 cases hk:K.lookup a with
 |some o=>
  -- the script is one of the module's own objects
  have e:=KX a o hk
  rw[ha]at e
  cases e
  refine core (fun _=>none) (fun _=>.inl rfl) (.inr ⟨_,vs.toArray,_,hk,rfl,rfl,rfl,by rw[List.size_toArray,lenV];exact hl,by simpa using rv⟩) (fun b u z=>by have z':(none:Option HO)=some u:=z;cases z') (fun b z=>absurd rfl z) fun z=>absurd rfl z
 |none=>
  refine core (fun b=>if b=a then some (.frz {cls:=.type "list",data:=.seq vs.toArray} (.lst (ns.map V.int))) else none) (fun b=>?_) (.inl (.inr ⟨{cls:=.type "list",data:=.seq vs.toArray},if_pos rfl⟩)) (fun b u z=>?_) (fun b z=>?_) fun _=>hk
  ·by_cases hb:b=a
   ·exact .inr ⟨_,_,if_pos hb⟩
   ·exact .inl (if_neg hb)
  ·by_cases hb:b=a
   ·have z':=(if_pos hb).symm.trans z
    cases z'
    subst hb
    exact⟨ha,by rw[List.length_map];exact hl,vs,_,rv,ha⟩
   ·have z':=(if_neg hb).symm.trans z
    cases z'
  ·by_cases hb:b=a
   ·exact hb
   ·exact absurd (if_neg hb) z
def walk_of {l:PySem.W.OpenLaw}{n k:Nat}{q:Program}{loose:List Str}{XP:(Str->Option Value)->Heap->Prop}{YP:World->Heap->Prop}{d:DefRec}{K:Params->PySem.W.Frag}{CX:World->CXT}{sp:World->Sp}{x:Str}
  (hn:l.most=some n) (hn2:n<=sizeLine) (hdf:d.params.defaults=[]) (hr:Room k callerA)
  (hY:∀(w:World) (h:Heap),YP w h->(K w.params).In h)
  (F:∀(w:World) (mg:Str->Option Value) (fa:Addr) (h:Heap),(K w.params).In h->h.Ns mainGlobals mg->mg d.name=some (.ref fa) ->
   ∃fd:FuncData,(∀(s:Shared) (u:Value),BindsTo s fd ⟨[u],[]⟩ [(x,u)]) /\
    ∀base:Heap,(K w.params).In base->base.Ns mainGlobals mg->FnOk l.prog w (K w.params) mg base (CX w) k fa fd [x] (sp w))
  (hsp:∀(w:World) (H:Hp) (a:Addr) (ns:List Int),ns.length<=n->Only H->SqL (K w.params) H a (ns.map V.int)->sp w [.ref a] H (fun v _=>v=.bl true) fun _ _ _=>False)
  (hCX:∀(w:World) (H:Hp) (s:Shared) (e:Value) (s':Shared),CX w [] H s (fun _ _ _=>False) e s'->False):
  PySem.W.WalkO q loose XP YP l.row.toRowW d [] (fun f vs=>PySem.call f vs):=by
 refine Att.attach_call hn hdf fun w s₀ s₁ mg mb fa o pm cd doc a vs ns G Y ho hd hcd hmg hobj hints hlen hg=>?_
 have KX:=hY w _ Y
 obtain⟨fd,hb,hF⟩:=F w mg fa _ KX G.T.g hmg
 exact IB_ KX G.T.g G.T.b G.T.builtins G.T.nolimit hg hobj hints (Nat.le_trans hlen hn2) hr hF hb (fun H hO hS=>hsp w H a ns hlen hO hS) fun H e s'=>hCX w H s₁ e s'
noncomputable def Bv (s:Stmt)(j:Nat):Stmt:=match s with
 |.ClassDef _ _ _ body _ _ _ _ _ _ _=>body.getD j (.Pass ⟨0,0,0,0⟩)
 |_=>.Pass ⟨0,0,0,0⟩
noncomputable def Ak (s:Stmt):Arguments:=match s with
 |.FunctionDef _ a _ _ _ _ _ _ _ _=>a
 |_=>{posonlyargs:=[],args:=[],vararg:=none,kwonlyargs:=[],kw_defaults:=[],kwarg:=none,defaults:=[]}
noncomputable def Ai (s:Stmt):List Stmt:=match s with
 |.FunctionDef _ _ b _ _ _ _ _ _ _=>b
 |_=>[]
noncomputable def Ad (s:Stmt):Scope:=match s with
 |.FunctionDef _ _ _ _ _ _ sc _ _ _=>sc
 |_=>{kind:=.function,names:=[],isGenerator:=false,isCoroutine:=false}
noncomputable abbrev CX0:CXT:=fun _ _ _ _ _ _=>False
noncomputable abbrev E0:XK:=fun _ _ _=>False
def AN  : Mn CX0 X E0:=fun _ _ _ _ _ _ _ h=>h.elim
structure Fun (K:PySem.W.Frag)(x qual:Str)(st:Stmt)(f:Addr)(fd:FuncData):Prop where
 ex:∃(oc:Value) (od:Option Addr) (kV doc pm:Value) (an:Option Addr) (cdv ct:Value) (osl:Array (Option Value)),
  fd=PySem.W.fnOf x qual (Ak st) (Ai st) (Ad st) .none kV doc pm an cdv ct/\K.lookup f=some ⟨oc,od,.func fd,osl⟩/\PySem.W.codeIn K cdv qual=true
 kp:PySem.W.keepIn K (.ref f)=true
section
variable {P:Program} {w:World} {K:PySem.W.Frag} {mg:Str->Option Value} {base:Heap}
def Fun.ok  {st:Stmt}      (F:Fun K x qual st f fd)(S:FnScope N ps (Ad st))(len:∀vs H Q E,sp vs H Q E->vs.length=ps.length)
  (hbody:∀(cdv:Value) (A:Around) (outer:List Env) (s:Shared) (H:Hp) (vs:List V) (Q:VK) (E:XK),Room k (A.deeper (envOfC qual (Ad st) s.heap.objs.size f cdv))->sp vs H Q E ->
   ∃t,PSs (cxOf CX0 P w K mg base N qual (Ad st) f cdv A outer s H E).nox (Ai st) t/\t {nx:=fun _ H'=>Q .non H',rt:=Q} (start N vs) H):FnOk P w K mg base CX0 (k+1) f fd ps sp:=by
 obtain⟨oc,od,kV,doc,pm,an,cdv,ct,osl,rfl,lk,hcd⟩:=F.ex
 refine LZ_ lk hcd S len fun A outer s H vs Q E hr hsp=>?_
 obtain⟨t,h,q⟩:=hbody cdv A outer s H vs Q E hr hsp
 exact⟨t,h.nox,q⟩
def Fun.binds  {st:Stmt}    (F:Fun K x qual st f fd)
  (h:∀(kV doc pm:Value) (an:Option Addr) (cdv ct:Value) (us:List Value),us.length=ps.length->bindArgs (PySem.W.fnOf x qual (Ak st) (Ai st) (Ad st) .none kV doc pm an cdv ct) ⟨us,[]⟩=pure (ps.zip us)):Au K fd ps []:=by
 obtain⟨oc,od,kV,doc,pm,an,cdv,ct,osl,rfl,lk,hcd⟩:=F.ex
 exact .all (h kV doc pm an cdv ct)
def AJ  {st:Stmt}     {kV doc pm cdv ct:Value}(l:K.lookup f=some ⟨oc,od,.func (PySem.W.fnOf x qual (Ak st) (Ai st) (Ad st) .none kV doc pm an cdv ct),osl⟩)
  (c:PySem.W.codeIn K cdv qual=true) (k:PySem.W.keepIn K (.ref f)=true):Fun K x qual st f (PySem.W.fnOf x qual (Ak st) (Ai st) (Ad st) .none kV doc pm an cdv ct):=⟨⟨oc,od,kV,doc,pm,an,cdv,ct,osl,rfl,l,c⟩,k⟩
end
def IX   (hr:Room k A):A.units+1<cLine:=Nat.lt_of_le_of_lt (Nat.add_le_add_left (by decide:1<=64) _) hr.units
section
variable {X:Cx}
def pv (i:Nat)   (hN:X.N[i]?=some x:=by rfl)(hv:Vis X.env.scope x:=by first|exact Or.inl rfl|exact Or.inr (Or.inl rfl)|exact Or.inr (Or.inr rfl))(hd:(x==("__debug__" : Str))=false:=by decide)
  (hcd:(x==("__classdict__" : Str))=false:=by decide):PE X (.Name x pos) (tVar i):=LN_ hN hv hd hcd
end
def ite2 {c A B:Prop}[Decidable c](h1:c->A)(h2:¬ c->B):if c then A else B:=by
 by_cases h:c
 ·rw[if_pos h]
  exact h1 h
 ·rw[if_neg h]
  exact h2 h
noncomputable def Same (H H':Hp):Prop:=∀b o,H b=some o->H' b=some o
def Same.refl (H:Hp):Same H H:=fun _ _ h=>h
def Same.trans {H H1 H2:Hp}(a:Same H H1)(b:Same H1 H2):Same H H2:=fun c o h=>b c o (a c o h)
def Same.free  (e:Same H H')  (h:H' l=Option.none):H l=Option.none:=by
 cases q:H l with
 |none=>rfl
 |some o=>
  rw[e l o q]at h
  cases h
def Same.seq {K:PySem.W.Frag}    (e:Same H H')(h:SqL K H a xs):SqL K H' a xs:=by
 rcases h with (h|⟨o,h⟩)|h
 ·exact .inl (.inl (e _ _ h))
 ·exact .inl (.inr ⟨o,e _ _ h⟩)
 ·exact .inr h
end L2
set_option maxHeartbeats 4000000
namespace L2
open PySem PySem.Spec PyProof.Rows
section
variable {κ:Type} [DecidableEq κ]
noncomputable def valV (kvs:List (κ×V))(k:κ):Option V:=(kvs.find? fun kv=>decide (kv.1=k)).map (·.2)
noncomputable def putK (kvs:List (κ×V))(k:κ)(v:V):List (κ×V):=
 if (kvs.any fun kv=>decide (kv.1=k))=true then kvs.map (fun kv=>if kv.1=k then (kv.1,v) else kv) else kvs++[(k,v)]
def X7 {p:κ×V}{r:List (κ×V)}{k:κ}(e:p.1=k):valV (p::r) k=some p.2:=by simp[valV,List.find?_cons,e]
def X8 {p:κ×V}{r:List (κ×V)}{k:κ}(e:¬ p.1=k):valV (p::r) k=valV r k:=by simp[valV,List.find?_cons,e]
def KZ (k:κ):∀kvs:List (κ×V),(kvs.any fun kv=>decide (kv.1=k))=(valV kvs k).isSome
 |[]=>rfl
 |p::r=>by
  rw[List.any_cons]
  by_cases e:p.1=k
  ·simp only[X7 e,decide_eq_true e,Bool.true_or,Option.isSome_some]
  ·rw[X8 e,decide_eq_false e,Bool.false_or];exact KZ k r
def U7 (kvs:List (κ×V))(k:κ)(v:V):(putK kvs k v).length<=kvs.length+1:=by
 unfold putK
 split
 ·rw[List.length_map];lia
 ·rw[List.length_append,List.length_cons,List.length_nil];lia
def IC_ {kvs:List (κ×V)}{k:κ}(v:V)(h:valV kvs k=none):putK kvs k v=kvs++[(k,v)]:=by
 unfold putK
 rw[KZ,h]
 exact if_neg (by decide)
def RelO.isSome_eq   (r:RelO o u):o.isSome=u.isSome:=by
 cases o with
 |none=>cases u with
  |none=>rfl
  |some _=>exact (show False from r).elim
 |some _=>cases u with
  |none=>exact (show False from r).elim
  |some _=>rfl
def RelO.getD     (r:RelO o u)(rd:RelV d d'):RelV (o.getD d) (u.getD d'):=by
 cases o with
 |none=>cases u with
  |none=>exact rd
  |some _=>exact (show False from r).elim
 |some _=>cases u with
  |none=>exact (show False from r).elim
  |some _=>exact r
def KV.val   (r:KV kvs vs)(k:κ):RelO (valV kvs k) (valueAt vs k):=by
 unfold KV at r
 induction r with
 |nil=>exact True.intro
 |@cons p q ps qs h t ih=>
  obtain⟨h1,h2⟩:=h
  by_cases e:p.1=k
  ·have e':q.1=k:=h1.symm.trans e
   have b:valueAt (q::qs) k=some q.2:=by simp[valueAt,List.find?_cons,e']
   rw[X7 e,b];exact h2
  ·have e':¬ q.1=k:=fun z=>e (h1.trans z)
   have b:valueAt (q::qs) k=valueAt qs k:=by simp[valueAt,List.find?_cons,e']
   rw[X8 e,b];exact ih
def KV.any   (r:KV kvs vs)(k:κ):(kvs.any fun kv=>decide (kv.1=k))=vs.any fun kv=>decide (kv.1=k):=by
 unfold KV at r
 induction r with
 |nil=>rfl
 |cons h t ih=>rw[List.any_cons,List.any_cons,ih,h.1]
def KV.repl   (r:KV kvs vs)(k:κ)   (ry:RelV y u):
  KV (kvs.map fun kv=>if kv.1=k then (kv.1,y) else kv) (vs.map fun kv=>if kv.1=k then (kv.1,u) else kv):=by
 unfold KV at r ⊢
 induction r with
 |nil=>exact .nil
 |@cons p q ps qs h t ih=>
  rw[List.map_cons,List.map_cons]
  refine .cons ?_ ih
  obtain⟨h1,h2⟩:=h
  by_cases e:p.1=k
  ·rw[if_pos e,if_pos (h1.symm.trans e)];exact⟨h1,ry⟩
  ·rw[if_neg e,if_neg (fun z=>e (h1.trans z))];exact⟨h1,h2⟩
def KV.put   (r:KV kvs vs)(k:κ)   (ry:RelV y u):KV (putK kvs k y) (stored vs k u):=by
 unfold putK stored
 rw[r.any k]
 by_cases e:(vs.any fun kv=>decide (kv.1=k))=true
 ·rw[if_pos e,if_pos e];exact r.repl k ry
 ·rw[if_neg e,if_neg e];exact Paired.snoc r ⟨rfl,ry⟩
def KV.length {kvs:List (κ×V)}{vs:List (κ×Value)}(r:KV kvs vs):kvs.length=vs.length:=Paired.length r
end
def Ft_     (r:RelV (kV k) u):(EE P w).is k u=true:=by
 cases k with
 |inl i=>obtain⟨t,e⟩:=(show ∃t,u=Value.int i t from r);subst e;exact CV_ P w i t
 |inr x=>obtain⟨t,e⟩:=(show ∃t,u=Value.str x t from r);subst e;exact CW_ P w x t
def AX_ {P:Program}{w:World}:∀{ks:List Key} {us:List Value},Vals (ks.map kV) us->ItemsAre (EE P w) ks us
 |[],_,r=>by rw[List.map_nil]at r;cases r;exact .nil
 |k::ks,_,r=>by
  rw[List.map_cons]at r
  cases r with
  |cons h t=>exact .cons (Ft_ h) (AX_ t)
noncomputable abbrev KT (H:Hp):List (List Key×V)->List (List Key×Addr×Value)->Prop:=Paired fun p q=>p.1=q.1/\H q.2.1=some (.tup (p.1.map kV))/\RelV p.2 q.2.2
def KT.val    (r:KT H kvs xs)(k:List Key):RelO (valV kvs k) ((atKey xs k).map (·.2)):=by
 induction r with
 |nil=>exact True.intro
 |@cons p q ps qs h t ih=>
  obtain⟨h1,_,h2⟩:=h
  by_cases e:p.1=k
  ·have e':q.1=k:=h1.symm.trans e
   have b:atKey (q::qs) k=some q.2:=by simp[atKey,List.find?_cons,e']
   rw[X7 e,b];exact h2
  ·have e':¬ q.1=k:=fun z=>e (h1.trans z)
   have b:atKey (q::qs) k=atKey qs k:=by simp[atKey,List.find?_cons,e']
   rw[X8 e,b];exact ih
def KT.repl    (r:KT H kvs xs)(k:List Key)   (ry:RelV y u):
  KT H (kvs.map fun kv=>if kv.1=k then (kv.1,y) else kv) (xs.map (putAt k u)):=by
 induction r with
 |nil=>exact .nil
 |@cons p q ps qs h t ih=>
  rw[List.map_cons,List.map_cons]
  refine .cons ?_ ih
  obtain⟨h1,h2,h3⟩:=h
  unfold putAt
  by_cases e:p.1=k
  ·rw[if_pos e,if_pos (h1.symm.trans e)];exact⟨h1,h2,ry⟩
  ·rw[if_neg e,if_neg (fun z=>e (h1.trans z))];exact⟨h1,h2,h3⟩
def KT.put    (r:KT H kvs xs)(k:List Key)    (hb:H b=some (.tup (k.map kV)))(ry:RelV y u):
  KT H (putK kvs k y) (storedH xs k b u):=by
 have e:(kvs.any fun kv=>decide (kv.1=k))=(atKey xs k).isSome:=by
  rw[KZ,(r.val k).isSome_eq,Option.isSome_map]
 unfold putK storedH
 rw[e]
 by_cases q:(atKey xs k).isSome=true
 ·rw[if_pos q,if_pos q];exact r.repl k ry
 ·rw[if_neg q,if_neg q];exact Paired.snoc r ⟨rfl,hb,ry⟩
def KT.keeps    (r:KT H kvs xs)(ht:∀b ys,H b=some (.tup ys)->H' b=some (.tup ys)):KT H' kvs xs:=
 Paired.mapP r fun _ _ z=>⟨z.1,ht _ _ z.2.1,z.2.2⟩
section
variable {P:Program} {w:World} {H:Hp} {h:Heap} {a:Addr}
def ID_  (ok:HOk P w H h)(e:Rd H a u):C4 P w H h a u:=e.ok ok
def CZ_  (ok:HOk P w H h)(e:Rd H a (.dK kvs)):kvs.length<=sizeLine/\(a==sysModules)=false/\∃vs,KV kvs vs/\h.DictOf (EE P w) a vs:=
 show C4 P w H h a (.dK kvs) from ID_ ok e
def Nr_  (ok:HOk P w H h)(e:H a=some (.dK kvs)):kvs.length<=sizeLine/\(a==sysModules)=false/\∃vs,KV kvs vs/\h.DictOf (EE P w) a vs:=CZ_ ok (.inl e)
def XG  (ok:HOk P w H h)(e:H a=some (.tup (ks.map kV))):(tupleKind (EE P w)).is h ks a:=by
 obtain⟨_,its,r,o,h1,h2,n,h3⟩:=(show C4 P w H h a (.tup (ks.map kV)) from ok a _ e)
 exact⟨o,its.toArray,n,h1,h2,h3,by simpa using AX_ r⟩
def Da_  (ok:HOk P w H h)(e:Rd H a (.dT kvs)):kvs.length<=sizeLine/\(a==sysModules)=false /\
  ∃xs,KT H kvs xs/\h.DictOfH (tupleKind (EE P w)) a xs:=by
 obtain⟨z,y,xs,r,o,es,ep,h1,h2,h3,h4,h5⟩:=(show C4 P w H h a (.dT kvs) from ID_ ok e)
 refine⟨z,y,xs,r,o,es,ep,h1,h2,h3,h4,fun x hx=>?_,h5⟩
 have all:∀{l:List (List Key×V)} {m:List (List Key×Addr×Value)},KT H l m->∀x∈m,(tupleKind (EE P w)).is h x.1 x.2.1:=by
  intro l m q
  induction q with
  |nil=>intro x hx;exact nomatch hx
  |@cons p q ps qs hq t ih=>
   intro x hx
   rcases List.mem_cons.mp hx with e|hx
   ·subst e
    exact XG ok (by rw[<-hq.1];exact hq.2.1)
   ·exact ih x hx
 exact all r x hx
def Ns_  (ok:HOk P w H h)(e:H a=some (.dT kvs)):kvs.length<=sizeLine/\(a==sysModules)=false /\
  ∃xs,KT H kvs xs/\h.DictOfH (tupleKind (EE P w)) a xs:=Da_ ok (.inl e)
end
noncomputable def DGet (H:Hp)(a:Addr)(y:V)(r:Option V):Prop:=
 (∃kvs k,Rd H a (.dK kvs)/\y=kV k/\r=valV kvs k) \/ ∃kvs k b,Rd H a (.dT kvs)/\y=.ref b/\H b=some (.tup (k.map kV))/\r=valV kvs k
noncomputable def DPut (H:Hp)(a:Addr)(y v:V)(H':Hp):Prop:=
 (∃kvs k,H a=some (.dK kvs)/\y=kV k/\kvs.length<sizeLine/\H'=upd H a (.dK (putK kvs k v))) \/
 ∃kvs k b,H a=some (.dT kvs)/\y=.ref b/\H b=some (.tup (k.map kV))/\kvs.length<sizeLine/\H'=upd H a (.dT (putK kvs k v))
def DGet.t     (e:H a=some (.dT kvs))(eb:H b=some (.tup (k.map kV))):DGet H a (.ref b) (valV kvs k):=.inr ⟨kvs,k,b,.inl e,rfl,eb,rfl⟩
def DPut.t      (e:H a=some (.dT kvs))(eb:H b=some (.tup (k.map kV)))(hl:kvs.length<sizeLine):
  DPut H a (.ref b) v (upd H a (.dT (putK kvs k v))):=.inr ⟨kvs,k,b,e,rfl,eb,hl,rfl⟩
section
variable {X:Cx} {pins:List (Addr×Obj)} {σ:St} {H:Hp} {s:Shared} {a:Addr} {y v:V} {u r:Value} {o:Option V} {A:Around} {E:Value->Shared->Prop}
def Inv.big (I:Inv X pins σ H s):sysModules<s.heap.objs.size:=by
 have h:mainGlobals<s.heap.objs.size:=(I.mod.glob.keeps I.bk).lt
 exact Nat.lt_trans (by decide) h
def GO_  (hu:A.units+1<cLine)(I:Inv X pins σ H s)(g:DGet H a y (some v))(ry:RelV y u)(h:∀w' s',Inv X pins σ H s'->RelV v w'->Q w' s'):
  wpAny (model X.prog X.w) A (getItem (.ref a) u) Q E s:=by
 rcases g with ⟨kvs,k,e,ey,l⟩|⟨kvs,k,b,e,ey,eb,l⟩
 ·subst ey
  obtain⟨z,hd,vs,rel,dd⟩:=CZ_ I.hok e
  obtain⟨w',hw,rw'⟩:=RelO.some_of (v:=v) (o:=valueAt vs k) (by rw[l];exact rel.val k)
  exact wpAny_getItem_of (Ft_ ry) dd.mapOf hw (h w' _ (I.tok _) rw')
 ·subst ey
  cases (show u=Value.ref b from ry)
  obtain⟨z,hd,xs,rel,dd⟩:=Da_ I.hok e
  obtain⟨w',hw,rw'⟩:=RelO.some_of (v:=v) (o:=(atKey xs k).map (·.2)) (by rw[l];exact rel.val k)
  obtain⟨p,hp,hp2⟩:=Option.map_eq_some_iff.mp hw
  refine wpAny_getItem_heap (tupleKind_room_in1 hu) (XG I.hok eb) dd hp ?_
  rw[hp2]
  exact h w' _ (I.tok _) rw'
def d_in  (hu:A.units+1<cLine)(I:Inv X pins σ H s)(g:DGet H a y o)(ry:RelV y u)(h:∀s',Inv X pins σ H s'->Q (.bool o.isSome) s'):
  wpAny (model X.prog X.w) A (compareOp .In u (.ref a)) Q E s:=by
 rcases g with ⟨kvs,k,e,ey,l⟩|⟨kvs,k,b,e,ey,eb,l⟩
 ·subst ey
  obtain⟨z,hd,vs,rel,dd⟩:=CZ_ I.hok e
  refine wpAny_in_of (Ft_ ry) hd dd.mapOf ?_
  rw[<-(rel.val k).isSome_eq,<-l]
  exact h _ (I.tok _)
 ·subst ey
  cases (show u=Value.ref b from ry)
  obtain⟨z,hd,xs,rel,dd⟩:=Da_ I.hok e
  refine wpAny_in_heap (tupleKind_room_in1 hu) (XG I.hok eb) hd dd ?_
  have q:=(rel.val k).isSome_eq
  rw[Option.isSome_map]at q
  rw[<-q,<-l]
  exact h _ (I.tok _)
def Db_    (I:Inv X pins σ H s)(mu:Mut (H a))(hs:Heap.SameBut a s.heap h')(he:∃q,h'.get? a=some q)(new:C4 X.prog X.w (upd H a ob) h' a ob):
  Inv X pins σ (upd H a ob) {s with heap:=h',toks:=t' }:=
 I.write (x:=a) (e:=a) mu (.inl rfl) (fun b q hb z=>(hs.2 b hb).trans z) he new
def Me_       (z:kvs.length<=sizeLine)(hd:(a==sysModules)=false)(rel:KV kvs vs)(dd:h'.DictOf (EE P w) a vs):
  C4 P w H' h' a (.dK kvs):=⟨z,hd,vs,rel,dd⟩
def GP_   (hu:A.units+1<cLine)(I:Inv X pins σ H s)(g:DPut H a y v H')(ry:RelV y u)(rv:RelV v r)(h:∀s',Inv X pins σ H' s'->Q () s'):
  wpAny (model X.prog X.w) A (setItem (.ref a) u r) Q E s:=by
 rcases g with ⟨kvs,k,e,ey,l,eH⟩|⟨kvs,k,b,e,ey,eb,l,eH⟩
 ·subst ey eH
  obtain⟨z,hd,vs,rel,dd⟩:=Nr_ I.hok e
  have hz:vs.length<=sizeLine:=by rw[<-rel.length];exact z
  have hl:(putK kvs k v).length<=sizeLine:=by have:=U7 kvs k v;lia
  refine wpAny_setItem_pairs (hsz:=hz) (Ft_ ry) dd fun h' dd' hs=>h _ ?_
  have he:∃q,h'.get? a=some q:=let ⟨q,_,_,hq,_⟩:=dd';⟨q,hq⟩
  exact Db_ I (by rw[e];exact True.intro) hs he (Me_ hl hd (rel.put k rv) dd')
 ·subst ey eH
  cases (show u=Value.ref b from ry)
  obtain⟨z,hd,xs,rel,dd⟩:=Ns_ I.hok e
  have hz:xs.length<=sizeLine:=by rw[<-Paired.length rel];exact z
  have hl:(putK kvs k v).length<=sizeLine:=by have:=U7 kvs k v;lia
  refine wpAny_setItem_heap (hsz:=hz) (tupleKind_room_in1 hu) (XG I.hok eb) dd fun h' dd' hs=>h _ ?_
  obtain⟨q,es,ep,hq,h2,h3,h4,_,h5⟩:=dd'
  refine Db_ I (by rw[e];exact True.intro) hs ⟨q,hq⟩ ⟨hl,hd,_,(rel.put k eb rv).keeps fun c ys ec=>?_,q,es,ep,hq,h2,h3,h4,h5⟩
  rw[Ag (Nn_ ec e (fun z=>nomatch z))]
  exact ec
end
noncomputable def NoSl (i:Expr):Prop:=∀ov iv,subscripted i false ov iv=operate [ov,iv] (getItem ov iv)
def KS_         {T id:String}
  (hl:typeLookup (.type T) "__getitem__"=pure (some (.builtin id))) (hs:NoSl slice)
  (h:wpAny (model prog w) A (eval value env) (fun o s₁=>wpAny (model prog w) A (eval slice env) (fun i s₂=>s₂.TypeIs o T/\wpAny (model prog w) A (getItem o i) Q E s₂) E s₁) E s):
  wpAny (model prog w) A (eval (.Subscript value slice pos) env) Q E s:=by
 refine Subscript_ (wpAny_mono h (fun o s₁ h₁=>wpAny_mono h₁ (fun i s₂ h₂=>?_) fun _ _ x=>x) fun _ _ x=>x)
 obtain⟨hT,h₂⟩:=h₂
 unfold subscriptTail
 refine wpAny_bind ?_
 rw[getitemInPython_of_ne hT.not_modules]
 refine wpAny_bind (wpAny_specialOf hT hl ?_)
 have fin:wpAny (model prog w) A (subscripted slice false o i) (fun r s₃=>wpAny (model prog w) A (letTemporaryGo value o r >>= fun _=>pure r) Q E s₃) E s₂:=by
  rw[hs o i]
  exact wpAny_operating (wpAny_mono h₂ (fun r s₃ h₃=>wpAny_bind (wpAny_letTemporaryGo (wpAny_pure h₃))) fun _ _ x=>x)
 first
  | exact wpAny_pure (wpAny_bind fin)
  | exact wpAny_bind (wpAny_pure (wpAny_bind fin))
  | exact wpAny_bind fin
def Dc_         (I:Inv X pins σ H s)(g:DGet H a y o):s.TypeIs (.ref a) "dict" := by
 rcases g with ⟨kvs,k,e,_,_⟩|⟨kvs,k,b,e,_,_,_⟩
 ·obtain⟨_,_,vs,_,dd⟩:=CZ_ I.hok e
  exact dd.typeIs
 ·obtain⟨_,_,xs,_,dd⟩:=Da_ I.hok e
  exact dd.typeIs
noncomputable def Mf_ (td ty:TE):TE:=fun σ H Q=>td σ H fun x H1=>ty σ H1 fun y H2=>∃a v,x=.ref a/\DGet H2 a y (some v)/\Q v H2
noncomputable def tDIn (ty td:TE):TE:=fun σ H Q=>ty σ H fun y H1=>td σ H1 fun x H2=>∃a o,x=.ref a/\DGet H2 a y o/\Q (.bl o.isSome) H2
noncomputable def Mg_ (td ty tv:TE):TS:=fun D σ H=>tv σ H fun v H1=>td σ H1 fun x H2=>ty σ H2 fun y H3=>∃a H4,x=.ref a/\DPut H3 a y v H4/\D.nx σ H4
section
variable {X:Cx} {o i e value:Expr} {pos pos' tpos:Pos} {td ty tv:TE}
def Mq (hu:X.A.units+1<cLine)(ho:PE X o td)(hi:PE X i ty)(hs:NoSl i):PE X (.Subscript o i pos) (Mf_ td ty):=by
 intro pins s σ H Q I h
 refine KS_ PySem.F.slot_dict_getitem.lookup hs (thn (ho pins s σ H _ I h) fun u s1 ⟨x,H1,I1,rx,q1⟩=>thn (hi pins s1 σ H1 _ I1 q1) fun iv s2 ⟨y,H2,I2,ry,a,v,ex,g,q2⟩=>?_)
 subst ex
 obtain rfl:u=Value.ref a:=rx
 exact⟨Dc_ I2 g,GO_ hu I2 g ry fun w' s3 I3 rw'=>⟨v,H2,I3,rw',q2⟩⟩
def GQ_ (hu:X.A.units+1<cLine)(hi:PE X i ty)(ho:PE X o td):PC X .In i o (tDIn ty td):=by
 intro pins s σ H Q I h
 refine thn (hi pins s σ H _ I h) fun iv s1 ⟨y,H1,I1,ry,q1⟩=>thn (ho pins s1 σ H1 _ I1 q1) fun u s2 ⟨x,H2,I2,rx,a,ov,ex,g,q2⟩=>?_
 subst ex
 obtain rfl:u=Value.ref a:=rx
 exact d_in hu I2 g ry fun s3 I3=>⟨.bl ov.isSome,H2,I3,rfl,q2⟩
def K0 (hu:X.A.units+1<cLine)(ho:PE X o td)(hi:PE X i ty)(hv:PE X value tv)(hs:swapsWith value (some (.Subscript o i pos')) pos.line X.env=pure false):
  PS X (.Assign [.Subscript o i pos'] value pos) (Mg_ td ty tv):=by
 intro pins s σ H D I h
 refine wpAny_Assign_Subscript (thn (hv pins s σ H _ I h) fun r s1 ⟨v,H1,I1,rv,q1⟩=>thn (ho pins s1 σ H1 _ I1 q1) fun u s2 ⟨x,H2,I2,rx,q2⟩=>thn (hi pins s2 σ H2 _ I2 q2) fun iv s3 ⟨y,H3,I3,ry,a,H4,ex,g,q3⟩=>?_) hs
 subst ex
 obtain rfl:u=Value.ref a:=rx
 exact GP_ hu I3 g ry rv fun s4 I4=>⟨σ,H4,I4,q3⟩
end
def IE_    (h:Heap)(hb:sysModules<h.objs.size):C4 P w H (h.push {cls:=.type "dict",data:=.dict #[]}) h.objs.size (.dT []):=
 ⟨Nat.zero_le _,beq_eq_false_iff_ne.mpr (Ne.symm (Nat.ne_of_lt hb)),[],.nil,_,#[],0,Heap.get?_push_size _ rfl,⟨rfl,rfl,rfl⟩,rfl,rfl,List.nodup_nil⟩
noncomputable def JG_:TE:=fun _ H Q=>∀p,H p=none->Q (.ref p) (upd H p (.dT []))
section
variable {X:Cx} {pos:Pos}
def K1:PE X (.Dict [] [] pos) JG_:=fun pins s σ H Q I h=>
 wpAny_Dict_empty ⟨.ref s.heap.objs.size,_,I.laid (a:=s.heap.objs.size) (o:=.dT []) (t':=s.toks) (fun _ _ q=>Heap.get?_push_of_some _ q) (Nat.le_refl _) (IE_ s.heap I.big),rfl,h _ (I.hok.fresh (Nat.le_refl _))⟩
end
structure M1 (X:Cx)(o:Expr)(m:Str)(apos:Pos)(e:Expr)(cpos:Pos):Prop where
 base:attributeBase o m X.env (eval o X.env)=eval o X.env
 few:((backTo cpos (starEach [e] X.env)).all (fun x => !x.1)&&(backToKw cpos (keywordEach [] X.env)).all (fun x=>x.1.isSome)
  && decide (([e]:List Expr).length+([]:List Keyword).length+(if ([]:List Keyword).isEmpty then 0 else 1)<30))=true
 line:(apos.endLine==cpos.line)=true
 trees:backTo cpos (starEach [e] X.env)=[(false,eval e X.env)]
structure M2 (X:Cx)(o:Expr)(m:Str)(apos:Pos)(e f:Expr)(cpos:Pos):Prop where
 base:attributeBase o m X.env (eval o X.env)=eval o X.env
 few:((backTo cpos (starEach [e,f] X.env)).all (fun x => !x.1)&&(backToKw cpos (keywordEach [] X.env)).all (fun x=>x.1.isSome)
  && decide (([e,f]:List Expr).length+([]:List Keyword).length+(if ([]:List Keyword).isEmpty then 0 else 1)<30))=true
 line:(apos.endLine==cpos.line)=true
 trees:backTo cpos (starEach [e,f] X.env)=[(false,eval e X.env),(false,eval f X.env)]
noncomputable def IsD (H:Hp)(a:Addr):Prop:=(∃kvs,Rd H a (.dK kvs)) \/ ∃kvs,Rd H a (.dT kvs)
def JH_       (I:Inv X pins σ H s)(d:IsD H a):
  s.TypeIs (.ref a) "dict" /\ (∀b,Value.ref a=.ref b->∃ob,s.heap.get? b=some ob/\ob.dict=none)/\(a==sysModules)=false:=by
 rcases d with ⟨kvs,e⟩|⟨kvs,e⟩
 ·obtain⟨_,hd,vs,_,dd⟩:=CZ_ I.hok e
  refine⟨dd.typeIs,fun b q=>?_,hd⟩
  cases q
  obtain⟨ob,_,_,h1,h2,_⟩:=dd
  exact⟨ob,h1,h2.2.1⟩
 ·obtain⟨_,hd,xs,_,dd⟩:=Da_ I.hok e
  refine⟨dd.typeIs,fun b q=>?_,hd⟩
  cases q
  obtain⟨ob,_,_,h1,h2,_⟩:=dd
  exact⟨ob,h1,h2.2.1⟩
section
variable {X:Cx} {pins:List (Addr×Obj)} {σ:St} {H:Hp} {s:Shared} {a:Addr} {y d:V} {u r:Value} {o:Option V} {A:Around} {E:Value->Shared->Prop}
def Mh_  (hu:A.units+1<cLine)(I:Inv X pins σ H s)(g:DGet H a y o)(ry:RelV y u)(h:∀w' s',Inv X pins σ H s'->RelV (o.getD .non) w'->Q w' s'):
  wpAny (model X.prog X.w) A (call (.builtin "dict.get") [.ref a,u]) Q E s:=by
 rcases g with ⟨kvs,k,e,ey,l⟩|⟨kvs,k,b,e,ey,eb,l⟩
 ·subst ey
  obtain⟨z,hd,vs,rel,dd⟩:=CZ_ I.hok e
  refine call_meetsIn PySem.F.slot_dict_get dd.typeIs PySem.F.entry_dict_get (PySem.F.args_dict_get_2 _ _) (meets_dict_get (EE X.prog X.w) a (Ft_ ry) hd) ⟨_,dd.mapOf,h _ _ (I.tok _) ?_⟩
  rw[l]
  exact (rel.val k).getD rfl
 ·subst ey
  cases (show u=Value.ref b from ry)
  obtain⟨z,hd,xs,rel,dd⟩:=Da_ I.hok e
  refine call_meetsIn PySem.F.slot_dict_get dd.typeIs PySem.F.entry_dict_get (PySem.F.args_dict_get_2 _ _) (meetsH_dict_get (tupleKind (EE X.prog X.w)) a b hd) ⟨tupleKind_room_in1 hu,k,xs,XG I.hok eb,dd,h _ _ (I.tok _) ?_⟩
  rw[l]
  exact (rel.val k).getD rfl
def Mi_  (hu:A.units+1<cLine)(I:Inv X pins σ H s)(g:DGet H a y o)(ry:RelV y u)(rd:RelV d r)(h:∀w' s',Inv X pins σ H s'->RelV (o.getD d) w'->Q w' s'):
  wpAny (model X.prog X.w) A (call (.builtin "dict.get") [.ref a,u,r]) Q E s:=by
 rcases g with ⟨kvs,k,e,ey,l⟩|⟨kvs,k,b,e,ey,eb,l⟩
 ·subst ey
  obtain⟨z,hd,vs,rel,dd⟩:=CZ_ I.hok e
  refine call_meetsIn PySem.F.slot_dict_get dd.typeIs PySem.F.entry_dict_get (PySem.F.args_dict_get_3 _ _ _) (meets_dict_get_default (EE X.prog X.w) a (Ft_ ry) hd r) ⟨_,dd.mapOf,h _ _ (I.tok _) ?_⟩
  rw[l]
  exact (rel.val k).getD rd
 ·subst ey
  cases (show u=Value.ref b from ry)
  obtain⟨z,hd,xs,rel,dd⟩:=Da_ I.hok e
  refine call_meetsIn PySem.F.slot_dict_get dd.typeIs PySem.F.entry_dict_get (PySem.F.args_dict_get_3 _ _ _) (meetsH_dict_get_default (tupleKind (EE X.prog X.w)) a b hd r) ⟨tupleKind_room_in1 hu,k,xs,XG I.hok eb,dd,h _ _ (I.tok _) ?_⟩
  rw[l]
  exact (rel.val k).getD rd
end
noncomputable def JI_ (td ty:TE):TE:=fun σ H Q=>td σ H fun x H1=>∃a,x=.ref a/\IsD H1 a/\ty σ H1 fun y H2=>∃o,DGet H2 a y o/\Q (o.getD .non) H2
noncomputable def JJ_ (td ty tx:TE):TE:=fun σ H Q=>td σ H fun x H1=>∃a,x=.ref a/\IsD H1 a/\ty σ H1 fun y H2=>tx σ H2 fun z H3=>∃o,DGet H3 a y o/\Q (o.getD z) H3
section
variable {X:Cx} {o e f:Expr} {apos cpos:Pos} {td ty tx:TE}
def Ew_ (hu:X.A.units+1<cLine)(ho:PE X o td)(he:PE X e ty)(m:M1 X o "get" apos e cpos):PE X (.Call (.Attribute o "get" apos) [e] [] cpos) (JI_ td ty):=by
 intro pins s σ H Q I h
 refine wpAny_Call_method m.base m.few m.line PySem.F.plainAttrs_dict PySem.F.slot_dict_get PySem.F.type_dict_get (thn (ho pins s σ H _ I h) fun u s1 ⟨x,H1,I1,rx,a,ex,d,q1⟩=>?_)
 subst ex
 obtain rfl:u=Value.ref a:=rx
 obtain⟨t1,t2,_⟩:=JH_ I1 d
 refine⟨t1,t2,?_⟩
 rw[m.trees]
 refine Calls.callWith_builtin rfl (Calls.evalArgs_plain (Calls.spliced_cons (thn (he pins s1 σ H1 _ I1 q1) fun iv s2 ⟨y,H2,I2,ry,ov,g,q2⟩=>Calls.spliced_nil ?_)))
 exact Mh_ hu I2 g ry fun w' s3 I3 rw'=>⟨_,H2,I3,rw',q2⟩
def IF_ (hu:X.A.units+1<cLine)(ho:PE X o td)(he:PE X e ty)(hf:PE X f tx)(m:M2 X o "get" apos e f cpos):PE X (.Call (.Attribute o "get" apos) [e,f] [] cpos) (JJ_ td ty tx):=by
 intro pins s σ H Q I h
 refine wpAny_Call_method m.base m.few m.line PySem.F.plainAttrs_dict PySem.F.slot_dict_get PySem.F.type_dict_get (thn (ho pins s σ H _ I h) fun u s1 ⟨x,H1,I1,rx,a,ex,d,q1⟩=>?_)
 subst ex
 obtain rfl:u=Value.ref a:=rx
 obtain⟨t1,t2,_⟩:=JH_ I1 d
 refine⟨t1,t2,?_⟩
 rw[m.trees]
 refine Calls.callWith_builtin rfl (Calls.evalArgs_plain (Calls.spliced_cons (thn (he pins s1 σ H1 _ I1 q1) fun iv s2 ⟨y,H2,I2,ry,q2⟩ =>
  Calls.spliced_cons (thn (hf pins s2 σ H2 _ I2 q2) fun fv s3 ⟨z,H3,I3,rz,ov,g,q3⟩=>Calls.spliced_nil ?_))))
 exact Mi_ hu I3 g ry rz fun w' s4 I4 rw'=>⟨_,H3,I4,rw',q3⟩
end
end L2
namespace L2
open PySem PySem.Spec PyProof.Rows
noncomputable def clOf (env:Env):List (Str×NameKind)->List (Str×Addr)->List (Str×Addr)
 |[],acc=>acc
 | (n,k)::r,acc=>if (k == .free)=true then clOf env r ((n,(env.cells.lookup n).getD 0)::acc) else clOf env r acc
def XH   (h:∀p∈scope.names,p.2=.free->∃c,env.cells.lookup p.1=some c):closureFor scope env=pure (clOf env scope.names []):=by
 have go:∀(l:List (Str×NameKind)) (acc:List (Str×Addr)),(∀p∈l,p.2=.free->∃c,env.cells.lookup p.1=some c) ->
   (forIn l acc fun (x:Str×NameKind) (cs:List (Str×Addr))=>(if (x.2 == .free)=true then do let c <- cellOf env x.1;pure (ForInStep.yield ((x.1,c)::cs)) else pure (ForInStep.yield cs):Sem (ForInStep (List (Str×Addr)))))=(pure (clOf env l acc):Sem (List (Str×Addr))):=by
  intro l
  induction l with
  |nil=>intro acc _;rfl
  |cons p r ih=>
   intro acc hl
   obtain⟨n,k⟩:=p
   rw[List.forIn_cons]
   by_cases hk:(k == .free)=true
   ·obtain⟨c,hc⟩:=hl (n,k) List.mem_cons_self (by simpa using hk)
    have e1:cellOf env n=pure c:=by unfold cellOf;rw[hc]
    have ih':=ih ((n,c)::acc) fun q hq=>hl q (List.mem_cons_of_mem _ hq)
    show ((if (k == .free)=true then do let c <- cellOf env n;pure (ForInStep.yield ((n,c)::acc)) else pure (ForInStep.yield acc):Sem _) >>= _)=_
    rw[if_pos hk,e1]
    show (forIn r ((n,c)::acc) _:Sem _)=_
    rw[clOf,if_pos hk,hc]
    exact ih'
   ·have ih':=ih acc fun q hq=>hl q (List.mem_cons_of_mem _ hq)
    show ((if (k == .free)=true then do let c <- cellOf env n;pure (ForInStep.yield ((n,c)::acc)) else pure (ForInStep.yield acc):Sem _) >>= _)=_
    rw[if_neg hk]
    show (forIn r acc _:Sem _)=_
    rw[clOf,if_neg hk]
    exact ih'
 have e:=go scope.names [] h
 unfold closureFor
 show (forIn scope.names [] _ >>= fun cs=>pure cs:Sem _)=_
 have e2:(forIn scope.names [] (fun (x:Str×NameKind) (r:List (Str×Addr))=>(match x with
   | (name,kind)=>if (kind == .free)=true then do let c <- cellOf env name;pure (ForInStep.yield ((name,c)::r)) else do pure PUnit.unit;pure (ForInStep.yield r):Sem (ForInStep (List (Str×Addr))))))=(pure (clOf env scope.names []):Sem (List (Str×Addr))):=e
 exact congrArg (fun z=>z >>= fun cs=>pure cs) e2
def X9 {env:Env}:∀(l:List (Str×NameKind)) (acc:List (Str×Addr)),(∀p∈l,p.2=.free->∃c,env.cells.lookup p.1=some c)->(∀q∈acc,env.cells.lookup q.1=some q.2)->∀q∈clOf env l acc,env.cells.lookup q.1=some q.2
 |[],_,_,ha,q,hq=>ha q hq
 | (n,k)::r,acc,hl,ha,q,hq=>by
  unfold clOf at hq
  by_cases hk:(k == .free)=true
  ·rw[if_pos hk]at hq
   obtain⟨c,hc⟩:=hl (n,k) List.mem_cons_self (by simpa using hk)
   refine X9 r _ (fun p hp=>hl p (List.mem_cons_of_mem _ hp)) (fun p hp=>?_) q hq
   rcases List.mem_cons.mp hp with rfl|hp
   ·show env.cells.lookup n=some ((env.cells.lookup n).getD 0)
    rw[hc];rfl
   ·exact ha p hp
  ·rw[if_neg hk]at hq
   exact X9 r _ (fun p hp=>hl p (List.mem_cons_of_mem _ hp)) ha q hq
def UO {env:Env}:∀(l:List (Str×NameKind)) (acc:List (Str×Addr)) (x:Str),((x,NameKind.free)∈l \/ ∃c,(x,c)∈acc)->∃c,(x,c)∈clOf env l acc
 |[],_,_,h=>by
  rcases h with h|h
  ·cases h
  ·exact h
 | (n,k)::r,acc,x,h=>by
  unfold clOf
  by_cases hk:(k == .free)=true
  ·rw[if_pos hk]
   refine UO r _ x ?_
   rcases h with h|⟨c,h⟩
   ·rcases List.mem_cons.mp h with h|h
    ·cases h
     exact .inr ⟨_,List.mem_cons_self⟩
    ·exact .inl h
   ·exact .inr ⟨c,List.mem_cons_of_mem _ h⟩
  ·rw[if_neg hk]
   refine UO r _ x ?_
   rcases h with h|h
   ·rcases List.mem_cons.mp h with h|h
    ·cases h
     exact absurd rfl hk
    ·exact .inl h
   ·exact .inr h
def GP {β:Type}:∀{l:List (Str×β)} {x:Str} {c:β},(x,c)∈l->∃c',l.lookup x=some c'
 |[],_,_,h=>by cases h
 | (n,d)::r,x,c,h=>by
  by_cases hx:(x==n)=true
  ·exact⟨d,by rw[List.lookup_cons,hx]⟩
  ·rcases List.mem_cons.mp h with h|h
   ·cases h;exact absurd (beq_self_eq_true _) hx
   ·obtain⟨c',e⟩:=GP h
    exact⟨c',by rw[List.lookup_cons];simp only[Bool.not_eq_true]at hx;rw[hx];exact e⟩
noncomputable def relF (env:Env):Str×NameKind->Str×NameKind:=fun (n,k)=>if (k==NameKind.free&&env.scope.kind == .function&&env.kindOf n==some .cell) then (n,NameKind.cell) else (n,k)
def Ya    (h:(k==NameKind.free&&env.scope.kind == .function&&env.kindOf n==some .cell)=true):relF env (n,k)=(n,.cell):=if_pos h
def Dd_    (h:¬ (k==NameKind.free&&env.scope.kind == .function&&env.kindOf n==some .cell)=true):relF env (n,k)=(n,k):=if_neg h
def Mr {env:Env}:∀{names:List (Str×NameKind)} {x:Str} {k:NameKind},(∀y∈names,y.2 ≠ .cell) ->
  (names.map (relF env)).lookup x=some k->(k=.cell\/k=.free)->(x,NameKind.free)∈names
 |[],_,_,_,h,_=>by simp at h
 | (n,k')::r,x,k,hc,h,hk=>by
  have ih := @Mr env r x k (fun y hy=>hc y (List.mem_cons_of_mem _ hy))
  rw[List.map_cons]at h
  by_cases hb:(k'==NameKind.free&&env.scope.kind == .function&&env.kindOf n==some .cell)=true
  ·rw[Ya hb,List.lookup_cons]at h
   cases hx:x==n with
   |true=>
    have e:x=n:=by simpa using hx
    subst e
    have e2:k'=.free:=by
     simp only[Bool.and_eq_true]at hb
     simpa using hb.1.1
    subst e2
    exact List.mem_cons_self
   |false=>
    rw[hx]at h
    exact List.mem_cons_of_mem _ (ih h hk)
  ·rw[Dd_ hb,List.lookup_cons]at h
   cases hx:x==n with
   |true=>
    rw[hx]at h
    have e:x=n:=by simpa using hx
    subst e
    have e2:k'=k:=Option.some.inj h
    subst e2
    rcases hk with rfl|rfl
    ·exact absurd rfl (hc _ List.mem_cons_self)
    ·exact List.mem_cons_self
   |false=>
    rw[hx]at h
    exact List.mem_cons_of_mem _ (ih h hk)
def Tg {env:Env}:∀{names:List (Str×NameKind)} {x:Str},names.lookup x=some .free ->
  ∃k,(k=NameKind.cell\/k=NameKind.free)/\(names.map (relF env)).lookup x=some k
 |[],_,h=>by simp at h
 | (n,k')::r,x,h=>by
  have ih := @Tg env r x
  rw[List.lookup_cons]at h
  rw[List.map_cons]
  cases hx:x==n with
  |true=>
   rw[hx]at h
   have e2:k'=.free:=Option.some.inj h
   subst e2
   by_cases hb:((NameKind.free:NameKind)==NameKind.free&&env.scope.kind == .function&&env.kindOf n==some .cell)=true
   ·exact⟨.cell,.inl rfl,by rw[Ya hb,List.lookup_cons,hx]⟩
   ·exact⟨.free,.inr rfl,by rw[Dd_ hb,List.lookup_cons,hx]⟩
  |false=>
   rw[hx]at h
   obtain⟨k,hk,e⟩:=ih h
   refine⟨k,hk,?_⟩
   by_cases hb:(k'==NameKind.free&&env.scope.kind == .function&&env.kindOf n==some .cell)=true
   ·rw[Ya hb,List.lookup_cons,hx];exact e
   ·rw[Dd_ hb,List.lookup_cons,hx];exact e
end L2
namespace L2
open PySem PySem.Spec PyProof.Rows
section
variable {prog:Program} {w:World} {A:Around} {R:Result->Shared->Prop} {s:Shared}
noncomputable abbrev cpW (prog:Program)(w:World)(A:Around)(R:Result->Shared->Prop)(env:Env){α:Type}(m:Sem α)(Q:α->Shared->Prop):Shared->Prop:=wpAny (model prog w) A m Q (notedBy (model prog w) A env fun e t=>R (.error e) t)
def AY_ {elt target iter:Expr}    {it acc:Value}  (I:Nat->Shared->Prop)
  (turn:∀n s,I n s->cpW prog w A R env (pyNext it) (fun r s=>match r with
   |none=>R (.ok .next) s
   |some v=>cpW prog w A R env (letOwnedTupleGo target it v) (fun _=>cpW prog w A R env (assign target env v) fun _=>cpW prog w A R env (forIn ifs true fun c r=>if r=true then do let ok <- isTrue c env (eval c env);pure (ForInStep.yield ok) else pure (ForInStep.yield r)) fun ok s=>
     if ok=true then cpW prog w A R env (eval elt env) (fun x=>cpW prog w A R env (call (.builtin "list.append") [acc,x]) fun _ t=>∃m,m<n/\I m t) s else ∃m,m<n/\I m s) s) s)
  (n:Nat) (h:I n s):codeAny (model prog w) A (.compLoop (.ListComp elt [⟨target,iter,ifs,0⟩] scope pos) 0 it acc env) R s:=by
 have mono:∀{α β:Type} {m:Sem α} {f:α->Sem β} {Q:α->Shared->Prop} {Q':β->Shared->Prop} {s:Shared},cpW prog w A R env m Q s->(∀a t,Q a t->cpW prog w A R env (f a) Q' t)->cpW prog w A R env (m >>= f) Q' s:=fun h k=>wpAny_bind (wpAny_mono h k fun _ _ e=>e)
 refine codeAny_loop rfl I (fun n s hI=>wpAny_noted ?_) n h
 rw[compTurn_list]
 refine wpAny_bind (wpAny_standAt (mono (turn n s hI) fun r s1 h1=>?_))
 cases r with
 |none=>exact wpAny_pure h1
 |some v=>
  refine mono h1 fun _ _ h2=>mono h2 fun _ _ h3=>mono h3 fun ok s4 h4=>?_
  cases ok with
  |false=>exact wpAny_pure ⟨rfl,h4⟩
  |true=>exact wpAny_bind (mono h4 fun _ _ h5=>mono h5 fun _ _ h6=>wpAny_pure (wpAny_pure ⟨rfl,h6⟩))
end
noncomputable abbrev Cx.blk (X:Cx)(N:List Str)(sc:Scope)(C:Addr)(s₀:Shared)(H₀:Hp)(ex:List Addr):Cx:=
 {X with N:=N,env:=compEnvC sc (clOf X.env sc.names []) C X.env,outer:=X.stack,s₀:=s₀,H₀:=H₀,ex:=ex,fn:=fun _=>false,pn:=[],xe:=fun _ _=>False}
structure BlkSc (X:Cx)(sc:Scope):Prop where
 kind:sc.kind=.function
 nocell:∀y∈sc.names,y.2 ≠ .cell
 loc:∀y∈sc.names,y.2=.local->sc.names.lookup y.1=some .local
 free:∀y∈sc.names,y.2=.free->X.env.kindOf y.1=some .cell\/X.env.kindOf y.1=some .free
noncomputable abbrev Caps:=List (Str×Option Nat)
noncomputable def Caps.names (c:Caps):List Str:=c.map (·.1)
noncomputable def Caps.st (c:Caps)(σ:St):St:=c.map fun p=>p.2.bind fun j=>(σ[j]?).join
noncomputable def Ms (N:List Str)(sc:Scope):Caps->Prop
 |[]=>True
 | (_,none)::r=>Ms N sc r
 | (x,some j)::r=>(N[j]?=some x/\sc.names.lookup x=some .free)/\Ms N sc r
def Ms.get {N:List Str}{sc:Scope}:∀{c:Caps} {i:Nat} {x:Str} {j:Nat},Ms N sc c->c[i]?=some (x,some j)->N[j]?=some x/\sc.names.lookup x=some .free
 |[],_,_,_,_,h=>by simp at h
 | (y,none)::r,0,x,j,_,h=>by simp at h
 | (y,none)::r,i+1,x,j,ok,h=>Ms.get (c:=r) (i:=i) ok (by simpa using h)
 | (y,some k)::r,0,x,j,ok,h=>by
  simp only[List.getElem?_cons_zero,Option.some.injEq,Prod.mk.injEq]at h
  obtain⟨rfl,rfl⟩:=h
  exact ok.1
 | (y,some k)::r,i+1,x,j,ok,h=>Ms.get (c:=r) (i:=i) ok.2 (by simpa using h)
section
variable {X:Cx} {pins:List (Addr×Obj)} {σ:St} {H:Hp} {s:Shared} {sc:Scope} {fp:List Addr}
def U8 (I:Inv X pins σ H s)(S:BlkSc X sc):∀p∈sc.names,p.2=.free->∃c,X.env.cells.lookup p.1=some c:=fun p hp e=>I.ok.has p.1 (S.free p hp e)
def Gn (I:Inv X pins σ H s)(S:BlkSc X sc)   (h:(clOf X.env sc.names []).lookup x=some c):X.env.cells.lookup x=some c:=
 X9 sc.names [] (U8 I S) (fun q hq=>by cases hq) (x,c) (PySem.mem_of_lookup h)
def Mj_ {N:List Str}{C:Addr}(I:Inv X pins σ H s)(S:BlkSc X sc)(hC:s.heap.objs.size<=C)(hf:∀b∈fp,FpOk X pins H b)(ho:∀b∈fp,∃o,s.heap.get? b=some o):(X.blk N sc C s H fp).Ok where
 mod:=I.ok.mod
 kind:=S.kind
 glob:=I.ok.glob
 blt:=I.ok.blt
 above:=hC
 inj:=fun x y c h1 h2=>I.ok.inj x y c (Gn I S h1) (Gn I S h2)
 has:=fun x hx=>by
  have hx':(x,NameKind.free)∈sc.names:=by
   rcases hx with hx|hx
   ·exact Mr (env:=X.env) S.nocell hx (.inl rfl)
   ·exact Mr (env:=X.env) S.nocell hx (.inr rfl)
  obtain⟨c,hc⟩:=UO (env:=X.env) sc.names [] x (.inl hx')
  exact GP hc
 cab:=fun x c h=>absurd (show false=true from h) Bool.false_ne_true
 hd:=I.ok.hd
 frames:=I.ok.frames
 stk:=.inl rfl
 exf:=fun b hb=>by
  obtain⟨o,ho⟩:=ho b hb
  refine⟨Nat.ne_of_lt (Nat.lt_of_lt_of_le (Heap.lt_size ho) hC),fun x c h=>(hf b hb).2.2.2.2.1 x c (Gn I S h)⟩
 bs:=I.bs
 bsz:=Nat.le_trans I.ok.bsz I.sz
 noex:=fun b o e hb=>by
  rcases (hf b hb).2.2.2.1 with z|z
  ·exact I.ok.noex b o e z
  ·exact absurd (Nat.lt_of_lt_of_le (Heap.lt_size (I.ok.bs b o e).1) z) (Nat.lt_irrefl _)
 exfs:=fun b hb z=>by
  rcases List.mem_cons.mp (I.stkSub b z) with e|e
  ·exact (hf b hb).2.1 e
  ·exact (hf b hb).2.2.1 e
 funs:=I.stack
 frf:=I.stkFree
def GR_ {c:Caps}{C:Addr}{s4:Shared}{m:Str->Option Value}(I:Inv X pins σ H s)(S:BlkSc X sc)(hc:Ms X.N sc c)(hC:s.heap.objs.size<=C)(hf:∀b∈fp,FpOk X pins H b)(ho:∀b∈fp,∃o,s.heap.get? b=some o)
  (hos:s4.os=s.os) (hb:s4.gens=s.gens) (hk:∀b o,s.heap.get? b=some o->s4.heap.get? b=some o) (hn:s4.heap.Ns C m):Inv (X.blk c.names sc C s H fp) [] (c.st σ) H s4 where
 ok:=Mj_ I S hC hf ho
 os:=hos
 bare:=by rw[hb];exact I.bare
 base:=Un.kept hk
 loc:=by
  refine⟨m,hn,fun i x v h1 h2 hv=>?_⟩
  have h1':(c.map (·.1))[i]?=some x:=h1
  have h2':(c.map fun p=>p.2.bind fun j=>(σ[j]?).join)[i]?=some (some v):=h2
  rw[List.getElem?_map]at h1' h2'
  cases e:c[i]? with
  |none=>rw[e]at h1';cases h1'
  |some p=>
   obtain⟨y,oj⟩:=p
   rw[e]at h1' h2'
   have e1:y=x:=Option.some.inj h1'
   subst e1
   have e2:(oj.bind fun j=>(σ[j]?).join)=some v:=Option.some.inj h2'
   cases oj with
   |none=>cases e2
   |some j=>
    have e3:(σ[j]?).join=some v:=e2
    have e4:σ[j]?=some (some v):=by
     cases q:σ[j]? with
     |none=>rw[q]at e3;cases e3
     |some z=>rw[q]at e3;exact congrArg some e3
    obtain⟨k1,k2⟩:=Ms.get hc e
    have k3:X.env.kindOf y=some .cell\/X.env.kindOf y=some .free:=S.free (y,.free) (PySem.mem_of_lookup k2) rfl
    have vis:Vis X.env.scope y:=by
     rcases k3 with k|k
     ·exact .inr (.inl k)
     ·exact .inr (.inr k)
    obtain⟨mX,hnX,hl⟩:=I.loc
    obtain⟨u,r,l⟩:=hl j y v k1 e4 vis
    refine⟨u,r,?_⟩
    rcases l with ⟨k,_⟩|⟨_,ca,hca,z⟩
    ·rcases k3 with k' | k'<;>(rw[k]at k';cases k')
    ·obtain⟨kd,hkd,ek⟩:=Tg (env:=X.env) k2
     have hk2:(compEnvC sc (clOf X.env sc.names []) C X.env).kindOf y=some kd:=ek
     obtain⟨c',hc'⟩:=UO (env:=X.env) sc.names [] y (.inl (PySem.mem_of_lookup k2))
     obtain⟨c2,hc2⟩:=GP hc'
     have e5:=Gn I S hc2
     rw[hca]at e5
     have e6:ca=c2:=Option.some.inj e5
     subst e6
     refine .inr ⟨?_,ca,hc2,?_⟩
     ·rcases hkd with rfl|rfl
      ·exact .inl hk2
      ·exact .inr hk2
     ·obtain⟨oc,hoc,hd⟩:=z
      exact⟨oc,hk _ _ hoc,hd⟩
 cell:=fun x ca h=>by
  obtain⟨v,oc,hoc,hd⟩:=I.cell x ca (Gn I S h)
  exact⟨v,oc,hk _ _ hoc,hd⟩
 free:=I.hok.fresh hC
 freeC:=fun x ca h=>I.freeC x ca (Gn I S h)
 pin:=fun p hp=>absurd (show p∈([]:List (Addr×Obj)) from hp) (by simp)
 hok:=I.hok.kept hk
 len:=by show (c.map _).length=(c.map _).length;rw[List.length_map,List.length_map]
def HOk.track       (x:HOk P w H h)(hn:H a=none)(new:C4 P w (upd H a o) h a o):HOk P w (upd H a o) h:=fun b u e=>by
 by_cases hb:b=a
 ·subst hb;rw[Ab]at e;cases e;exact new
 ·rw[Ag hb]at e
  exact (x b u e).stay (fun c v _ q=>q) (fun c q=>by rw[Ag (C3 q hn)];exact q) fun c xs q=>by rw[Ag (C3 q hn)];exact q
def Un.track {fs ex:List Addr}{H H':Hp}{h h':Heap}{a:Addr}{o:HO}(u:Un fs ex H H' h h')(ha:h.objs.size<=a)(hn:H' a=none):Un fs ex H (upd H' a o) h h' where
 keep:=u.keep
 slot:=u.slot
 free:=fun b ob q n hx=>by rw[Ag (Nat.ne_of_lt (Nat.lt_of_lt_of_le (Heap.lt_size q) ha))];exact u.free b ob q n hx
 there:=u.there
 tups:=fun b xs q=>by rw[Ag (C3 (u.tups b xs q) hn)];exact u.tups b xs q
 frzs:=fun b ob xs q=>by rw[Ag (C3 (u.frzs b ob xs q) hn)];exact u.frzs b ob xs q
 tbls:=fun b ps q=>by
  obtain⟨more,e⟩:=u.tbls b ps q
  exact⟨more,by rw[Ag (C3 e hn)];exact e⟩
def KT_ {c:Caps}{C D:Addr}{s':Shared}{σ':St}{H':Hp}{o:HO}(I:Inv X pins σ H s)(J:Inv (X.blk c.names sc C s H fp) [] σ' H' s')(hf:∀b∈fp,FpOk X pins H b)(hD:s.heap.objs.size<=D)(hn:H' D=none)
  (new:C4 X.prog X.w (upd H' D o) s'.heap D o):Inv X pins σ (upd H' D o) s':=by
 have u:Un (frs X.stack) fp H H' s.heap s'.heap:=J.base
 exact I.call' J.os (u.track hD hn) (J.hok.track hn new) J.bare fun b hb=>⟨(hf b hb).2.2.2.1,(hf b hb).2.1,(hf b hb).2.2.2.2.1,(hf b hb).2.2.2.2.2⟩
end
noncomputable def PF (X:Cx)(ifs:List Expr)(t:TT):Prop:=
 ∀(pins:List (Addr×Obj)) (s:Shared) (σ:St) (H:Hp) (Q:Bool->Hp->Prop),Inv X pins σ H s->t σ H Q ->
  wpAny (model X.prog X.w) X.A (forIn ifs true fun c r=>if r=true then do let ok <- isTrue c X.env (eval c X.env);pure (ForInStep.yield ok) else pure (ForInStep.yield r)) (TP X pins σ Q) X.xe s
noncomputable def KU_:TT:=fun _ H Q=>Q true H
def Ls  : PF X [] KU_:=fun _ _ _ H _ I h=>wpAny_tests_nil ⟨H,I,h⟩
def Mk_    (h:PT X c t):PF X [c] t:=fun pins s σ H Q I hw=>wpAny_tests_one (h pins s σ H Q I hw)
noncomputable def KV_ (wi:TI)(cp:Caps)(g:TG)(tc:TT)(te:TE):TE:=fun σ H Q=>wi σ H fun J H1=>∃W:Nat->Nat->List V->St->Hp->Prop,(∃m,W 0 m [] (cp.st σ) H1)/\∀i m ys σ' H',W i m ys σ' H' ->
 ys.length<sizeLine/\((J.stop i H'/\∀D,H' D=none->Q (.ref D) (upd H' D (.lst ys)))\/(J.go i H'/\∃N:List V->St->Hp->Prop,(∀zs σ2 H2,N zs σ2 H2->∃m',m'<m/\W (i+1) m' zs σ2 H2)/\∀x H2,J.yld i H' x H2->g x σ' H2 fun σ2 H3=>tc σ2 H3 fun b H4=>
  if b=true then te σ2 H4 fun v H5=>N (ys++[v]) σ2 H5 else N ys σ2 H4))
section
variable {X:Cx} {tg iter elt:Expr} {ifs:List Expr} {sc:Scope} {pos:Pos} {wi:TI} {cp:Caps} {g:TG} {tc:TT} {te:TE}
def AZ_ (hc:X.calm=true)(S:BlkSc X sc)(hcp:Ms X.N sc cp)
  (hg:∀C s₀ H₀ ex,PG (X.blk cp.names sc C s₀ H₀ ex) tg g) (hf:∀C s₀ H₀ ex,PF (X.blk cp.names sc C s₀ H₀ ex) ifs tc) (he:∀C s₀ H₀ ex,PE (X.blk cp.names sc C s₀ H₀ ex) elt te)
  {pins:List (Addr×Obj)} {σ:St} {H:Hp} {s:Shared} {J:It} {it:Addr} {fp:List Addr} {tn:Nat->Heap->Prop} {Q:VK} {RR:Value->Addr->Result->Shared->Prop} {E:Value->Shared->Prop}
  (I:Inv X pins σ H s) (T:Turn X.prog X.w X.K tg J fp it tn) (st:tn 0 s.heap) (fpo:∀b∈fp,FpOk X pins H b)
  (hw:∃W:Nat->Nat->List V->St->Hp->Prop,(∃m,W 0 m [] (cp.st σ) H)/\∀i m ys σ' H',W i m ys σ' H' ->
   ys.length<sizeLine/\((J.stop i H'/\∀D,H' D=none->Q (.ref D) (upd H' D (.lst ys)))\/(J.go i H'/\∃N:List V->St->Hp->Prop,(∀zs σ2 H2,N zs σ2 H2->∃m',m'<m/\W (i+1) m' zs σ2 H2)/\∀x H2,J.yld i H' x H2->g x σ' H2 fun σ2 H3=>tc σ2 H3 fun b H4=>
    if b=true then te σ2 H4 fun v H5=>N (ys++[v]) σ2 H5 else N ys σ2 H4)))
  (hR:∀D C s' H' (m:Str->Option Value),Inv X pins σ H' s'->Q (.ref D) H'->s'.heap.Ns C m->H' C=none->C≠X.env.locals->X.s₀.heap.objs.size<=C->(∀x c,X.env.cells.lookup x=some c->c≠C)->(∀p∈X.pn++pins,p.1≠C)->RR (.ref D) C (.ok .next) s'):
  wpAny (model X.prog X.w) X.A (newList []) (fun acc s₃=>wpAny (model X.prog X.w) X.A (newFunctionEnv sc X.env.globals (clOf X.env sc.names []) [] X.env.qual none .none (some X.env)) (fun cenv s₄=>
   codeAny (model X.prog X.w) X.A (.compStart (.ListComp elt [⟨tg,iter,ifs,0⟩] sc pos) 0 (.ref it) acc {cenv with scope:=relabel sc X.env}) (RR acc cenv.locals) s₄) E s₃) E s:=by
 obtain⟨W,⟨m0,w0⟩,turn⟩:=hw
 refine wpAny_newObj_type (wpAny_newFunctionEnv S.nocell (by intro y hy;simp at hy) (fun h₁ hns₁ hsb₁=>?_) S.kind)
 dsimp only at hns₁ hsb₁ ⊢
 generalize hH2:s.heap.push {cls:=.type "list",dict:=none,data:=.seq ([]:List Value).toArray}=H2 at hns₁ hsb₁ ⊢
 have hC:H2.objs.size=s.heap.objs.size+1:=by rw[<-hH2,Heap.size_push]
 have hDC:s.heap.objs.size≠H2.objs.size:=by rw[hC];exact Nat.ne_of_lt (Nat.lt_succ_self _)
 have hCle:s.heap.objs.size<=H2.objs.size:=by rw[hC];exact Nat.le_succ _
 have below:∀b,b<s.heap.objs.size->b≠H2.objs.size:=fun b hb=>by rw[hC];exact Nat.ne_of_lt (Nat.lt_succ_of_lt hb)
 have old:∀b o,s.heap.get? b=some o->h₁.get? b=some o:=fun b o e=>hsb₁.extBut b o (below b (Heap.lt_size e)) (Heap.get?_push_of_some _ (hH2 ▸ Heap.get?_push_of_some _ e))
 have hacc:h₁.get? s.heap.objs.size=some {cls:=.type "list",data:=.seq ([]:List Value).toArray 0}:=hsb₁.extBut _ _ hDC (Heap.get?_push_of_some _ (hH2 ▸ Heap.get?_push_size _ rfl))
 have hst₁:tn 0 h₁:=T.keep 0 _ _ st fun b _ o e=>old b o e
 have hobj:∀b∈fp,∃o,s.heap.get? b=some o:=fun b hb=>let ⟨o,e,_⟩:=T.obj 0 _ st b hb;⟨o,e⟩
 have J0:Inv (X.blk cp.names sc H2.objs.size s H fp) [] (cp.st σ) H {s with heap:=h₁,toks:=s.toks+([]:List (Str×Value)).length}:=GR_ I S hcp hCle fpo hobj rfl rfl old hns₁
 have nfs:∀b,s.heap.objs.size<=b->b∉frs X.stack:=fun b hb z=>by
  rcases List.mem_cons.mp (I.stkSub b z) with e|e
  ·exact absurd (Nat.lt_of_lt_of_le I.lt (by rw[<-e];exact hb)) (Nat.lt_irrefl _)
  ·exact I.nofs hb e
 have ncell:∀b,s.heap.objs.size<=b->∀x c,X.env.cells.lookup x=some c->c≠b:=fun b hb x c e z=>by
  obtain⟨v,q⟩:=I.cell x c e
  exact absurd (Nat.lt_of_lt_of_le q.lt (by rw[z];exact hb)) (Nat.lt_irrefl _)
 have fpb:∀{pins':List (Addr×Obj)} {H':Hp},(∀b∈fp,H' b=none)->(∀p∈pins',p.1∉fp)->∀b∈fp,FpOk (X.blk cp.names sc H2.objs.size s H fp) pins' H' b:=fun {pins' H'} hn hp b hb=>by
  obtain⟨o,e⟩:=hobj b hb
  refine⟨hn b hb,below b (Heap.lt_size e),fun z=>?_,.inl hb,fun x c h=>(fpo b hb).2.2.2.2.1 x c (Gn I S h),fun p hp' z=>?_⟩
  ·rcases List.mem_cons.mp (I.stkSub b z) with e|e
   ·exact (fpo b hb).2.1 e
   ·exact (fpo b hb).2.2.1 e
  ·have hp'':p∈pins':=by simpa using hp'
   exact hp p hp'' (by rw[z];exact hb)
 have loop:∀s₃:Shared,s₃={s with heap:=h₁,toks:=s.toks+([]:List (Str×Value)).length} ->
   codeAny (model X.prog X.w) X.A (.compLoop (.ListComp elt [⟨tg,iter,ifs,0⟩] sc pos) 0 (.ref it) (.ref s.heap.objs.size) (compEnvC sc (clOf X.env sc.names []) H2.objs.size X.env))
    (RR (.ref s.heap.objs.size) H2.objs.size) s₃:=by
  rintro s₃ rfl
  refine AY_ (fun n s'=>∃i σ' H' ys its k,Inv (X.blk cp.names sc H2.objs.size s H fp) [] σ' H' s'/\tn i s'.heap/\(∀b∈fp,H' b=none)/\H' s.heap.objs.size=none /\
   s'.heap.get? s.heap.objs.size=some {cls:=.type "list",data:=.seq its.toArray k}/\Vals ys its/\W i n ys σ' H') ?_ m0
   ⟨0,_,H,[],[],0,J0,hst₁,fun b hb=>(fpo b hb).1,I.hok.fresh (Nat.le_refl _),hacc,.nil,w0⟩
  rintro n s3 ⟨i,σ3,H3,ys,its,k,I3,st3,fr3,hD3,e3,rv,w3⟩
  obtain⟨hz,tr⟩:=turn i n ys σ3 H3 w3
  have hlen:=rv.length
  -- the accumulator stands still while anything else runs
  have dpin:∀p ∈ [(s.heap.objs.size,({cls:=.type "list",data:=.seq its.toArray k}:Obj))],p.1∉fp:=fun p hp z=>by
   have e:p=_:=List.mem_singleton.mp hp
   subst e
   obtain⟨o,e⟩:=hobj _ z
   exact absurd (Heap.lt_size e) (Nat.lt_irrefl _)
  have I3':Inv (X.blk cp.names sc H2.objs.size s H fp) [(s.heap.objs.size,({cls:=.type "list",data:=.seq its.toArray k}:Obj))] σ3 H3 s3:=I3.pins_of fun p hp=>by
   have e:p=_:=List.mem_singleton.mp hp
   subst e
   exact⟨e3,hD3,hDC,nfs _ (Nat.le_refl _),fun v z=>by cases z⟩
  have stat:∀b∈fp,FpOk (X.blk cp.names sc H2.objs.size s H fp) [(s.heap.objs.size,({cls:=.type "list",data:=.seq its.toArray k}:Obj))] H3 b:=fpb fr3 dpin
  rcases tr with ⟨stop,qn⟩|⟨go,N,hN,step⟩
  ·refine thn (T.done (X.blk cp.names sc H2.objs.size s H fp) rfl rfl rfl hc i _ s3 σ3 H3 _ I3' stat st3 stop) fun r s4 ⟨hr,I4⟩=>?_
   subst hr
   obtain⟨e4,n4,_⟩:=I4.pin (s.heap.objs.size,({cls:=.type "list",data:=.seq its.toArray k}:Obj)) (by simp)
   have new:C4 X.prog X.w (upd H3 s.heap.objs.size (.lst ys)) s4.heap s.heap.objs.size (.lst ys):=⟨Nat.le_of_lt hz,its,k,rv,e4⟩
   obtain⟨mC,hnC,_⟩:=I4.loc
   have I4':Inv (X.blk cp.names sc H2.objs.size s H fp) [] σ3 H3 s4:=I4.pins_of fun p hp=>by cases hp
   have I5:=KT_ I I4' fpo (Nat.le_refl _) n4 new
   refine hR _ _ s4 _ mC I5 (qn _ n4) hnC ?_ (Nat.ne_of_gt (Nat.lt_of_lt_of_le I.lt hCle)) (Nat.le_trans I.sz hCle) (ncell _ hCle) fun p hp z=>?_
   ·rw[Ag (Ne.symm hDC)];exact I4.free
   ·exact absurd (Nat.lt_of_lt_of_le (Heap.lt_size (I.pin p hp).1) (by rw[z];exact hCle)) (Nat.lt_irrefl _)
  ·refine thn (T.item (X.blk cp.names sc H2.objs.size s H fp) rfl rfl rfl hc i _ s3 σ3 H3 _ I3' stat st3 go) fun r s4 ⟨u,hr,h4⟩=>?_
   subst hr
   refine thn h4 fun _ s5 ⟨x,H5,I5,r5,y5,st5,fr5⟩=>?_
   have I5':=I5.pinned (fpb fr5 dpin) (T.obj _ _ st5)
   have fin:∀{σ7:St} {H7:Hp} {s7:Shared},Inv (X.blk cp.names sc H2.objs.size s H fp) ([(s.heap.objs.size,({cls:=.type "list",data:=.seq its.toArray k}:Obj))]++AM_ fp s5.heap) σ7 H7 s7 ->
     s7.heap.get? s.heap.objs.size=some {cls:=.type "list",data:=.seq its.toArray k}/\H7 s.heap.objs.size=none/\(∀b∈fp,H7 b=none)/\∀b∈fp,∀o,s5.heap.get? b=some o->s7.heap.get? b=some o:=fun {σ7 H7 s7} I7=>by
    obtain⟨e7,n7,_⟩:=I7.pin (s.heap.objs.size,({cls:=.type "list",data:=.seq its.toArray k}:Obj)) (by simp)
    refine⟨e7,n7,fun b hb=>?_,fun b hb o e=>?_⟩
    ·obtain⟨o,e,_⟩:=T.obj _ _ st5 b hb
     exact (I7.pin (b,o) (List.mem_append_right _ (List.mem_append_right _ (Oc hb e)))).2.1
    ·exact (I7.pin (b,o) (List.mem_append_right _ (List.mem_append_right _ (Oc hb e)))).1
   refine wpAny_mono (hg _ _ _ _ _ s5 σ3 H5 x u _ I5' r5 (step x H5 y5)) (fun _ s6 ⟨σ6,H6,I6,q6⟩=>?_) fun _ _ z=>False.elim z
   refine wpAny_mono (hf _ _ _ _ _ s6 σ6 H6 _ I6 q6) (fun ok s7 ⟨H7,I7,q7⟩=>?_) fun _ _ z=>False.elim z
   cases ok with
   |false=>
    rw[if_neg Bool.false_ne_true]
    rw[if_neg Bool.false_ne_true]at q7
    obtain⟨m',hm,w7⟩:=hN _ _ _ q7
    obtain⟨e7,n7,fr7,k7⟩:=fin I7
    exact⟨m',hm,i+1,σ6,H7,ys,its,k,I7.pins_of (fun p hp=>by cases hp),T.keep _ _ _ st5 k7,fr7,n7,e7,rv,w7⟩
   |true=>
    rw[if_pos rfl]
    rw[if_pos rfl]at q7
    refine wpAny_mono (he _ _ _ _ _ s7 σ6 H7 _ I7 q7) (fun v s8 ⟨y,H8,I8,r8,q8⟩=>?_) fun _ _ z=>False.elim z
    obtain⟨m',hm,w8⟩:=hN _ _ _ q8
    obtain⟨e8,n8,fr8,k8⟩:=fin I8
    refine call_meets F.slot_list_append ⟨_,e8,rfl⟩ F.entry_list_append (F.args_list_append_2 _ _) (PySem.list_append s.heap.objs.size its.toArray k v (by rw[List.size_toArray];lia)) ⟨e8,?_⟩
    obtain⟨k',q⟩:∃k',(s8.heap.update s.heap.objs.size (Obj.mapSeq fun x=>x.push v)).get? s.heap.objs.size=some {cls:=.type "list",data:=.seq (its++[v]).toArray k' }:=⟨_,by
     have q:=PySem.IsL.update e8 fun x=>x.push v
     have e:(its++[v]).toArray=its.toArray.push v:=by simp
     rw[e]
     exact q⟩
    have I8':Inv (X.blk cp.names sc H2.objs.size s H fp) [] σ6 H8 s8:=I8.pins_of fun p hp=>by cases hp
    have I9:Inv (X.blk cp.names sc H2.objs.size s H fp) [] σ6 H8 {s8 with heap:=s8.heap.update s.heap.objs.size (Obj.mapSeq fun x=>x.push v),toks:=s8.toks}:=
     I8'.turned (it:=s.heap.objs.size) (fun b o hb e=>(Heap.get?_update_other _ _ (Ne.symm hb)).trans e) n8 hDC (.inr (Nat.le_refl _)) (fun x c e=>ncell _ (Nat.le_refl _) x c (Gn I S e)) (fun p hp=>by cases hp)
    refine⟨m',hm,i+1,σ6,H8,ys++[y],its++[v],k',I9,T.keep (i+1) s5.heap _ st5 (fun b hb o e=>?_),fr8,n8,q,rv.append (.cons r8 .nil),w8⟩
    ·refine (Heap.get?_update_other _ _ ?_).trans (k8 b hb o e)
     intro z
     obtain⟨ob,eb⟩:=hobj b hb
     exact absurd (Heap.lt_size eb) (by rw[<-z];exact Nat.lt_irrefl _)
 exact codeAny_compStart_list (loop _ rfl) (T.self _ 0 _ _ _ hst₁ (loop _ rfl))
def K2 (hc:X.calm=true)(S:BlkSc X sc)(hcp:Ms X.N sc cp)(hi:PI X tg iter wi)
  (hg:∀C s₀ H₀ ex,PG (X.blk cp.names sc C s₀ H₀ ex) tg g) (hf:∀C s₀ H₀ ex,PF (X.blk cp.names sc C s₀ H₀ ex) ifs tc) (he:∀C s₀ H₀ ex,PE (X.blk cp.names sc C s₀ H₀ ex) elt te)
  (hs:∀x,foldedSetIterable iter X.env x=pure x:=by intro _;rfl):PE X (.ListComp elt [⟨tg,iter,ifs,0⟩] sc pos) (KV_ wi cp g tc te):=by
 intro pins s σ H Q I h
 rw[eval_ListComp]
 refine wpAny_comprehension_free (use:=none) rfl hs (XH (U8 I S)) S.kind S.loc (thn (hi pins s σ H _ I h) fun xv s₁ h₁=>thn h₁ fun itv s₂ h₂=>?_)
 obtain⟨it,fp,tn,J,H2,e,I2,T,st2,f2,hw⟩:=h₂
 subst e
 refine AZ_ (RR:=fun acc C=>compPost (model X.prog X.w) X.A X.xe none (EP X pins σ Q) acc C) hc S hcp hg hf he I2 T st2 f2 hw ?_
 intro D C s' H' m I' q hn hC hL hz hcl hp
 exact⟨m,hn,fun h' hs'=>⟨.ref D,H',I'.turned (t':=s'.toks) (it:=C) (fun b o hb e=>hs'.extBut b o hb e) hC hL (.inr hz) hcl hp,rfl,q⟩⟩
def Yb    (hN:X.N.Nodup)(hi:X.N[i]?=some x)(hx:X.env.scope.names.lookup x=some .local)(hc:X.calm=true)(S:BlkSc X sc)(hcp:Ms X.N sc cp)(hit:PI X tg iter wi)
  (hg:∀C s₀ H₀ ex,PG (X.blk cp.names sc C s₀ H₀ ex) tg g) (hf:∀C s₀ H₀ ex,PF (X.blk cp.names sc C s₀ H₀ ex) ifs tc) (he:∀C s₀ H₀ ex,PE (X.blk cp.names sc C s₀ H₀ ex) elt te)
  (hsw:swapsWith (.ListComp elt [⟨tg,iter,ifs,0⟩] sc pos) (some (.Name x px)) spos.line X.env=pure true:=by rfl)
  (hs:∀x,foldedSetIterable iter X.env x=pure x:=by intro _;rfl):PS X (.Assign [.Name x px] (.ListComp elt [⟨tg,iter,ifs,0⟩] sc pos) spos) (tAsg (KV_ wi cp g tc te) (CX_ i)):=by
 intro pins s σ H D I h
 rw[exec_Assign_Name_used _ _ _ _ hsw]
 refine wpAny_bind (wpAny_standAt (wpAny_bind ?_))
 show wpAny _ X.A (do let _ <- comprehension (.ListComp elt [⟨tg,iter,ifs,0⟩] sc pos) sc X.env _ (newList []) false (eval iter X.env) (some (assign (.Name x px) X.env))) _ _ s
 refine wpAny_bind (wpAny_mono (wpAny_comprehension_free (use:=some (assign (.Name x px) X.env)) (Q:=fun _ s'=>SP X pins D .next s') rfl hs (XH (U8 I S)) S.kind S.loc
  (thn (hit pins s σ H _ I h) fun xv s₁ h₁=>thn h₁ fun itv s₂ h₂=>?_)) (fun _ s' hq=>wpAny_pure (wpAny_pure hq)) fun _ _ e=>e)
 obtain⟨it,fp,tn,J,H2,e,I2,T,st2,f2,hw⟩:=h₂
 subst e
 refine AZ_ (RR:=fun acc C=>compPost (model X.prog X.w) X.A X.xe (some (assign (.Name x px) X.env)) (fun _ s'=>SP X pins D .next s') acc C) (Q:=fun v H1=>CX_ i v σ H1 D.nx) hc S hcp hg hf he I2 T st2 f2 hw ?_
 intro Dl C s' H' m I' q hn hC hL hz hcl hp
 show wpAny _ X.A (assign (.Name x px) X.env (.ref Dl)) _ _ _
 refine wpAny_assign_Name (AL_ I' hN hi (.inl hx) (v:=.ref Dl) rfl (fun s'' I'' ⟨a,hsb,ha⟩=>?_) (.inr hx))
 have hne:C≠a:=by
  rcases ha with rfl|ha
  ·exact hL
  ·exact fun z=>hcl _ _ ha z.symm
 refine⟨m,hn.sameBut hsb hne,fun h' hs'=>⟨_,H',I''.turned (t':=s''.toks) (it:=C) (fun b o hb e=>hs'.extBut b o hb e) hC hL (.inr hz) hcl hp,q⟩⟩
end
def GS_ {K:PySem.W.Frag}{a:Addr}{xs:List V}{g:TG}{tc:TT}{te:TE}{Q:VK}{σ:St}{H:Hp}(Pv:Nat->List V->St->Hp->Prop)(h0:Pv 0 [] σ H)(hz:xs.length<sizeLine)
  (hl:∀i ys σ H,i<=xs.length->Pv i ys σ H->SqL K H a xs/\ys.length<=i)
  (hs:∀i x ys σ H,xs[i]?=some x->Pv i ys σ H->g x σ H fun σ2 H2=>tc σ2 H2 fun b H3=>if b=true then te σ2 H3 fun v H4=>Pv (i+1) (ys++[v]) σ2 H4 else Pv (i+1) ys σ2 H3)
  (hd:∀ys σ H,Pv xs.length ys σ H->∀D,H D=none->Q (.ref D) (upd H D (.lst ys))):
  ∃W:Nat->Nat->List V->St->Hp->Prop,(∃m,W 0 m [] σ H)/\∀i m ys σ' H',W i m ys σ' H' ->
   ys.length<sizeLine/\(((Itl K a).stop i H'/\∀D,H' D=none->Q (.ref D) (upd H' D (.lst ys)))\/((Itl K a).go i H'/\∃N:List V->St->Hp->Prop,(∀zs σ2 H2,N zs σ2 H2->∃m',m'<m/\W (i+1) m' zs σ2 H2)/\∀x H2,(Itl K a).yld i H' x H2->g x σ' H2 fun σ2 H3=>tc σ2 H3 fun b H4=>
    if b=true then te σ2 H4 fun v H5=>N (ys++[v]) σ2 H5 else N ys σ2 H4)):=by
 refine⟨fun i m ys σ H=>m=xs.length-i/\i<=xs.length/\Pv i ys σ H,⟨xs.length,by simp,Nat.zero_le _,h0⟩,?_⟩
 rintro i m ys σ H ⟨rfl,hi,p⟩
 obtain⟨q,ly⟩:=hl i ys σ H hi p
 refine⟨by lia,?_⟩
 by_cases hlt:i<xs.length
 ·refine .inr ⟨⟨xs,xs[i],q,by simp[hlt]⟩,Pv (i+1),fun zs σ' H' p'=>⟨xs.length-(i+1),by lia,rfl,hlt,p'⟩,fun x H' y=>?_⟩
  obtain⟨e,y⟩:=y
  subst e
  exact hs i x ys σ _ (y xs q) p
 ·have e:i=xs.length:=by lia
  subst e
  exact .inl ⟨⟨xs,q,Nat.le_refl _⟩,hd ys σ H p⟩
def IG_ {K:PySem.W.Frag}{a:Addr}{xs:List V}{g:TG}{tc:TT}{te:TE}{Q:VK}{σ:St}{H:Hp}(Pv:Nat->List V->St->Hp->Prop)(h0:Pv 0 [] σ H)(hz:xs.length<sizeLine)
  (hl:∀i ys σ H,i<=xs.length->Pv i ys σ H->SqT K H a xs/\ys.length<=i)
  (hs:∀i x ys σ H,xs[i]?=some x->Pv i ys σ H->g x σ H fun σ2 H2=>tc σ2 H2 fun b H3=>if b=true then te σ2 H3 fun v H4=>Pv (i+1) (ys++[v]) σ2 H4 else Pv (i+1) ys σ2 H3)
  (hd:∀ys σ H,Pv xs.length ys σ H->∀D,H D=none->Q (.ref D) (upd H D (.lst ys))):
  ∃W:Nat->Nat->List V->St->Hp->Prop,(∃m,W 0 m [] σ H)/\∀i m ys σ' H',W i m ys σ' H' ->
   ys.length<sizeLine/\(((Itt K a).stop i H'/\∀D,H' D=none->Q (.ref D) (upd H' D (.lst ys)))\/((Itt K a).go i H'/\∃N:List V->St->Hp->Prop,(∀zs σ2 H2,N zs σ2 H2->∃m',m'<m/\W (i+1) m' zs σ2 H2)/\∀x H2,(Itt K a).yld i H' x H2->g x σ' H2 fun σ2 H3=>tc σ2 H3 fun b H4=>
    if b=true then te σ2 H4 fun v H5=>N (ys++[v]) σ2 H5 else N ys σ2 H4)):=by
 refine⟨fun i m ys σ H=>m=xs.length-i/\i<=xs.length/\Pv i ys σ H,⟨xs.length,by simp,Nat.zero_le _,h0⟩,?_⟩
 rintro i m ys σ H ⟨rfl,hi,p⟩
 obtain⟨q,ly⟩:=hl i ys σ H hi p
 refine⟨by lia,?_⟩
 by_cases hlt:i<xs.length
 ·refine .inr ⟨⟨xs,xs[i],q,by simp[hlt]⟩,Pv (i+1),fun zs σ' H' p'=>⟨xs.length-(i+1),by lia,rfl,hlt,p'⟩,fun x H' y=>?_⟩
  obtain⟨e,y⟩:=y
  subst e
  exact hs i x ys σ _ (y xs q) p
 ·have e:i=xs.length:=by lia
  subst e
  exact .inl ⟨⟨xs,q,Nat.le_refl _⟩,hd ys σ H p⟩
def Fu_ {lo:Int}{n:Nat}{g:TG}{tc:TT}{te:TE}{Q:VK}{σ:St}{H:Hp}(Pv:Nat->List V->St->Hp->Prop)(h0:Pv 0 [] σ H)(hz:n<sizeLine)
  (hl:∀i ys σ H,i<=n->Pv i ys σ H->ys.length<=i)
  (hs:∀i ys σ H,i<n->Pv i ys σ H->g (.int (lo+i)) σ H fun σ2 H2=>tc σ2 H2 fun b H3=>if b=true then te σ2 H3 fun v H4=>Pv (i+1) (ys++[v]) σ2 H4 else Pv (i+1) ys σ2 H3)
  (hd:∀ys σ H,Pv n ys σ H->∀D,H D=none->Q (.ref D) (upd H D (.lst ys))):
  ∃W:Nat->Nat->List V->St->Hp->Prop,(∃m,W 0 m [] σ H)/\∀i m ys σ' H',W i m ys σ' H' ->
   ys.length<sizeLine/\(((Itr lo n).stop i H'/\∀D,H' D=none->Q (.ref D) (upd H' D (.lst ys)))\/((Itr lo n).go i H'/\∃N:List V->St->Hp->Prop,(∀zs σ2 H2,N zs σ2 H2->∃m',m'<m/\W (i+1) m' zs σ2 H2)/\∀x H2,(Itr lo n).yld i H' x H2->g x σ' H2 fun σ2 H3=>tc σ2 H3 fun b H4=>
    if b=true then te σ2 H4 fun v H5=>N (ys++[v]) σ2 H5 else N ys σ2 H4)):=by
 refine⟨fun i m ys σ H=>m=n-i/\i<=n/\Pv i ys σ H,⟨n,by simp,Nat.zero_le _,h0⟩,?_⟩
 rintro i m ys σ H ⟨rfl,hi,p⟩
 have ly:=hl i ys σ H hi p
 refine⟨by lia,?_⟩
 by_cases hlt:i<n
 ·refine .inr ⟨hlt,Pv (i+1),fun zs σ' H' p'=>⟨n-(i+1),by lia,rfl,hlt,p'⟩,fun x H' y=>?_⟩
  obtain⟨e,y⟩:=y
  subst e y
  exact hs i ys σ _ hlt p
 ·have e:i=n:=by lia
  subst e
  exact .inl ⟨Nat.le_refl _,hd ys σ H p⟩
end L2
namespace L2
open PySem PySem.Spec PyProof.Rows
section
variable {X:Cx}
def Yc {bs:List Bool}{its:List Value}(r:Vals (bs.map V.bl) its){i:Nat}{v:Value}(h:its[i]?=some v):∃b,bs[i]?=some b/\v=.bool b:=by
 have hi:i<its.length:=(List.getElem?_eq_some_iff.mp h).1
 have hl:=r.length
 rw[List.length_map]at hl
 obtain⟨u,hu,ru⟩:=r.get (i:=i) (x:=V.bl bs[i]) (by rw[List.getElem?_map];simp[show i<bs.length by lia])
 rw[h]at hu
 cases hu
 exact⟨bs[i],by simp[show i<bs.length by lia],ru⟩
def Ml_ (bs:List Bool):(List.range bs.length).map (fun i=>bs.getD i false)=bs:=
 List.ext_getElem (by simp) fun i _ h=>by simp[h]
def GT_ {bs:List Bool}:(List.range bs.length).all (fun i=>bs.getD i false)=bs.all id:=by
 have e:=congrArg (fun l=>l.all id) (Ml_ bs)
 rw[List.all_map]at e;exact e
def De_ {bs:List Bool}{its:List Value}{A:Around}{P:Program}{w:World}(r:Vals (bs.map V.bl) its):TruthOf P w A (fun i v=>its.toArray[i]?=some v) (fun i=>bs.getD i false):=by
 intro i v s Q E hv hq
 obtain⟨b,hb,e⟩:=Yc r (by simpa using hv)
 subst e
 refine wpAny_truthy_bool ?_
 have e:bs.getD i false=b:=by rw[List.getD_eq_getElem?_getD,hb];rfl
 have hq':Q (bs.getD i false) s:=hq
 rw[e]at hq'
 exact hq'
def IH_ (hc:X.calm=true):Oj X (.builtin "all") (fun xs H Q=>∃(p:Addr) (bs:List Bool),xs=[.ref p]/\SqL X.K H p (bs.map V.bl)/\Q (.bl (bs.all id)) H):=by
 intro pins s σ H xs us Q I r h
 obtain⟨p,bs,rfl,hq,q⟩:=h
 obtain⟨u,rfl,ru⟩:=vals1 r
 cases ru
 obtain⟨its,rv,pl,hz⟩:=I.list hq
 have hlen:=rv.length
 rw[List.length_map]at hlen
 have hh:X.A.in1.handled=none:=I.ok.hd hc
 obtain⟨o,ho,_⟩:=id pl.isList
 have hne:p≠s.heap.objs.size:=Nat.ne_of_lt (Heap.lt_size ho)
 refine call_all_walk (wpAny_pyIter_list pl.isList ?_)
 refine⟨s.heap.objs.size,_,_,its.toArray.size,_,_,fun i=>bs.getD i false,rfl,Walks.list hh _ p hne its.toArray,⟨⟨_,Heap.get?_push_size _ rfl,rfl,rfl⟩,pl.isList.at fun o e=>Heap.get?_push_of_some _ e⟩,De_ rv,fun h' tk hk=>?_⟩
 refine⟨.bl (bs.all id),H,I.kept (t':=tk) fun b o e=>hk b o ?_ (Heap.get?_push_of_some _ e),?_,q⟩
 ·intro hb
  have e':b=s.heap.objs.size:=by simpa using hb
  exact absurd (Heap.lt_size e) (by rw[e'];exact Nat.lt_irrefl _)
 ·rw[List.size_toArray,<-hlen,GT_];rfl
def K3:Oj X (.builtin "isinstance") (fun xs H Q=>∃x c cv t b,xs=[x,c]/\TyOf X.K H x t/\(∀u,RelV c u->u=cv)/\PySem.W.kitOne X.K t cv=some b/\Q (.bl b) H):=by
 intro pins s σ H xs us Q I r h
 obtain⟨x,c,cv,t,b,rfl,ty,hc,hk,q⟩:=h
 obtain⟨u,w',rfl,rx,rc⟩:=vals2 r
 rw[hc _ rc]
 exact GD_ I rx ty hk fun tk=>⟨.bl b,H,I.tok tk,rfl,q⟩
noncomputable def EqD (K:PySem.W.Frag)(H:Hp):Nat->V->V->Bool->Prop
 |0,x,y,b=>X5 x=true/\X5 y=true/\b=eqV x y
 |n+1,x,y,b=>(X5 x=true/\X5 y=true/\b=eqV x y) \/ ∃a c xs ys,x=.ref a/\y=.ref c/\((SqL K H a xs/\SqL K H c ys)\/(SqT K H a xs/\SqT K H c ys)) /\
   ∃e:Nat->Bool,(∀i x y,xs[i]?=some x->ys[i]?=some y->EqD K H n x y (e i))/\b=(decide (xs.length=ys.length)&&(List.range (min xs.length ys.length)).all e)
def in1_units (A:Around):A.in1.units=A.units+1:=rfl
def Ex_  (h:X5 x=true):eqV x x=true:=by
 cases x<;>first|rfl|(simp[eqV];done)|exact absurd (show false=true from h) Bool.false_ne_true
def EqD.self     (I:Inv X pins σ H s):∀(n:Nat) {x:V} {b:Bool},EqD X.K H n x x b->b=true:=by
 intro n
 induction n with
 |zero=>
  rintro x b ⟨fx,_,rfl⟩
  exact Ex_ fx
 |succ n ih=>
  rintro x b (⟨fx,_,rfl⟩|⟨a,c,xs,ys,rfl,e2,hq,e,he,rfl⟩)
  ·exact Ex_ fx
  ·cases e2
   have exy:xs=ys:=by
    rcases hq with ⟨h1,h2⟩|⟨h1,h2⟩
    ·exact I.list_inj h1 h2
    ·exact I.tuple_inj h1 h2
   subst exy
   simp only[decide_true,Bool.true_and,Nat.min_self,List.all_eq_true,List.mem_range]
   intro i hi
   exact ih (he i xs[i] xs[i] (by simp[hi]) (by simp[hi]))
def GU_   : ((List.range (min n m)).all e&&n==m)=(decide (n=m)&&(List.range (min n m)).all e):=by
 rw[Bool.and_comm]
 congr 1
def EqD.at     (I:Inv X pins σ H s):∀(n:Nat) (A:Around) {x y:V} {u v:Value} {b:Bool},A.units+n<cLine->RelV x u->RelV y v->EqD X.K H n x y b ->
  SeqAt.EqAt A s u v b/\∀a c,x=.ref a->y=.ref c->SeqAt.RcAt A s u v b:=by
 intro n
 induction n with
 |zero=>
  intro A x y u v b hu rx ry h
  obtain⟨fx,fy,rfl⟩:=h
  refine⟨JB_ rx ry fx fy,?_⟩
  rintro a c rfl rfl
  exact absurd (show false=true from fx) Bool.false_ne_true
 |succ n ih=>
  intro A x y u v b hu rx ry h
  have hself:=h
  rcases h with ⟨fx,fy,rfl⟩|⟨a,c,xs,ys,rfl,rfl,hq,e,he,rfl⟩
  ·refine⟨JB_ rx ry fx fy,?_⟩
   rintro a c rfl rfl
   exact absurd (show false=true from fx) Bool.false_ne_true
  ·cases rx
   cases ry
   have key:∀(its its2:List Value),Vals xs its->Vals ys its2->∀j (h1:j<its.toArray.size) (h2:j<its2.toArray.size),SeqAt.EqAt A.in1 s its.toArray[j] its2.toArray[j] (e j):=fun its its2 r1 r2 j h1 h2=>by
    have l1:=r1.length
    have l2:=r2.length
    rw[List.size_toArray]at h1 h2
    obtain⟨u1,g1,q1⟩:=r1.get (i:=j) (x:=xs[j]'s!"") (by simp[show j<xs.length by lia])
    obtain⟨u2,g2,q2⟩:=r2.get (i:=j) (x:=ys[j]'s!"") (by simp[show j<ys.length by lia])
    have k1:its.toArray[j]'(by rw[List.size_toArray];exact h1)=u1:=by
     have:=(List.getElem?_eq_some_iff.mp g1).2
     simpa using this
    have k2:its2.toArray[j]'(by rw[List.size_toArray];exact h2)=u2:=by
     have:=(List.getElem?_eq_some_iff.mp g2).2
     simpa using this
    rw[k1,k2]
    exact (ih A.in1 (by rw[in1_units];lia) q1 q2 (he j _ _ (by simp[show j<xs.length by lia]) (by simp[show j<ys.length by lia]))).1
   have rc:SeqAt.RcAt A s (.ref a) (.ref c) (decide (xs.length=ys.length)&&(List.range (min xs.length ys.length)).all e):=by
    rcases hq with ⟨h1,h2⟩|⟨h1,h2⟩
    ·obtain⟨its,r1,p1,_⟩:=I.list h1
     obtain⟨its2,r2,p2,_⟩:=I.list h2
     have l1:=r1.length
     have l2:=r2.length
     by_cases hl:xs.length=ys.length
     ·have:=SeqAt.RcAt.lists (e:=e) p1.isList p2.isList (by rw[List.size_toArray,List.size_toArray];lia) s!"" (key its its2 r1 r2)
      rw[List.size_toArray,<-l1]at this
      rw[decide_eq_true hl,Bool.true_and,<-hl,Nat.min_self]
      exact this
     ·rw[decide_eq_false hl,Bool.false_and]
      exact SeqAt.RcAt.lists_lengths p1.isList p2.isList (by rw[List.size_toArray,List.size_toArray];simp;lia) s!""
    ·obtain⟨its,r1,p1,_⟩:=I.tuple h1
     obtain⟨its2,r2,p2,_⟩:=I.tuple h2
     have l1:=r1.length
     have l2:=r2.length
     have:=SeqAt.RcAt.tuples (e:=e) (show s.heap.IsTuple a its.toArray from p1) (show s.heap.IsTuple c its2.toArray from p2) s!"" (key its its2 r1 r2)
     rw[List.size_toArray,List.size_toArray,<-l1,<-l2,GU_]at this
     exact this
   refine⟨?_,fun a' c' _ _=>rc⟩
   by_cases hac:a=c
   ·subst hac
    rw[EqD.self I (n+1) hself]
    exact SeqAt.EqAt.same _
   ·exact SeqAt.EqAt.of_refs hac rc
noncomputable def rEqD (K:PySem.W.Frag)(n:Nat):R2:=fun x y H Q=>∃a c b,x=.ref a/\y=.ref c/\EqD K H n x y b/\Q (.bl b) H
def Ey_ (n:Nat)(hu:X.A.units+n<cLine):OpR X (compareOp .Eq) (rEqD X.K n):=by
 intro pins s σ H x y v u Q I rx ry h
 obtain⟨a,c,b,ex,ey,h,q⟩:=h
 exact (EqD.at I n X.A hu rx ry h).2 a c ex ey _ _ _ _ ⟨.bl b,H,I,rfl,q⟩
def EqD.flat {K:PySem.W.Frag}    (hq:(SqL K H a xs/\SqL K H c ys)\/(SqT K H a xs/\SqT K H c ys))(fx:∀x∈xs,X5 x=true)(fy:∀y∈ys,X5 y=true)(hi:∀x∈xs,∀y∈ys,eqV x y=decide (x=y))(n:Nat):
  EqD K H (n+1) (.ref a) (.ref c) (decide (xs=ys)):=by
 have base:∀m i x y,xs[i]?=some x->ys[i]?=some y->EqD K H m x y (decide (x=y)):=fun m i x y h1 h2=>by
  have m1:=List.mem_of_getElem? h1
  have m2:=List.mem_of_getElem? h2
  cases m with
  |zero=>exact⟨fx _ m1,fy _ m2,(hi _ m1 _ m2).symm⟩
  |succ m=>exact .inl ⟨fx _ m1,fy _ m2,(hi _ m1 _ m2).symm⟩
 refine .inr ⟨a,c,xs,ys,rfl,rfl,hq,fun i=>match xs[i]?,ys[i]? with|some x,some y=>decide (x=y)|_,_=>true,fun i x y h1 h2=>?_,?_⟩
 ·simp only[h1,h2]
  exact base n i x y h1 h2
 ·rw[Bool.eq_iff_iff]
  simp only[decide_eq_true_eq,Bool.and_eq_true,List.all_eq_true,List.mem_range]
  constructor
  ·rintro rfl
   refine⟨rfl,fun i hi=>?_⟩
   have hi:i<xs.length:=by lia
   simp[hi]
  ·rintro⟨hl,h⟩
   refine List.ext_getElem? fun i=>?_
   by_cases hi:i<xs.length
   ·have:=h i s!""
    simp[hi,show i<ys.length by lia]at this
    simp[hi,show i<ys.length by lia,this]
   ·rw[List.getElem?_eq_none s!"",List.getElem?_eq_none s!""]
end
end L2
namespace L2
open PySem PySem.Spec PyProof.Rows
noncomputable def Mm_ (outer:List (Str×NameKind))(sc:Scope):Bool:=
 sc.kind == .function&&sc.names.all (fun y=>y.2 != .cell&&(y.2 != .local||sc.names.lookup y.1==some .local)&&(y.2 != .free||outer.lookup y.1==some .cell||outer.lookup y.1==some .free))
def Kl   (h:Mm_ X.env.scope.names sc=true):BlkSc X sc:=by
 unfold Mm_ at h
 rw[Bool.and_eq_true,List.all_eq_true]at h
 obtain⟨h1,h2⟩:=h
 refine⟨by simpa using h1,fun y hy z=>?_,fun y hy z=>?_,fun y hy z=>?_⟩
 ·have:=h2 y hy
  simp only[Bool.and_eq_true]at this
  have:=this.1.1
  rw[z]at this
  exact absurd this (by decide)
 ·have:=h2 y hy
  simp only[Bool.and_eq_true]at this
  have:=this.1.2
  rw[z]at this
  simpa using this
 ·have:=h2 y hy
  simp only[Bool.and_eq_true]at this
  have:=this.2
  rw[z]at this
  have t:(X.env.scope.names.lookup y.1==some .cell||X.env.scope.names.lookup y.1==some .free)=true:=by simpa using this
  rw[Bool.or_eq_true]at t
  rcases t with t|t
  ·exact .inl (by show X.env.scope.names.lookup y.1=some .cell;simpa using t)
  ·exact .inr (by show X.env.scope.names.lookup y.1=some .free;simpa using t)
section
variable {t u:TS} {te ta tb tc':TE} {tt tu:TT} {A B:TA} {D:Ends} {σ:St} {H:Hp} {Q:VK} {R:Bool->Hp->Prop} {S:List V->Hp->Prop} {i:Nat} {v:V} {g:TG} {r r':R2} {K:PySem.W.Frag} {wi:TI} {cp:Caps}
theorem Mn_:tSeq t u D σ H=t {D with nx:=u D} σ H:=rfl
theorem JK_:LR_ D σ H=D.nx σ H:=rfl
theorem Mo_:tAsg te g D σ H=te σ H fun x H1=>g x σ H1 D.nx:=rfl
theorem GV_  : CX_ i v σ H N=N (σ.set i (some v)) H:=rfl
theorem Mp_:tVar i σ H Q=∃v,σ[i]?=some (some v)/\Q v H:=rfl
theorem r_c:tC v σ H Q=Q v H:=rfl
theorem r_op:tOp r ta tb σ H Q=ta σ H fun x H1=>tb σ H1 fun y H2=>r x y H2 Q:=rfl
theorem r_un  : tUn f ta σ H Q=ta σ H fun x H1=>f x H1 Q:=rfl
theorem r_I    : rI C f x y H Q=∃i j,x=.int i/\y=.int j/\C i j/\Q (f i j) H:=rfl
theorem r_I0   : rI0 f x y H Q=∃i j,x=.int i/\y=.int j/\Q (f i j) H:=rfl
theorem r_U   : rU f x H Q=∃i,x=.int i/\Q (f i) H:=rfl
theorem JL_    : KP_ sp dvs E A σ H Q=A σ H fun vs H1=>sp (vs++dvs) H1 Q E:=rfl
theorem JM_:LX_ te A σ H S=te σ H fun x H1=>A σ H1 fun xs H2=>S (x::xs) H2:=rfl
theorem Mq_:tNil σ H S=S [] H:=rfl
theorem Mr_:tRet te D σ H=te σ H D.rt:=rfl
theorem JN_:LS_ te D σ H=te σ H fun _ H1=>D.nx σ H1:=rfl
theorem r_if:tIfS tt t u D σ H=tt σ H fun b H1=>if b=true then t D σ H1 else u D σ H1:=rfl
theorem r_B:tB te σ H R=te σ H fun x H1=>∃c,x=.bl c/\R c H1:=rfl
theorem JO_:Iv_ te σ H R=te σ H fun x H1=>∃c,x=.bl c/\R c H1:=rfl
theorem Ms_:tAnd tt tu σ H R=tt σ H fun c H1=>if c=true then tu σ H1 R else R false H1:=rfl
theorem r_or:tOr tt tu σ H R=tt σ H fun c H1=>if c=true then R true H1 else tu σ H1 R:=rfl
theorem Mt_:tNot tt σ H R=tt σ H fun c H1=>R (!c) H1:=rfl
theorem JP_:LO_ ta tb σ H Q=ta σ H fun x H1=>∃c,x=.bl c/\if c=true then tb σ H1 Q else Q (.bl false) H1:=rfl
theorem Mu_:tOrV ta tb σ H Q=ta σ H fun x H1=>∃c,x=.bl c/\if c=true then Q (.bl true) H1 else tb σ H1 Q:=rfl
theorem JQ_:LP_ ta σ H Q=ta σ H fun x H1=>∃c,x=.bl c/\Q (.bl (!c)) H1:=rfl
theorem GW_:JA_ r r' ta tb tc' σ H Q=ta σ H fun x H1=>tb σ H1 fun y H2=>r x y H2 fun z H3=>∃k,z=.bl k/\(if k=true then tc' σ H3 fun w' H4=>r' y w' H4 Q else Q (.bl false) H3):=rfl
theorem r_CB  : tCB f A σ H Q=A σ H fun vs H1=>f vs H1 Q:=rfl
theorem Mv_:tLst A σ H Q=A σ H fun xs H1=>xs.length<=sizeLine/\∀p,H1 p=none->Q (.ref p) (upd H1 p (.lst xs)):=rfl
theorem Mw_:tTup A σ H Q=A σ H fun xs H1=>xs.length<=sizeLine/\∀p,H1 p=none->Q (.ref p) (upd H1 p (.tup xs)):=rfl
theorem Mx_  : rIxL K x y H Q=∃p xs i v,x=.ref p/\y=.int i/\SqL K H p xs/\atI xs i=some v/\Q v H:=rfl
theorem My_  : rIxT K x y H Q=∃p xs i v,x=.ref p/\y=.int i/\SqT K H p xs/\atI xs i=some v/\Q v H:=rfl
theorem r_sl   : tSl f te tl th σ H Q=te σ H fun x H1=>tl σ H1 fun l H2=>th σ H2 fun u H3=>f x l u H3 Q:=rfl
theorem JR_  : Mb_ te σ H U=te σ H fun x H1=>∃i,x=.int i/\U (some i) H1:=rfl
theorem Ez_  : GG_ σ H U=U none H:=rfl
theorem Mz_  {lo hi:Option Int}:rSlL K x lo hi H Q=∃a xs,x=.ref a/\SqL K H a xs/\∀p,H p=none->Q (.ref p) (upd H p (.lst (cutV xs lo hi))):=rfl
theorem r_BM   : tBM K T f te A σ H Q=te σ H fun x H1=>tyV K T x H1/\A σ H1 fun xs H2=>f x xs H2 Q:=rfl
theorem MA_   : tBM0 K T f te σ H Q=te σ H fun x H1=>tyV K T x H1/\f x [] H1 Q:=rfl
theorem EA_   : GL_ x vs H Q=∃l xs y,x=.ref l/\vs=[y]/\H l=some (.lst xs)/\xs.length<sizeLine/\Q .non (upd H l (.lst (xs++[y]))):=rfl
theorem JS_    : gSub to ti ts v σ H N=to σ H fun o H1=>ti σ H1 fun i H2=>ts o i v H2 fun H3=>N σ H3:=rfl
theorem JT_   : Mc_ o k v H N=∃p xs m j,o=.ref p/\k=.int m/\H p=some (.lst xs)/\ixN xs.length m=some j/\N (upd H p (.lst (xs.set j v))):=rfl
theorem r_Eq  : rEq x y H Q=(scal x y=true/\Q (.bl (decide (x=y))) H):=rfl
theorem r_Ne  : rNe x y H Q=(scal x y=true/\Q (.bl (!decide (x=y))) H):=rfl
theorem MB_   : rEqD K n x y H Q=∃a c b,x=.ref a/\y=.ref c/\EqD K H n x y b/\Q (.bl b) H:=rfl
theorem GX_  : LU_ K te σ H Z=te σ H fun x H1=>∃a,x=.ref a/\(∃xs,SqL K H1 a xs)/\Z (Itl K a) H1:=rfl
theorem JU_  : iTup K te σ H Z=te σ H fun x H1=>∃a,x=.ref a/\(∃xs,SqT K H1 a xs)/\Z (Itt K a) H1:=rfl
theorem GY_  : LV_ A σ H Z=A σ H fun vs H1=>∃j:Int,vs=[.int j] /\ -(2 ^ 62)<=j/\j<2 ^ 62/\Z (Itr 0 j.toNat) H1:=rfl
theorem JV_:KU_ σ H R=R true H:=rfl
end
def Same.new    (h:H p=none):Same H (upd H p o):=fun b u e=>by rw[Ag (C3 e h)];exact e
def Same.newT    (s:Same H H')(h:H' p=none):Same H (upd H' p o):=s.trans (Same.new h)
def Same.over    (s:Same H H')(h:H p=none):Same H (upd H' p o):=fun b u e=>by rw[Ag (C3 e h)];exact s b u e
def Df_    (h:upd H p o D=none):H D=none/\D≠p:=by
 by_cases e:D=p
 ·subst e;rw[Ab]at h;cases h
 ·rw[Ag e]at h;exact⟨h,e⟩
def Same.seqT {K:PySem.W.Frag}    (e:Same H H')(h:SqT K H a xs):SqT K H' a xs:=by
 rcases h with (h|⟨o,h⟩)|h
 ·exact .inl (.inl (e _ _ h))
 ·exact .inl (.inr ⟨o,e _ _ h⟩)
 ·exact .inr h
def hu9   (hr:Room k A):A.units+8<cLine:=by have:=hr.units;lia
section
variable {K:PySem.W.Frag} {wi:TI} {cp:Caps} {g:TG} {tc:TT} {te:TE} {σ:St} {H:Hp} {Q:VK}
theorem MC_               : (cxOf CX P w K mg base N qual scope f cd A outer s H E).K=K:=rfl
noncomputable def Fv_ (J:It)(cp:Caps)(g:TG)(tc:TT)(te:TE)(σ:St)(H1:Hp)(Q:VK):Prop:=∃W:Nat->Nat->List V->St->Hp->Prop,(∃m,W 0 m [] (cp.st σ) H1)/\∀i m ys σ' H',W i m ys σ' H' ->
 ys.length<sizeLine/\((J.stop i H'/\∀D,H' D=none->Q (.ref D) (upd H' D (.lst ys)))\/(J.go i H'/\∃N:List V->St->Hp->Prop,(∀zs σ2 H2,N zs σ2 H2->∃m',m'<m/\W (i+1) m' zs σ2 H2)/\∀x H2,J.yld i H' x H2->g x σ' H2 fun σ2 H3=>tc σ2 H3 fun b H4=>
  if b=true then te σ2 H4 fun v H5=>N (ys++[v]) σ2 H5 else N ys σ2 H4))
theorem JW_:KV_ wi cp g tc te σ H Q=wi σ H fun J H1=>Fv_ J cp g tc te σ H1 Q:=rfl
noncomputable def ForW (J:It)(g:TG)(tb:TS)(D:Ends)(σ:St)(H1:Hp):Prop:=∃W:Nat->Nat->St->Hp->Prop,(∃m,W 0 m σ H1)/\∀i m σ H,W i m σ H ->
 (J.stop i H/\D.nx σ H)\/(J.go i H/\∃N:St->Hp->Prop,(∀σ' H',N σ' H'->∃m',m'<m/\W (i+1) m' σ' H')/\∀x H',J.yld i H x H'->g x σ H' fun σ2 H2=>tb {D with nx:=N,ct:=N,bk:=D.nx} σ2 H2)
theorem MD_   : tFor wi g tb D σ H=wi σ H fun J H1=>ForW J g tb D σ H1:=rfl
def forL        (Pv:Nat->St->Hp->Prop)(h0:Pv 0 σ H)(hl:∀i σ H,i<=xs.length->Pv i σ H->SqL K H a xs)
  (hs:∀i x σ H,xs[i]?=some x->Pv i σ H->g x σ H fun σ2 H2=>tb {D with nx:=Pv (i+1),ct:=Pv (i+1),bk:=D.nx} σ2 H2) (hd:∀σ H,Pv xs.length σ H->D.nx σ H):ForW (Itl K a) g tb D σ H:=It_ Pv h0 hl hs hd
def forT        (Pv:Nat->St->Hp->Prop)(h0:Pv 0 σ H)(hl:∀i σ H,i<=xs.length->Pv i σ H->SqT K H a xs)
  (hs:∀i x σ H,xs[i]?=some x->Pv i σ H->g x σ H fun σ2 H2=>tb {D with nx:=Pv (i+1),ct:=Pv (i+1),bk:=D.nx} σ2 H2) (hd:∀σ H,Pv xs.length σ H->D.nx σ H):ForW (Itt K a) g tb D σ H:=KL_ Pv h0 hl hs hd
def forR {lo:Int}       (Pv:Nat->St->Hp->Prop)(h0:Pv 0 σ H)
  (hs:∀i σ H,i<n->Pv i σ H->g (.int (lo+i)) σ H fun σ2 H2=>tb {D with nx:=Pv (i+1),ct:=Pv (i+1),bk:=D.nx} σ2 H2) (hd:∀σ H,Pv n σ H->D.nx σ H):ForW (Itr lo n) g tb D σ H:=Gu_ Pv h0 hs hd
def Dg_   (Pv:Nat->List V->St->Hp->Prop)(h0:Pv 0 [] (cp.st σ) H)(hz:xs.length<sizeLine)
  (hl:∀i ys σ H,i<=xs.length->Pv i ys σ H->SqL K H a xs/\ys.length<=i)
  (hs:∀i x ys σ H,xs[i]?=some x->Pv i ys σ H->g x σ H fun σ2 H2=>tc σ2 H2 fun b H3=>if b=true then te σ2 H3 fun v H4=>Pv (i+1) (ys++[v]) σ2 H4 else Pv (i+1) ys σ2 H3)
  (hd:∀ys σ H,Pv xs.length ys σ H->∀D,H D=none->Q (.ref D) (upd H D (.lst ys))):Fv_ (Itl K a) cp g tc te σ H Q:=GS_ Pv h0 hz hl hs hd
def Nt_   (Pv:Nat->List V->St->Hp->Prop)(h0:Pv 0 [] (cp.st σ) H)(hz:xs.length<sizeLine)
  (hl:∀i ys σ H,i<=xs.length->Pv i ys σ H->SqT K H a xs/\ys.length<=i)
  (hs:∀i x ys σ H,xs[i]?=some x->Pv i ys σ H->g x σ H fun σ2 H2=>tc σ2 H2 fun b H3=>if b=true then te σ2 H3 fun v H4=>Pv (i+1) (ys++[v]) σ2 H4 else Pv (i+1) ys σ2 H3)
  (hd:∀ys σ H,Pv xs.length ys σ H->∀D,H D=none->Q (.ref D) (upd H D (.lst ys))):Fv_ (Itt K a) cp g tc te σ H Q:=IG_ Pv h0 hz hl hs hd
def II_ {lo:Int}  (Pv:Nat->List V->St->Hp->Prop)(h0:Pv 0 [] (cp.st σ) H)(hz:n<sizeLine)
  (hl:∀i ys σ H,i<=n->Pv i ys σ H->ys.length<=i)
  (hs:∀i ys σ H,i<n->Pv i ys σ H->g (.int (lo+i)) σ H fun σ2 H2=>tc σ2 H2 fun b H3=>if b=true then te σ2 H3 fun v H4=>Pv (i+1) (ys++[v]) σ2 H4 else Pv (i+1) ys σ2 H3)
  (hd:∀ys σ H,Pv n ys σ H->∀D,H D=none->Q (.ref D) (upd H D (.lst ys))):Fv_ (Itr lo n) cp g tc te σ H Q:=Fu_ Pv h0 hz hl hs hd
def IJ_    (f:V->V)(e:cp.st σ=none::σ')(hl:SqT K H a xs)(hz:xs.length<sizeLine)(hs:∀x∈xs,∀R:VK,R (f x) H->te (some x::σ') H R)(hd:∀D,H D=none->Q (.ref D) (upd H D (.lst (xs.map f)))):
  Fv_ (Itt K a) cp (CX_ 0) KU_ te σ H Q:=by
 refine Nt_ (xs:=xs) (fun i ys σ2 H2=>H2=H/\ys=(xs.take i).map f/\∃o,σ2=o::σ') ⟨rfl,by simp,none,e⟩ hz (fun i ys σ2 H2 hi h=>?_) (fun i x ys σ2 H2 hx h=>?_) (fun ys σ2 H2 h=>?_)
 ·obtain⟨rfl,rfl,_⟩:=h
  exact⟨hl,by rw[List.length_map,List.length_take];lia⟩
 ·obtain⟨rfl,rfl,o,rfl⟩:=h
  refine hs x (List.mem_of_getElem? hx) _ ⟨rfl,?_,some x,rfl⟩
  rw[List.take_add_one,hx];simp
 ·obtain⟨rfl,rfl,_⟩:=h
  rw[List.take_length]
  exact hd
end
noncomputable def tCut (t u:TS):TS:=fun D σ H=>∃R:St->Hp->Prop,t {D with nx:=R} σ H/\∀σ' H',R σ' H'->u D σ' H'
def GZ_  {st:Stmt}{rest:List Stmt}  (h1:PS X st t)(h2:PSs X rest u):PSs X (st::rest) (tCut t u):=by
 intro pins s σ H D I h
 obtain⟨R,ha,hb⟩:=h
 refine wpAny_execs_cons (thn (h1 pins s σ H {D with nx:=R} I ha) fun f s1 q=>?_)
 cases f with
 |next=>
  obtain⟨σ',H',I',q⟩:=q
  exact h2 pins s1 σ' H' D I' (hb σ' H' q)
 |ret v=>exact q
 |brk=>exact q
 |cont=>exact q
def Aq:1000000<sizeLine:=by rw[sizeLine_eq];decide
def PQ {ns:List Int}{x:V}(h:x∈ns.map V.int):∃n,n∈ns/\x=.int n:=by
 obtain⟨n,hn,e⟩:=List.mem_map.mp h
 exact⟨n,hn,e.symm⟩
def PR {ns:List Int}{i:Nat}{x:V}(h:(ns.map V.int)[i]?=some x):∃n,ns[i]?=some n/\x=.int n:=by
 rw[List.getElem?_map]at h
 cases e:ns[i]? with
 |none=>rw[e]at h;cases h
 |some n=>rw[e]at h;exact⟨n,rfl,(Option.some.inj h).symm⟩
noncomputable def cutI (ns:List Int)(lo hi:Option Int):List Int:=(ns.drop (HT.sIx ns.length 0 lo)).take (HT.sIx ns.length ns.length hi-HT.sIx ns.length 0 lo)
def EB_ (ns:List Int)(lo hi:Option Int):cutV (ns.map V.int) lo hi=(cutI ns lo hi).map V.int:=by
 unfold cutV cutI
 rw[List.length_map,<-List.map_drop,<-List.map_take]
def ME_     (h0:0<=i)(h:xs[i.toNat]?=some v):atI xs i=some v:=by
 have:=Cr h
 rwa [show ((i.toNat:Nat):Int)=i by lia]at this
def K4 {K:PySem.W.Frag}  : PySem.W.kitOne K t t=some true:=by unfold PySem.W.kitOne;rw[if_pos (by simp)]
def Ba_ {K:PySem.W.Frag}:PySem.W.kitOne K (.type "int") (.type "bool")=some false:=by
 first|rfl|decide +kernel|(unfold PySem.W.kitOne;kernel_rfl)
def Th  : ∀u,RelV (V.ty n) u->u=.type n:=fun _ h=>h
end L2
namespace L2
open PySem PySem.W PySem.Spec PySem.Calls PyProof.Rows
section
variable {prog:Program} {w:World} {A:Around} {E:Value->Shared->Prop} {s:Shared} {K:Frag} {x D:Addr} {ox:Obj}
structure ExcCls (K:Frag)(D:Addr):Prop where
 ga:findIn K (.ref D) "__getattribute__"=some (some (.builtin "BaseException.__getattribute__"))
 hk:findIn K (.ref D) "__getattr__"=some none
 cl:(clsIn K D).isSome=true
 ca:findIn K (.ref D) "__class__"=some (some (.builtin "object.__class__"))
 gs:specialIn K (.builtin "object.__class__") "__get__"=some (some (.builtin "getset_descriptor.__get__"))
 tk:takesIn K (.builtin "object.__class__")=some true
 mo:mroIn K D (.type "object")=some true
 mb:mroIn K D (.type "BaseException")=some true
noncomputable def Yd (x D:Addr)(h:Heap):Prop:=∃ox,h.get? x=some ox/\ox.cls=.ref D
def Yd.type   (I:Yd x D h):Looks M h (typeOf (.ref x)) (.ref D):=by
 obtain⟨ox,h1,h2⟩:=I
 exact h2 ▸ (Looks.ld h1).andThen .now
def IK_   (X:K.In h)(C:ExcCls K D):Looks M h (Builtin.ObjectAttr.find (.ref x) (.ref D) "__class__") (.bind (.builtin "getset_descriptor.__get__") (.builtin "object.__class__")):=
 (looks_findIn X C.ca).andThen ((show Looks M h (Builtin.ObjectAttr.getOf (some (.builtin "object.__class__"))) _ from looks_specialIn X C.gs).andThen
  ((show Looks M h (Builtin.ObjectAttr.dataDescriptor? (some (.builtin "object.__class__")) (some (.builtin "getset_descriptor.__get__"))) (some (.builtin "getset_descriptor.__get__",.builtin "object.__class__")) from (looks_takesIn X C.tk).andThen .now).andThen (Looks.tag .now)))
open Builtin Builtin.ObjectAttr Builtin.Getset_descriptor in
def KW_ {R:Result->Shared->Prop}{tp:Value}(X:K.In s.heap)(I:Yd x D s.heap)(hm:mroIn K D (.type "object")=some true)(h:R (.ok (.ret (.ref D))) s):codeAny (model prog w) A (.call (.builtin "getset_descriptor.__get__") ⟨[.builtin "object.__class__",.ref x,tp],[]⟩) R s:=by
 have l0:=I.type (M:=model prog w)
 have l1:=looks_mroIn (M:=model prog w) X hm
 obtain⟨_,_,_,_,_⟩:=s
 have sg:=KF.slot_gs
 refine codeAny_call_builtin sg.plain KF.entry_gs (sg.check _ _ _ _ _ _ _ _ KF.type_class (KF.args_gs _ _ _) ?_)
 unfold Builtin.«getset_descriptor.__get__» descrGet
 rw[dga_obj]
 unfold descrGetter descrCheckInstance isInstance descrNameAndClass
 refine wpAny_bind (wpAny_pure ?_)
 simp only[KF.owner_class]
 repeat lk
 refine⟨Code.quiet_builtin _ (by decide +kernel),codeAny_builtin KF.entry_class ?_⟩
 unfold Builtin.«object.__class__» shownTypeOf
 repeat lk
 exact h
def Ha_    (X:K.In s.heap)(I:Yd x D s.heap)(C:ExcCls K D)(hq:Q () s):wpAny M A (checkBuiltinCall "BaseException.__getattribute__" ⟨[.ref x,nameV],[]⟩) Q E s:=by
 have a1:=F.args_bexc_ga (.ref x) nameV
 have l0:=I.type (M:=M)
 have l1:=looks_mroIn (M:=M) X C.mb
 obtain⟨_,_,_,_,_⟩:=s
 simp only[checkBuiltinCall,show builtinKind "BaseException.__getattribute__"=some .slot by decide +kernel,show splitId "BaseException.__getattribute__"=some ("BaseException","__getattribute__") by decide +kernel,isInstance]
 repeat (first|lk|wp_step)
 exact hq
def Hb_   (X:K.In s.heap)(I:Yd x D s.heap)(C:ExcCls K D)(hq:Q (.done (.ret (.ref D))) s):wpAny (model prog w) A (Builtin.«object.__getattribute__» ⟨[.ref x,.str "__class__" tk],[]⟩) Q E s:=by
 obtain⟨hh,g,d,t,os⟩:=s
 have L0:=I.type (M:=model prog w)
 have L1:=IK_ (M:=model prog w) (x:=x) X C
 unfold Builtin.«object.__getattribute__»
 refine wpAny_bind (wpAny_pure ?_)
 refine wpAny_bind (wpAny_pure ?_)
 refine wpAny_bind (L0.at ?_)
 refine wpAny_bind (L1.at ?_)
 show wpAny _ _ (Builtin.ObjectAttr.bindTo _ _ _ _) _ _ _
 unfold Builtin.ObjectAttr.bindTo
 dsimp only
 refine wpAny_bind (wpAny_holding (wpAny_call (KW_ (K:=K) (s:=⟨hh,g,d,t,os⟩) X I C.mo ?_)))
 exact wpAny_pure hq
def Hc_  (X:K.In s.heap)(I:Yd x D s.heap)(C:ExcCls K D)(h:Q (some (.ref D)) {s with toks:=s.toks+1}):wpAny (model prog w) A (getAttr? (.ref x) "__class__") Q E s:=by
 obtain⟨hh,g,d,t,os⟩:=s
 have L0:=I.type (M:=model prog w)
 have L1:=looks_findIn (M:=model prog w) X C.ga
 have L2:=looks_findIn (M:=model prog w) X C.hk
 unfold getAttr? getAttrBy? getAttrBy
 refine wpAny_bind (wpAny_mkText (wpAny_bind (wpAny_attempt (wpAny_holding (wpAny_bind (L0.at (wpAny_bind (L1.at ?_))))))))
 show wpAny _ _ (getAttrByItsOwn _ _ _ _ _ _) _ _ _
 unfold getAttrByItsOwn hookBefore
 refine wpAny_bind ?_
 rw[if_pos (by rfl)]
 refine L2.at (wpAny_bind (wpAny_attempt (wpAny_holding ?_)))
 unfold callGetattribute
 rw[if_neg (by decide)]
 unfold boundAndCalled
 have f3:=PySem.F.attr_ValueError.ga.bind (.ref x)
 refine wpAny_bind (wpAny_of_eq f3 ?_)
 refine wpAny_call (codeAny_call_builtin PySem.F.attr_ValueError.ga.plain F.entry_bexc_ga (Ha_ (K:=K) (s:=⟨hh,g,d,t+1,os⟩) X I C (Hb_ (K:=K) (s:=⟨hh,g,d,t+1,os⟩) X I C ?_)))
 exact wpAny_pure (wpAny_pure h)
def IL_ (C:ExcCls K D):KitX K (.ref x) (.ref D) (Yd x D):=by
 have cl:=C.cl
 unfold clsIn at cl
 refine⟨fun _ _ _ I=>I.type,fun _ _ X _=>?_,fun h tp dd its n sl X htp=>?_,fun X I k=>Hc_ X I C k⟩
 ·split at cl
  ·rename_i ho
   intro A' Q' E' s' k q
   exact wpAny_bind (wpAny_loadPart (k _ _ (X _ _ ho)) (wpAny_pure q))
  ·cases cl
 ·split at cl
  ·rename_i ho
   cases hb:(Value.ref D==Value.ref tp) with
   |false=>rfl
   |true=>
    obtain rfl:D=tp:=Value.ref.inj (beq_iff_eq.mp hb)
    cases (X _ _ ho).symm.trans htp
  ·cases cl
end
section
variable {P:Program} {w:World}
def C4.there     (x:C4 P w H h a o):∃ob,h.get? a=some ob:=by
 induction o with
 |lst xs=>obtain⟨_,_,_,_,e⟩:=x;exact⟨_,e⟩
 |tup xs=>obtain⟨_,_,_,ob,e,_⟩:=x;exact⟨_,e⟩
 |dK kvs=>obtain⟨_,_,_,_,o,_,_,e,_⟩:=x;exact⟨_,e⟩
 |dT kvs=>obtain⟨_,_,_,_,o,_,_,e,_⟩:=x;exact⟨_,e⟩
 |set S n=>obtain⟨o,_,_,_,e,_⟩:=x;exact⟨_,e⟩
 |ins C dx fs=>obtain⟨_,_,_,e,_⟩:=x;exact⟨_,e⟩
 |own y=>obtain⟨_,e⟩:=x;exact⟨_,e⟩
 |xd fs=>obtain⟨_,⟨_,_,_,e,_⟩,_⟩:=x;exact⟨_,e⟩
 |rng lo hi=>obtain⟨_,_,_,e⟩:=x;exact⟨_,e⟩
 |frz ob u ih=>obtain⟨e,_⟩:=x;exact⟨_,e⟩
 |tbl ps=>exact⟨_,(show h.get? a=some _ from x)⟩
 |met f y=>exact⟨_,(show h.get? a=some _ from x)⟩
 |ext φ=>obtain⟨_,⟨_,e⟩,_⟩:=x;exact⟨_,e⟩
structure Fly (P:Program)(w:World)(fs:List Addr)(H1 H':Hp)(h1 g B:Heap):Prop where
 un:Un fs [] H1 H' h1 g
 hok:HOk P w H' g
 cov:∀b o,g.get? b=some o->(H' b≠none \/ ∃o',h1.get? b=some o')->b∉fs->B.get? b=some o
def Fly.move  {H1 H':Hp}{h1 g B h2:Heap}(x:Fly P w fs H1 H' h1 g B)(frees:∀b∈fs,H' b=none)(st:B.StaysIn h2)(up:∀b∈fs,∀o,g.get? b=some o->∃sl,h2.get? b=some {o with slots:=sl}):Fly P w fs H1 H' h1 h2 B:=by
 have keep:∀b o,g.get? b=some o->(H' b≠none \/ ∃o',h1.get? b=some o')->b∉fs->h2.get? b=some o:=fun b o e h n=>st b o (x.cov b o e h n)
 have nfs:∀b u,H' b=some u->b∉fs:=fun b u e z=>by rw[frees b z]at e;cases e
 refine⟨⟨fun b o e n hb hx=>?_,fun b o e n hb hx=>?_,fun b o e n hx=>x.un.free b o e n hx,fun b o e hx=>?_,x.un.tups,x.un.frzs,x.un.tbls⟩,fun b u e=>?_,fun b o e h n=>?_⟩
 ·exact keep b o (x.un.keep b o e n hb hx) (.inr ⟨o,e⟩) hb
 ·obtain⟨sl,e1⟩:=x.un.slot b o e n hb hx
  obtain⟨sl',e2⟩:=up b hb _ e1
  exact⟨sl',e2⟩
 ·obtain⟨o',e1⟩:=x.un.there b o e hx
  by_cases hb:b∈fs
  ·obtain⟨sl',e2⟩:=up b hb _ e1
   exact⟨_,e2⟩
  ·exact⟨o',keep b o' e1 (.inr ⟨o,e⟩) hb⟩
 ·refine (x.hok b u e).stay (fun c v hc q=>?_) (fun _ q=>q) fun _ _ q=>q
  rcases hc with rfl|hc
  ·exact keep c v q (.inl (by rw[e];simp)) (nfs c u e)
  ·exact keep c v q (.inl (by rw[hc];simp)) (nfs c _ hc)
 ·-- B has it still
  have ⟨o1,e1⟩:∃o1,g.get? b=some o1:=by
   rcases h with h|⟨o',h⟩
   ·cases q:H' b with
    |none=>exact absurd q h
    |some u=>exact (x.hok b u q).there
   ·exact x.un.there b o' h (by simp)
  have e2:=x.cov b o1 e1 h n
  have e3:=st b o1 e2
  rw[e]at e3
  cases e3
  exact e2
noncomputable def CXe (P:Program)(w:World):CXT:=fun outer H s E e s'=>∃(ea:Addr) (cls a0:Value) (H':Hp) (B:Heap),e=.ref ea/\s'.os=s.os/\AllBare s'.gens/\Fly P w (frs outer) H H' s.heap s'.heap B/\Heap.FlyingW B outer ea cls a0 s'.heap/\E cls none H'
def Bb_    {H1 H':Hp}  {g B:Heap}(I:Inv X pins σ H1 s1)(x:Fly P w (frs X.stack) H1 H' s1.heap g B):∀b∈frs X.stack,H' b=none:=fun b hb=>by
 obtain⟨_,o,ho,_⟩:=I.stack.mem hb
 exact x.un.free b o ho (I.stkFree b hb) (by simp)
def Km {K:PySem.W.Frag}             (hE:∀c d H',E' c d H'->E c d H'):
  Mn (CXe P w) (cxOf (CXe P w) P w K mg base N qual scope f cd A outer s H E) E':=by
 intro pins σ H1 s1 e s' I hc
 obtain⟨ea,cls,a0,H',B,rfl,os,bare,fl,fw,q⟩:=hc
 have fr:(cxOf (CXe P w) P w K mg base N qual scope f cd A outer s H E).A.frames=some (envOfC qual scope s.heap.objs.size f cd::outer):=I.ok.frames
 refine wpAny_leaves_onW fr rfl fw fun h' fw' ups=>?_
 have fl2:=fl.move (Bb_ I fl) fw'.1 (fun b hb o e=>by
  obtain⟨_,o',ho',nf⟩:=fw.2.2.1.mem hb
  rw[e]at ho';cases ho'
  exact ups b o e nf)
 have I2:Inv (cxOf (CXe P w) P w K mg base N qual scope f cd A outer s H E) pins σ H' {s' with heap:=h' }:=I.call' (s':={s' with heap:=h' }) os fl2.un fl2.hok bare (fun b hb=>by cases hb)
 refine⟨ea,cls,a0,H',B,rfl,I2.os,I2.bare,⟨I2.base,I2.hok,fun b o e h n=>fl2.cov b o e ?_ (fun z=>?_)⟩,fw',hE _ _ _ q⟩
 ·rcases h with h|⟨o',h⟩
  ·exact .inl h
  ·obtain⟨o2,e2⟩:=I.base.there b o' h (by show b∉([]:List Addr);simp)
   exact .inr ⟨o2,e2⟩
 ·rcases List.mem_cons.mp (I.stkSub b z) with e' | e'
  ·rcases h with h|⟨o',h⟩
   ·exact h (by rw[e'];exact I2.free)
   ·have:=Heap.lt_size h
    rw[e']at this
    exact absurd (Nat.lt_of_lt_of_le this I.ok.above) (Nat.lt_irrefl _)
  ·exact n e'
def MF_ {K:PySem.W.Frag}
   {H1:Hp}
  (I:Inv (cxOf (CXe P w) P w K mg base N qual scope f cd A outer s H E) pins σ H1 s1) (hx:Heap.MadeExcOf s1.heap h' ea cls vs) (q:E cls none H1):
  (cxOf (CXe P w) P w K mg base N qual scope f cd A outer s H E).xe (.ref ea) {s1 with heap:=h' }:=by
 have fr:(cxOf (CXe P w) P w K mg base N qual scope f cd A outer s H E).A.frames=some (envOfC qual scope s.heap.objs.size f cd::outer):=I.ok.frames
 have hin:∀env∈(envOfC qual scope s.heap.objs.size f cd::outer),∀b,env.frame=some b->b∈frs (envOfC qual scope s.heap.objs.size f cd::outer):=fun env he b hb=>List.mem_filterMap.mpr ⟨env,he,hb⟩
 have stk:=I.stack
 have fl:Fly P w (frs (envOfC qual scope s.heap.objs.size f cd::outer)) H1 H1 s1.heap s1.heap (PySem.W.hideAll s1.heap (frs (envOfC qual scope s.heap.objs.size f cd::outer))):=⟨Un.refl,I.hok,fun b o e _ n=>PySem.W.hideAll_get _ e n⟩
 refine wpAny_leaves_madeW (base:=PySem.W.hideAll s1.heap (frs (envOfC qual scope s.heap.objs.size f cd::outer))) (h:=s1.heap) fr rfl (fun b o q=>PySem.W.of_hideAll _ q) ?_ hx fun h'' t fw' ht hnt ups=>?_
 ·exact PySem.W.funFrames_hide stk hin
 ·have fl2:=fl.move (Bb_ (X:=cxOf (CXe P w) P w K mg base N qual scope f cd A outer s H E) I fl) fw'.1 (fun b hb o e=>by
   obtain⟨_,o',ho',nf⟩:=stk.mem hb
   rw[e]at ho';cases ho'
   exact ups b o (hx.keeps b o e) nf)
  have I2:Inv (cxOf (CXe P w) P w K mg base N qual scope f cd A outer s H E) pins σ H1 {s1 with heap:=h'' }:=I.call' (s':={s1 with heap:=h'' }) rfl fl2.un fl2.hok I.bare (fun b hb=>by cases hb)
  refine⟨ea,cls,.ref t,H1,_,rfl,I2.os,I2.bare,⟨I2.base,I2.hok,fun b o e h n=>fl2.cov b o e ?_ (fun z=>?_)⟩,fw',q⟩
  ·rcases h with h|⟨o',h⟩
   ·exact .inl h
   ·obtain⟨o2,e2⟩:=I.base.there b o' h (by show b∉([]:List Addr);simp)
    exact .inr ⟨o2,e2⟩
  ·rcases List.mem_cons.mp (I.stkSub b z) with e' | e'
   ·rcases h with h|⟨o',h⟩
    ·exact h (by rw[e'];exact I2.free)
    ·have:=Heap.lt_size h
     rw[e']at this
     exact absurd (Nat.lt_of_lt_of_le this I.ok.above) (Nat.lt_irrefl _)
   ·exact n e'
end
def KX_ {K:Frag}     (X:K.In h)(q:excIn K C bmB newId=true):
  ∃bm N nm q bs hdct sn sub ab col dd k0 k1 k2 k3 k5 mN,h.get? C=some (excClassObj nm q C N bs bm hdct sn sub ab col dd k0 k1 k2 k3 k5 newId)/\h.Ns N mN/\mN "__init__"=none/\OwnTail h bmB bm:=by
 unfold excIn at q
 split at q
 case h_2=>cases q
 rename_i d0 c0 s0 hl
 split at q
 case h_2=>cases q
 rename_i B tl a0 a1 a2 a3 id0 a5 em es
 have g:=X C _ hl
 repeat rw[Bool.and_eq_true]at q
 rcases q with ⟨⟨⟨⟨⟨e1,e2⟩,e3⟩,e4⟩,e5⟩,e6⟩
 cases eq_of_beq e1
 cases eq_of_beq e2
 rcases s0 with ⟨l0⟩
 cases es
 rcases c0 with ⟨f0,f1,f2,f3,f4,f5,f6,f7,f8,f9,f10⟩
 cases em
 cases f10
 ·exact⟨tl,f3,f0,f4,f1,f5,f6,f7,f8,f9,d0,a0,a1,a2,a3,a5,h.nsMap f3,g,.of_isNs (isNs_of_in X e5),nsMap_none_of_in X e5 (eq_of_beq e6),tail_of_in X e4⟩
 ·cases e3
def bmV:List Value:=[.type "ValueError",.type "Exception",.type "BaseException",.type "object"]
section
variable {P:Program} {w:World} {K:PySem.W.Frag} {mg:Str->Option Value} {base:Heap} {N:List Str} {qual:Str} {scope:Scope} {f:Addr} {cd:Value} {A:Around} {outer:List Env} {s:Shared} {H:Hp} {E:XK}
noncomputable def JX_ (C:Addr)(E:XK)(ta:TA):TS:=fun _ σ H=>ta σ H fun vs H1=>vs.length<=sizeLine/\E (.ref C) none H1
def Od      {rest:List Expr}  (hm:mg x=some (.ref C))(hx:excIn K C bmV newId=true)(hg:Gl (cxOf (CXe P w) P w K mg base N qual scope f cd A outer s H E) x)
  (hn:newId = "ValueError.__new__") (ha:PA (cxOf (CXe P w) P w K mg base N qual scope f cd A outer s H E) (e₀::rest) ta)
  (he:starEach (e₀::rest) (cxOf (CXe P w) P w K mg base N qual scope f cd A outer s H E).env=(false,eval e₀ (cxOf (CXe P w) P w K mg base N qual scope f cd A outer s H E).env)::starEach rest (cxOf (CXe P w) P w K mg base N qual scope f cd A outer s H E).env:=by rfl)
  (hplain:(backTo cpos (starEach rest (cxOf (CXe P w) P w K mg base N qual scope f cd A outer s H E).env)).any (·.1)=false:=by rfl) (hd:(x==("__debug__" : Str))=false:=by decide):
  PS (cxOf (CXe P w) P w K mg base N qual scope f cd A outer s H E) (.Raise (some (.Call (.Name x np) (e₀::rest) [] cpos)) none pos) (JX_ C E ta):=by
 intro pins s1 σ H1 D I h
 subst hn
 obtain⟨bm,Nc,nm,q,bs,hdct,sn,sub,ab,col,dd,k0,k1,k2,k3,k5,mN,hC,hN,hni,T⟩:=KX_ I.mod.kin hx
 refine wpAny_Raise_call_subU (C:=C) (nm:=nm) (q:=q) (N:=Nc) (bs:=bs) (bm:=bm) (hdct:=hdct) (sn:=sn) (sub:=sub) (ab:=ab) (col:=col) (dd:=dd) (k0:=k0) (k1:=k1) (k2:=k2) (k3:=k3) (k5:=k5)
  PySem.F.excBase_ValueError (bmB:=bmV) (by decide +kernel) PySem.F.excBase_ValueError (mN:=mN) (T.hasType PySem.F.excBase_ValueError.hasBase) (I.ok.hd rfl) (by rw[he];show (false||(backTo cpos (starEach rest _)).any (·.1))=false;rw[hplain];rfl) hni (U0 I hg hm ⟨rfl,?_⟩ hd)
 have hA:=ha cpos pins s1 σ H1 _ I h
 rw[he]at hA ⊢
 refine Calls.evalArgs_plain (thn hA fun us s2 ⟨vs,H2,I2,r2,hz,q2⟩=>⟨rfl,by rw[<-r2.length];exact hz,I2.bk _ _ hC,hN.keeps I2.bk,T.keeps I2.bk,fun h' e hm=>MF_ I2 hm q2⟩)
end
end L2
namespace L2
open PySem PySem.Spec PyProof.Rows
noncomputable def excO (ea C:Addr):HO:=.ext (Yd ea C)
def Bc_  : Oj X (.builtin "isinstance") (fun xs H Q=>∃ea C c cv b,xs=[.ref ea,c]/\H ea=some (excO ea C)/\ExcCls X.K C/\(∀u,RelV c u->u=cv)/\PySem.W.kitOne X.K (.ref C) cv=some b/\Q (.bl b) H):=by
 intro pins s σ H xs us Q I r h
 obtain⟨ea,C,c,cv,b,rfl,hea,hC,hc,hk,q⟩:=h
 obtain⟨u,w',rfl,rx,rc⟩:=vals2 r
 rw[hc _ rc]
 cases rx
 obtain⟨p,_,_⟩:=(show C4 X.prog X.w H s.heap ea (.ext (Yd ea C)) from I.hok ea _ hea)
 exact PySem.W.kia_one (IL_ hC) I.kIn p hk (fun z=>nomatch z) fun tk=>⟨.bl b,H,I.tok tk,rfl,q⟩
section
variable {X:Cx}
noncomputable def Kn (K:PySem.W.Frag):R2:=fun x y H Q=>∃a b xs ys,x=.ref a/\y=.ref b/\SqT K H a xs/\SqT K H b ys/\xs.length+ys.length<=sizeLine /\
 (xs=[]->Q (.ref b) H)/\(xs ≠ []->ys=[]->Q (.ref a) H)/\(xs ≠ []->ys ≠ []->∀p,H p=none->Q (.ref p) (upd H p (.tup (xs++ys))))
def Oe:OpR X (binaryOp .Add) (Kn X.K):=by
 intro pins s σ H x y v u Q I rx ry h
 obtain⟨a,b,xs,ys,rfl,rfl,ha,hb,hz,q0,q1,q2⟩:=h
 by_cases hx:xs=[]
 ·subst hx
  cases rx
  cases ry
  obtain⟨its,r1,p1,_⟩:=I.tuple ha
  obtain⟨its2,r2,p2,_⟩:=I.tuple hb
  have:its=[]:=r1.nil_iff.mpr rfl
  subst this
  obtain⟨⟨cls,dd,data,sl⟩,ho,hc,n,hd⟩:=id p1
  obtain⟨⟨cls2,dd2,data2,sl2⟩,ho2,hc2,n2,hd2⟩:=id p2
  simp only at hc hd hc2 hd2
  subst hc hd hc2 hd2
  exact concat_meets ⟨_,ho,rfl⟩ ⟨_,ho2,rfl⟩ noFill_tuple_add seq_tuple_add PySem.F.slot_tuple_add PySem.F.entry_tuple_add (PySem.F.args_tuple_add_2 _ _)
   (PyProof.Rows.tuple_addW0 a b _ _ n n2 dd dd2 sl sl2 rfl) ⟨ho,ho2,⟨.ref b,H,I,rfl,q0 rfl⟩⟩
 ·exact KR_ pins s σ H _ _ v u Q I rx ry ⟨a,b,xs,ys,rfl,rfl,ha,hb,hx,hz,q1 hx,q2 hx⟩
end
def Hd_      (Pv:Nat->St->Hp->Prop)(h0:∃m,Pv m σ H)
  (hs:∀m σ H,Pv m σ H->c σ H fun b H1=>if b=true then ∃N:St->Hp->Prop,(∀σ' H',N σ' H'->∃m',m'<m/\Pv m' σ' H')/\tb {D with nx:=N,ct:=N,bk:=D.nx} σ H1 else D.nx σ H1):Jy_ c tb D σ H:=⟨Pv,h0,hs⟩
theorem MG_ {K:PySem.W.Frag}    {lo hi:Option Int}:rSlT K x lo hi H Q=∃a xs,x=.ref a/\SqT K H a xs /\
 ¬ (HT.sIx xs.length 0 lo=0/\HT.sIx xs.length xs.length hi=xs.length)/\∀p,H p=none->Q (.ref p) (upd H p (.tup (cutV xs lo hi))):=rfl
inductive TyW (K:PySem.W.Frag)(H:Hp):V->Value->Prop where
 | non:TyW K H .non (.type "NoneType")
 | bl (x:Bool):TyW K H (.bl x) (.type "bool")
 | int (i:Int):TyW K H (.int i) (.type "int")
 | str (x:Str):TyW K H (.str x) (.type "str")
 | lst {a:Addr} {xs:List V} (e:SqL K H a xs):TyW K H (.ref a) (.type "list")
 | tup {a:Addr} {xs:List V} (e:SqT K H a xs):TyW K H (.ref a) (.type "tuple")
 | exc {a C:Addr} (e:H a=some (excO a C)) (c:ExcCls K C):TyW K H (.ref a) (.ref C)
def Em  : Oj X (.builtin "isinstance") (fun xs H Q=>∃x c cv t b,xs=[x,c]/\TyW X.K H x t/\(∀u,RelV c u->u=cv)/\PySem.W.kitOne X.K t cv=some b/\Q (.bl b) H):=by
 intro pins s σ H xs us Q I r h
 obtain⟨x,c,cv,t,b,rfl,ty,hc,hk,q⟩:=h
 cases ty with
 |non=>exact K3 pins s σ H _ us Q I r ⟨_,c,cv,_,b,rfl,.non,hc,hk,q⟩
 |bl y=>exact K3 pins s σ H _ us Q I r ⟨_,c,cv,_,b,rfl,.bl y,hc,hk,q⟩
 |int y=>exact K3 pins s σ H _ us Q I r ⟨_,c,cv,_,b,rfl,.int y,hc,hk,q⟩
 |str y=>exact K3 pins s σ H _ us Q I r ⟨_,c,cv,_,b,rfl,.str y,hc,hk,q⟩
 |exc e hC=>exact Bc_ pins s σ H _ us Q I r ⟨_,_,c,cv,b,rfl,e,hC,hc,hk,q⟩
 |@lst a xs e=>
  obtain⟨u,w',rfl,rx,rc⟩:=vals2 r
  rw[hc _ rc]
  cases rx
  obtain⟨its,_,pl,_⟩:=I.list e
  obtain⟨o,ho,hcl,_⟩:=pl.isList
  exact PySem.W.kia_one PySem.W.kitx_list I.kIn ⟨o,ho,hcl⟩ hk (fun z=>nomatch z) fun tk=>⟨.bl b,H,I.tok tk,rfl,q⟩
 |@tup a xs e=>
  obtain⟨u,w',rfl,rx,rc⟩:=vals2 r
  rw[hc _ rc]
  cases rx
  obtain⟨its,_,⟨o,ho,hcl,_⟩,_⟩:=I.tuple e
  exact PySem.W.kia_one PySem.W.kitx_tuple I.kIn ⟨o,ho,hcl⟩ hk (fun z=>nomatch z) fun tk=>⟨.bl b,H,I.tok tk,rfl,q⟩
end L2
namespace GW
noncomputable def MH_ (L:Int):List Int->List Int
 |[]=>[0]
 |x::r=>if x=L-1 then 0::MH_ L r else (x+1)::r
noncomputable def EW (L:Int)(w:List Int):List Int:=(MH_ L w.reverse).reverse
noncomputable def JY_ (L:Int):List Int->Int
 |[]=>0
 |x::r=>JY_ L r*L+x+1
noncomputable def He_ (L:Int)(w:List Int):Int:=JY_ L w.reverse
noncomputable def inW (L x:Int):Bool:=decide (0<=x)&&decide (x<L)
noncomputable def isW (L:Int)(ws:List Int):Bool:=ws.all (inW L)
def KY_  : inW L x=true↔0<=x/\x<L:=by simp[inW]
def CH   : isW L ws=true ↔ ∀x∈ws,0<=x/\x<L:=by simp[isW,KY_]
noncomputable def many (L:Int):Nat->Int
 |0=>0
 |k+1=>many L k*L+1
noncomputable def val (L:Int):List Int->Int
 |[]=>0
 |x::r=>val L r*L+x
end GW
namespace PySem
section
variable {prog:Program} {w:World} {A:Around} {E:Value->Shared->Prop} {s:Shared}
noncomputable abbrev lsO (acc:Array Value)(c:Nat):Obj:={cls:=.type "list",dict:=none,data:=.seq acc c,slots := #[]}
noncomputable def KP (wr:Addr->Prop)(h h':Heap):Prop:=∀b o,¬ wr b->h.get? b=some o->h'.get? b=some o
structure Gat (prog:Program)(w:World)(s:Shared)(r I:Addr)(T:String)(n:Nat)(wr:Addr->Prop)(J:Nat->List Value->Heap->Prop)(Fn:List Value->Heap->Prop):Prop where
 type:s.TypeIs (.ref r) T
 nl:(Value.type T==Value.type "list")=false
 nt:(Value.type T==Value.type "tuple")=false
 le:n<=sizeLine
 hint:∀(A:Around) (t:Shared) (Q:Bool->Shared->Prop) (E:Value->Shared->Prop),(∀b o,s.heap.get? b=some o->t.heap.get? b=some o)->(∀b tk,Q b {t with toks:=tk})->wpAny (model prog w) A (Builtin.List.listLengthHint (.ref r)) Q E t
 iter:∀(A:Around) (h1:Heap) (Q:Value->Shared->Prop) (E:Value->Shared->Prop),(∀b o,s.heap.get? b=some o->h1.get? b=some o)->h1.objs.size=s.heap.objs.size+1->(∀h',J 0 [] h'->(∀b o,h1.get? b=some o->h'.get? b=some o)->Q (.ref I) {s with heap:=h' })->wpAny (model prog w) A (pyIter (.ref r)) Q E {s with heap:=h1}
 next:∀(A:Around) i acc (t:Shared) (Q:Option Value->Shared->Prop) (E:Value->Shared->Prop),A.handled=none->J i acc t.heap->acc.length=i->i<=n->s.heap.objs.size<t.heap.objs.size ->
  (∀v h' tk,i<n->J (i+1) (acc++[v]) h'->KP wr t.heap h'->Q (some v) {t with heap:=h',toks:=tk})->(∀h' tk,i=n->Fn acc h'->KP wr t.heap h'->Q none {t with heap:=h',toks:=tk})->wpAny (model prog w) A (pyNext (.ref I)) Q E t
 frame:∀i acc h h',J i acc h->(∀b o,b≠s.heap.objs.size->h.get? b=some o->h'.get? b=some o)->J i acc h'
 nw:¬ wr s.heap.objs.size
variable {I r:Addr} {T:String} {n:Nat} {wr:Addr->Prop} {J:Nat->List Value->Heap->Prop} {Fn:List Value->Heap->Prop} {R:Result->Shared->Prop} {res:Value}
def Gat.loop (G:Gat prog w s r I T n wr J Fn)(hh:A.handled=none)
  (hR:∀h' tk acc c,Fn acc h'->acc.length=n->h'.get? s.heap.objs.size=some (lsO acc.toArray c)->KP wr s.heap h'->R (.ok (.ret res)) {s with heap:=h',toks:=tk}):
  ∀(k:Nat) (h:Heap) (tk c:Nat) (acc:List Value),n-acc.length=k->acc.length<=n->J acc.length acc h->h.get? s.heap.objs.size=some (lsO acc.toArray c)->KP wr s.heap h->codeAny (model prog w) A (.builtin "list.extend.loop" ⟨[.ref s.heap.objs.size,.ref I,res],[]⟩) R {s with heap:=h,toks:=tk}:=by
 intro k
 induction k with
 |zero=>
  intro h tk c acc hk hi j hS kp
  refine codeAny_builtin F.entry_extend_loop ?_
  rw[Around.under_plainId F.plain_extend_loop _]
  refine wpAny_bind (G.next A.in1 _ acc {s with heap:=h,toks:=tk} _ _ hh j rfl hi (Heap.lt_size hS) (fun v h' tk l=>by lia) fun h' tk e j' kk=>?_)
  exact wpAny_pure (hR h' tk acc c j' s!"" (kk _ _ G.nw hS) fun b o m q=>kk b o m (kp b o m q))
 |succ k ih=>
  intro h tk c acc hk hi j hS kp
  refine codeAny_builtin F.entry_extend_loop ?_
  rw[Around.under_plainId F.plain_extend_loop _]
  refine wpAny_bind (G.next A.in1 _ acc {s with heap:=h,toks:=tk} _ _ hh j rfl hi (Heap.lt_size hS) (fun v h' tk l j' kk=>?_) fun h' tk e=>by lia)
  have hS':=kk _ _ G.nw hS
  have up:∀b o,b≠s.heap.objs.size->h'.get? b=some o->(h'.update s.heap.objs.size (Obj.mapSeq (·.push v))).get? b=some o:=fun b o m q=>(Heap.get?_update_other _ _ (Ne.symm m)).trans q
  have hl:(acc++[v]).length=acc.length+1:=by simp
  have:=G.le
  obtain⟨c',hS2⟩:∃c',(h'.update s.heap.objs.size (Obj.mapSeq (·.push v))).get? s.heap.objs.size=some (lsO (acc++[v]).toArray c'):=⟨_,by rw[<-List.push_toArray];exact Heap.get?_update_self _ hS' rfl⟩
  exact wpAny_bind (wpAny_updateSeq hS' rfl (wpAny_pure ⟨plainId_quiet F.plain_extend_loop _,ih _ tk c' (acc++[v]) s!"" s!"" (by rw[hl];exact G.frame _ _ _ _ j' up) hS2 fun b o m q=>up b o (Nat.ne_of_lt (Heap.lt_size q)) (kk b o m (kp b o m q))⟩) (by simp;lia))
def Gat.extend    (G:Gat prog w s r I T n wr J Fn)(hh:A.handled=none)(k1:∀b o,s.heap.get? b=some o->h1.get? b=some o)(hz:h1.objs.size=s.heap.objs.size+1)(hS:h1.get? s.heap.objs.size=some (lsO #[] c₀))
  (hZ:∀c t,c.quiet=true->codeAny (model prog w) A c R t->Z (.again c) t)
  (hR:∀h' tk acc c,Fn acc h'->acc.length=n->h'.get? s.heap.objs.size=some (lsO acc.toArray c)->KP wr s.heap h'->R (.ok (.ret res)) {s with heap:=h',toks:=tk}):
  wpAny (model prog w) A.in1 (Builtin.List.listExtendWith (.ref s.heap.objs.size) (.ref r) res) Z E {s with heap:=h1}:=by
 have hr:r<s.heap.objs.size:=let ⟨_,ho,_⟩:=G.type;Heap.lt_size ho
 have e1:Builtin.List.listSameRef (.ref s.heap.objs.size) (.ref r)=false:=by simp[Builtin.List.listSameRef,Nat.ne_of_gt hr]
 have hT:Shared.TypeIs {s with heap:=h1} (.ref r) T:=let ⟨o,ho,x⟩:=G.type;⟨o,k1 _ _ ho,x⟩
 have oth:∀(h:Heap) f b o,b≠s.heap.objs.size->h.get? b=some o->(h.update s.heap.objs.size f).get? b=some o:=fun h f b o n q=>(Heap.get?_update_other _ _ (Ne.symm n)).trans q
 have go:∀(h:Heap) c tk,J 0 [] h->h.get? s.heap.objs.size=some (lsO #[] c)->(∀b o,b≠s.heap.objs.size->h1.get? b=some o->h.get? b=some o)->Z (.again (.builtin "list.extend.loop" ⟨[.ref s.heap.objs.size,.ref I,res],[]⟩)) {s with heap:=h,toks:=tk}:=fun h c tk j q k=>
  hZ _ _ (plainId_quiet F.plain_extend_loop _) (G.loop hh hR n h tk c [] rfl (Nat.zero_le _) j q fun b o _ x=>k b o (Nat.ne_of_lt (Heap.lt_size x)) (k1 b o x))
 unfold Builtin.List.listExtendWith
 refine wpAny_bind (wpAny_typeOf hT ?_)
 simp only[e1,G.nl,G.nt,Bool.or_false,Bool.false_eq_true,if_false]
 refine wpAny_bind (G.iter A.in1 h1 _ _ k1 hz fun h' j kk=>wpAny_bind (wpAny_holding (G.hint A.in1 _ _ _ (fun b o q=>kk b o (k1 b o q)) fun bb tk=>?_)))
 have hS':=kk _ _ hS
 refine wpAny_ite_split (fun _=>?_) fun _=>wpAny_pure (go h' c₀ tk j hS' fun b o _ q=>kk b o q)
 wp_walk
 exact go _ _ tk (G.frame _ _ _ _ (G.frame _ _ _ _ j fun b o m q=>oth _ _ b o m q) fun b o m q=>oth _ _ b o m q) (Heap.get?_update_self _ (Heap.get?_update_self _ hS' rfl) rfl) fun b o m q=>oth _ _ b o m (oth _ _ b o m (kk b o q))
def Gat.list  (G:Gat prog w s r I T n wr J Fn)(hh:A.handled=none)
  (hQ:∀h' tk acc c,Fn acc h'->acc.length=n->h'.get? s.heap.objs.size=some (lsO acc.toArray c)->KP wr s.heap h'->Q (.ref s.heap.objs.size) {s with heap:=h',toks:=tk}):wpAny (model prog w) A (call (.type "list") [.ref r]) Q E s:=by
 have hS:(s.heap.push (lsO #[] 0)).get? s.heap.objs.size=some (lsO #[] 0):=Heap.get?_push_size _ rfl
 refine callType_codes (Q₁:=fun obj s₁=>obj=.ref s.heap.objs.size/\s₁={s with heap:=s.heap.push (lsO #[] 0)}) F.called_list (F.typeCall_list_1 _) F.entry_list_init (code_list_new _ ⟨rfl,rfl⟩) fun obj s₁ h₁=>?_
 obtain⟨rfl,rfl⟩:=h₁
 have oth:∀b o,s.heap.get? b=some o->((s.heap.push (lsO #[] 0)).update s.heap.objs.size (Obj.mapSeq fun _ => #[])).get? b=some o:=fun b o q=>(Heap.get?_update_other _ _ (Nat.ne_of_gt (Heap.lt_size q))).trans (Heap.get?_push_of_some _ q)
 obtain⟨c2,hS2⟩:∃c,((s.heap.push (lsO #[] 0)).update s.heap.objs.size (Obj.mapSeq fun _ => #[])).get? s.heap.objs.size=some (lsO #[] c):=⟨_,Heap.get?_update_self _ hS rfl⟩
 have hz:((s.heap.push (lsO #[] 0)).update s.heap.objs.size (Obj.mapSeq fun _ => #[])).objs.size=s.heap.objs.size+1:=by rw[Heap.size_after_update,Heap.size_push]
 refine⟨⟨_,hS,rfl⟩,F.args_list_init_2 _ _,?_⟩
 wp_walk using Gat.extend (A:=A.in1) (R:=wants (fun r s₂=>r=.none/\Q (.ref s.heap.objs.size) s₂) E) (c₀:=c2) G hh oth hz hS2
 ·exact fun _ _ a b=>⟨a,b⟩
 exact fun h' tk acc c k1 k2 k3 k4=>⟨rfl,hQ h' tk acc c k1 k2 k3 k4⟩
end
end PySem
namespace L2
open PySem PySem.Spec PyProof.Rows
section
variable {P:Program} {w:World} {K:PySem.W.Frag} {mg:Str->Option Value} {base:Heap}
def Fun.okE  {st:Stmt}      (F:Fun K x qual st f fd)(S:FnScope N ps (Ad st))(len:∀vs H Q E,sp vs H Q E->vs.length=ps.length)
  (hbody:∀(cdv:Value) (A:Around) (outer:List Env) (s:Shared) (H:Hp) (vs:List V) (Q:VK) (E:XK),Room k (A.deeper (envOfC qual (Ad st) s.heap.objs.size f cdv))->sp vs H Q E ->
   ∃t,PSs (cxOf (CXe P w) P w K mg base N qual (Ad st) f cdv A outer s H E) (Ai st) t/\t {nx:=fun _ H'=>Q .non H',rt:=Q} (start N vs) H):FnOk P w K mg base (CXe P w) (k+1) f fd ps sp:=by
 obtain⟨oc,od,kV,doc,pm,an,cdv,ct,osl,rfl,lk,hcd⟩:=F.ex
 exact LZ_ lk hcd S len fun A outer s H vs Q E hr hsp=>hbody cdv A outer s H vs Q E hr hsp
def Rc  : Mn (CXe P w) X E0:=fun _ _ _ _ _ _ _ h=>by
 obtain⟨_,_,_,_,_,_,_,_,_,_,q⟩:=h
 exact q.elim
end
section
variable {te ta tb:TE} {A:TA} {D:Ends} {σ:St} {H:Hp} {Q:VK} {K:PySem.W.Frag} {tbd ts:TS}
theorem Hf_   : JF_ x vs H Q=∃l xs,x=.ref l/\vs=[]/\H l=some (.lst xs)/\Q .non (upd H l (.lst [])):=rfl
theorem MI_  : rCat x y H Q=∃l b xs zs,x=.ref l/\y=.ref b/\H l=some (.lst xs)/\H b=some (.lst zs)/\xs.length+zs.length<=sizeLine/\∀p,H p=none->Q (.ref p) (upd H p (.lst (xs++zs))):=rfl
theorem Hg_   : JX_ C E A D σ H=A σ H fun vs H1=>vs.length<=sizeLine/\E (.ref C) none H1:=rfl
end
end L2
namespace L2
open PySem PySem.Spec PyProof.Rows
def KZ_ (x y:Int):eqV (.int x) (.int y)=decide (V.int x=V.int y):=by
 by_cases h:x=y
 ·subst h;simp[eqV]
 ·rw[decide_eq_false (fun z=>h (by injection z))];simp[eqV,h]
def EqD.ints {K:PySem.W.Frag}{H:Hp}{a c:Addr}{xs ys:List Int}(hq:(SqL K H a (xs.map V.int)/\SqL K H c (ys.map V.int))\/(SqT K H a (xs.map V.int)/\SqT K H c (ys.map V.int)))(n:Nat):EqD K H (n+1) (.ref a) (.ref c) (decide (xs=ys)):=by
 have:=EqD.flat hq (fun x hx=>by obtain⟨_,_,rfl⟩:=PQ hx;rfl) (fun x hx=>by obtain⟨_,_,rfl⟩:=PQ hx;rfl) (fun x hx y hy=>by obtain⟨_,_,rfl⟩:=PQ hx;obtain⟨_,_,rfl⟩:=PQ hy;exact KZ_ _ _) n
 have e:decide (xs.map V.int=ys.map V.int)=decide (xs=ys):=by
  rw[Bool.eq_iff_iff]
  simp only[decide_eq_true_eq]
  constructor
  ·intro h
   exact (List.map_inj_right (fun a b h=>by injection h)).mp h
  ·intro h;rw[h]
 rw[e]at this
 exact this
end L2
namespace L2
open PySem PySem.Spec PyProof.Rows
section
variable {X:Cx} {K:PySem.W.Frag}
def Ye (h:X.K=K):IxR X (rIxT K):=by subst h;exact AZ
def Yf (h:X.K=K):Oj X (.type "list") (fun xs H Q=>∃p ys,xs=[.ref p]/\(SqL K H p ys\/SqT K H p ys)/\∀l,H l=none->Q (.ref l) (upd H l (.lst ys))):=by subst h;exact Mp
end
end L2
namespace GW
noncomputable def LL (ways:List (List Int))(r x:Int):Int:=(ways.getD r.toNat []).getD x.toNat 0
noncomputable def FO (ways:List (List Int))(ws:List Int):Int:=ws.foldl (LL ways) 0
noncomputable def U9 (ways:List (List Int))(ws:List Int):List Int:=(List.range (ws.length+1)).map fun j=>FO ways (ws.take j)
structure Wf (L:Int)(marks:List Int)(ways:List (List Int)):Prop where
 l1:1<=L
 l6:L<=6
 n1:1<=marks.length
 n40:marks.length<=40
 len:ways.length=marks.length
 rows:∀row∈ways,(row.length:Int)=L/\∀x∈row,0<=x/\x<marks.length
 mks:∀m∈marks,0<=m/\m<=1000000000
def UP     (h1:ways[r.toNat]?=some row)(h2:row[x.toNat]?=some g):LL ways r x=g:=by
 unfold LL
 have e:ways.getD r.toNat []=row:=by rw[List.getD_eq_getElem?_getD,h1];rfl
 rw[e,List.getD_eq_getElem?_getD,h2];rfl
def Wf.row {L:Int}{marks:List Int}{ways:List (List Int)}(wf:Wf L marks ways){r:Int}(h0:0<=r)(h1:r<marks.length):∃row,ways[r.toNat]?=some row/\row∈ways/\(row.length:Int)=L:=by
 have hlt:r.toNat<ways.length:=by rw[wf.len];lia
 exact⟨ways[r.toNat],by simp[hlt],List.getElem_mem hlt,(wf.rows _ (List.getElem_mem hlt)).1⟩
def Wf.step {L:Int}{marks:List Int}{ways:List (List Int)}(wf:Wf L marks ways){r x:Int}(h0:0<=r)(h1:r<marks.length)(x0:0<=x)(x1:x<L):∃row g,ways[r.toNat]?=some row/\row[x.toNat]?=some g/\LL ways r x=g/\0<=g/\g<marks.length:=by
 obtain⟨row,hr,hm,hl⟩:=wf.row h0 h1
 have hlt:x.toNat<row.length:=by lia
 have hg:row[x.toNat]?=some row[x.toNat]:=by simp[hlt]
 exact⟨row,row[x.toNat],hr,hg,UP hr hg,(wf.rows row hm).2 _ (List.getElem_mem hlt)⟩
def Fw_ (ways:List (List Int))(ws:List Int)(x:Int):FO ways (ws++[x])=LL ways (FO ways ws) x:=by
 unfold FO
 rw[List.foldl_append];rfl
def Of {ways:List (List Int)}{ws:List Int}{i:Nat}{x:Int}(h:ws[i]?=some x):FO ways (ws.take (i+1))=LL ways (FO ways (ws.take i)) x:=by
 rw[List.take_add_one,h]
 exact Fw_ _ _ _
def Wf.walk    (wf:Wf L marks ways)  (hw:isW L ws=true):∀i,0<=FO ways (ws.take i)/\FO ways (ws.take i)<marks.length:=by
 intro i
 induction i with
 |zero=>have:=wf.n1;simp[FO];lia
 |succ i ih=>
  cases e:ws[i]? with
  |none=>
   have hle:=List.getElem?_eq_none_iff.mp e
   rw[List.take_of_length_le s!""]
   rw[List.take_of_length_le hle]at ih
   exact ih
  |some x=>
   rw[Of e]
   have hx:=CH.mp hw x (List.mem_of_getElem? e)
   obtain⟨_,g,_,_,h,h0,h1⟩:=wf.step ih.1 ih.2 hx.1 hx.2
   rw[h];exact⟨h0,h1⟩
def Yg (ways:List (List Int))(ws:List Int):(U9 ways ws).length=ws.length+1:=by simp[U9]
end GW
namespace L2
open PySem PySem.Spec PyProof.Rows GW
noncomputable def Rows (K:PySem.W.Frag)(H:Hp)(w:Addr)(ways:List (List Int)):Prop:=∃ts:List Addr,SqT K H w (ts.map V.ref)/\ts.length=ways.length/\∀(i:Nat) (t:Addr) (row:List Int),ts[i]?=some t->ways[i]?=some row->SqT K H t (row.map V.int)
def Rows.mono {K:PySem.W.Frag}    (h:Rows K H w ways)(e:Same H H'):Rows K H' w ways:=by
 obtain⟨ts,h1,h2,h3⟩:=h
 exact⟨ts,e.seqT h1,h2,fun i t r a b=>e.seqT (h3 i t r a b)⟩
def Rows.at {K:PySem.W.Frag}{H:Hp}{w:Addr}{ways:List (List Int)}(h:Rows K H w ways){i:Nat}{row:List Int}(hr:ways[i]?=some row):∃xs t,SqT K H w xs/\atI xs (i:Int)=some (V.ref t)/\SqT K H t (row.map V.int):=by
 obtain⟨ts,h1,h2,h3⟩:=h
 have hlt:i<ts.length:=by rw[h2];exact (List.getElem?_eq_some_iff.mp hr).1
 have ht:ts[i]?=some ts[i]:=by simp[hlt]
 exact⟨_,ts[i],h1,Cr (by rw[List.getElem?_map,ht];rfl),h3 i _ _ ht hr⟩
def Rows.atZ {K:PySem.W.Frag}    (h:Rows K H w ways)   (h0:0<=r)(hr:ways[r.toNat]?=some row):∃xs t,SqT K H w xs/\atI xs r=some (V.ref t)/\SqT K H t (row.map V.int):=by
 obtain⟨xs,t,a,b,c⟩:=h.at hr
 exact⟨xs,t,a,by rw[<-b];congr 1;lia,c⟩
def Dh_    (h:xs[xs.length-1]?=some v):atI xs (-1)=some v:=by
 have hlt:=(List.getElem?_eq_some_iff.mp h).1
 unfold atI ixN
 rw[if_neg s!"",if_pos s!""]
 show xs[(-1+(xs.length:Int)).toNat]?=some v
 rw[show (-1+(xs.length:Int)).toNat=xs.length-1 by lia]
 exact h
def Va {ns:List Int}{i:Int}{v:Int}(h0:0<=i)(h:ns[i.toNat]?=some v):atI (ns.map V.int) i=some (V.int v):=ME_ h0 (by rw[List.getElem?_map,h];rfl)
end L2
namespace PySem
open Sem (wp)
open AutoSeq1 (wpAny_loadPart')
section
variable {prog:Program} {w:World} {A:Around} {E:Value->Shared->Prop} {s:Shared}
def newT   (hl:l.length<=sizeLine)(h:∀h',s.heap.push {cls:=.type "tuple",data:=.seq l.toArray}=h'->Q (.ref s.heap.objs.size) {s with heap:=h' }):wpAny (model prog w) A (newTuple l) Q E s:=wpAny_newTuple (h _ rfl)
def psh {h h':Heap}{o:Obj}(q:h.push o=h')(ho:o.isFreed=false):(∀c u,h.get? c=some u->h'.get? c=some u)/\h'.get? h.objs.size=some o/\h'.objs.size=h.objs.size+1:=by
 subst q
 exact⟨fun c u x=>Heap.get?_push_of_some _ x,Heap.get?_push_size _ ho,Heap.size_push ..⟩
def Fx_ {it l:Addr}    (hit:s.heap.IsTupleIter it l i)(hl:s.heap.IsTuple l items)
  (hQ:∀x h',items[i]?=some x->h'.IsTupleIter it l (i+1)->Heap.SameBut it s.heap h'->Q x {s with heap:=h' })
  (hE:items[i]?=none->A.handled=none/\∀h' e,Heap.ExtBut it s.heap h'->(∃o,h'.get? e=some o/\o.cls=.type "StopIteration")->E (.ref e) {s with heap:=h' }):wpAny (model prog w) A (Builtin.SmallTypes.nextOf (.ref it)) Q E s:=by
 obtain⟨⟨c,dc,da,sl⟩,ho,hc,hd⟩:=id hit
 obtain⟨⟨c',dc',da',sl'⟩,hol,hc',nl,hdl⟩:=hl
 replace hc:c=_:=hc;replace hd:da=_:=hd;replace hc':c'=_:=hc';replace hdl:da'=_:=hdl
 subst hc hd hc' hdl
 have e1:=F.slot_tuple_iterator_next
 unfold Builtin.SmallTypes.nextOf
 refine wpAny_bind (wpAny_callSpecial?_slot hit.typeIs e1 (wpAny_call_entry e1 hit.typeIs F.entry_tuple_iterator_next ?_ (F.args_tuple_iterator_next_1 _)))
 wp_walk
 cases hx:items[i]? with
 |some x=>
  simp only[Int.toNat_natCast,hx]
  wp_walk
  exact⟨x,rfl,wpAny_pure (hQ x _ hx ⟨_,Heap.get?_update_self _ ho (by simp[Obj.mapFields,Obj.isFreed]),rfl,by simp[Obj.mapFields,rawInt]⟩ (Heap.SameBut.update ..))⟩
 |none=>
  obtain⟨hh,hE⟩:=hE hx
  have h1:A.in1.handled=none:=hh
  simp only[Int.toNat_natCast,hx]
  wp_walk
  unfold raiseNew
  wp_walk
  exact hE _ _ (((Heap.SameBut.update ..).extBut.push _).push _) ⟨_,Heap.get?_push_size _ rfl,rfl⟩
end
end PySem
namespace L2
open PySem PySem.Spec PyProof.Rows
section
variable {X:Cx} {pins:List (Addr×Obj)} {σ:St} {H:Hp} {s:Shared}
def Inv.un2  {e it:Addr}(I:Inv X pins σ H s)(k:∀b o,b≠e->b≠it->s.heap.get? b=some o->h'.get? b=some o)(f1:FpOk X pins H e)(f2:FpOk X pins H it):Un (frs X.stack) [e,it] H H s.heap h'/\HOk X.prog X.w H h':=by
 have ne:∀b u,H b=some u->b≠e/\b≠it:=fun b u q=>⟨(fun z=>by rw[z,f1.1]at q;cases q),(fun z=>by rw[z,f2.1]at q;cases q)⟩
 have nch:∀{b:Addr},b ∉ [e,it]->b≠e/\b≠it:=fun hb=>by simpa using hb
 refine⟨⟨fun b o q _ _ hb=>k b o (nch hb).1 (nch hb).2 q,fun b o q _ _ hb=>⟨o.slots,k b o (nch hb).1 (nch hb).2 q⟩,fun _ _ _ n _=>n,fun b o q hb=>⟨o,k b o (nch hb).1 (nch hb).2 q⟩,fun _ _ q=>q,fun _ _ _ q=>q,fun b ps q=>⟨#[],by rw[q];simp⟩⟩,fun b u q=>?_⟩
 refine (I.hok b u q).stay (fun c v hc qv=>?_) (fun _ q=>q) fun _ _ q=>q
 have hne:c≠e/\c≠it:=by
  rcases hc with rfl|hc
  ·exact ne _ _ q
  ·exact ne _ _ hc
 exact k c v hne.1 hne.2 qv
def FpOk.ch  (f:FpOk X pins H b):(b∈X.ex\/X.s₀.heap.objs.size<=b)/\b≠X.env.locals/\(∀x c,X.env.cells.lookup x=some c->c≠b)/\∀p∈X.pn++pins,p.1≠b:=⟨f.2.2.2.1,f.2.1,f.2.2.2.2.1,f.2.2.2.2.2⟩
end
theorem JZ_ {K:PySem.W.Frag}       : gTup K n t v σ H N=∃a xs,v=.ref a/\SqT K H a xs/\xs.length=n/\t xs σ H N:=rfl
theorem Hh_       : LT_ t u vs σ H N=∃v r,vs=v::r/\t v σ H fun σ' H'=>u r σ' H' N:=rfl
theorem Ka_     : gNil vs σ H N=(vs=[]/\N σ H):=rfl
section
variable {td ty tv tx:TE} {D:Ends} {σ:St} {H:Hp} {Q:VK}
theorem Kb_:Mf_ td ty σ H Q=td σ H fun x H1=>ty σ H1 fun y H2=>∃a v,x=.ref a/\DGet H2 a y (some v)/\Q v H2:=rfl
theorem MJ_:tDIn ty td σ H Q=ty σ H fun y H1=>td σ H1 fun x H2=>∃a o,x=.ref a/\DGet H2 a y o/\Q (.bl o.isSome) H2:=rfl
theorem Kc_:Mg_ td ty tv D σ H=tv σ H fun v H1=>td σ H1 fun x H2=>ty σ H2 fun y H3=>∃a H4,x=.ref a/\DPut H3 a y v H4/\D.nx σ H4:=rfl
theorem Hi_:JI_ td ty σ H Q=td σ H fun x H1=>∃a,x=.ref a/\IsD H1 a/\ty σ H1 fun y H2=>∃o,DGet H2 a y o/\Q (o.getD .non) H2:=rfl
end
end L2
namespace GW
noncomputable def Kd_ (w:List Int):List (Int×List Int)->Nat->List Int->List (Int×List Int)
 |ents,_,[]=>ents
 |ents,x,g::r=>Kd_ w (if g∈ents.map (·.1) then ents else ents++[(g,w++[(x:Int)])]) (x+1) r
noncomputable def bfs (ways:List (List Int)):Nat->List (Int×List Int)->Nat->List (Int×List Int)
 |0,ents,_=>ents
 |f+1,ents,i=>match ents[i]? with
  |none=>ents
  |some e=>bfs ways f (Kd_ e.2 ents 0 (ways.getD e.1.toNat [])) (i+1)
noncomputable def Hj_ (ways:List (List Int)):List (Int×List Int):=bfs ways (ways.length+1) [(0,[])] 0
end GW
namespace L2
open PySem PySem.Spec PyProof.Rows
noncomputable def ups (n:Nat):List Int:=(List.range n).map fun i:Nat=>(i:Int)
noncomputable def rNeD (K:PySem.W.Frag)(n:Nat):R2:=fun x y H Q=>∃a c b,x=.ref a/\y=.ref c/\EqD K H n x y b/\Q (.bl (!b)) H
theorem MK_ {K:PySem.W.Frag}     : rNeD K n x y H Q=∃a c b,x=.ref a/\y=.ref c/\EqD K H n x y b/\Q (.bl (!b)) H:=rfl
def Bd_  (n:Nat)(hu:X.A.units+n<cLine):OpR X (compareOp .NotEq) (rNeD X.K n):=by
 intro pins s σ H x y v u Q I rx ry h
 obtain⟨a,c,b,rfl,rfl,h,q⟩:=h
 cases rx
 cases ry
 cases n with
 |zero=>exact absurd (show false=true from h.1) Bool.false_ne_true
 |succ n=>
  rcases h with ⟨fx,_⟩|⟨a',c',xs,ys,e1,e2,hq,e,he,rfl⟩
  ·exact absurd (show false=true from fx) Bool.false_ne_true
  ·cases e1
   cases e2
   have key:∀(its its2:List Value),Vals xs its->Vals ys its2->∀j (h1:j<its.toArray.size) (h2:j<its2.toArray.size),SeqAt.EqAt X.A.in1 s its.toArray[j] its2.toArray[j] (e j):=fun its its2 r1 r2 j h1 h2=>by
    have l1:=r1.length
    have l2:=r2.length
    rw[List.size_toArray]at h1 h2
    obtain⟨u1,g1,q1⟩:=r1.get (i:=j) (x:=xs[j]'s!"") (by simp[show j<xs.length by lia])
    obtain⟨u2,g2,q2⟩:=r2.get (i:=j) (x:=ys[j]'s!"") (by simp[show j<ys.length by lia])
    have k1:its.toArray[j]'(by rw[List.size_toArray];exact h1)=u1:=by
     have:=(List.getElem?_eq_some_iff.mp g1).2
     simpa using this
    have k2:its2.toArray[j]'(by rw[List.size_toArray];exact h2)=u2:=by
     have:=(List.getElem?_eq_some_iff.mp g2).2
     simpa using this
    rw[k1,k2]
    exact (EqD.at I n X.A.in1 (by rw[in1_units];lia) q1 q2 (he j _ _ (by simp[show j<xs.length by lia]) (by simp[show j<ys.length by lia]))).1
   have fin:EP X pins σ Q (.bool (!(decide (xs.length=ys.length)&&(List.range (min xs.length ys.length)).all e))) s:=⟨.bl _,H,I,rfl,q⟩
   rcases hq with ⟨h1,h2⟩|⟨h1,h2⟩
   ·obtain⟨its,r1,p1,_⟩:=I.list h1
    obtain⟨its2,r2,p2,_⟩:=I.list h2
    have l1:=r1.length
    have l2:=r2.length
    by_cases hl:xs.length=ys.length
    ·have:=SeqAt.RcNeAt.lists (e:=e) p1.isList p2.isList (by rw[List.size_toArray,List.size_toArray];lia) s!"" (key its its2 r1 r2)
     rw[List.size_toArray,<-l1]at this
     rw[decide_eq_true hl,Bool.true_and,<-hl,Nat.min_self]at fin
     exact this _ _ _ _ fin
    ·have:=SeqAt.RcNeAt.lists_lengths (A:=X.A) p1.isList p2.isList (by rw[List.size_toArray,List.size_toArray];simp;lia) s!""
     rw[decide_eq_false hl,Bool.false_and]at fin
     exact this _ _ _ _ fin
   ·obtain⟨its,r1,p1,_⟩:=I.tuple h1
    obtain⟨its2,r2,p2,_⟩:=I.tuple h2
    have l1:=r1.length
    have l2:=r2.length
    have:=SeqAt.RcNeAt.tuples (e:=e) (show s.heap.IsTuple a its.toArray from p1) (show s.heap.IsTuple c its2.toArray from p2) s!"" (key its its2 r1 r2)
    rw[List.size_toArray,List.size_toArray,<-l1,<-l2,GU_]at this
    exact this _ _ _ _ fin
def Vals.ofIx:∀{xs:List V} {us:List Value},us.length=xs.length->(∀(i:Nat) (v:Value),us[i]?=some v->∃x,xs[i]?=some x/\RelV x v)->Vals xs us
 |[],[],_,_=>.nil
 |[],_::_,h,_=>by simp at h
 |_::_,[],h,_=>by simp at h
 |x::xs,u::us,h,k=>by
  refine .cons ?_ (Vals.ofIx (by simpa using h) fun i v hv=>?_)
  ·obtain⟨y,e,r⟩:=k 0 u rfl
   cases e
   exact r
  ·obtain⟨y,e,r⟩:=k (i+1) v (by simpa using hv)
   exact⟨y,by simpa using e,r⟩
noncomputable def Itm (K:PySem.W.Frag)(a:Addr)(xs:List V):It:=⟨fun i H=>i<xs.length/\SqL K H a xs,fun i H x H'=>∃t v,H t=none/\xs[i]?=some v/\x=.ref t/\H'=upd H t (.tup [.int i,v]),fun i H=>i=xs.length/\SqL K H a xs⟩
def Fy_ {P:Program}{w:World}{K:PySem.W.Frag}{elts:List Expr}{x1}{tpos:Pos}(a e it:Addr)(hei:e≠it)(hai:a≠it)(hae:a≠e)(xs:List V):Turn P w K (.Tuple elts x1 tpos) (Itm K a xs) [e,it] e (fun i h=>∃old,IsEnum h e it (i:Nat) old/\h.IsListIter it a i) where
 mem:=by simp
 obj:=fun i h st b hb=>by
  obtain⟨old,h1,o,h2,c,d⟩:=st
  rcases List.mem_cons.mp hb with rfl|hb
  ·exact⟨_,h1,fun v z=>by cases z⟩
  ·rw[List.mem_singleton.mp hb]
   exact⟨o,h2,fun v z=>by rw[d]at z;cases z⟩
 keep:=fun i h h' st k=>by
  obtain⟨old,h1,h2⟩:=st
  exact⟨old,k e (by simp) _ h1,h2.at fun o q=>k it (by simp) o q⟩
 item:=by
  intro X hP hw hK hc i pins s σ H E I hf st hg
  subst hP hw hK
  obtain⟨hi,hq⟩:=hg
  obtain⟨old,he,hit⟩:=st
  obtain⟨its,rv,p,hz⟩:=I.list hq
  have hl:=rv.length
  have pt:s.heap.IsList a its.toArray:=p.isList
  have f1:=hf e (by simp)
  have f2:=hf it (by simp)
  have Dw:=Draws.list (prog:=X.prog) (w:=X.w) (A:=X.A.in1) (I.ok.hd hc) it a hai its.toArray
  refine wpAny_pyNext_enum_itemD Dw he ⟨hit,pt⟩ (by simp;lia) hei (by simp[hei,Ne.symm hae]) fun u h' tk hu heo hst' hget hsz hk=>?_
  have hT:s.heap.objs.size≠e:=Nat.ne_of_gt (Heap.lt_size he)
  refine⟨_,rfl,wpAny_letOwnedTupleGo_enum heo fun h2 he2 hs2=>?_⟩
  have hk2:∀b o,b≠e->b≠it->s.heap.get? b=some o->h2.get? b=some o:=fun b o h1 h3 q=>(hs2.2 b h1).trans (hk b o h1 h3 q)
  obtain⟨un,hok⟩:=I.un2 hk2 f1 f2
  have hn:H s.heap.objs.size=none:=I.hok.fresh (Nat.le_refl _)
  have hv:xs[i]?=some xs[i]:=by simp[hi]
  obtain⟨u',hu',ru⟩:=rv.get hv
  have eu:u'=u:=by
   have hu2:its[i]?=some u:=by simpa using hu
   rw[hu']at hu2
   exact Option.some.inj hu2
  subst eu
  have hget2:h2.get? s.heap.objs.size=some {cls:=.type "tuple",data:=.seq #[.int i tk,u']}:=(hs2.2 _ hT).trans hget
  have new:C4 X.prog X.w (upd H s.heap.objs.size (.tup [.int i,xs[i]])) h2 s.heap.objs.size (.tup [.int i,xs[i]]):=⟨by have:=Aq;simp;lia,[.int i tk,u'],.cons ⟨tk,rfl⟩ (.cons ru .nil),_,hget2,rfl,_,rfl⟩
  refine⟨.ref s.heap.objs.size,upd H s.heap.objs.size (.tup [.int i,xs[i]]),I.call' (s':={s with heap:=h2,toks:=tk+1}) (ch:=[e,it]) rfl (un.track (Nat.le_refl _) hn) (hok.track hn new) I.bare (fun b hb=>?_),rfl,⟨_,_,hn,hv,rfl,rfl⟩,?_,fun b hb=>?_⟩
  ·exact (hf b hb).ch
  ·refine⟨u',by simpa using he2,?_⟩
   exact hst'.1.at fun o q=>(hs2.2 it (Ne.symm hei)).trans q
  ·have hb':=hf b hb
   have:∃o,s.heap.get? b=some o:=by
    rcases List.mem_cons.mp hb with rfl|hb
    ·exact⟨_,he⟩
    ·rw[List.mem_singleton.mp hb]
     obtain⟨o,ho,_⟩:=hit
     exact⟨o,ho⟩
   obtain⟨o,ho⟩:=this
   rw[Ag (Nat.ne_of_lt (Heap.lt_size ho))]
   exact hb'.1
 done:=by
  intro X hP hw hK hc i pins s σ H E I hf st hg
  subst hP hw hK
  obtain⟨hi,hq⟩:=hg
  subst hi
  obtain⟨old,he,hit⟩:=st
  obtain⟨its,rv,p,hz⟩:=I.list hq
  have hl:=rv.length
  have pt:s.heap.IsList a its.toArray:=p.isList
  have Dw:=Draws.list (prog:=X.prog) (w:=X.w) (A:=X.A.in1) (I.ok.hd hc) it a hai its.toArray
  obtain⟨f0,f1,f2,f3,f4,f5⟩:=hf it (by simp)
  refine wpAny_pyNext_enum_endD Dw he ⟨by rw[List.size_toArray,<-hl];exact hit,pt⟩ fun h' eb=>⟨rfl,I.turned (t':=s.toks) (fun b o hb e=>eb b o hb e) f0 f1 f3 f4 f5⟩
 self:=fun A i s Q E st h=>by
  obtain⟨old,he,_⟩:=st
  exact wpAny_pyIter_enum he h
noncomputable def Ke_ (K:PySem.W.Frag)(tl:TE):TI:=fun σ H R=>tl σ H fun x H1=>∃a xs,x=.ref a/\SqL K H1 a xs/\R (Itm K a xs) H1
theorem EC_ {K:PySem.W.Frag}     : Ke_ K te σ H Z=te σ H fun x H1=>∃a xs,x=.ref a/\SqL K H1 a xs/\Z (Itm K a xs) H1:=rfl
def IM_   {x1}     (hg:Gl X "enumerate")(hm:X.mg "enumerate"=none)(he:PE X e te)(hs:starEach [e] X.env=[(false,eval e X.env)]:=by rfl):PI X (.Tuple elts x1 tpos) (.Call (.Name "enumerate" p) [e] [] pos) (Ke_ X.K te):=by
 intro pins s σ H R I h
 refine Call_ (U1 I hg hm boot_enumerate (PyProof.Rows.callWith_type1 (thn (Aa he Ae hs pos pins s σ H (fun vs H1=>∃a xs,vs=[.ref a]/\SqL X.K H1 a xs/\R (Itm X.K a xs) H1) I ?_) fun us s1 ⟨vs,H1,I1,r1,q1⟩=>?_) hs rfl))
 ·show te σ H _
  have:(fun x H1=>∃a xs,x=V.ref a/\SqL X.K H1 a xs/\R (Itm X.K a xs) H1)=(fun x H1=>tNil σ H1 fun xs H2=>∃a ys,x::xs=[V.ref a]/\SqL X.K H2 a ys/\R (Itm X.K a ys) H2):=by
   funext x H1
   simp[tNil]
  rw[<-this]
  exact h
 ·obtain⟨a,xs,rfl,hq,q⟩:=q1
  cases r1 with
  |cons r rr=>
   cases rr
   cases r
   obtain⟨its,rv,p,hz⟩:=I1.list hq
   have pt:s1.heap.IsList a its.toArray:=p.isList
   obtain⟨oa,hoa,_⟩:=id pt
   have ha:=Heap.lt_size hoa
   refine call_enumerate_list pt fun h' he' hit' hsz hk=>?_
   refine wpAny_pyIter_enum (s:={s1 with heap:=h' }) he' ?_
   have I2:Inv X pins σ H1 {s1 with heap:=h' }:=I1.kept (t':=s1.toks) hk
   refine⟨s1.heap.objs.size+1,[s1.heap.objs.size+1,s1.heap.objs.size],_,_,H1,rfl,I2,Fy_ a (s1.heap.objs.size+1) s1.heap.objs.size (Nat.succ_ne_self _) (Nat.ne_of_lt ha) (Nat.ne_of_lt (Nat.lt_succ_of_lt ha)) xs,⟨_,he',hit'⟩,fun b hb=>?_,q⟩
   have hle:s1.heap.objs.size<=b:=by
    rcases List.mem_cons.mp hb with rfl|hb
    ·lia
    ·rw[List.mem_singleton.mp hb];exact Nat.le_refl _
   exact I1.fpOk hle (I1.hok.fresh hle)
def forM {K:PySem.W.Frag}        (Pv:Nat->St->Hp->Prop)(h0:Pv 0 σ H)(hl:∀i σ H,i<=xs.length->Pv i σ H->SqL K H a xs)
  (hs:∀i v σ H t,xs[i]?=some v->Pv i σ H->H t=none->g (.ref t) σ (upd H t (.tup [.int i,v])) fun σ2 H2=>tb {D with nx:=Pv (i+1),ct:=Pv (i+1),bk:=D.nx} σ2 H2) (hd:∀σ H,Pv xs.length σ H->D.nx σ H):ForW (Itm K a xs) g tb D σ H:=by
 refine⟨fun i m σ H=>m=xs.length-i/\i<=xs.length/\Pv i σ H,⟨xs.length,by simp,Nat.zero_le _,h0⟩,?_⟩
 rintro i m σ H ⟨rfl,hi,p⟩
 by_cases hlt:i<xs.length
 ·refine .inr ⟨⟨hlt,hl i σ H hi p⟩,Pv (i+1),fun σ' H' p'=>⟨xs.length-(i+1),by lia,rfl,hlt,p'⟩,fun x H' y=>?_⟩
  obtain⟨t,v,hn,hv,rfl,rfl⟩:=y
  exact hs i v σ H t hv p hn
 ·have e:i=xs.length:=by lia
  subst e
  exact .inl ⟨⟨rfl,hl _ σ H hi p⟩,hd σ H p⟩
theorem Hk_     : JE_ x vs H Q=∃l xs i k y,x=.ref l/\vs=[.int i]/\H l=some (.lst xs) /\ -(2 ^ 63)<=i/\i<2 ^ 63/\seqIndex? i xs.length=some k/\xs[k]?=some y/\Q y (upd H l (.lst (xs.eraseIdx k))):=rfl
noncomputable def rng (i j:Int):List Int:=(List.range (j-i).toNat).map fun k:Nat=>i+(k:Int)
end L2
namespace PySem
open Sem (wp)
noncomputable def Heap.DEnt (h:Heap)(d:Addr)(es:Array DictEntry)(ep:Nat):Prop:=∃o,h.get? d=some o/\o.ExactDict/\o.data=.dict es ep
section
variable {prog:Program} {w:World} {A:Around} {E:Value->Shared->Prop} {s:Shared} {d it:Addr} {es:Array DictEntry} {i ep:Nat}
def Heap.DEnt.typeIs (h:s.heap.DEnt d es ep):s.TypeIs (.ref d) "dict" := let ⟨o,ho,hc,_⟩:=h;⟨o,ho,hc.1⟩
def Heap.DEnt.at {h h':Heap}(x:h.DEnt d es ep)(e:∀o,h.get? d=some o->h'.get? d=some o):h'.DEnt d es ep:=let ⟨o,ho,r⟩:=x;⟨o,e _ ho,r⟩
def Heap.DEnt.lt_size {h:Heap}(x:h.DEnt d es ep):d<h.objs.size:=let ⟨_,ho,_⟩:=x;Heap.lt_size ho
def Vb  (hd:(d==sysModules)=false)(hm:s.heap.DEnt d es ep)
  (hQ:Q (.ref s.heap.objs.size) {s with heap:=s.heap.push {cls:=.type "dict_keyiterator",data:=.fields #[.ref d,.int 0 0,.int es.size 0,.int ep 0]} }):wpAny (model prog w) A (pyIter (.ref d)) Q E s:=by
 have hT:=hm.typeIs
 obtain⟨o,ho,hc,hdat⟩:=id hm
 refine wpAny_pyIter_slot hT F.slot_dict_iter (wpAny_call_entry F.slot_dict_iter hT F.entry_dict_iter (?_:wpAny _ _ (Builtin.«dict.__iter__» _) _ _ s) (F.args_dict_iter_1 _))
 unfold Builtin.«dict.__iter__»;refine wpAny_bind ?_
 unfold Builtin.Dict.dictSlotNone;refine wpAny_bind (wpAny_notOrdered_dict hT ?_)
 show wpAny _ _ (pure (Value.ref d)) _ _ s;refine wpAny_pure ?_
 show wpAny _ _ (Builtin.Dict.showsAll d >>= _) _ _ s;unfold Builtin.Dict.showsAll
 rw[if_neg (fun z=>by rw[hd]at z;cases z)]
 refine wpAny_bind (wpAny_pure (wpAny_bind (wpAny_dictEntries ho hdat (wpAny_bind (wpAny_dictEpoch ho hdat ?_)))))
 refine wpAny_bind (wpAny_newObj_type (wpAny_pure ⟨_,rfl,"dict_keyiterator",_,⟨_,Heap.get?_push_size _ rfl,rfl⟩,F.slot_dict_keyiterator_next.lookup,?_⟩));simpa [rawInt] using hQ
def Lu  (hit:s.heap.IsKeyIter it d i es.size ep)(hm:s.heap.DEnt d es ep)(hlt:i<es.size)
  (hQ:∀h',h'.IsKeyIter it d (i+1) es.size ep->Heap.SameBut it s.heap h'->Q (some es[i].key) {s with heap:=h' }):wpAny (model prog w) A (pyNext (.ref it)) Q E s:=by
 obtain⟨o,ho,hc,hd⟩:=id hit
 obtain⟨od,hod,hcd,hdd⟩:=id hm
 have hown:Builtin.Dict_items.ownsTuple "dict_keyiterator"=false:=by decide
 unfold pyNext
 refine wpAny_bind (wpAny_attempt (wpAny_callSpecial?_slot (name:=Str.ofString "__next__") hit.typeIs F.slot_dict_keyiterator_next (wpAny_call_entry F.slot_dict_keyiterator_next hit.typeIs F.entry_dict_keyiterator_next ?_ (F.args_dict_keyiterator_next_1 _))))
 refine wpAny_bind (wpAny_pure (wpAny_bind (wpAny_bind ?_)))
 first|refine wpAny_bind (wpAny_typeNameOfWhole_keyiter hit.typeIs (wpAny_pure (wpAny_bind (wpAny_fieldsOf ho hd ?_))))|refine wpAny_bind (wpAny_typeNameOf_keyiter hit.typeIs (wpAny_pure (wpAny_bind (wpAny_fieldsOf ho hd ?_))))
 simp only[hown,Bool.false_eq_true,if_false];show wpAny _ _ (if (Value.ref d==Value.none)=true then _ else _) _ _ s
 rw[if_neg (show ¬ ((Value.ref d==Value.none)=true) from fun z=>Bool.false_ne_true z)]
 refine wpAny_bind (wpAny_pure (wpAny_bind (wpAny_dictEntries hod hdd ?_)))
 rw[if_neg (by simp)];refine wpAny_bind (wpAny_pure (wpAny_bind (wpAny_dictEpoch hod hdd ?_)))
 rw[if_neg (by simp)];refine wpAny_pure ?_
 simp only[show ¬ ((i:Int)<0) from by lia,if_false,Int.toNat_natCast,Array.getElem?_eq_getElem hlt];refine wpAny_bind ?_
 first|refine wpAny_bind (wpAny_typeNameOfWhole_keyiter hit.typeIs (wpAny_pure (wpAny_bind (wpAny_isOneOf_keyiter hit.typeIs ?_))))|refine wpAny_bind (wpAny_typeNameOf_keyiter hit.typeIs (wpAny_pure (wpAny_bind (wpAny_isOneOf_keyiter hit.typeIs ?_))))
 show wpAny _ _ (setField (.ref it) 1 (rawInt ((i:Int)+1)) >>= _) _ _ s;refine wpAny_bind (wpAny_setField ho hd (by simp) ?_)
 have hit':(s.heap.update it (Obj.mapFields (·.setIfInBounds 1 (rawInt ((i:Int)+1))))).IsKeyIter it d (i+1) es.size ep:=⟨_,Heap.get?_update_self _ ho (Obj.isFreed_of_fields (Obj.data_mapFields hd _)),(Obj.cls_mapFields ..).trans hc,by rw[Obj.data_mapFields hd];simp[rawInt]⟩
 refine wpAny_bind (wpAny_holding (wpAny_bind (wpAny_isOneOf_keyiter (s:={s with heap:=s.heap.update it (Obj.mapFields (·.setIfInBounds 1 (rawInt ((i:Int)+1))))}) hit'.typeIs ?_)))
 show wpAny _ _ (pure es[i].key) _ _ _;exact wpAny_pure (wpAny_pure ⟨_,rfl,wpAny_pure (hQ _ hit' (Heap.SameBut.update ..))⟩)
def Mt  (hh:A.handled=none)(hit:s.heap.IsKeyIter it d i es.size ep)(hm:s.heap.DEnt d es ep)(hge:es.size<=i)
  (hQ:∀h',Heap.ExtBut it s.heap h'->Q none {s with heap:=h' }):wpAny (model prog w) A (pyNext (.ref it)) Q E s:=by
 obtain⟨o,ho,hc,hd⟩:=id hit
 obtain⟨od,hod,hcd,hdd⟩:=id hm
 have hown:Builtin.Dict_items.ownsTuple "dict_keyiterator"=false:=by decide
 unfold pyNext
 refine wpAny_bind (wpAny_attempt (wpAny_callSpecial?_slot (name:=Str.ofString "__next__") hit.typeIs F.slot_dict_keyiterator_next (wpAny_call_entry F.slot_dict_keyiterator_next hit.typeIs F.entry_dict_keyiterator_next ?_ (F.args_dict_keyiterator_next_1 _))))
 refine wpAny_bind (wpAny_pure (wpAny_bind (wpAny_bind ?_)))
 first|refine wpAny_bind (wpAny_typeNameOfWhole_keyiter hit.typeIs (wpAny_pure (wpAny_bind (wpAny_fieldsOf ho hd ?_))))|refine wpAny_bind (wpAny_typeNameOf_keyiter hit.typeIs (wpAny_pure (wpAny_bind (wpAny_fieldsOf ho hd ?_))))
 simp only[hown,Bool.false_eq_true,if_false];show wpAny _ _ (if (Value.ref d==Value.none)=true then _ else _) _ _ s
 rw[if_neg (show ¬ ((Value.ref d==Value.none)=true) from fun z=>Bool.false_ne_true z)]
 refine wpAny_bind (wpAny_pure (wpAny_bind (wpAny_dictEntries hod hdd ?_)))
 rw[if_neg (by simp)];refine wpAny_bind (wpAny_pure (wpAny_bind (wpAny_dictEpoch hod hdd ?_)))
 rw[if_neg (by simp)];refine wpAny_pure ?_
 simp only[show ¬ ((i:Int)<0) from by lia,if_false,Int.toNat_natCast,Array.getElem?_eq_none hge];refine wpAny_bind ?_
 first|refine wpAny_bind (wpAny_typeNameOfWhole_keyiter hit.typeIs (wpAny_pure ?_))|refine wpAny_bind (wpAny_typeNameOf_keyiter hit.typeIs (wpAny_pure ?_))
 show wpAny _ _ (setField (.ref it) 0 .none >>= _) _ _ s;refine wpAny_bind (wpAny_setField ho hd (by simp) ?_)
 show wpAny _ _ (newExc (.type "StopIteration") [] >>= _) _ _ _;refine wpAny_bind ?_
 simp only[newExc,newTuple];refine wpAny_bind (wpAny_newObj_type ?_ (by size_fits))
 refine wpAny_bind (m:=firstArgMember _ _) (wpAny_of_eq (a:=Value.none) (by first|rfl|(simp only[firstArgMember];rfl)) (wpAny_newObj_type ?_ (by size_fits)))
 simp only[raiseNew];refine wpAny_bind (wpAny_handled ?_)
 rw[show A.in1.handled=none from hh];refine wpAny_bind (wpAny_pure (wpAny_throw ?_))
 refine wpAny_bind (wpAny_isInstance (T := "StopIteration") (b:=true) ⟨_,Heap.get?_push_size _ rfl,rfl⟩ isSubtype_stop (wpAny_pure (hQ _ (((Heap.SameBut.update ..).extBut.push _).push _))))
def Walks.dent (hh:A.handled=none)(I:Addr)(hne:d≠I):Walks prog w A I [I,d] [I] es.size (fun i v=>∃e,es[i]?=some e/\v=e.key) (fun i h=>h.IsKeyIter I d i es.size ep/\h.DEnt d es ep) where
 sub:=fun b hb=>by simp at hb;simp[hb]
 frame:=fun _ _ _ st hk=>⟨st.1.at fun o e=>hk I (by simp) o e,st.2.at fun o e=>hk d (by simp) o e⟩
 item:=fun i s Q E hi st hQ=>by
  refine Lu st.1 st.2 hi fun h' hit' hs'=>?_
  exact hQ _ h' s.toks ⟨es[i],by simp[hi],rfl⟩ ⟨hit',st.2.at fun o e=>hs'.extBut d o hne e⟩ fun b o hb e=>hs'.extBut b o (fun z=>hb (by simp[z])) e
 done:=fun s Q E st hQ=>Mt hh st.1 st.2 (Nat.le_refl _) fun h' he'=>hQ h' s.toks fun b o hb e=>he' b o (fun z=>hb (by simp[z])) e
 self:=fun _ _ _ _ st hQ=>wpAny_pyIter_keyiter st.1 hQ
def IN_ (lo:(d==sysModules)=false):PySem.W.KdlSrc prog w "dict" d d es.size (fun i v=>∃e,es[i]?=some e/\v=e.key) (fun h=>h.DEnt d es ep) where
 type:=fun _ hm=>hm.typeIs
 there:=fun _ hm=>⟨hm.lt_size,hm.lt_size⟩
 keep:=fun _ _ hm hk=>hm.at fun o e=>hk d (.inl rfl) o e
 notList:=by decide
 notTuple:=by decide
 hint:=fun _ _ _ _ hm hq=>PySem.W.kdl_hint_dict hm.typeIs hq
 iter:=fun _ _ hh hm=>⟨_,_,(fun _ _ hq=>Vb lo hm hq),Walks.dent hh _ (Nat.ne_of_lt hm.lt_size),⟨⟨_,Heap.get?_push_size _ rfl,rfl,rfl⟩,hm.at fun o e=>Heap.get?_push_of_some _ e⟩⟩
end
end PySem
namespace L2
open PySem PySem.Spec PyProof.Rows
def Rf {α β:Type}{F:α->β->Prop}:∀{l:List α} {m:List β} {i:Nat} {a:α},Paired F l m->l[i]?=some a->∃b,m[i]?=some b/\F a b
 |_,_,_,_,.nil,e=>by simp at e
 |_,_,0,_,.cons r _,e=>by simp at e;subst e;exact⟨_,rfl,r⟩
 |_,_,i+1,a,.cons _ t,e=>by
  obtain⟨b,h1,h2⟩:=Rf (i:=i) (a:=a) t (by simpa using e)
  exact⟨b,by simpa using h1,h2⟩
def Di_       (ok:HOk P w H h)(e:Rd H a (.dT kvs)):
  ∃o es ep,h.get? a=some o/\o.ExactDict/\o.data=.dict es ep/\es.size=kvs.length/\(a==sysModules)=false/\kvs.length<=sizeLine /\
   ∀(i:Nat) (k:List Key) (v:V),kvs[i]?=some (k,v)->∃b en,es[i]?=some en/\en.key=.ref b/\H b=some (.tup (k.map kV)):=by
 obtain⟨z,y,xs,r,o,es,ep,h1,h2,h3,h4,h5⟩:=(show C4 P w H h a (.dT kvs) from ID_ ok e)
 have hl:=Paired.length r
 have hs:es.size=kvs.length:=by rw[<-Array.length_toList,h4,List.length_map,hl]
 refine⟨o,es,ep,h1,h2,h3,hs,y,z,fun i k v hk=>?_⟩
 obtain⟨q,hq,e1,e2,_⟩:=Rf r hk
 refine⟨q.2.1,entryOfKey (tupleKind (EE P w)) q,?_,rfl,e2⟩
 rw[<-Array.getElem?_toList,h4,List.getElem?_map,hq];rfl
section
variable {X:Cx} {pins:List (Addr×Obj)} {σ:St} {H:Hp} {s:Shared} {a:Addr}
def Inv.freeze   (I:Inv X pins σ H s)(e:H a=some (.dT kvs))(ho:s.heap.get? a=some o):Inv X pins σ (upd H a (.frz o (.dT kvs))) s:=by
 refine Db_ (h':=s.heap) (t':=s.toks) I (by rw[e];exact True.intro) ⟨rfl,fun _ _=>rfl⟩ ⟨o,ho⟩ ?_
 obtain⟨z,y,xs,r,q⟩:=(show C4 X.prog X.w H s.heap a (.dT kvs) from I.hok a _ e)
 refine⟨ho,z,y,xs,Paired.mapP r fun p x hx=>⟨hx.1,?_,hx.2.2⟩,q⟩
 rw[Ag (fun z=>by have h1:=hx.2.1;rw[z,e]at h1;cases h1)]
 exact hx.2.1
end
noncomputable def Itd (o:Obj)(a:Addr)(kvs:List (List Key×V)):It:=⟨fun i H=>i<kvs.length/\H a=some (.frz o (.dT kvs)),fun i H x H'=>H'=H/\∃b k v,kvs[i]?=some (k,v)/\x=.ref b/\H b=some (.tup (k.map kV)),fun i H=>kvs.length<=i/\H a=some (.frz o (.dT kvs))⟩
def Fz_ {P:Program}{w:World}{K:PySem.W.Frag}{tg:Expr}{o:Obj}{a it:Addr}{kvs:List (List Key×V)}{es:Array DictEntry}{ep:Nat}(hai:a≠it)(hc:o.ExactDict)(hd:o.data=.dict es ep)(hs:es.size=kvs.length):
  Turn P w K tg (Itd o a kvs) [it] it (fun i h=>h.IsKeyIter it a i es.size ep) where
 mem:=by simp
 obj:=fun i h st b hb=>by
  have e:b=it:=by simpa using hb
  subst e
  obtain⟨o,e,c,d⟩:=st
  exact⟨o,e,fun v z=>by rw[d]at z;cases z⟩
 keep:=fun i h h' st k=>st.at fun o e=>k it (by simp) o e
 item:=by
  intro X hP hw hK hcm i pins s σ H E I hf st hg
  subst hP hw hK
  obtain⟨hi,hq⟩:=hg
  obtain⟨hko,_⟩:=(show C4 X.prog X.w H s.heap a (.frz o (.dT kvs)) from I.hok a _ hq)
  obtain⟨o',es',ep',g1,g2,g3,g4,g5,g6,g7⟩:=Di_ I.hok (.inr ⟨o,hq⟩)
  rw[hko]at g1
  cases g1
  rw[hd]at g3
  cases g3
  obtain⟨kv,hkv⟩:∃kv,kvs[i]?=some kv:=⟨kvs[i],by simp[hi]⟩
  obtain⟨k,v⟩:=kv
  obtain⟨b,en,e1,e2,e3⟩:=g7 i k v hkv
  obtain⟨f0,f1,f2,f3,f4,f5⟩:=hf it (by simp)
  have hlt:i<es.size:=by lia
  have ee:es[i]=en:=by rw[Array.getElem?_eq_getElem hlt]at e1;exact Option.some.inj e1
  refine Lu st ⟨o,hko,hc,hd⟩ hlt fun h' st' sb=>?_
  have I1:Inv X pins σ H {s with heap:=h' }:=I.turned (t':=s.toks) (fun b o hb e=>(sb.2 b hb).trans e) f0 f1 f3 f4 f5
  obtain⟨io,e,c,d⟩:=id st'
  exact⟨_,rfl,Is_ (s:={s with heap:=h' }) e c d (by decide) ⟨.ref b,H,I1,(by rw[ee,e2];rfl),⟨rfl,b,k,v,hkv,rfl,e3⟩,st',fun b hb=>(hf b hb).1⟩⟩
 done:=by
  intro X hP hw hK hcm i pins s σ H E I hf st hg
  subst hP hw hK
  obtain⟨hi,hq⟩:=hg
  obtain⟨hko,_⟩:=(show C4 X.prog X.w H s.heap a (.frz o (.dT kvs)) from I.hok a _ hq)
  obtain⟨f0,f1,f2,f3,f4,f5⟩:=hf it (by simp)
  exact Mt (I.ok.hd hcm) st ⟨o,hko,hc,hd⟩ s!"" fun h' eb=>⟨rfl,I.turned (t':=s.toks) (fun b o hb e=>eb b o hb e) f0 f1 f3 f4 f5⟩
 self:=fun _ _ _ _ _ st h=>wpAny_pyIter_keyiter st h
noncomputable def Kf_ (td:TE):TI:=fun σ H R=>td σ H fun x H1=>∃a kvs,x=.ref a/\H1 a=some (.dT kvs)/\∀o,R (Itd o a kvs) (upd H1 a (.frz o (.dT kvs)))
theorem ED_     : Kf_ te σ H Z=te σ H fun x H1=>∃a kvs,x=.ref a/\H1 a=some (.dT kvs)/\∀o,Z (Itd o a kvs) (upd H1 a (.frz o (.dT kvs))):=rfl
def IO_     (hl:PE X l tl):PI X tg l (Kf_ tl):=by
 intro pins s σ H R I h
 refine thn (hl pins s σ H _ I h) fun v s1 ⟨x,H1,I1,r1,q1⟩=>?_
 obtain⟨a,kvs,e,hq,q⟩:=q1
 subst e
 cases r1
 obtain⟨o,es,ep,g1,g2,g3,g4,g5,g6,g7⟩:=Di_ I1.hok (.inl hq)
 have I2:=I1.freeze hq g1
 refine Vb g5 ⟨o,g1,g2,g3⟩ ?_
 refine⟨s1.heap.objs.size,[s1.heap.objs.size],_,_,_,rfl,I2.kept (t':=s1.toks) fun b o e=>Heap.get?_push_of_some _ e,Fz_ (o:=o) (kvs:=kvs) (Nat.ne_of_lt (Heap.lt_size g1)) g2 g3 g4,⟨_,Heap.get?_push_size _ rfl,rfl,rfl⟩,fun b hb=>?_,q o⟩
 have e:b=s1.heap.objs.size:=by simpa using hb
 subst e
 exact I2.fpOk (Nat.le_refl _) (I2.hok.fresh (Nat.le_refl _))
def forD         (Pv:Nat->St->Hp->Prop)(h0:Pv 0 σ H)(hl:∀i σ H,i<=kvs.length->Pv i σ H->H a=some (.frz o (.dT kvs)))
  (hs:∀i k v b σ H,kvs[i]?=some (k,v)->Pv i σ H->H b=some (.tup (k.map kV))->g (.ref b) σ H fun σ2 H2=>tb {D with nx:=Pv (i+1),ct:=Pv (i+1),bk:=D.nx} σ2 H2) (hd:∀σ H,Pv kvs.length σ H->D.nx σ H):ForW (Itd o a kvs) g tb D σ H:=by
 refine⟨fun i m σ H=>m+i=kvs.length/\Pv i σ H,⟨kvs.length,by lia,h0⟩,fun i m σ H ⟨hm,hp⟩=>?_⟩
 have hq:=hl i σ H s!"" hp
 by_cases hi:i<kvs.length
 ·refine .inr ⟨⟨hi,hq⟩,Pv (i+1),fun σ' H' h=>⟨m-1,by lia,by lia,h⟩,fun x H' hy=>?_⟩
  obtain⟨rfl,b,k,v,hk,rfl,hb⟩:=hy
  exact hs i k v b σ _ hk hp hb
 ·have e:i=kvs.length:=by lia
  subst e
  exact .inl ⟨⟨Nat.le_refl _,hq⟩,hd σ H hp⟩
def IY  (hc:X.calm=true):Oj X (.type "list") (fun xs H Q=>∃p kvs,xs=[.ref p]/\Rd H p (.dT kvs)/\∀l rs,H l=none->rs.length=kvs.length ->
  (∀(i:Nat) (k:List Key) (v:V),kvs[i]?=some (k,v)->∃b,rs[i]?=some (V.ref b)/\H b=some (.tup (k.map kV)))->Q (.ref l) (upd H l (.lst rs))):=by
 intro pins s σ H xs us Q I r h
 obtain⟨p,kvs,rfl,hp,q⟩:=h
 obtain⟨u,rfl,rx⟩:=vals1 r
 cases rx
 obtain⟨o,es,ep,g1,g2,g3,g4,g5,g6,g7⟩:=Di_ I.hok hp
 refine PySem.W.kdl_call (IN_ (es:=es) (ep:=ep) g5) (I.ok.hd hc) ⟨o,g1,g2,g3⟩ s!"" fun h' tk acc' c' hk hD hacc=>?_
 let f:DictEntry->V:=fun e=>match e.key with | .ref b=>V.ref b|_=>.non
 have hat:∀(i:Nat) (k:List Key) (v:V),kvs[i]?=some (k,v)->∃b,(es.toList.map f)[i]?=some (V.ref b)/\H b=some (.tup (k.map kV)):=fun i k v hkv=>by
  obtain⟨b,en,e1,e2,e3⟩:=g7 i k v hkv
  refine⟨b,?_,e3⟩
  rw[List.getElem?_map,Array.getElem?_toList,e1]
  show some (f en)=_
  simp only[f,e2]
 have hlen:(es.toList.map f).length=kvs.length:=by rw[List.length_map,Array.length_toList,g4]
 have hv:Vals (es.toList.map f) acc'.toList:=by
  refine Vals.ofIx (by rw[hlen,<-g4];simpa using hacc.1) fun i v hv=>?_
  obtain⟨e,he,rfl⟩:=hacc.2 i v (by simpa using hv)
  have hi:i<kvs.length:=by rw[<-g4];exact (Array.getElem?_eq_some_iff.mp he).1
  obtain⟨b,en,e1,e2,e3⟩:=g7 i kvs[i].1 kvs[i].2 (by simp[hi])
  rw[he]at e1
  cases e1
  refine⟨V.ref b,?_,by rw[e2];rfl⟩
  rw[List.getElem?_map,Array.getElem?_toList,he]
  show some (f e)=_
  simp only[f,e2]
 exact⟨.ref _,_,I.laid (t':=tk) hk (Nat.le_refl _) (show C4 X.prog X.w _ h' _ (.lst (es.toList.map f)) from ⟨by rw[hlen];exact g6,acc'.toList,c',hv,by simpa using hD⟩),rfl,q _ _ (I.hok.fresh (Nat.le_refl _)) hlen hat⟩
end L2
namespace GB
open GW
variable {α:Type} [DecidableEq α]
noncomputable def Nu_ (step:α->Int->α)(a:α)(ws:List Int):α:=ws.foldl step a
noncomputable def put (step:α->Int->α)(r:α)(w:List Int)(ents:List (α×List Int))(x:Nat):List (α×List Int):=if step r x∈ents.map (·.1) then ents else ents++[(step r x,w++[(x:Int)])]
structure B (L:Int)(step:α->Int->α)(st:α)(ok:α->Prop)(ents:List (α×List Int))(i:Nat)(top:Int):Prop where
 hd:ents[0]?=some (st,[])
 il:i<=ents.length
 sh:∀(j:Nat) (e:α×List Int),ents[j]?=some e->e.2.length<=j
 nod:(ents.map (·.1)).Nodup
 rng:∀e∈ents,ok e.1
 wd:∀e∈ents,isW L e.2=true/\Nu_ step st e.2=e.1
 inc:∀(j k:Nat) (a b:α×List Int),j<k->ents[j]?=some a->ents[k]?=some b->He_ L a.2<He_ L b.2
 bnd:∀e∈ents,He_ L e.2<top
 don:∀j,j<i->∀e,ents[j]?=some e->∀x:Int,0<=x->x<L->∃e'∈ents,e'.1=step e.1 x/\He_ L e'.2<=He_ L (e.2++[x])
variable {L:Int} {step:α->Int->α} {st:α} {ok:α->Prop} {ents:List (α×List Int)} {i:Nat} {top:Int}
noncomputable def Nv_ (ways:List (List Int))(r:Int)(ws:List Int):Int:=ws.foldl (LL ways) r
end GB
namespace L2
open PySem PySem.Spec PyProof.Rows GW GB
noncomputable def TK (H H':Hp):Prop:=∀b xs,H b=some (.tup xs)->H' b=some (.tup xs)
def TK.refl (H:Hp):TK H H:=fun _ _ h=>h
def TK.of  (s:Same H H'):TK H H':=fun b xs h=>s b _ h
def TK.trans  (a:TK H H')(b:TK H' H''):TK H H'':=fun c xs h=>b c xs (a c xs h)
def TK.new    (h:H p=none):TK H (upd H p o):=TK.of (Same.new h)
def TK.lst {H:Hp}{p:Addr}{o:HO}{xs:List V}(h:H p=some (.lst xs)):TK H (upd H p o):=fun b ys e=>by rw[Ag (fun z=>by rw[z,h]at e;cases e)];exact e
def TK.dT {H:Hp}{p:Addr}{o:HO}{kvs:List (List Key×V)}(h:H p=some (.dT kvs)):TK H (upd H p o):=fun b ys e=>by rw[Ag (fun z=>by rw[z,h]at e;cases e)];exact e
end L2
namespace L2
theorem Hl_    : JG_ σ H Q=∀p,H p=none->Q (.ref p) (upd H p (.dT [])):=rfl
end L2
namespace L2
open PySem PySem.Spec PyProof.Rows GW
def Same.none  (s:Same H H')  (h:H' p=none):H p=none:=by
 cases e:H p with
 |none=>rfl
 |some u=>rw[s _ _ e]at h;cases h
noncomputable def Am (K:PySem.W.Frag)(H:Hp)(xs:List V)(ws:List (List Int)):Prop:=xs.length=ws.length/\∀(i:Nat) (w:List Int),ws[i]?=some w->∃t,xs[i]?=some (.ref t)/\H t=some (.tup (w.map V.int))
def Am.nil {K:PySem.W.Frag}  : Am K H [] []:=⟨rfl,fun i w h=>by simp at h⟩
def Am.mono {K:PySem.W.Frag}    (h:Am K H xs ws)(k:TK H H'):Am K H' xs ws:=by
 refine⟨h.1,fun i w hw=>?_⟩
 obtain⟨t,a,b⟩:=h.2 i w hw
 exact⟨t,a,k _ _ b⟩
def Am.snoc {K:PySem.W.Frag}    (h:Am K H xs ws)   (ht:H t=some (.tup (w.map V.int))):Am K H (xs++[.ref t]) (ws++[w]):=by
 refine⟨by rw[List.length_append,List.length_append,h.1];rfl,fun i v hi=>?_⟩
 by_cases hil:i<ws.length
 ·rw[List.getElem?_append_left hil]at hi
  rw[List.getElem?_append_left (by rw[h.1];exact hil)]
  exact h.2 i v hi
 ·have:=(List.getElem?_eq_some_iff.mp hi).1
  rw[List.length_append,List.length_singleton]at this
  have ei:i=ws.length:=by lia
  subst ei
  rw[List.getElem?_append_right (Nat.le_refl _),Nat.sub_self]at hi
  simp at hi
  subst hi
  refine⟨t,?_,ht⟩
  rw[List.getElem?_append_right (by rw[h.1];exact Nat.le_refl _),h.1,Nat.sub_self];rfl
def Am.at {K:PySem.W.Frag}{H:Hp}{xs:List V}{ws:List (List Int)}(h:Am K H xs ws){i:Nat}{x:V}(hx:xs[i]?=some x):∃t w,ws[i]?=some w/\x=.ref t/\H t=some (.tup (w.map V.int)):=by
 have hi:i<ws.length:=by rw[<-h.1];exact (List.getElem?_eq_some_iff.mp hx).1
 obtain⟨t,a,b⟩:=h.2 i ws[i] (by simp[hi])
 rw[hx]at a
 exact⟨t,ws[i],by simp[hi],Option.some.inj a,b⟩
noncomputable def rInW (K:PySem.W.Frag)(neg:Bool):R2:=fun x y H Q=>∃p t xs w ws,y=.ref p/\x=.ref t/\SqL K H p xs/\Am K H xs ws/\SqT K H t (w.map V.int)/\Q (.bl (if neg then !decide (w∈ws) else decide (w∈ws))) H
theorem ML_ {K:PySem.W.Frag}     : rInW K neg x y H Q=∃p t xs w ws,y=.ref p/\x=.ref t/\SqL K H p xs/\Am K H xs ws/\SqT K H t (w.map V.int)/\Q (.bl (if neg then !decide (w∈ws) else decide (w∈ws))) H:=rfl
def EE_          (hu:X.A.units+8<cLine)(I:Inv X pins σ H s)(hp:SqL X.K H p xs)(hw:Am X.K H xs ws)(ht:SqT X.K H t (w.map V.int)):
  ∃(its:Array Value) (e:Value->Bool),s.heap.IsList p its/\(∀y,y∈its->SeqAt.EqAt X.A.in1 s y (.ref t) (e y))/\its.any e=decide (w∈ws):=by
 obtain⟨its,r,pl,_⟩:=I.list hp
 have hl:=r.length
 let e:Value->Bool:=fun y => @decide (∃(i:Nat) (a:Addr),y=.ref a/\xs[i]?=some (.ref a)/\ws[i]?=some w) (Classical.propDecidable _)
 have ee:∀(i:Nat) (a:Addr) (v:List Int),xs[i]?=some (.ref a)->ws[i]?=some v->e (.ref a)=decide (v=w):=fun i a v hx hv=>by
  obtain⟨a',a1,a2⟩:=hw.2 i v hv
  rw[hx]at a1
  cases a1
  rw[Bool.eq_iff_iff]
  show @decide _ (Classical.propDecidable _)=true↔_
  rw[@decide_eq_true_iff _ (Classical.propDecidable _),decide_eq_true_eq]
  constructor
  ·rintro⟨j,b,hb,hxj,hwj⟩
   cases hb
   obtain⟨b',b1,b2⟩:=hw.2 j w hwj
   rw[hxj]at b1
   cases b1
   rw[a2]at b2
   have:=Option.some.inj b2
   injection this with this
   exact (List.map_inj_right (fun x y z=>V.int.inj z)).mp this
  ·rintro rfl
   exact⟨i,a,rfl,hx,hv⟩
 refine⟨its.toArray,e,pl.isList,fun y hy=>?_,?_⟩
 ·have hy':y∈its:=by simpa using hy
  obtain⟨i,hi,ei⟩:=List.getElem_of_mem hy'
  have hix:i<xs.length:=by lia
  obtain⟨u,hu',ru⟩:=r.get (i:=i) (x:=xs[i]) (by simp[hix])
  rw[List.getElem?_eq_getElem hi,ei]at hu'
  cases hu'
  obtain⟨a,v,e1,e2,e3⟩:=hw.at (i:=i) (x:=xs[i]) (by simp[hix])
  rw[e2]at ru
  cases ru
  rw[ee i a v (by rw[List.getElem?_eq_getElem hix,e2]) e1]
  exact (EqD.at (x:=V.ref a) (y:=V.ref t) I 2 X.A.in1 (by rw[in1_units];lia) rfl rfl (EqD.ints (xs:=v) (ys:=w) (.inr ⟨SqT.of e3,ht⟩) 1)).1
 ·rw[Bool.eq_iff_iff,decide_eq_true_eq]
  rw[show its.toArray.any e=its.any e by simp,List.any_eq_true]
  constructor
  ·rintro⟨y,hy,hey⟩
   obtain⟨j,b,_,_,hwj⟩:=(@decide_eq_true_iff _ (Classical.propDecidable _)).mp hey
   exact List.mem_of_getElem? hwj
  ·intro hm
   obtain⟨i,hi,ei⟩:=List.getElem_of_mem hm
   obtain⟨a,a1,a2⟩:=hw.2 i w (by rw[List.getElem?_eq_getElem hi,ei])
   obtain⟨u,hu',ru⟩:=r.get a1
   cases ru
   refine⟨.ref a,List.mem_of_getElem? hu',?_⟩
   rw[ee i a w a1 (by rw[List.getElem?_eq_getElem hi,ei])]
   simp
def Kg_  (hu:X.A.units+8<cLine):OpR X (compareOp .In) (rInW X.K false):=by
 intro pins s σ H x y v u Q I rx ry h
 obtain⟨p,t,xs,w,ws,rfl,rfl,hp,hw,ht,q⟩:=h
 cases ry
 cases rx
 obtain⟨its,e,h1,h2,h3⟩:=EE_ hu I hp hw ht
 refine SeqAt.in_listAt e h1 h2 ⟨.bl _,H,I,rfl,?_⟩
 rw[h3]
 exact q
def Vc  (hu:X.A.units+8<cLine):OpR X (compareOp .NotIn) (rInW X.K true):=by
 intro pins s σ H x y v u Q I rx ry h
 obtain⟨p,t,xs,w,ws,rfl,rfl,hp,hw,ht,q⟩:=h
 cases ry
 cases rx
 obtain⟨its,e,h1,h2,h3⟩:=EE_ hu I hp hw ht
 refine SeqAt.notIn_listAt e h1 h2 ⟨.bl _,H,I,rfl,?_⟩
 rw[h3]
 exact q
def Kn.ofS {K:PySem.W.Frag}     (ha:H a=some (.tup xs))(hb:H b=some (.tup ys))(hz:xs.length+ys.length<=sizeLine)(h:∀p H',Same H H'->H' p=some (.tup (xs++ys))->Q (.ref p) H'):Kn K (.ref a) (.ref b) H Q:=by
 refine⟨a,b,xs,ys,rfl,rfl,SqT.of ha,SqT.of hb,hz,fun e=>?_,fun _ e=>?_,fun _ _ p hp=>h p _ (Same.new hp) Ab⟩
 ·subst e;exact h b H (Same.refl _) (by simpa using hb)
 ·subst e;exact h a H (Same.refl _) (by simpa using ha)
def Inv.unL        (I:Inv X pins σ H s)(k:∀b o,b∉fp->s.heap.get? b=some o->h'.get? b=some o)(f:∀b∈fp,FpOk X pins H b):Un (frs X.stack) fp H H s.heap h'/\HOk X.prog X.w H h':=by
 have ne:∀b u,H b=some u->b∉fp:=fun b u q hb=>by rw[(f b hb).1]at q;cases q
 refine⟨⟨fun b o q _ _ hb=>k b o hb q,fun b o q _ _ hb=>⟨o.slots,k b o hb q⟩,fun _ _ _ n _=>n,fun b o q hb=>⟨o,k b o hb q⟩,fun _ _ q=>q,fun _ _ _ q=>q,fun b ps q=>⟨#[],by rw[q];simp⟩⟩,fun b u q=>?_⟩
 refine (I.hok b u q).stay (fun c v hc qv=>?_) (fun _ q=>q) fun _ _ q=>q
 have hne:c∉fp:=by
  rcases hc with rfl|hc
  ·exact ne _ _ q
  ·exact ne _ _ hc
 exact k c v hne qv
end L2
namespace GW
noncomputable def ins (s:List (List Int))(w:List Int):List (List Int):=if w∈s then s else s++[w]
def La_ (s:List (List Int))(w:List Int):(ins s w).length<=s.length+1:=by
 unfold ins;split
 ·lia
 ·simp
def C5:∀(l s:List (List Int)),(l.foldl ins s).length<=s.length+l.length
 |[],s=>by simp
 |w::l,s=>by
  have h1:=C5 l (ins s w)
  have h2:=La_ s w
  rw[List.foldl_cons,List.length_cons];lia
noncomputable def extW (n:Nat)(w:List Int):List (List Int):=(List.range n).map fun x:Nat=>w++[(x:Int)]
noncomputable def B8 (n:Nat)(acc:List (List Int)):List (List Int):=(acc.flatMap (extW n)).foldl ins (acc.foldl ins [])
noncomputable def IE (rows ends:List (List Int)):List (List Int):=(rows.flatMap fun r=>ends.map (r ++ ·)).foldl ins []
end GW
namespace L2
open PySem PySem.Spec PyProof.Rows GW
noncomputable def wkey (w:List Int):List Key:=w.map Sum.inl
def Ck (w:List Int):(wkey w).map kV=w.map V.int:=by unfold wkey;rw[List.map_map];rfl
def UQ  (h:wkey v=wkey w):v=w:=(List.map_inj_right (fun x y z=>Sum.inl.inj z)).mp h
noncomputable def Ip (ws:List (List Int))(kvs:List (List Key×V)):Prop:=kvs.map (·.1)=ws.map wkey
def Ip.len   (h:Ip ws kvs):kvs.length=ws.length:=by
 have:=congrArg List.length h
 simpa using this
def Ip.some_iff   (h:Ip ws kvs)(w:List Int):(valV kvs (wkey w)).isSome=decide (w∈ws):=by
 rw[<-KZ,Bool.eq_iff_iff,decide_eq_true_eq,List.any_eq_true]
 constructor
 ·rintro⟨kv,hkv,e⟩
  have e:=of_decide_eq_true e
  have:wkey w∈ws.map wkey:=by rw[<-h,<-e];exact List.mem_map.mpr ⟨kv,hkv,rfl⟩
  obtain⟨q,hq,e2⟩:=List.mem_map.mp this
  exact UQ e2 ▸ hq
 ·intro hw
  have:wkey w∈kvs.map (·.1):=by rw[h];exact List.mem_map.mpr ⟨w,hw,rfl⟩
  obtain⟨kv,hkv,e⟩:=List.mem_map.mp this
  exact⟨kv,hkv,decide_eq_true e⟩
def Ip.put   (h:Ip ws kvs)(w:List Int)(v:V):Ip (ins ws w) (putK kvs (wkey w) v):=by
 have hs:=h.some_iff w
 unfold putK ins
 rw[KZ,hs]
 by_cases hw:w∈ws
 ·rw[if_pos hw,if_pos (show decide (w∈ws)=true from decide_eq_true hw)]
  unfold Ip
  rw[<-h,List.map_map]
  refine List.map_congr_left fun kv _=>?_
  show (if kv.1=wkey w then (kv.1,v) else kv).1=kv.1
  split<;>rfl
 ·rw[if_neg hw,if_neg (show ¬ decide (w∈ws)=true by simp[hw])]
  unfold Ip
  rw[List.map_append,List.map_append,h];rfl
def Ip.nil:Ip [] []:=rfl
def Ip.words {K:PySem.W.Frag}     (h:Ip ws kvs)(hl:rs.length=kvs.length)(hr:∀(i:Nat) (k:List Key) (v:V),kvs[i]?=some (k,v)->∃b,rs[i]?=some (V.ref b)/\H b=some (.tup (k.map kV))):Am K H rs ws:=by
 refine⟨by rw[hl,h.len],fun i w hw=>?_⟩
 have hi:i<kvs.length:=by rw[h.len];exact (List.getElem?_eq_some_iff.mp hw).1
 have e:(kvs.map (·.1))[i]?=some (wkey w):=by rw[h,List.getElem?_map,hw];rfl
 rw[List.getElem?_map,List.getElem?_eq_getElem hi]at e
 have e:kvs[i].1=wkey w:=Option.some.inj e
 obtain⟨b,b1,b2⟩:=hr i kvs[i].1 kvs[i].2 (by simp[hi])
 exact⟨b,b1,by rw[b2,e,Ck]⟩
end L2
namespace PySem.W
open PySem PySem.Calls PyProof.Rows PyProof.V PySem.Spec
section
variable {prog:Program} {w:World} {A:Around} {E:Value->Shared->Prop} {s:Shared}
noncomputable abbrev itO (x:Value)(f:Bool)(d:Addr)(i n ep:Nat)(ok ov:Value):Obj:={cls:=.type "dict_itemiterator",dict:=none,data:=.fields #[x,.bool f,.ref d,.int i 0,.int n 0,.int ep 0,ok,ov],slots := #[]}
noncomputable abbrev tpO (e:DictEntry):Obj:={cls:=.type "tuple",data:=.seq #[e.key,e.val]}
def IP_ {it d:Addr}       (g1:s.heap.get? it=some (itO x f d i n ep ok ov))
  (hx:x=.none \/ ∃a:Addr,∃o,x=rawInt a/\s.heap.get? a=some o/\a≠it)
  (hQ:∀h' x' f' ok' ov',h'.get? it=some (itO x' f' d i n ep ok' ov')->(x=.none->x'=rawInt s.heap.objs.size/\f'=false/\ok'=e.key/\ov'=e.val)->(x ≠ .none->x'=x)->h'.get? s.heap.objs.size=some (tpO e)->h'.objs.size=s.heap.objs.size+1->(∀b o,b≠it->s.heap.get? b=some o->h'.get? b=some o) ->
   Q (.ref s.heap.objs.size) {s with heap:=h' }):wpAny (model prog w) A (Builtin.Dict_items.pairFromOwner (.ref it) 6 e.key e.val) Q E s:=by
 have hl:=Heap.lt_size g1
 obtain⟨hp,gs,dr,tk,os⟩:=s
 wp_walk using newT
 ·show 2<=sizeLine;decide
 intro h2 g
 have k2:∀b o,hp.get? b=some o->h2.get? b=some o:=fun b o q=>by rw[<-g];exact Heap.get?_push_of_some _ q
 have g2:=k2 it _ g1
 have g0:h2.get? hp.objs.size=some (tpO e):=by rw[<-g];exact Heap.get?_push_size _ rfl
 have gz:h2.objs.size=hp.objs.size+1:=by rw[<-g];exact Heap.size_push ..
 rcases hx with rfl|⟨a,o,rfl,ha,hne⟩
 ·(wp_walk using wpAny_setField_rec g2;(focus simp);intro _ g3 k3)
  (wp_walk using wpAny_setField_rec g3;(focus simp);intro _ g4 k4)
  (wp_walk using wpAny_setField_rec g4;(focus simp);intro _ g5 k5)
  (wp_walk using wpAny_setField_rec g5;(focus simp);intro _ g6 k6)
  wp_walk
  have kk:=((k3.extBut.trans k4.extBut).trans k5.extBut).trans k6.extBut
  exact hQ _ _ _ _ _ g6 (fun _=>⟨rfl,rfl,rfl,rfl⟩) (fun z=>absurd rfl z) (kk _ _ (Nat.ne_of_gt hl) g0) ((k6.1.trans (k5.1.trans (k4.1.trans k3.1))).trans gz) fun b o n q=>kk b o n (k2 b o q)
 ·have g7:=k2 a o ha
  have e:((a:Int)).toNat=a:=Int.toNat_natCast a
  wp_walk
  refine kdx_alive (a:=(a:Int).toNat) (by rw[e];exact g7) ?_
  cases f
  ·(wp_walk using wpAny_setField_rec g2;(focus simp);intro _ g3 k3)
   wp_walk
   exact hQ _ _ _ _ _ g3 (fun z=>by cases z) (fun _=>rfl) (k3.extBut _ _ (Nat.ne_of_gt hl) g0) (k3.1.trans gz) fun b o n q=>k3.extBut b o n (k2 b o q)
  ·wp_walk
   exact hQ _ _ _ _ _ g2 (fun z=>by cases z) (fun _=>rfl) g0 gz fun b o n q=>k2 b o q
def itm {it d:Addr}        (hh:A.handled=none)(hit:s.heap.get? it=some (itO x f d i es.size ep ok ov))
  (hod:s.heap.get? d=some od) (hdd:od.data=.dict es ep) (hx:x=.none \/ ∃a:Addr,∃o,x=rawInt a/\s.heap.get? a=some o/\a≠it)
  (hQ:∀e h' x' f' ok' ov',es[i]?=some e->h'.get? it=some (itO x' f' d (i+1) es.size ep ok' ov')->(x=.none->x'=rawInt s.heap.objs.size/\f'=false/\ok'=e.key/\ov'=e.val)->(x ≠ .none->x'=x)->h'.get? s.heap.objs.size=some (tpO e)->h'.objs.size=s.heap.objs.size+1->(∀b o,b≠it->s.heap.get? b=some o->h'.get? b=some o) ->
   Q (some (.ref s.heap.objs.size)) {s with heap:=h' })
  (hN:es[i]?=none->∀h',Heap.ExtBut it s.heap h'->Q none {s with heap:=h' }):wpAny (model prog w) A (pyNext (.ref it)) Q E s:=by
 have hT:s.TypeIs (.ref it) "dict_itemiterator" := ⟨_,hit,rfl⟩
 have e1:=PySem.F.slot_dict_itemiterator_next
 have h1:A.in1.handled=none:=hh
 obtain⟨c,dc,da,sl⟩:=od
 replace hdd:da=_:=hdd
 subst hdd
 unfold pyNext
 refine wpAny_bind (wpAny_attempt (wpAny_callSpecial?_slot hT e1 (wpAny_call_entry e1 hT PySem.F.entry_dict_itemiterator_next ?_ (PySem.F.args_dict_itemiterator_next_1 _))))
 wp_walk using wpAny_typeNameOfWhole_itemiter hT,wpAny_fieldsOf hit rfl
 cases hi:es[i]? with
 |some e=>
  simp only[show ¬ ((i:Int)<0) from by lia,if_false,Int.toNat_natCast,hi]
  wp_walk using wpAny_typeNameOfWhole_itemiter hT,wpAny_isOneOf_itemiter hT,wpAny_setField_rec hit
  ·exact Nat.lt_of_sub_eq_succ rfl
  intro h1 g1 k1
  replace g1:h1.get? it=some (itO x f d (i+1) es.size ep ok ov):=g1
  have hT1:Shared.TypeIs {s with heap:=h1} (.ref it) "dict_itemiterator" := ⟨_,g1,rfl⟩
  have z1:h1.objs.size=s.heap.objs.size:=k1.1
  wp_walk using wpAny_isOneOf_itemiter hT1,IP_ g1
  ·rcases hx with hx|⟨a,o,hx,ha,n⟩
   ·exact .inl hx
   ·exact .inr ⟨a,o,hx,k1.extBut a o n ha,n⟩
  intro h' x' f' ok' ov' q1 q2 q3 q4 q5 q6
  wp_walk
  simp only[z1]at q2 q4 q5 ⊢
  exact⟨_,rfl,wpAny_pure (hQ e h' x' f' ok' ov' hi q1 q2 q3 q4 q5 fun b o n q=>q6 b o n (k1.extBut b o n q))⟩
 |none=>
  simp only[show ¬ ((i:Int)<0) from by lia,if_false,Int.toNat_natCast,hi]
  wp_walk using wpAny_typeNameOfWhole_itemiter hT,wpAny_setField_rec hit
  ·exact Nat.lt_of_sub_eq_succ rfl
  intro h1 g1 k1
  wp_walk
  exact wpAny_raiseNew_none hh (wpAny_bind (wpAny_isInstance (T := "StopIteration") (b:=true) ⟨_,Heap.get?_push_size _ rfl,rfl⟩ isSubtype_stop (wpAny_pure (hN hi _ ((k1.extBut.push _).push _)))))
noncomputable def ItS (h:Heap)(it d S:Addr)(i n ep:Nat):Prop:=∃x f ok ov,h.get? it=some (itO x f d i n ep ok ov)/\(x=.none \/ ∃a:Addr,∃o,x=rawInt a/\h.get? a=some o/\a≠it/\a≠S)
def ItS.keep  {it d S:Addr}  (x:ItS h it d S i n ep)(hS:it≠S)(k:∀b o,b≠S->h.get? b=some o->h'.get? b=some o):ItS h' it d S i n ep:=by
 obtain⟨x,f,ok,ov,e,r⟩:=x
 refine⟨x,f,ok,ov,k _ _ hS e,r.imp_right ?_⟩
 rintro⟨a,o,e1,e2,e3,e4⟩
 exact⟨a,o,e1,k _ _ e4 e2,e3,e4⟩
def its {it d S:Addr}     (hh:A.handled=none)(st:ItS s.heap it d S i es.size ep)(hS:S<s.heap.objs.size)(hod:s.heap.get? d=some od)(hdd:od.data=.dict es ep)
  (hQ:∀e h',es[i]?=some e->ItS h' it d S (i+1) es.size ep->h'.get? s.heap.objs.size=some (tpO e)->h'.objs.size=s.heap.objs.size+1->(∀b o,b≠it->s.heap.get? b=some o->h'.get? b=some o)->Q (some (.ref s.heap.objs.size)) {s with heap:=h' })
  (hN:es[i]?=none->∀h',Heap.ExtBut it s.heap h'->Q none {s with heap:=h' }):wpAny (model prog w) A (pyNext (.ref it)) Q E s:=by
 obtain⟨x,f,ok,ov,hit,hx⟩:=st
 refine itm hh hit hod hdd (hx.imp_right fun ⟨a,o,e1,e2,e3,_⟩=>⟨a,o,e1,e2,e3⟩) (fun e h' x' f' ok' ov' q0 q1 q2 q3 q4 q5 q6=>hQ e h' q0 ⟨x',f',ok',ov',q1,?_⟩ q4 q5 q6) hN
 rcases hx with rfl|⟨a,o,rfl,e2,e3,e4⟩
 ·exact .inr ⟨_,_,(q2 rfl).1,q4,Nat.ne_of_gt (Heap.lt_size hit),Nat.ne_of_gt hS⟩
 ·exact .inr ⟨a,o,q3 (fun z=>by cases z),q6 a o e3 e2,e3,e4⟩
noncomputable def Tps (es:Array DictEntry)(lo:Addr)(h:Heap)(as:List Addr):Prop:=as.Pairwise (· < ·)/\∀(j:Nat) a,as[j]?=some a->lo<a/\∃e,es[j]?=some e/\h.get? a=some (tpO e)
def Tps.low  {lo lo':Addr}   (g:Tps es lo h as)(l:lo'<=lo):Tps es lo' h as:=⟨g.1,fun j a e=>⟨Nat.lt_of_le_of_lt l (g.2 j a e).1,(g.2 j a e).2⟩⟩
def Tps.keep  {lo:Addr}   (g:Tps es lo h as)(k:∀b o,lo<b->h.get? b=some o->h'.get? b=some o):Tps es lo h' as:=⟨g.1,fun j a q=>let ⟨l,e,e1,e2⟩:=g.2 j a q;⟨l,e,e1,k a _ l e2⟩⟩
def Tps.snoc  {lo b:Addr}    (g:Tps es lo h as)(hl:lo<b)(hb:∀a o,h.get? a=some o->a∈as->a<b)(he:es[as.length]?=some e)(ht:h.get? b=some (tpO e)):Tps es lo h (as++[b]):=by
 refine⟨List.pairwise_append.mpr ⟨g.1,List.pairwise_singleton _ _,fun a ha c hc=>?_⟩,fun j a q=>?_⟩
 ·obtain⟨j,hj⟩:=List.mem_iff_getElem?.mp ha
  obtain⟨_,e,_,e2⟩:=g.2 j a hj
  rw[List.mem_singleton.mp hc]
  exact hb a _ e2 ha
 ·rcases Nat.lt_or_ge j as.length with l|l
  ·rw[List.getElem?_append_left l]at q
   exact g.2 j a q
  ·rw[List.getElem?_append_right l]at q
   obtain⟨z,rfl⟩:j-as.length=0/\a=b:=by
    cases hz:j-as.length with
    |zero=>rw[hz]at q;exact⟨rfl,by simpa using q.symm⟩
    |succ n=>rw[hz]at q;simp at q
   obtain rfl:j=as.length:=by lia
   exact⟨hl,e,he,ht⟩
end
section
variable {prog:Program} {w:World} {A:Around} {E:Value->Shared->Prop} {s:Shared} {r d:Addr} {es:Array DictEntry} {ep:Nat} {od:Obj}
def itm_iter   (hv:s.heap.IsItemsView v d)(hod:s.heap.get? d=some od)(hdd:od.data=.dict es ep)
  (h:Q (.ref s.heap.objs.size) {s with heap:=s.heap.push (itO .none false d 0 es.size ep .none .none)}):wpAny (model prog w) A (pyIter (.ref v)) Q E s:=by
 have hT:=hv.typeIs
 obtain⟨⟨c1,d1,a1,s1⟩,hv1,hc,hv2⟩:=hv
 replace hv2:a1=_:=hv2
 obtain⟨c,dc,da,sl⟩:=od
 replace hdd:da=_:=hdd
 subst hdd hv2
 have e1:=PySem.F.slot_dict_items_iter
 refine wpAny_pyIter_slot hT e1 (wpAny_call_entry e1 hT PySem.F.entry_dict_items_iter ?_ (PySem.F.args_dict_items_iter_1 _))
 wp_walk
 exact⟨_,rfl,_,_,⟨_,Heap.get?_push_size _ rfl,rfl⟩,PySem.F.slot_dict_itemiterator_next.lookup,h⟩
def Lb_ (hv:s.heap.IsItemsView r d)(hod:s.heap.get? d=some od)(hdd:od.data=.dict es ep)(hn:es.size<=sizeLine):
  Gat prog w s r (s.heap.objs.size+1) "dict_items" es.size (· = s.heap.objs.size+1) (fun i acc h=>∃as,acc=as.map Value.ref/\as.length=i/\Tps es (s.heap.objs.size+1) h as/\ItS h (s.heap.objs.size+1) d s.heap.objs.size i es.size ep/\h.get? d=some od) (fun acc h=>∃as,acc=as.map Value.ref/\as.length=es.size/\Tps es s.heap.objs.size h as) where
 type:=hv.typeIs
 nl:=by decide
 nt:=by decide
 le:=hn
 hint:=fun A t Q E k q=>kdx_hint (let ⟨o,ho,hc,_⟩:=hv;⟨o,k _ o ho,hc⟩) (q false t.toks)
 iter:=fun A h1 Q E k z q=>by
  refine itm_iter (s:={s with heap:=h1}) (let ⟨o,ho,x⟩:=hv;⟨o,k _ o ho,x⟩) (k d od hod) hdd ?_
  show Q (.ref h1.objs.size) _
  rw[z]
  refine q _ ⟨[],rfl,rfl,⟨.nil,fun j a e=>by simp at e⟩,⟨.none,false,.none,.none,?_,.inl rfl⟩,Heap.get?_push_of_some _ (k d od hod)⟩ fun b o e=>Heap.get?_push_of_some _ e
  rw[<-z]
  exact Heap.get?_push_size _ rfl
 next:=fun A i acc t Q E hh j hl hi lt q1 q2=>by
  obtain⟨as,rfl,h2,h3,h4,h5⟩:=j
  have li:s.heap.objs.size+1<t.heap.objs.size:=let ⟨_,_,_,_,e,_⟩:=h4;Heap.lt_size e
  have kp:∀h':Heap,(∀b o,b≠s.heap.objs.size+1->t.heap.get? b=some o->h'.get? b=some o)->h'.get? d=some od:=fun h' k=>k d od (Nat.ne_of_lt (Nat.lt_succ_of_lt (Heap.lt_size hod))) h5
  refine its hh h4 lt h5 hdd (fun e h' e1 st ht hz k=>?_) fun e h' x=>q2 h' t.toks (by have:=Array.getElem?_eq_none_iff.mp e;lia) ⟨as,rfl,by have:=Array.getElem?_eq_none_iff.mp e;lia,(h3.keep fun b o l q=>x b o (Nat.ne_of_gt l) q).low (Nat.le_succ _)⟩ fun b o n q=>x b o n q
  have h3':=h3.keep fun b o l q=>k b o (Nat.ne_of_gt l) q
  refine q1 _ h' t.toks (Array.getElem?_eq_some_iff.mp e1).1 ⟨as++[t.heap.objs.size],by simp,by simp[h2],h3'.snoc li (fun a o _ m=>?_) (by rw[h2];exact e1) ht,st,kp h' k⟩ fun b o n q=>k b o n q
  obtain⟨j,hj⟩:=List.mem_iff_getElem?.mp m
  obtain⟨_,_,_,e2⟩:=h3.2 j a hj
  exact Heap.lt_size e2
 frame:=fun i acc h h' ⟨as,h1,h2,h3,h4,h5⟩ k=>⟨as,h1,h2,h3.keep fun b o l q=>k b o (Nat.ne_of_gt (Nat.lt_trans (Nat.lt_succ_self _) l)) q,h4.keep (Nat.ne_of_gt (Nat.lt_succ_self _)) k,k d od (Nat.ne_of_lt (Heap.lt_size hod)) h5⟩
 nw:=fun z=>absurd z (Nat.ne_of_lt (Nat.lt_succ_self _))
def itm_list  (hh:A.handled=none)(hv:s.heap.IsItemsView r d)(hod:s.heap.get? d=some od)(hdd:od.data=.dict es ep)(hn:es.size<=sizeLine)
  (hQ:∀h' tk acc c as,(∀b o,s.heap.get? b=some o->h'.get? b=some o)->h'.get? s.heap.objs.size=some (lsO acc c)->as.length=es.size->Tps es s.heap.objs.size h' as->acc.toList=as.map Value.ref->Q (.ref s.heap.objs.size) {s with heap:=h',toks:=tk}):
  wpAny (model prog w) A (call (.type "list") [.ref r]) Q E s:=
 (Lb_ hv hod hdd hn).list hh fun h' tk acc c ⟨as,f1,f2,f3⟩ _ k3 k4=>hQ h' tk acc.toArray c as (fun b o q=>k4 b o (Nat.ne_of_lt (Nat.lt_succ_of_lt (Heap.lt_size q))) q) k3 f2 f3 (by simpa using f1)
end
end PySem.W
namespace L2
open PySem PySem.Spec PyProof.Rows
def Yh       (ok:HOk P w H h)(e:Rd H a (.dT kvs)):
  ∃o es ep,h.get? a=some o/\o.ExactDict/\o.data=.dict es ep/\es.size=kvs.length/\(a==sysModules)=false/\kvs.length<=sizeLine /\
   ∀(i:Nat) (k:List Key) (v:V),kvs[i]?=some (k,v)->∃b en,es[i]?=some en/\en.key=.ref b/\H b=some (.tup (k.map kV))/\RelV v en.val:=by
 obtain⟨z,y,xs,r,o,es,ep,h1,h2,h3,h4,h5⟩:=(show C4 P w H h a (.dT kvs) from ID_ ok e)
 have hl:=Paired.length r
 have hs:es.size=kvs.length:=by rw[<-Array.length_toList,h4,List.length_map,hl]
 refine⟨o,es,ep,h1,h2,h3,hs,y,z,fun i k v hk=>?_⟩
 obtain⟨q,hq,e1,e2,e3⟩:=Rf r hk
 refine⟨q.2.1,entryOfKey (tupleKind (EE P w)) q,?_,rfl,e2,e3⟩
 rw[<-Array.getElem?_toList,h4,List.getElem?_map,hq];rfl
noncomputable def Yi (v d:Addr):HO:=.ext (fun h=>h.IsItemsView v d)
noncomputable def Kh_ (td:TE):TE:=fun σ H Q=>td σ H fun x H1=>∃d kvs,x=.ref d/\Rd H1 d (.dT kvs)/\∀v,H1 v=none->Q (.ref v) (upd H1 v (Yi v d))
theorem Hm_     : Kh_ td σ H Q=td σ H fun x H1=>∃d kvs,x=.ref d/\Rd H1 d (.dT kvs)/\∀v,H1 v=none->Q (.ref v) (upd H1 v (Yi v d)):=rfl
def Yj     (ho:PE X o td)(hbase:attributeBase o "items" X.env (eval o X.env)=eval o X.env:=by rfl)(hline:(apos.endLine==cpos.line)=true:=by rfl):PE X (.Call (.Attribute o "items" apos) [] [] cpos) (Kh_ td):=by
 intro pins s σ H Q I h
 refine wpAny_Call_method0_late hbase hline (thn (ho pins s σ H _ I h) fun v s1 ⟨x,H1,I1,r1,d,kvs,ex,hd,q⟩=>?_)
 subst ex
 obtain rfl:v=Value.ref d:=r1
 obtain⟨od,es,ep,g1,g2,g3,g4,g5,g6,g7⟩:=Yh I1.hok hd
 have hT:s1.TypeIs (.ref d) "dict" := ⟨od,g1,g2.1⟩
 refine⟨"dict","dict.items",PySem.F.plainAttrs_dict,PySem.F.slot_dict_items,PySem.F.type_dict_items,hT,fun b e=>?_,Calls.callWith_builtin rfl (PySem.evalArgs_none ?_)⟩
 ·cases e
  exact⟨od,g1,g2.2.1⟩
 refine wpAny_call_entry PySem.F.slot_dict_items hT PySem.F.entry_dict_items (?_:wpAny _ _ (Builtin.«dict.items» _) _ _ s1) (PySem.F.args_dict_items_1 _)
 unfold Builtin.«dict.items»
 refine wpAny_bind ?_
 unfold Builtin.Dict.noArgs
 refine wpAny_bind (wpAny_notOrdered_dict hT ?_)
 show wpAny _ _ (pure d) _ _ s1
 refine wpAny_pure ?_
 show wpAny _ _ (Builtin.Dict.showsAll d >>= _) _ _ s1
 unfold Builtin.Dict.showsAll
 rw[if_neg (by rw[g5];exact Bool.false_ne_true)]
 refine wpAny_bind (wpAny_pure ?_)
 refine wpAny_bind (wpAny_newObj_type (wpAny_pure ⟨_,rfl,?_⟩))
 have new:C4 X.prog X.w (upd H1 s1.heap.objs.size (Yi s1.heap.objs.size d)) (s1.heap.push {cls:=.type "dict_items",data:=.fields #[.ref d]}) s1.heap.objs.size (Yi s1.heap.objs.size d):=
  ⟨⟨_,Heap.get?_push_size _ rfl,rfl,rfl⟩,⟨_,Heap.get?_push_size _ rfl⟩,fun h1 h2 ⟨o,e,r⟩ k=>⟨o,k o e,r⟩⟩
 exact⟨.ref _,_,I1.laid (t':=s1.toks) (fun b u e=>Heap.get?_push_of_some _ e) (Nat.le_refl _) new,rfl,q _ (I1.hok.fresh (Nat.le_refl _))⟩
def EF_ {P:Program}{w:World}{fs:List Addr}{H0:Hp}{h0 h':Heap}:∀(as:List (Addr×List V)),(as.map (·.1)).Nodup ->
  (∀p∈as,h0.objs.size<=p.1/\p.2.length<=sizeLine/\∃its:List Value,Vals p.2 its/\IsTup h' p.1 its.toArray)->∀H,Un fs [] H0 H h0 h'->HOk P w H h'->(∀p∈as,H p.1=none) ->
  ∃H2,Un fs [] H0 H2 h0 h'/\HOk P w H2 h'/\Same H H2/\(∀p∈as,H2 p.1=some (.tup p.2))/\∀b,b∉as.map (·.1)->H2 b=H b
 |[],_,_,H,u,k,_=>⟨H,u,k,Same.refl _,(fun p hp=>by simp at hp),fun b _=>rfl⟩
 |p::r,nd,hp,H,u,k,hn=>by
  rw[List.map_cons,List.nodup_cons]at nd
  obtain⟨h1,h2,its,h3,h4⟩:=hp p List.mem_cons_self
  have hnp:=hn p List.mem_cons_self
  have k2:HOk P w (upd H p.1 (.tup p.2)) h':=k.track hnp ⟨h2,its,h3,h4⟩
  obtain⟨H2,e1,e2,e3,e4,e5⟩:=EF_ r nd.2 (fun q hq=>hp q (List.mem_cons_of_mem _ hq)) (upd H p.1 (.tup p.2)) (u.track h1 hnp) k2 (fun q hq=>by
   have hne:q.1≠p.1:=fun z=>nd.1 (by rw[<-z];exact List.mem_map_of_mem hq)
   rw[Ag hne]
   exact hn q (List.mem_cons_of_mem _ hq))
  refine⟨H2,e1,e2,(Same.new hnp).trans e3,fun q hq=>?_,fun b hb=>?_⟩
  ·rcases List.mem_cons.mp hq with rfl|hq
   ·exact e3 _ _ Ab
   ·exact e4 q hq
  ·rw[List.map_cons,List.mem_cons,not_or]at hb
   rw[e5 b hb.2,Ag hb.1]
def Vals.two'   (h1:RelV x u)(h2:RelV y v):Vals [x,y] [u,v]:=.cons h1 (.cons h2 .nil)
def MM_:∀as:List Addr,Vals (as.map V.ref) (as.map Value.ref)
 |[]=>.nil
 |_::r=>.cons rfl (MM_ r)
def Hn_ {X:Cx}{pins:List (Addr×Obj)}{σ:St}{H:Hp}{s:Shared}{kvs:List (List Key×V)}{es:Array DictEntry}{h':Heap}{as:List Addr}(I:Inv X pins σ H s)(hk:∀b o,s.heap.get? b=some o->h'.get? b=some o)(hal:as.length=kvs.length)(hG:PySem.W.Tps es s.heap.objs.size h' as)
  (g7:∀(i:Nat) (k:List Key) (v:V),kvs[i]?=some (k,v)->∃b en,es[i]?=some en/\en.key=.ref b/\H b=some (.tup (k.map kV))/\RelV v en.val):
  ∃H2,Un X.fs [] H H2 s.heap h'/\HOk X.prog X.w H2 h'/\Same H H2/\(∀b,b<=s.heap.objs.size->H2 b=H b)/\Vals (as.map V.ref) (as.map Value.ref)/\∀(i:Nat) (k:List Key) (x:V),kvs[i]?=some (k,x)->∃t b,(as.map V.ref)[i]?=some (V.ref t)/\H2 t=some (.tup [.ref b,x])/\H b=some (.tup (k.map kV)):=by
 have ex:∀i:Fin kvs.length,∃b:Addr,∃en,es[i.1]?=some en/\en.key=.ref b/\H b=some (.tup (kvs[i.1].1.map kV))/\RelV kvs[i.1].2 en.val:=fun i=>g7 i.1 kvs[i.1].1 kvs[i.1].2 (by simp)
 let cs:List (List V):=List.ofFn fun i:Fin kvs.length=>[V.ref (Classical.choose (ex i)),kvs[i.1].2]
 have hcl:cs.length=kvs.length:=by simp[cs]
 have hci:∀i:Fin kvs.length,cs[i.1]?=some [V.ref (Classical.choose (ex i)),kvs[i.1].2]:=fun i=>by simp[cs]
 have hz:(as.zip cs).map (·.1)=as:=List.map_fst_zip (by rw[hal,hcl];exact Nat.le_refl _)
 have hmem:∀p∈as.zip cs,∃i:Fin kvs.length,as[i.1]?=some p.1/\p.2=[V.ref (Classical.choose (ex i)),kvs[i.1].2]:=fun p hp=>by
  obtain⟨i,hi⟩:=List.mem_iff_getElem?.mp hp
  obtain⟨h1,h2⟩:=List.getElem?_zip_eq_some.mp hi
  have l:i<kvs.length:=by rw[<-hal];exact (List.getElem?_eq_some_iff.mp h1).1
  rw[hci ⟨i,l⟩]at h2
  exact⟨⟨i,l⟩,h1,(Option.some.inj h2).symm⟩
 obtain⟨H2,e1,e2,e3,e4,e5⟩:=EF_ (as.zip cs) (by rw[hz];exact hG.1.imp fun a=>Nat.ne_of_lt a) (fun p hp=>by
  obtain⟨i,h1,h2⟩:=hmem p hp
  obtain⟨en,a1,a2,a3,a4⟩:=Classical.choose_spec (ex i)
  obtain⟨l,e,b1,b2⟩:=hG.2 i.1 p.1 h1
  rw[a1]at b1
  cases b1
  refine⟨Nat.le_of_lt l,by rw[h2];have:=Aq;simp;lia,[en.key,en.val],?_,⟨_,b2,rfl,0,rfl⟩⟩
  rw[h2,a2]
  exact Vals.two' rfl a4) H (Un.kept hk) (I.hok.kept hk) (fun p hp=>by
  obtain⟨i,h1,h2⟩:=hmem p hp
  exact I.hok.fresh (Nat.le_of_lt (hG.2 i.1 p.1 h1).1))
 refine⟨H2,e1,e2,e3,fun b hb=>e5 b ?_,?_,fun i k x hkx=>?_⟩
 ·rw[hz]
  intro z
  obtain⟨j,hj⟩:=List.mem_iff_getElem?.mp z
  exact absurd (hG.2 j b hj).1 (Nat.not_lt.mpr hb)
 ·exact MM_ as
 ·have l:=(List.getElem?_eq_some_iff.mp hkx).1
  obtain⟨en,a1,a2,a3,a4⟩:=Classical.choose_spec (ex ⟨i,l⟩)
  have ek:kvs[i]=(k,x):=(List.getElem?_eq_some_iff.mp hkx).2
  have hai:as[i]?=some (as[i]'s!""):=by simp
  refine⟨_,_,by rw[List.getElem?_map,hai];rfl,?_,by simpa [ek] using a3⟩
  have:=e4 (as[i]'s!"",_) (List.mem_iff_getElem?.mpr ⟨i,List.getElem?_zip_eq_some.mpr ⟨hai,hci ⟨i,l⟩⟩⟩)
  simpa [ek] using this
def IZ  (hc:X.calm=true):Oj X (.type "list") (fun xs H Q=>∃v d kvs,xs=[.ref v]/\H v=some (Yi v d)/\Rd H d (.dT kvs)/\∀l rs H',Same H H'->H' l=none->rs.length=kvs.length ->
  (∀(i:Nat) (k:List Key) (x:V),kvs[i]?=some (k,x)->∃t b,rs[i]?=some (V.ref t)/\H' t=some (.tup [.ref b,x])/\H b=some (.tup (k.map kV)))->Q (.ref l) (upd H' l (.lst rs))):=by
 intro pins s σ H xs us Q I r h
 obtain⟨p,d,kvs,rfl,hv,hp,q⟩:=h
 obtain⟨u,rfl,rx⟩:=vals1 r
 cases rx
 obtain⟨o,es,ep,g1,g2,g3,g4,g5,g6,g7⟩:=Yh I.hok hp
 obtain⟨hview,_⟩:=(show C4 X.prog X.w H s.heap p (Yi p d) from I.hok p _ hv)
 refine PySem.W.itm_list (I.ok.hd hc) hview g1 g3 (by rw[g4];exact g6) fun h' tk acc c as hk hS hl hG hacc=>?_
 have hal:=hl.trans g4
 obtain⟨H2,e1,e2,e3,e5,hv,e4⟩:=Hn_ I hk hal hG g7
 have hD:H2 s.heap.objs.size=none:=(e5 _ (Nat.le_refl _)).trans (I.hok.fresh (Nat.le_refl _))
 have new:C4 X.prog X.w (upd H2 s.heap.objs.size (.lst (as.map V.ref))) h' s.heap.objs.size (.lst (as.map V.ref)):=⟨by rw[List.length_map,hal];exact g6,acc.toList,c,by rw[hacc];exact hv,by simpa using hS⟩
 exact⟨.ref _,_,I.un (t':=tk) (e1.track (Nat.le_refl _) hD) (e2.track hD new),rfl,q _ _ H2 e3 hD (by rw[List.length_map,hal]) e4⟩
def Nw_     (hg:Gl X x)(hm:∃t,X.mg x=some (.int n t))(hd:(x==("__debug__" : Str))=false:=by decide):PE X (.Name x pos) (tC (.int n)):=by
 obtain⟨t,hm⟩:=hm
 exact Gm_ hg hm ⟨_,rfl⟩ hd
section
variable {K:PySem.W.Frag} {ta tv td ty tx:TE} {t:TA} {f m:Str} {σ:St} {H:Hp} {Q:VK} {D:Ends} {C:Addr} {sp:Sp} {dvs:List V} {E:XK}
theorem MN_:tFld K ta f σ H Q=ta σ H fun x H1=>∃a C dx fs v,x=.ref a/\H1 a=some (.ins C dx fs)/\Cls K C/\FN K C f/\fs.lookup f=some v/\Q v H1:=rfl
theorem Ki_:sFld K ta tv f D σ H=tv σ H fun y H1=>ta σ H1 fun x H2=>∃a C dx fs,x=.ref a/\H2 a=some (.ins C dx fs)/\Cls K C/\FN K C f/\fs.length<1000/\D.nx σ (upd H2 a (.ins C dx (putF f y fs))):=rfl
theorem Kj_:KQ_ C m sp dvs E ta t σ H Q=ta σ H fun x H1=>∃a dx fs,x=.ref a/\H1 a=some (.ins C dx fs)/\fs.lookup m=none/\t σ H1 fun vs H2=>sp (x::(vs++dvs)) H2 Q E:=rfl
theorem Kk_:LY_ C sp dvs E t σ H Q=t σ H fun vs H1=>∀x dx,H1 x=none->H1 dx=none->dx≠x->sp (.ref x::(vs++dvs)) (upd (upd H1 dx (.own x)) x (.ins C dx [])) (fun v H2=>v=.non/\Q (.ref x) H2) E:=rfl
theorem Ho_:JJ_ td ty tx σ H Q=td σ H fun x H1=>∃a,x=.ref a/\IsD H1 a/\ty σ H1 fun y H2=>tx σ H2 fun z H3=>∃o,DGet H3 a y o/\Q (o.getD z) H3:=rfl
end
noncomputable def ents (es:List (List Int×Int)):List (List Key×V):=es.map fun e=>(wkey e.1,V.int e.2)
def Hp_ (es:List (List Int×Int)):Ip (es.map (·.1)) (ents es):=by unfold Ip ents;rw[List.map_map,List.map_map];rfl
def Mu   (h:w∉es.map (·.1)):valV (ents es) (wkey w)=none:=by
 have:=(Hp_ es).some_iff w
 rw[decide_eq_false h]at this
 cases q:valV (ents es) (wkey w) with
 |none=>rfl
 |some v=>rw[q]at this;cases this
def F6:∀{es:List (List Int×Int)} {w:List Int} {m:Int},(es.map (·.1)).Nodup->(w,m)∈es->valV (ents es) (wkey w)=some (.int m)
 |[],_,_,_,h=>by cases h
 |e::r,w,m,nd,h=>by
  rw[List.map_cons,List.nodup_cons]at nd
  unfold valV ents
  rw[List.map_cons,List.find?_cons]
  by_cases hw:e.1=w
  ·have hem:e.2=m:=by
    rcases List.mem_cons.mp h with q|q
    ·rw[<-q]
    ·exact absurd (List.mem_map.mpr ⟨_,q,hw.symm⟩) nd.1
   rw[show decide ((wkey e.1,V.int e.2).1=wkey w)=true from decide_eq_true (by rw[hw]),<-hem];rfl
  ·rw[show decide ((wkey e.1,V.int e.2).1=wkey w)=false from decide_eq_false fun z=>hw (UQ z)]
   rcases List.mem_cons.mp h with q|q
   ·exact absurd (by rw[<-q]) hw
   ·exact F6 nd.2 q
def UR    (h:w∉es.map (·.1)):putK (ents es) (wkey w) (.int m)=ents (es++[(w,m)]):=by
 unfold putK
 rw[KZ,Mu h,if_neg (by simp)]
 unfold ents
 rw[List.map_append];rfl
def FA_:¬ (("letters" : Str) = "marks"):=by decide +kernel
noncomputable def Dj_ (L:Int)(d:Addr):List (Str×V):=putF "marks" (.ref d) (putF "letters" (.int L) [])
def Yk (L:Int)(d:Addr):(Dj_ L d).lookup ("letters" : Str)=some (.int L):=by
 unfold Dj_
 rw[Gf,if_neg FA_,Gf,if_pos rfl]
def Hm (L:Int)(d:Addr):(Dj_ L d).lookup ("marks" : Str)=some (.ref d):=by
 unfold Dj_
 rw[Gf,if_pos rfl]
def HK (L:Int)(d:Addr){m:Str}(h1:¬ m = "marks")(h2:¬ m = "letters"):(Dj_ L d).lookup m=none:=by
 unfold Dj_
 rw[Gf,if_neg h1,Gf,if_neg h2]
 rfl
structure BookAt (C:Addr)(H:Hp)(p d:Addr)(L:Int)(es:List (List Int×Int)):Prop where
 ob:∃dx,H p=some (.ins C dx (Dj_ L d))
 dc:H d=some (.dT (ents es))
 nd:(es.map (·.1)).Nodup
def BookAt.mono      (h:BookAt C H p d L es)(s:Same H H'):BookAt C H' p d L es:=by
 obtain⟨⟨dx,a⟩,b,c⟩:=h
 exact⟨⟨dx,s _ _ a⟩,s _ _ b,c⟩
end L2
namespace L2
open PySem PySem.Spec PyProof.Rows
noncomputable def Kl_ (i:Nat)(f:Addr)(sp:Sp)(dvs:List V)(E:XK)(t:TA):TE:=fun σ H Q=>tVar i σ H fun v H1=>v=.ref f/\t σ H1 fun vs H2=>sp (vs++dvs) H2 Q E
theorem Hq_          : Kl_ i f sp dvs E t σ H Q=tVar i σ H fun v H1=>v=.ref f/\t σ H1 fun vs H2=>sp (vs++dvs) H2 Q E:=rfl
theorem Hr_     : LW_ A σ H Z=A σ H fun vs H1=>∃i j:Int,vs=[.int i,.int j]/\(-(2 ^ 62)<=i/\i<2 ^ 62 /\ -(2 ^ 62)<=j/\j<2 ^ 62)/\Z (Itr i (j-i).toNat) H1:=rfl
section
variable {X:Cx} {CX CX':CXT} {k k':Nat} {f f':Addr} {fd fd':FuncData} {ps ps':List Str} {sp sp':Sp} {dvs dvs':List V} {ds ds':List Value} {x:Str} {p pos:Pos} {e:Expr} {es:List Expr} {t:TA}
def IQ_  (i:Nat)(F:FnOk X.prog X.w X.K X.mg X.base CX k f fd ps sp)(hr:Room k X.A)(hk:PySem.W.keepIn X.K (.ref f)=true)(hb:Au X.K fd ps ds)(hd:Vals dvs ds)(hx:Mn CX X E)(ha:PA X (e::es) t)
  (hN:X.N[i]?=some x:=by rfl) (hv:Vis X.env.scope x:=by first|exact Or.inl rfl|exact Or.inr (Or.inl rfl)|exact Or.inr (Or.inr rfl)) (hdb:(x==("__debug__" : Str))=false:=by decide) (hcd:(x==("__classdict__" : Str))=false:=by decide)
  (he:starEach (e::es) X.env=(false,eval e X.env)::starEach es X.env:=by rfl) (hpl:(backTo pos (starEach es X.env)).any (·.1)=false:=by rfl):
  PE X (.Call (.Name x p) (e::es) [] pos) (Kl_ i f sp dvs E t):=by
 intro pins s σ H Q I h
 refine wpAny_Call_Name_kw (thn (pv i hN hv hdb hcd pins s σ H _ I h) fun u s1 ⟨v,H1,I1,rv,ev,q⟩=>?_)
 subst ev
 obtain rfl:u=Value.ref f:=rv
 refine PySem.W.callWith_K (h₀:=X.base) I.ok.mod.kin hk (thn (ha pos pins s1 σ H1 _ I1 q) fun us s2 ⟨vs,H2,I2,r,q2⟩=>⟨I2.kIn,?_⟩) he hpl
 exact AP_ F hr hb hd hx I2 r q2
end
end L2
namespace PySem
open Sem (wp)
open PySem.F
noncomputable def Ko (t:Bool)(h:Heap)(l:Addr)(xs:Array Value):Prop:=match t with|false=>h.IsList l xs|true=>h.IsTuple l xs
noncomputable def HW (t:Bool)(h:Heap)(i l:Addr)(k:Nat):Prop:=match t with|false=>h.IsListIter i l k|true=>h.IsTupleIter i l k
def Ko.extBut   {a b items}(x:Ko t h a items)(hs:Heap.ExtBut b h h')(hab:a≠b):Ko t h' a items:=by
 cases t
 ·exact Heap.IsList.extBut x hs hab
 ·exact Heap.IsTuple.extBut x hs hab
def Ko.push   {a items}(x:Ko t h a items)(o:Obj):Ko t (h.push o) a items:=by
 cases t
 ·exact Heap.IsList.push x o
 ·exact Heap.IsTuple.push x o
def Ko.lt   {a items}(x:Ko t h a items):a<h.objs.size:=by
 cases t
 ·obtain⟨_,e,_⟩:=x;exact Heap.lt_size e
 ·obtain⟨_,e,_⟩:=x;exact Heap.lt_size e
def HW.extBut   {a b l i}(x:HW t h a l i)(hs:Heap.ExtBut b h h')(hab:a≠b):HW t h' a l i:=by
 cases t
 ·exact Heap.IsListIter.extBut x hs hab
 ·exact Heap.IsTupleIter.extBut x hs hab
def HW.at   {a l i}(x:HW t h a l i)(e:∀o,h.get? a=some o->h'.get? a=some o):HW t h' a l i:=by
 cases t
 ·exact Heap.IsListIter.at x e
 ·exact Heap.IsTupleIter.at x e
def HW.ob   {a l i}(x:HW t h a l i):∃o,h.get? a=some o/\o.data=.fields #[.ref l,.int i 0]:=by
 cases t
 ·obtain⟨o,e,_,d⟩:=x;exact⟨o,e,d⟩
 ·obtain⟨o,e,_,d⟩:=x;exact⟨o,e,d⟩
section
variable {prog:Program} {w:World} {A:Around} {E:Value->Shared->Prop} {s:Shared}
def Hs_  {it l:Addr}    (hit:HW t s.heap it l i)(hl:Ko t s.heap l items)
  (hQ:∀x h',items[i]?=some x->HW t h' it l (i+1)->Heap.SameBut it s.heap h'->Q x {s with heap:=h' })
  (hE:items[i]?=none->A.handled=none/\∀h' e,Heap.ExtBut it s.heap h'->(∃o,h'.get? e=some o/\o.cls=.type "StopIteration")->E (.ref e) {s with heap:=h' }):wpAny (model prog w) A (Builtin.SmallTypes.nextOf (.ref it)) Q E s:=by
 cases t
 ·cases hx:items[i]? with
  |some x=>exact wpAny_nextOf_list_item hit hl hx fun h'=>hQ x h' hx
  |none=>exact wpAny_nextOf_list_end (hE hx).1 hit hl hx (hE hx).2
 ·exact Fx_ hit hl hQ hE
noncomputable def Lc_ (t:Bool):Value:=match t with|false=>.type "list_iterator" |true=>.type "tuple_iterator"
def HW.mk    (g:h.get? a=some {cls:=Lc_ t,data:=.fields #[.ref l,.int 0 0]}):HW t h a l 0:=by
 cases t
 ·exact⟨_,g,rfl,rfl⟩
 ·exact⟨_,g,rfl,rfl⟩
def TB   {items}  (hl:Ko t s.heap l items)
  (hQ:Q (.ref s.heap.objs.size) {s with heap:=s.heap.push {cls:=Lc_ t,data:=.fields #[.ref l,.int 0 0]} }):wpAny (model prog w) A (pyIter (.ref l)) Q E s:=by
 cases t
 ·exact wpAny_pyIter_list hl hQ
 ·exact wpAny_pyIter_tuple hl hQ
end
section
variable {prog:Program} {w:World} {A:Around} {E:Value->Shared->Prop} {s:Shared}
def Ht_   {items}  (hl:Ko t s.heap l items)(h:∀h',s.heap.push {cls:=Lc_ t,data:=.fields #[.ref l,.int 0 0]}=h'->Q (.ref s.heap.objs.size) {s with heap:=h' }):wpAny (model prog w) A (pyIter (.ref l)) Q E s:=TB hl (h _ rfl)
def zipN  {z TI TO i1 i2 l1 l2:Addr}     (D:ZipApart z TI TO i1 i2 l1 l2)(hz:IsZip s.heap z TI TO .none)(hTI:IsPair s.heap TI (.ref i1) (.ref i2))(hTO:IsPair s.heap TO a b)
  (h1:HW t1 s.heap i1 l1 k1) (h2:HW t2 s.heap i2 l2 k2) (hl1:Ko t1 s.heap l1 xs) (hl2:Ko t2 s.heap l2 ys)
  (hQ:∀x y h',xs[k1]?=some x->ys[k2]?=some y->IsZip h' z TI TO (rawInt s.heap.objs.size)->IsPair h' TO x y->HW t1 h' i1 l1 (k1+1)->HW t2 h' i2 l2 (k2+1)->IsPair h' s.heap.objs.size x y->h'.objs.size=s.heap.objs.size+1->(∀c o,c≠z->c≠TO->c≠i1->c≠i2->s.heap.get? c=some o->h'.get? c=some o)->Q (some (.ref s.heap.objs.size)) {s with heap:=h' })
  (hN:xs[k1]?=none\/ys[k2]?=none->A.handled=none/\∀h',(∀c o,c≠z->c≠TO->c≠i1->c≠i2->s.heap.get? c=some o->h'.get? c=some o)->Q none {s with heap:=h' }):wpAny (model prog w) A (pyNext (.ref z)) Q E s:=by
 have hT:s.TypeIs (.ref z) "zip" := ⟨_,hz,rfl⟩
 have e1:=F.slot_zip_next
 unfold pyNext
 refine wpAny_bind (wpAny_attempt (wpAny_callSpecial?_slot hT e1 (wpAny_call_entry e1 hT F.entry_zip_next ?_ (F.args_zip_next_1 _))))
 wp_walk using wpAny_setField_rec hz
 ·exact Nat.lt_of_sub_eq_succ rfl
 intro u0 g0 k0
 replace g0:IsZip u0 z TI TO .ellipsis:=g0
 have m1:HW t1 u0 i1 l1 k1:=h1.extBut k0.extBut D.i1z
 have m2:Ko t1 u0 l1 xs:=hl1.extBut k0.extBut D.l1z
 simp only[List.zipIdx_cons,List.zipIdx_nil,List.forIn_cons,List.forIn_nil]
 have stop:∀h' (e:Addr),(∀c o,c≠z->c≠TO->c≠i1->c≠i2->s.heap.get? c=some o->h'.get? c=some o)->IsZip h' z TI TO .ellipsis->(∃o,h'.get? e=some o/\o.cls=.type "StopIteration")->xs[k1]?=none\/ys[k2]?=none ->
   wpAny (model prog w) A.in1 (setField (.ref z) 0 .none) (fun _ s''=>wpAny (model prog w) A (do if <- isInstance (.ref e) (.type "StopIteration") then pure none else throw (.ref e)) Q E s'') (fun e s'=>wpAny (model prog w) A (do if <- isInstance e (.type "StopIteration") then pure none else throw e) Q E s') {s with heap:=h' }:=fun h' e kk hz' he hx=>by
  obtain⟨o,e2,e3⟩:=he
  have n:e≠z:=fun x=>by subst x;rw[hz']at e2;cases e2;simp at e3
  refine wpAny_setField_rec hz' (Nat.lt_of_sub_eq_succ rfl) fun h2 _ k2=>wpAny_bind (wpAny_isInstance (T := "StopIteration") (b:=true) ⟨o,k2.extBut e o n e2,e3⟩ isSubtype_stop (wpAny_pure ((hN hx).2 h2 fun c o n1 n2 n3 n4 q=>k2.extBut c o n1 (kk c o n1 n2 n3 n4 q))))
 wp_walk using wpAny_onRaise,Hs_ (A:=A.in1) (s:={s with heap:=u0}) m1 m2
 ·intro x u1 hx m3 k3
  have y0:IsPair u1 TO a b:=k3.extBut TO _ D.TOi1 (k0.extBut TO _ D.TOz hTO)
  wp_walk using wpAny_updateSeq_pair y0
  intro u2 y2 k4
  replace y2:IsPair u2 TO x b:=y2
  have kk:∀c o,c≠z->c≠TO->c≠i1->s.heap.get? c=some o->u2.get? c=some o:=fun c o n1 n2 n3 q=>k4.extBut c o n2 (k3.extBut c o n3 (k0.extBut c o n1 q))
  have g2:IsZip u2 z TI TO .ellipsis:=k4.extBut _ _ D.TOz.symm (k3.extBut _ _ D.i1z.symm g0)
  have m4:HW t2 u2 i2 l2 k2:=h2.at fun o q=>kk _ o D.i2z D.TOi2.symm D.i12.symm q
  have m5:Ko t2 u2 l2 ys:=((hl2.extBut k0.extBut D.l2z).extBut k3.extBut D.l2i1).extBut k4.extBut D.l2TO
  wp_walk using wpAny_onRaise,Hs_ (A:=A.in1) (s:={s with heap:=u2}) m4 m5
  ·intro y u3 hy m6 k5
   have y3:IsPair u3 TO x b:=k5.extBut TO _ D.TOi2 y2
   wp_walk using wpAny_updateSeq_pair y3
   intro u4 y4 k6
   replace y4:IsPair u4 TO x y:=y4
   have g4:IsZip u4 z TI TO .ellipsis:=k6.extBut _ _ D.TOz.symm (k5.extBut _ _ D.i2z.symm g2)
   have zz:u4.objs.size=s.heap.objs.size:=k6.1.trans (k5.1.trans (k4.1.trans (k3.1.trans k0.1)))
   wp_walk using newT
   ·exact (show 2<=sizeLine from by decide)
   intro u5 q5
   have kp:∀c o,u4.get? c=some o->u5.get? c=some o:=fun c o q=>by rw[<-q5];exact Heap.get?_push_of_some _ q
   have g5:=kp z _ g4
   have y5:IsPair u5 u4.objs.size x y:=by rw[<-q5];exact Heap.get?_push_size _ rfl
   have z5:u5.objs.size=u4.objs.size+1:=by rw[<-q5];exact Heap.size_push ..
   wp_walk using wpAny_setField_rec g5
   ·exact Nat.lt_of_sub_eq_succ rfl
   intro u6 g6 k7
   replace g6:IsZip u6 z TI TO (rawInt u4.objs.size):=g6
   wp_walk using wpAny_setField_rec g6
   ·exact Nat.lt_of_sub_eq_succ rfl
   intro u7 g7 k8
   replace g7:IsZip u7 z TI TO (rawInt u4.objs.size):=g7
   refine wpAny_pure ⟨_,rfl,wpAny_pure ?_⟩
   show Q (some (Value.ref u4.objs.size)) _
   have up:∀c o,c≠z->u4.get? c=some o->u7.get? c=some o:=fun c o n q=>k8.extBut c o n (k7.extBut c o n (kp c o q))
   have nz:u4.objs.size≠z:=Nat.ne_of_gt (Heap.lt_size g4)
   have y7:=k8.extBut _ _ nz (k7.extBut _ _ nz y5)
   rw[zz]at g7 y7 z5 ⊢
   exact hQ x y u7 hx hy g7 (up _ _ D.TOz y4) ((m3.at fun o q=>k6.extBut _ o D.TOi1.symm (k5.extBut _ o D.i12 (k4.extBut _ o D.TOi1.symm q))).at fun o q=>up _ o D.i1z q) ((m6.at fun o q=>k6.extBut _ o D.TOi2.symm q).at fun o q=>up _ o D.i2z q) y7 ((k8.1.trans k7.1).trans z5)
    fun c o n1 n2 n3 n4 q=>up c o n1 (k6.extBut c o n2 (k5.extBut c o n4 (kk c o n1 n2 n3 q)))
  ·refine fun hy=>⟨(hN (.inr hy)).1,fun u3 e k5 he=>?_⟩
   exact stop u3 e (fun c o n1 n2 n3 n4 q=>k5 c o n4 (kk c o n1 n2 n3 q)) (k5 z _ D.i2z.symm g2) he (.inr hy)
 ·refine fun hx=>⟨(hN (.inl hx)).1,fun u1 e k3 he=>?_⟩
  exact stop u1 e (fun c o n1 n2 n3 n4 q=>k3 c o n3 (k0.extBut c o n1 q)) (k3 z _ D.i1z.symm g0) he (.inl hx)
def Dk_     (hl1:Ko t1 s.heap l1 xs)(hl2:Ko t2 s.heap l2 ys)
  (h:∀h',IsZip h' (s.heap.objs.size+4) (s.heap.objs.size+2) (s.heap.objs.size+3) .none->IsPair h' (s.heap.objs.size+2) (.ref s.heap.objs.size) (.ref (s.heap.objs.size+1))->IsPair h' (s.heap.objs.size+3) .none .none->HW t1 h' s.heap.objs.size l1 0->HW t2 h' (s.heap.objs.size+1) l2 0->h'.objs.size=s.heap.objs.size+5->(∀c o,s.heap.get? c=some o->h'.get? c=some o)->Q (.ref (s.heap.objs.size+4)) {s with heap:=h' }):
  wpAny (model prog w) A (call (.type "zip") [.ref l1,.ref l2]) Q E s:=by
 have M:Meets (Builtin.«zip.__new__» ⟨[.type "zip",.ref l1,.ref l2],[]⟩) fun _ R t=>t=s/\∀h',IsZip h' (s.heap.objs.size+4) (s.heap.objs.size+2) (s.heap.objs.size+3) .none->IsPair h' (s.heap.objs.size+2) (.ref s.heap.objs.size) (.ref (s.heap.objs.size+1))->IsPair h' (s.heap.objs.size+3) .none .none->HW t1 h' s.heap.objs.size l1 0->HW t2 h' (s.heap.objs.size+1) l2 0->h'.objs.size=s.heap.objs.size+5->(∀c o,s.heap.get? c=some o->h'.get? c=some o)->R (.ok (.ret (.ref (s.heap.objs.size+4)))) {s with heap:=h' }:=.of_wp fun prog w A R t ⟨e,q⟩=>by
  subst e
  obtain⟨hp,g,d,tk,os⟩:=t
  have hsub:=sub_zip
  wp_walk using Ht_ hl1
  intro u1 q1
  obtain⟨a1,b1,c1⟩:=psh q1 rfl
  have hl2':Ko t2 u1 l2 ys:=by rw[<-q1];exact Ko.push hl2 _
  wp_walk using Ht_ (s:=⟨u1,g,d,tk,os⟩) hl2'
  intro u2 q2
  obtain⟨a2,b2,c2⟩:=psh q2 rfl
  wp_walk using newT
  ·exact (show 2<=sizeLine from by decide)
  intro u3 q3
  obtain⟨a3,b3,c3⟩:=psh q3 rfl
  wp_walk using newT
  ·exact (show 2<=sizeLine from by decide)
  intro u4 q4
  obtain⟨a4,b4,c4⟩:=psh q4 rfl
  wp_walk
  refine⟨_,rfl,?_⟩
  have Z1:u1.objs.size=hp.objs.size+1:=c1
  have Z2:u2.objs.size=hp.objs.size+2:=(show u2.objs.size=u1.objs.size+1 from c2).trans (by rw[Z1])
  have Z3:u3.objs.size=hp.objs.size+3:=(show u3.objs.size=u2.objs.size+1 from c3).trans (by rw[Z2])
  have Z4:u4.objs.size=hp.objs.size+4:=(show u4.objs.size=u3.objs.size+1 from c4).trans (by rw[Z3])
  obtain⟨a5,b5,c5⟩:=psh (rfl:u4.push {cls:=.type "zip",data:=.fields #[.none,.bool false,.bool false,.ref u2.objs.size,.ref u3.objs.size]}=_) rfl
  replace b1:u1.get? hp.objs.size=_:=b1
  replace b2:u2.get? u1.objs.size=_:=b2
  replace b3:IsPair u3 u2.objs.size (.ref hp.objs.size) (.ref u1.objs.size):=b3
  replace b4:IsPair u4 u3.objs.size .none .none:=b4
  show R (.ok (.ret (.ref u4.objs.size))) ⟨u4.push {cls:=.type "zip",data:=.fields #[.none,.bool false,.bool false,.ref u2.objs.size,.ref u3.objs.size]},g,d,tk,os⟩
  rw[Z1,Z2]at b3
  rw[Z1]at b2
  rw[Z3]at b4
  rw[Z2,Z3,Z4]at b5
  rw[Z2,Z3]at a5 c5 ⊢
  rw[Z4]at c5 ⊢
  exact q _ b5 (a5 _ _ (a4 _ _ b3)) (a5 _ _ b4) (HW.mk (a5 _ _ (a4 _ _ (a3 _ _ (a2 _ _ b1))))) (HW.mk (a5 _ _ (a4 _ _ (a3 _ _ b2)))) c5 fun c o x=>a5 _ _ (a4 _ _ (a3 _ _ (a2 _ _ (a1 _ _ x))))
 exact callType_new F.called_zip (by decide) (F.typeCall_zip_2 _ _) (F.newCall_zip_2 _ _) (fun obj=>F.args_object_init_3 obj _ _) F.entry_zip_new M ⟨rfl,fun h' a b c d e f g=>⟨⟨_,a,rfl⟩,h h' a b c d e f g⟩⟩
end
end PySem
namespace L2
open PySem PySem.Spec PyProof.Rows GW
noncomputable def SqB (K:PySem.W.Frag)(H:Hp)(t:Bool)(a:Addr)(xs:List V):Prop:=match t with|false=>SqL K H a xs|true=>SqT K H a xs
def Inv.seqB         (I:Inv X pins σ H s)(h:SqB X.K H t a xs):∃its:List Value,Vals xs its/\Ko t s.heap a its.toArray:=by
 cases t
 ·obtain⟨its,r,p,_⟩:=I.list h
  exact⟨its,r,p.isList⟩
 ·obtain⟨its,r,p,_⟩:=I.tuple h
  exact⟨its,r,p⟩
noncomputable def Itz2 (K:PySem.W.Frag)(t1 t2:Bool)(a b:Addr)(xs ys:List V):It:=⟨fun i H=>i<xs.length/\i<ys.length/\SqB K H t1 a xs/\SqB K H t2 b ys,fun i H x H'=>∃t u v,H t=none/\xs[i]?=some u/\ys[i]?=some v/\x=.ref t/\H'=upd H t (.tup [u,v]),fun i H=>(xs.length<=i\/ys.length<=i)/\SqB K H t1 a xs/\SqB K H t2 b ys⟩
def Hu_ {P:Program}{w:World}{K:PySem.W.Frag}{elts:List Expr}{x1}{tpos:Pos}{t1 t2:Bool}{a b z TI TO i1 i2:Addr}(D:ZipApart z TI TO i1 i2 a b)(xs ys:List V):Turn P w K (.Tuple elts x1 tpos) (Itz2 K t1 t2 a b xs ys) [z,TI,TO,i1,i2] z
  (fun i h=>IsZip h z TI TO .none/\IsPair h TI (.ref i1) (.ref i2)/\(∃c d,IsPair h TO c d)/\HW t1 h i1 a i/\HW t2 h i2 b i) where
 mem:=by simp
 obj:=fun i h st c hc=>by
  obtain⟨h1,h2,⟨u,v,h3⟩,h4',h5'⟩:=st
  obtain⟨o4,h4,d4⟩:=h4'.ob
  obtain⟨o5,h5,d5⟩:=h5'.ob
  simp only[List.mem_cons,List.not_mem_nil,or_false]at hc
  rcases hc with rfl|rfl|rfl|rfl|rfl
  ·exact⟨_,h1,fun v z=>by cases z⟩
  ·exact⟨_,h2,fun v z=>by cases z⟩
  ·exact⟨_,h3,fun v z=>by cases z⟩
  ·exact⟨o4,h4,fun v z=>by rw[d4]at z;cases z⟩
  ·exact⟨o5,h5,fun v z=>by rw[d5]at z;cases z⟩
 keep:=fun i h h' st k=>by
  obtain⟨h1,h2,⟨u,v,h3⟩,h4,h5⟩:=st
  exact⟨k z (by simp) _ h1,k TI (by simp) _ h2,⟨u,v,k TO (by simp) _ h3⟩,h4.at fun o q=>k i1 (by simp) o q,h5.at fun o q=>k i2 (by simp) o q⟩
 item:=by
  intro X hP hw hK hc i pins s σ H E I hf st hg
  subst hP hw hK
  obtain⟨hi,hj,hq,hq2⟩:=hg
  obtain⟨hz,hTI,⟨c,d,hTO⟩,h1,h2⟩:=st
  obtain⟨its,rv,p⟩:=I.seqB hq
  obtain⟨its2,rv2,p2⟩:=I.seqB hq2
  obtain⟨u,hu,ru⟩:=rv.get (i:=i) (x:=xs[i]) (by simp[hi])
  obtain⟨v,hv,rv'⟩:=rv2.get (i:=i) (x:=ys[i]) (by simp[hj])
  have l1:=rv.length
  have l2:=rv2.length
  refine zipN D hz hTI hTO h1 h2 p p2 (fun u' v' h' eu ev g1 g2 g3 g4 g5 gs gk=>?_) fun y=>by simp at y;lia
  obtain rfl:u=u':=by simpa [hu] using eu
  obtain rfl:v=v':=by simpa [hv] using ev
  have hTz:s.heap.objs.size≠z:=Nat.ne_of_gt (Heap.lt_size hz)
  refine⟨_,rfl,wpAny_letOwnedTupleGo_zip g1 fun h2' e1 hs2=>?_⟩
  have hk2:∀b o,b ∉ [z,TI,TO,i1,i2]->s.heap.get? b=some o->h2'.get? b=some o:=fun b o hb q=>by
   simp only[List.mem_cons,List.not_mem_nil,or_false,not_or]at hb
   exact (hs2.2 b hb.1).trans (gk b o hb.1 hb.2.2.1 hb.2.2.2.1 hb.2.2.2.2 q)
  obtain⟨un,hok⟩:=I.unL hk2 hf
  have hn:H s.heap.objs.size=none:=I.hok.fresh (Nat.le_refl _)
  have new:C4 X.prog X.w (upd H s.heap.objs.size (.tup [xs[i],ys[i]])) h2' s.heap.objs.size (.tup [xs[i],ys[i]]):=⟨by have:=Aq;simp;lia,[u,v],.cons ru (.cons rv' .nil),_,(hs2.2 _ hTz).trans g5,rfl,_,rfl⟩
  refine⟨.ref s.heap.objs.size,upd H s.heap.objs.size (.tup [xs[i],ys[i]]),I.call' (s':={s with heap:=h2' }) (ch:=[z,TI,TO,i1,i2]) rfl (un.track (Nat.le_refl _) hn) (hok.track hn new) I.bare (fun b hb=>?_),rfl,⟨_,_,_,hn,by simp[hi],by simp[hj],rfl,rfl⟩,?_,fun b hb=>?_⟩
  ·exact (hf b hb).ch
  ·refine⟨e1,(hs2.2 TI D.TIz).trans (gk TI _ D.TIz D.TITO D.TIi1 D.TIi2 hTI),⟨u,v,(hs2.2 TO D.TOz).trans g2⟩,g3.at fun o q=>(hs2.2 i1 D.i1z).trans q,g4.at fun o q=>(hs2.2 i2 D.i2z).trans q⟩
  ·have hb':=hf b hb
   have:∃o,s.heap.get? b=some o:=by
    simp only[List.mem_cons,List.not_mem_nil,or_false]at hb
    rcases hb with rfl|rfl|rfl|rfl|rfl
    ·exact⟨_,hz⟩
    ·exact⟨_,hTI⟩
    ·exact⟨_,hTO⟩
    ·obtain⟨o,ho,_⟩:=h1.ob;exact⟨o,ho⟩
    ·obtain⟨o,ho,_⟩:=h2.ob;exact⟨o,ho⟩
   obtain⟨o,ho⟩:=this
   rw[Ag (Nat.ne_of_lt (Heap.lt_size ho))]
   exact hb'.1
 done:=by
  intro X hP hw hK hc i pins s σ H E I hf st hg
  subst hP hw hK
  obtain⟨hi,hq,hq2⟩:=hg
  obtain⟨hz,hTI,⟨c,d,hTO⟩,h1,h2⟩:=st
  obtain⟨its,rv,p⟩:=I.seqB hq
  obtain⟨its2,rv2,p2⟩:=I.seqB hq2
  have l1:=rv.length
  have l2:=rv2.length
  refine zipN D hz hTI hTO h1 h2 p p2 (fun u v h' eu ev=>by have a:=(Array.getElem?_eq_some_iff.mp eu).1;have b:=(Array.getElem?_eq_some_iff.mp ev).1;simp at a b;lia) fun _=>⟨I.ok.hd hc,fun h' gk=>⟨rfl,?_⟩⟩
  obtain⟨un,hok⟩:=I.unL (h':=h') (fun b o hb q=>by
   simp only[List.mem_cons,List.not_mem_nil,or_false,not_or]at hb
   exact gk b o hb.1 hb.2.2.1 hb.2.2.2.1 hb.2.2.2.2 q) hf
  exact I.call' (s':={s with heap:=h' }) (ch:=[z,TI,TO,i1,i2]) rfl un hok I.bare fun b hb=>(hf b hb).ch
 self:=fun A i s Q E st h=>wpAny_pyIter_zip st.1 h
noncomputable def MO_ (K:PySem.W.Frag)(ta:TA):TI:=fun σ H R=>ta σ H fun vs H1=>∃a b xs ys t1 t2,vs=[.ref a,.ref b]/\SqB K H1 t1 a xs/\SqB K H1 t2 b ys/\R (Itz2 K t1 t2 a b xs ys) H1
theorem Hv_ {K:PySem.W.Frag}     : MO_ K ta σ H Z=ta σ H fun vs H1=>∃a b xs ys t1 t2,vs=[.ref a,.ref b]/\SqB K H1 t1 a xs/\SqB K H1 t2 b ys/\Z (Itz2 K t1 t2 a b xs ys) H1:=rfl
def Ld_   {x1}     (hg:Gl X "zip")(hm:X.mg "zip"=none)(ha:PA X [e,f] ta)(hs:starEach [e,f] X.env=[(false,eval e X.env),(false,eval f X.env)]:=by rfl)(hs2:starEach [f] X.env=[(false,eval f X.env)]:=by rfl):PI X (.Tuple elts x1 tpos) (.Call (.Name "zip" p) [e,f] [] pos) (MO_ X.K ta):=by
 intro pins s σ H R I h
 refine Call_ (U1 I hg hm boot_zip (PyProof.Rows.callWith_type1 (thn (ha pos pins s σ H _ I h) fun us s1 ⟨vs,H1,I1,r1,q1⟩=>?_) (by rw[hs,hs2]) (by rw[hs2];rfl)))
 obtain⟨a,b,xs,ys,t1,t2,ev,hq,hq2,q⟩:=q1
 subst ev
 cases r1 with
 |cons r rr=>cases rr with
  |cons r' rr=>
   cases rr
   cases r
   cases r'
   obtain⟨its,rv,pl⟩:=I1.seqB hq
   obtain⟨its2,rv2,pl2⟩:=I1.seqB hq2
   refine Dk_ pl pl2 fun h' hz hTI hTO hi1 hi2 hsz hk=>?_
   refine wpAny_pyIter_zip (s:={s1 with heap:=h' }) hz ?_
   have I2:Inv X pins σ H1 {s1 with heap:=h' }:=I1.kept (t':=s1.toks) hk
   refine⟨_,_,_,_,H1,rfl,I2,Hu_ (zipApart_new pl.lt pl2.lt) xs ys,⟨hz,hTI,⟨_,_,hTO⟩,hi1,hi2⟩,fun c hc=>?_,q⟩
   have hle:s1.heap.objs.size<=c:=by
    simp only[List.mem_cons,List.not_mem_nil,or_false]at hc
    rcases hc with rfl|rfl|rfl|rfl|rfl
    ·exact Nat.le_add_right _ 4
    ·exact Nat.le_add_right _ 2
    ·exact Nat.le_add_right _ 3
    ·exact Nat.le_refl _
    ·exact Nat.le_add_right _ 1
   exact I1.fpOk hle (I1.hok.fresh hle)
def MP_ {K:PySem.W.Frag}           (n:Nat)(hn1:n<=xs.length)(hn2:n<=ys.length)(hn3:xs.length=n\/ys.length=n)(Pv:Nat->List V->St->Hp->Prop)(h0:Pv 0 [] (cp.st σ) H)(hz:n<sizeLine)
  (hl:∀i zs σ H,i<=n->Pv i zs σ H->SqB K H t1 a xs/\SqB K H t2 b ys/\zs.length<=i)
  (hs:∀i u v zs σ H t,i<n->xs[i]?=some u->ys[i]?=some v->Pv i zs σ H->H t=none->g (.ref t) σ (upd H t (.tup [u,v])) fun σ2 H2=>tc σ2 H2 fun b H3=>if b=true then te σ2 H3 fun v H4=>Pv (i+1) (zs++[v]) σ2 H4 else Pv (i+1) zs σ2 H3)
  (hd:∀zs σ H,Pv n zs σ H->∀D,H D=none->Q (.ref D) (upd H D (.lst zs))):Fv_ (Itz2 K t1 t2 a b xs ys) cp g tc te σ H Q:=by
 refine⟨fun i m zs σ H=>m=n-i/\i<=n/\Pv i zs σ H,⟨n,by simp,Nat.zero_le _,h0⟩,?_⟩
 rintro i m zs σ H ⟨rfl,hi,p⟩
 obtain⟨q1,q2,ly⟩:=hl i zs σ H hi p
 refine⟨by lia,?_⟩
 by_cases hlt:i<n
 ·refine .inr ⟨⟨by lia,by lia,q1,q2⟩,Pv (i+1),fun zs' σ' H' p'=>⟨n-(i+1),by lia,rfl,hlt,p'⟩,fun x H' y=>?_⟩
  obtain⟨t,u,v,e1,e2,e3,rfl,rfl⟩:=y
  exact hs i u v zs σ H t hlt e2 e3 p e1
 ·have e:i=n:=by lia
  subst e
  exact .inl ⟨⟨by lia,q1,q2⟩,hd zs σ H p⟩
end L2
namespace Nest
noncomputable def sl (row:List Int)(b i:Nat):List Int:=(row.take i).drop b
noncomputable def outF (p e:Int)(s:List Int×Int)(x:Int):List Int×Int:=if x=e then (s.1,s.2-1) else (if s.2=0 then s.1++[x] else s.1,if p<=x then s.2+1 else s.2)
noncomputable def outS (p e:Int)(l:List Int):List Int×Int:=l.foldl (outF p e) ([],0)
noncomputable def outW (p e:Int)(l:List Int):List Int:=(outS p e l).1
noncomputable def wd (p e:Int)(row:List Int)(i a:Nat):List Int:=outW p e (sl row (a+1) i)
end Nest
namespace L2
open PySem PySem.Spec PyProof.Rows GW
def Le_  {K:PySem.W.Frag}      (hK:X.K=K)(hc:X.calm=true)(h:PGs X es t)
  (hn:(assignEach es X.env).length=n:=by rfl) (hst:(assignEach es X.env).findIdx? (·.1)=none:=by rfl):PG X (.Tuple es k pos) (gTup K n t):=by
 subst hK
 exact Ep_ hc h hn hst
end L2
namespace HT
open PySem PySem.Spec PyProof.Rows L2
section
variable {prog:Program} {w:World} {A:Around} {E:Value->Shared->Prop} {s:Shared}
def getItem_tuple_whole {t sl:Addr}   {lo hi:Option Int}  (ht:IsTup s.heap t items)(hs:s.heap.IsSliceOf sl vl vu .none)(pl:IsPart vl lo)(pu:IsPart vu hi)
  (hw:sIx items.size 0 lo=0/\sIx items.size items.size hi=items.size) (h:Q (.ref t) s):wpAny (model prog w) A (getItem (.ref t) (.ref sl)) Q E s:=by
 obtain⟨os,hos,hcs,hds⟩:=id hs
 have hTs:s.TypeIs (.ref sl) "slice" := ⟨os,hos,hcs⟩
 unfold getItem
 try with_reducible refine wpAny_holding ?_
 first|refine wpAny_bind (wpAny_pure ?_)|skip
 refine wpAny_bind (wpAny_sequenceKey ht.typeIs (by decide) ?_)
 refine wpAny_bind (wpAny_callSpecial?_slot (name:=Str.ofString "__getitem__") ht.typeIs PyProof.Rows.slot_tuple_getitem
  (wpAny_call_entry PyProof.Rows.slot_tuple_getitem ht.typeIs entry_tuple_getitem ?_ (args_tuple_getitem _ _)))
 show wpAny _ _ (Builtin.Tuple.tupleItemsOf (.ref t) >>= _) _ _ s
 refine wpAny_bind (tupleItemsOf_ ht ?_)
 refine wpAny_bind (wpAny_typeOf hTs ?_)
 rw[if_pos (by decide)]
 refine wpAny_bind (Lr hs pl pu ?_)
 rw[hw.1,hw.2]
 show wpAny _ _ (if ((((0:Nat):Int)==0&&(1:Int)==1&&(items.size-0)==items.size)=true) then _ else _) _ _ s
 rw[if_pos (by simp)]
 refine wpAny_bind ?_
 unfold Builtin.Tuple.tupleIsExact
 refine wpAny_bind (wpAny_typeOf ht.typeIs (wpAny_pure ?_))
 rw[if_pos (by decide)]
 refine wpAny_bind (wpAny_rule ?_)
 exact wpAny_pure ⟨_,rfl,wpAny_pure h⟩
end
end HT
namespace L2
open PySem PySem.Spec PyProof.Rows
def PU  {K:PySem.W.Frag}(h:X.K=K):OpR X (binaryOp .Add) (Kn K):=by subst h;exact Oe
end L2
namespace L2
open PySem PySem.W PySem.Spec PySem.Calls PyProof.Rows
noncomputable def DA (K:PySem.W.Frag)(H:Hp)(xs:List V)(ws:List (List Int)):Prop:=xs.length=ws.length/\∀(i:Nat) (w:List Int),ws[i]?=some w->∃t,xs[i]?=some (.ref t)/\H t=some (.lst (w.map V.int))
def DA.at {K:PySem.W.Frag}{H:Hp}{xs:List V}{ws:List (List Int)}(h:DA K H xs ws){i:Nat}{x:V}(hx:xs[i]?=some x):∃t w,ws[i]?=some w/\x=.ref t/\H t=some (.lst (w.map V.int)):=by
 have hi:i<ws.length:=by rw[<-h.1];exact (List.getElem?_eq_some_iff.mp hx).1
 obtain⟨t,a,b⟩:=h.2 i ws[i] (by simp[hi])
 rw[hx]at a
 exact⟨t,ws[i],by simp[hi],Option.some.inj a,b⟩
noncomputable def rInL (K:PySem.W.Frag)(neg:Bool):R2:=fun x y H Q=>∃p t xs w ws,y=.ref p/\x=.ref t/\SqL K H p xs/\DA K H xs ws/\SqL K H t (w.map V.int)/\Q (.bl (if neg then !decide (w∈ws) else decide (w∈ws))) H
theorem MQ_ {K:PySem.W.Frag}     : rInL K neg x y H Q=∃p t xs w ws,y=.ref p/\x=.ref t/\SqL K H p xs/\DA K H xs ws/\SqL K H t (w.map V.int)/\Q (.bl (if neg then !decide (w∈ws) else decide (w∈ws))) H:=rfl
def EG_          (hu:X.A.units+8<cLine)(I:Inv X pins σ H s)(hp:SqL X.K H p xs)(hw:DA X.K H xs ws)(ht:SqL X.K H t (w.map V.int)):
  ∃(its:Array Value) (e:Value->Bool),s.heap.IsList p its/\(∀y,y∈its->SeqAt.EqAt X.A.in1 s y (.ref t) (e y))/\its.any e=decide (w∈ws):=by
 obtain⟨its,r,pl,_⟩:=I.list hp
 have hl:=r.length
 let e:Value->Bool:=fun y => @decide (∃(i:Nat) (a:Addr),y=.ref a/\xs[i]?=some (.ref a)/\ws[i]?=some w) (Classical.propDecidable _)
 have ee:∀(i:Nat) (a:Addr) (v:List Int),xs[i]?=some (.ref a)->ws[i]?=some v->e (.ref a)=decide (v=w):=fun i a v hx hv=>by
  obtain⟨a',a1,a2⟩:=hw.2 i v hv
  rw[hx]at a1
  cases a1
  rw[Bool.eq_iff_iff]
  show @decide _ (Classical.propDecidable _)=true↔_
  rw[@decide_eq_true_iff _ (Classical.propDecidable _),decide_eq_true_eq]
  constructor
  ·rintro⟨j,b,hb,hxj,hwj⟩
   cases hb
   obtain⟨b',b1,b2⟩:=hw.2 j w hwj
   rw[hxj]at b1
   cases b1
   rw[a2]at b2
   have:=Option.some.inj b2
   injection this with this
   exact (List.map_inj_right (fun x y z=>V.int.inj z)).mp this
  ·rintro rfl
   exact⟨i,a,rfl,hx,hv⟩
 refine⟨its.toArray,e,pl.isList,fun y hy=>?_,?_⟩
 ·have hy':y∈its:=by simpa using hy
  obtain⟨i,hi,ei⟩:=List.getElem_of_mem hy'
  have hix:i<xs.length:=by lia
  obtain⟨u,hu',ru⟩:=r.get (i:=i) (x:=xs[i]) (by simp[hix])
  rw[List.getElem?_eq_getElem hi,ei]at hu'
  cases hu'
  obtain⟨a,v,e1,e2,e3⟩:=hw.at (i:=i) (x:=xs[i]) (by simp[hix])
  rw[e2]at ru
  cases ru
  rw[ee i a v (by rw[List.getElem?_eq_getElem hix,e2]) e1]
  exact (EqD.at (x:=V.ref a) (y:=V.ref t) I 2 X.A.in1 (by rw[in1_units];lia) rfl rfl (EqD.ints (xs:=v) (ys:=w) (.inl ⟨SqL.of e3,ht⟩) 1)).1
 ·rw[Bool.eq_iff_iff,decide_eq_true_eq]
  rw[show its.toArray.any e=its.any e by simp,List.any_eq_true]
  constructor
  ·rintro⟨y,hy,hey⟩
   obtain⟨j,b,_,_,hwj⟩:=(@decide_eq_true_iff _ (Classical.propDecidable _)).mp hey
   exact List.mem_of_getElem? hwj
  ·intro hm
   obtain⟨i,hi,ei⟩:=List.getElem_of_mem hm
   obtain⟨a,a1,a2⟩:=hw.2 i w (by rw[List.getElem?_eq_getElem hi,ei])
   obtain⟨u,hu',ru⟩:=r.get a1
   cases ru
   refine⟨.ref a,List.mem_of_getElem? hu',?_⟩
   rw[ee i a w a1 (by rw[List.getElem?_eq_getElem hi,ei])]
   simp
def Km_  (hu:X.A.units+8<cLine):OpR X (compareOp .In) (rInL X.K false):=by
 intro pins s σ H x y v u Q I rx ry h
 obtain⟨p,t,xs,w,ws,rfl,rfl,hp,hw,ht,q⟩:=h
 cases ry
 cases rx
 obtain⟨its,e,h1,h2,h3⟩:=EG_ hu I hp hw ht
 refine SeqAt.in_listAt e h1 h2 ⟨.bl _,H,I,rfl,?_⟩
 rw[h3]
 exact q
def Hw_  (hu:X.A.units+8<cLine):OpR X (compareOp .NotIn) (rInL X.K true):=by
 intro pins s σ H x y v u Q I rx ry h
 obtain⟨p,t,xs,w,ws,rfl,rfl,hp,hw,ht,q⟩:=h
 cases ry
 cases rx
 obtain⟨its,e,h1,h2,h3⟩:=EG_ hu I hp hw ht
 refine SeqAt.notIn_listAt e h1 h2 ⟨.bl _,H,I,rfl,?_⟩
 rw[h3]
 exact q
noncomputable def EH_ (K:PySem.W.Frag):V->List V->Hp->VK->Prop:=fun x vs H Q=>∃l xs t w ws,x=.ref l/\vs=[.ref t]/\H l=some (.lst xs)/\DA K H xs ws/\SqL K H t (w.map V.int)/\w∈ws/\xs.length<1000000/\Q (.int (ws.idxOf w:Nat)) H
theorem Be_ {K:PySem.W.Frag}     : EH_ K x vs H Q=∃l xs t w ws,x=.ref l/\vs=[.ref t]/\H l=some (.lst xs)/\DA K H xs ws/\SqL K H t (w.map V.int)/\w∈ws/\xs.length<1000000/\Q (.int (ws.idxOf w:Nat)) H:=rfl
def EI_:∀{ws:List (List Int)} {m:Nat} {w:List Int},ws[m]?=some w->ws.idxOf w<=m
 |[],m,w,h=>by simp at h
 |v::ws,m,w,h=>by
  rw[List.idxOf_cons]
  cases m with
  |zero=>
   have:v=w:=by simpa using h
   simp[this]
  |succ m=>
   have:=EI_ (ws:=ws) (m:=m) (w:=w) (by simpa using h)
   cases e:(v==w) with
   |true=>exact Nat.zero_le _
   |false=>exact Nat.succ_le_succ this
def FB_  (hu:X.A.units+8<cLine):MtM X "list.index" (EH_ X.K):=by
 intro pins s σ H x vs v us Q I rx rv h
 obtain⟨l,xs,t,w,ws,rfl,rfl,hH,hw,ht,hmem,hlt,q⟩:=h
 cases rx
 obtain⟨u,rfl,ry⟩:=vals1 rv
 cases ry
 obtain⟨zz,its,n,r,hl,e⟩:=I.lstM hH
 let ev:Value->Bool:=fun y => @decide (∃(i:Nat) (a:Addr),y=.ref a/\xs[i]?=some (.ref a)/\ws[i]?=some w) (Classical.propDecidable _)
 have ee:∀(i:Nat) (a:Addr) (v:List Int),xs[i]?=some (.ref a)->ws[i]?=some v->ev (.ref a)=decide (v=w):=fun i a v hx hv=>by
  obtain⟨a',a1,a2⟩:=hw.2 i v hv
  rw[hx]at a1
  cases a1
  rw[Bool.eq_iff_iff]
  show @decide _ (Classical.propDecidable _)=true↔_
  rw[@decide_eq_true_iff _ (Classical.propDecidable _),decide_eq_true_eq]
  constructor
  ·rintro⟨j,b,hb,hxj,hwj⟩
   cases hb
   obtain⟨b',b1,b2⟩:=hw.2 j w hwj
   rw[hxj]at b1
   cases b1
   rw[a2]at b2
   have:=Option.some.inj b2
   injection this with this
   exact (List.map_inj_right (fun x y z=>V.int.inj z)).mp this
  ·rintro rfl
   exact⟨i,a,rfl,hx,hv⟩
 have hlen:xs.length=ws.length:=hw.1
 have hrl:xs.length=its.length:=r.length
 have get:∀(m:Nat) (hm:m<its.toArray.size),∃(a:Addr) (v:List Int),its.toArray[m]=.ref a/\xs[m]?=some (.ref a)/\ws[m]?=some v/\H a=some (.lst (v.map V.int)):=fun m hm=>by
  have hm':m<xs.length:=by rw[List.size_toArray]at hm;lia
  obtain⟨a,v,e1,e2,e3⟩:=hw.at (i:=m) (x:=xs[m]) (by simp[hm'])
  have hx:xs[m]?=some (.ref a):=by rw[List.getElem?_eq_getElem hm',e2]
  obtain⟨w',f1,f2⟩:=r.get hx
  have e4:its.toArray[m]=w':=by
   have:its[m]?=some its.toArray[m]:=by simp at hm;simp[hm]
   rw[f1]at this
   exact (Option.some.inj this).symm
  cases f2
  exact⟨a,v,e4,hx,e1,e3⟩
 have hj:ws.idxOf w<ws.length:=List.idxOf_lt_length_of_mem hmem
 have hjs:ws.idxOf w<its.toArray.size:=by rw[List.size_toArray];lia
 refine call_meets F.slot_list_index ⟨_,e,rfl⟩ F.entry_list_index (F.args_list_index_2 _ _) (SeqAt.list_indexAt l its.toArray n none #[] (.ref t) ev (ws.idxOf w) hjs s!"" ?_ fun m hm hmj=>?_) ⟨e,fun y hy=>?_,?_⟩
 ·obtain⟨a,v,e1,e2,e3,e4⟩:=get _ hjs
  rw[e1,ee _ a v e2 e3]
  have:ws[ws.idxOf w]?=some w:=by rw[List.getElem?_eq_getElem hj,List.getElem_idxOf]
  rw[this]at e3
  cases e3
  simp
 ·obtain⟨a,v,e1,e2,e3,e4⟩:=get m hm
  rw[e1,ee _ a v e2 e3,decide_eq_false_iff_not]
  intro z
  have hm':m<ws.length:=by lia
  have:ws[m]=w:=by rw[List.getElem?_eq_getElem hm']at e3;rw[Option.some.inj e3];exact z
  have h2:=EI_ (ws:=ws) (m:=m) (w:=w) (by rw[List.getElem?_eq_getElem hm',this])
  lia
 ·obtain⟨m,hm,em⟩:=List.getElem_of_mem (show y∈its by simpa using hy)
  obtain⟨a,v,e1,e2,e3,e4⟩:=get m (by rw[List.size_toArray];exact hm)
  have:y=.ref a:=by rw[<-em,<-e1];simp
  rw[this,ee m a v e2 e3]
  exact (EqD.at (x:=V.ref a) (y:=V.ref t) I 2 _ (by rw[in1_units];lia) rfl rfl (EqD.ints (xs:=v) (ys:=w) (.inl ⟨SqL.of e4,ht⟩) 1)).1
 ·exact⟨.int (ws.idxOf w:Nat),H,I.tok _,⟨_,rfl⟩,q⟩
end L2
set_option maxHeartbeats 1000000
set_option maxHeartbeats 4000000
namespace L2
section
variable {α:Type} [DecidableEq α]
noncomputable def ins1 (acc:List α)(x:α):List α:=if x∈acc then acc else acc++[x]
noncomputable def Lf_ (acc row:List α):List α:=row.foldl ins1 acc
noncomputable def Hx_ (row:List α):List α:=Lf_ [] row
noncomputable def num (row:List α):List Int:=row.map fun x=>((Hx_ row).idxOf x:Int)
noncomputable def ncl (row:List α):Nat:=(Hx_ row).length
end
noncomputable def rowB (n:Nat)(b:List Int->Nat->Int)(w:List Int):List Int:=(List.range n).map (b w)
noncomputable abbrev StC:=List (List Int)×List Int
noncomputable def Nx_ (n:Nat)(b:List Int->Nat->Int)(w:List Int)(st:StC)(x:Nat):StC:=if ncl st.2<ncl (st.2.zip (rowB n b ((x:Int)::w))) then (st.1++[(x:Int)::w],num (st.2.zip (rowB n b ((x:Int)::w)))) else st
noncomputable def MR_ (n:Nat)(b:List Int->Nat->Int)(w:List Int)(L:Nat)(st:StC):StC:=(List.range L).foldl (Nx_ n b w) st
noncomputable def Kn_ (n:Nat)(b:List Int->Nat->Int)(L:Nat):Nat->Nat->StC->StC
 |0,_,st=>st
 |f+1,k,st=>if k<st.1.length then Kn_ n b L f (k+1) (MR_ n b (st.1.getD k []) L st) else st
section
variable {n L:Nat} {b:List Int->Nat->Int} {w:List Int} {st:StC}
noncomputable def wcOf (n L:Nat)(b:List Int->Nat->Int):StC:=Kn_ n b L 41 0 ([[]],num (rowB n b []))
end
end L2
namespace L2
open GW GB
noncomputable def bW (marks:List Int)(ways:List (List Int))(w:List Int)(r:Nat):Int:=marks.getD (Nv_ ways (r:Int) w).toNat 0
noncomputable def cf (c:List Int)(r:Int):Int:=c.getD r.toNat 0
noncomputable def hm (c R:List Int)(r:Int):Int:=(((Hx_ (R.map (cf c))).idxOf (cf c r):Nat):Int)
noncomputable def MS_ (c acc:List Int)(r:Int):List Int:=if cf c r∈acc.map (cf c) then acc else acc++[r]
noncomputable def FR (c R:List Int):List Int:=R.foldl (MS_ c) []
noncomputable def hrow (c R:List Int)(ways:List (List Int))(r:Int):List Int:=(ways.getD r.toNat []).map (hm c R)
noncomputable def cOf (L:Nat)(marks:List Int)(ways:List (List Int)):List Int:=(wcOf marks.length L (bW marks ways)).2
noncomputable def rOf (ways:List (List Int)):List Int:=(Hj_ ways).map (·.1)
noncomputable def sF (L:Nat)(marks:List Int)(ways:List (List Int)):List Int:=FR (cOf L marks ways) (rOf ways)
noncomputable def hO (L:Nat)(marks:List Int)(ways:List (List Int))(r:Int):Int:=hm (cOf L marks ways) (rOf ways) r
section
variable {L:Nat} {marks:List Int} {ways:List (List Int)}
noncomputable def wi (ways:List (List Int))(r:Int):List Int:=(((Hj_ ways).find? fun e=>decide (e.1=r)).map (·.2)).getD []
end
end L2
set_option maxHeartbeats 1000000
namespace L2
open PySem PySem.Spec PyProof.Rows
noncomputable def nt (n:Int):Str:=Str.ofString (toString n)
end L2
set_option maxHeartbeats 4000000
namespace L2
open PySem PySem.Spec PyProof.Rows
def DB  : Oj X (.type "tuple") (fun xs H Q=>∃p ys,xs=[.ref p]/\((SqL X.K H p ys/\∀l,H l=none->Q (.ref l) (upd H l (.tup ys)))\/False)):=fun pins s σ H xs us Q I r h=>by
 obtain⟨p,ys,e,h|h⟩:=h
 ·exact X6 pins s σ H xs us Q I r ⟨p,ys,e,.inl h⟩
 ·exact h.elim
def len1 {α:Type}{us:List α}(h:us.length=1):∃a,us=[a]:=by match us,h with|[a],_=>exact⟨a,rfl⟩
def len2 {α:Type}{us:List α}(h:us.length=2):∃a b,us=[a,b]:=by match us,h with|[a,b],_=>exact⟨a,b,rfl⟩
def len3 {α:Type}{us:List α}(h:us.length=3):∃a b c,us=[a,b,c]:=by match us,h with|[a,b,c],_=>exact⟨a,b,c,rfl⟩
def len4 {α:Type}{us:List α}(h:us.length=4):∃a b c d,us=[a,b,c,d]:=by match us,h with|[a,b,c,d],_=>exact⟨a,b,c,d,rfl⟩
def len5 {α:Type}{us:List α}(h:us.length=5):∃a b c d e,us=[a,b,c,d,e]:=by match us,h with|[a,b,c,d,e],_=>exact⟨a,b,c,d,e,rfl⟩
def len6 {α:Type}{us:List α}(h:us.length=6):∃a b c d e f,us=[a,b,c,d,e,f]:=by match us,h with|[a,b,c,d,e,f],_=>exact⟨a,b,c,d,e,f,rfl⟩
end L2
set_option maxHeartbeats 1000000
set_option maxHeartbeats 4000000
namespace PySem.W
open PySem PySem.Calls PyProof.Rows PyProof.V PySem.Spec
end PySem.W
namespace L2
open PySem PySem.W PySem.Spec PySem.Calls PyProof.Rows
structure CMeth (K:PySem.W.Frag)(C:Addr)(m:Str)(f:Addr):Prop where
 sg:PySem.W.specialIn K (.ref C) "__getattribute__"=some (some (.builtin "type.__getattribute__"))
 rd:PySem.W.readsIn K C (.type "type")=true
 fc:PySem.W.findCls K (.ref C) (.type "type") m=some (.val (.ref f))
 kp:PySem.W.keepIn K (.ref f)=true
section
variable {X:Cx} {CX:CXT} {k:Nat} {f C:Addr} {fd:FuncData} {ps:List Str} {sp:Sp} {dvs:List V} {ds:List Value} {E:XK} {x m:Str} {np apos pos:Pos} {e:Expr} {es:List Expr} {t:TA}
def MT_  (hg:Gl X x)(hmx:X.mg x=some (.ref C))(hm:CMeth X.K C m f)(F:FnOk X.prog X.w X.K X.mg X.base CX k f fd ps sp)(hr:Room k X.A)(hb:Au X.K fd ps ds)(hd:Vals dvs ds)(hx:Mn CX X E)(ha:PA X (e::es) t)
  (hdb:(x==("__debug__" : Str))=false:=by decide) (hst:starEach (e::es) X.env=(false,eval e X.env)::starEach es X.env:=by rfl) (hpl:(backTo pos (starEach es X.env)).any (·.1)=false:=by rfl)
  (ht:eval (.Call (.Attribute (.Name x np) m apos) (e::es) [] pos) X.env=(do
   let ov <- eval (.Name x np) X.env
   standAt apos.atName
   let (f,first) <- holding [ov] (getMethod ov m pl)
   callWith pos f first (backTo pos (starEach (e::es) X.env)) (backToKw pos (keywordEach [] X.env))):=by rfl):
  PE X (.Call (.Attribute (.Name x np) m apos) (e::es) [] pos) (KP_ sp dvs E t):=by
 intro pins s σ H Q I h
 refine PySem.W.methodCall_KW (pl:=pl) (U0 I hg hmx ?_ hdb) ht
 refine PySem.W.method_cls I.kIn hm.sg (PySem.W.cls_value I.kIn hm.rd hm.fc rfl ?_)
 refine PySem.W.callWith_K (first:=[]) (h₀:=X.base) I.ok.mod.kin hm.kp (thn (ha pos pins _ σ H _ (I.tok _) h) fun us s2 ⟨vs,H2,I2,r,q2⟩=>⟨I2.kIn,?_⟩) hst hpl
 exact AP_ F hr hb hd hx I2 r q2
end
end L2
namespace L2
open PySem PySem.W PySem.Spec PySem.Calls PyProof.Rows
noncomputable def vD:Option (Option V)->(V->Prop)->Prop
 |some (some v),q=>q v
 |_,_=>False
theorem Hy_   : vD (some (some v)) q=q v:=rfl
def Ny_   (h:vD o q):∃v,o=some (some v)/\q v:=by
 match o,h with
 |some (some v),h=>exact⟨v,rfl,h⟩
noncomputable def MU_ (i:Nat):TE:=fun σ H Q=>vD σ[i]? fun v=>Q v H
theorem Ko_     : MU_ i σ H Q=vD σ[i]? fun v=>Q v H:=rfl
def pvD  (i:Nat)   (hN:X.N[i]?=some x:=by rfl)(hv:Vis X.env.scope x:=by first|exact Or.inl rfl|exact Or.inr (Or.inl rfl)|exact Or.inr (Or.inr rfl))(hd:(x==("__debug__" : Str))=false:=by decide)
  (hcd:(x==("__classdict__" : Str))=false:=by decide):PE X (.Name x pos) (MU_ i):=fun pins s σ H Q I h=>pv i hN hv hd hcd pins s σ H Q I (Ny_ h)
noncomputable def iD:V->V->(Int->Int->Prop)->Prop
 |.int i,.int j,q=>q i j
 |x,y,q=>∃i j,x=.int i/\y=.int j/\q i j
theorem Kp_   : iD (.int i) (.int j) q=q i j:=rfl
def Lg_   : iD x y q=∃i j,x=.int i/\y=.int j/\q i j:=by
 cases x<;>cases y<;>first|rfl|(simp[iD])
noncomputable def rID (C:Int->Int->Prop)(g:Int->Int->V):R2:=fun x y H Q=>iD x y fun i j=>C i j/\Q (g i j) H
noncomputable def rI0D (g:Int->Int->V):R2:=fun x y H Q=>iD x y fun i j=>Q (g i j) H
theorem r_ID      : rID C f x y H Q=iD x y fun i j=>C i j/\Q (f i j) H:=rfl
theorem MV_     : rI0D f x y H Q=iD x y fun i j=>Q (f i j) H:=rfl
def MW_   : rID C g=rI C g:=by
 funext x y H Q;exact Lg_
def Lh_  : rI0D g=rI0 g:=by
 funext x y H Q;exact Lg_
def opD     (h:OpR X f (rI C g)):OpR X f (rID C g):=by rw[MW_];exact h
def opD0    (h:OpR X f (rI0 g)):OpR X f (rI0D g):=by rw[Lh_];exact h
noncomputable def bD:V->(Bool->Prop)->Prop
 |.bl c,q=>q c
 |x,q=>∃c,x=.bl c/\q c
theorem MX_   : bD (.bl c) q=q c:=rfl
def MY_   : bD x q=∃c,x=.bl c/\q c:=by
 cases x<;>first|rfl|(simp[bD])
noncomputable def tBD (t:TE):TT:=fun σ H Q=>t σ H fun x H1=>bD x fun c=>Q c H1
theorem r_BD     : tBD te σ H R=te σ H fun x H1=>bD x fun c=>R c H1:=rfl
def Kq_  : tBD t=tB t:=by
 funext σ H Q
 show t σ H _=t σ H _
 congr 1
 funext x H1;exact MY_
def Li_  : tBD t=Iv_ t:=Kq_
def ptB    (h:PT X e (tB t)):PT X e (tBD t):=by rw[Kq_];exact h
def ptT    (h:PT X e (Iv_ t)):PT X e (tBD t):=by rw[Li_];exact h
noncomputable def eD:V->V->Prop->Prop
 |.int _,.int _,q=>q
 |.str _,.str _,q=>q
 |.non,.non,q=>q
 |.bl _,.bl _,q=>q
 |x,y,q=>scal x y=true/\q
theorem Kr_   : eD (.int i) (.int j) q=q:=rfl
theorem Ks_   : eD (.str i) (.str j) q=q:=rfl
theorem Kt_  : eD .non .non q=q:=rfl
theorem MZ_   : eD (.bl i) (.bl j) q=q:=rfl
def Lj_   : eD x y q=(scal x y=true/\q):=by
 cases x<;>cases y<;>first|rfl|(simp[eD,scal])
noncomputable def rEqF:R2:=fun x y H Q=>eD x y (Q (.bl (decide (x=y))) H)
noncomputable def rNeF:R2:=fun x y H Q=>eD x y (Q (.bl (!decide (x=y))) H)
theorem Na_    : rEqF x y H Q=eD x y (Q (.bl (decide (x=y))) H):=rfl
theorem Nb_    : rNeF x y H Q=eD x y (Q (.bl (!decide (x=y))) H):=rfl
def Lk_:rEqF=rEq:=by funext x y H Q;exact Lj_
def Ll_:rNeF=rNe:=by funext x y H Q;exact Lj_
def opE   (h:OpR X f rEq):OpR X f rEqF:=by rw[Lk_];exact h
def opN   (h:OpR X f rNe):OpR X f rNeF:=by rw[Ll_];exact h
noncomputable def aD:V->(Addr->Prop)->Prop
 |.ref a,q=>q a
 |x,q=>∃a,x=.ref a/\q a
theorem Ku_   : aD (.ref a) q=q a:=rfl
def IR_   : aD x q=∃a,x=.ref a/\q a:=by
 cases x<;>first|rfl|(simp[aD])
noncomputable def nD:V->(Int->Prop)->Prop
 |.int a,q=>q a
 |x,q=>∃a,x=.int a/\q a
theorem Kv_   : nD (.int a) q=q a:=rfl
def Hz_   : nD x q=∃a,x=.int a/\q a:=by
 cases x<;>first|rfl|(simp[nD])
noncomputable def Lm_ (K:PySem.W.Frag):R2:=fun x y H Q=>aD x fun p=>∃xs,nD y fun i=>SqT K H p xs/\∃v,atI xs i=some v/\Q v H
noncomputable def Ln_ (K:PySem.W.Frag):R2:=fun x y H Q=>aD x fun p=>∃xs,nD y fun i=>SqL K H p xs/\∃v,atI xs i=some v/\Q v H
theorem Kw_ {K:PySem.W.Frag}    : Lm_ K x y H Q=aD x fun p=>∃xs,nD y fun i=>SqT K H p xs/\∃v,atI xs i=some v/\Q v H:=rfl
theorem Kx_ {K:PySem.W.Frag}    : Ln_ K x y H Q=aD x fun p=>∃xs,nD y fun i=>SqL K H p xs/\∃v,atI xs i=some v/\Q v H:=rfl
def IS_ {K:PySem.W.Frag}:Lm_ K=rIxT K:=by
 funext x y H Q
 show aD x _=∃p xs i v,_
 rw[IR_]
 refine propext ⟨fun ⟨p,e,h⟩=>?_,fun ⟨p,xs,i,v,e1,e2,e3,e4,e5⟩=>⟨p,e1,?_⟩⟩
 ·obtain⟨xs,h⟩:=h
  rw[Hz_]at h
  obtain⟨i,e2,e3,v,e4,e5⟩:=h
  exact⟨p,xs,i,v,e,e2,e3,e4,e5⟩
 ·refine⟨xs,?_⟩
  rw[Hz_]
  exact⟨i,e2,e3,v,e4,e5⟩
def IT_ {K:PySem.W.Frag}:Ln_ K=rIxL K:=by
 funext x y H Q
 show aD x _=∃p xs i v,_
 rw[IR_]
 refine propext ⟨fun ⟨p,e,h⟩=>?_,fun ⟨p,xs,i,v,e1,e2,e3,e4,e5⟩=>⟨p,e1,?_⟩⟩
 ·obtain⟨xs,h⟩:=h
  rw[Hz_]at h
  obtain⟨i,e2,e3,v,e4,e5⟩:=h
  exact⟨p,xs,i,v,e,e2,e3,e4,e5⟩
 ·refine⟨xs,?_⟩
  rw[Hz_]
  exact⟨i,e2,e3,v,e4,e5⟩
def ixTD  {K:PySem.W.Frag}(h:IxR X (rIxT K)):IxR X (Lm_ K):=by rw[IS_];exact h
def ixLD  {K:PySem.W.Frag}(h:IxR X (rIxL K)):IxR X (Ln_ K):=by rw[IT_];exact h
noncomputable def lD1:List V->(V->Prop)->Prop
 |[x],q=>q x
 |xs,q=>∃x,xs=[x]/\q x
theorem HA_   : lD1 [x] q=q x:=rfl
def Nc_   : lD1 xs q=∃x,xs=[x]/\q x:=by
 match xs with
 |[]=>rfl
 |[x]=>simp[lD1]
 |x::y::r=>rfl
noncomputable def Lo_ (K:PySem.W.Frag):List V->Hp->VK->Prop:=fun xs H Q=>lD1 xs fun x=>aD x fun p=>∃ys,(SqL K H p ys\/SqT K H p ys)/\Q (.int ys.length) H
theorem Ky_ {K:PySem.W.Frag}    : Lo_ K xs H Q=lD1 xs fun x=>aD x fun p=>∃ys,(SqL K H p ys\/SqT K H p ys)/\Q (.int ys.length) H:=rfl
def lenD  {K:PySem.W.Frag}  (h:Oj X f (fun xs H Q=>∃p ys,xs=[.ref p]/\(SqL K H p ys\/SqT K H p ys)/\Q (.int ys.length) H)):Oj X f (Lo_ K):=by
 have e:Lo_ K=fun xs H Q=>∃p ys,xs=[.ref p]/\(SqL K H p ys\/SqT K H p ys)/\Q (.int ys.length) H:=by
  funext xs H Q
  show lD1 xs _=_
  rw[Nc_]
  refine propext ⟨fun ⟨x,e,h⟩=>?_,fun ⟨p,ys,e,h1,h2⟩=>⟨_,e,ys,h1,h2⟩⟩
  rw[IR_]at h
  obtain⟨p,rfl,ys,h1,h2⟩:=h
  exact⟨p,ys,e,h1,h2⟩
 rw[e];exact h
def AX       (hN:X.N.Nodup)(he:PE X e te)(hi:X.N[i]?=some x:=by rfl)(hx:Loc X.env.scope x:=by exact Or.inl rfl)(hs:swapsWith e (some (.Name x pos')) pos.line X.env=pure false:=by rfl)(hf:X.fn x=true\/X.env.scope.names.lookup x=some .local:=by first|exact .inl rfl|exact .inr rfl|assumption):PS X (.Assign [.Name x pos'] e pos) (tAsg te (CX_ i)):=Kk hN hi hx he hs hf
def Ar      (hr:IxR X r)(ha:PE X a ta)(hb:PE X b tb)(hs:GK_ b:=by exact fun _ _=>rfl):PE X (.Subscript a b pos) (tOp r ta tb):=Nq_ hr ha hb hs
end L2
namespace PySem
open Sem (wp)
structure VKind (prog:Program)(w:World)(K:Type)[DecidableEq K] where
 is:Heap->K->Value->Prop
 hash:K->Int
 draws:K->Nat
 room:Around->Prop
 inj:∀{h:Heap} {a:Value} {x y:K},is h x a->is h y a->x=y
 keeps:∀{h h':Heap} {k:K} {a:Value} {d:Addr} {o:Obj} {es ep},is h k a->h.get? d=some o->o.data=.dict es ep->Heap.SameBut d h h'->is h' k a
 pyHash:∀{A:Around} {E:Value->Shared->Prop} {s:Shared} {k:K} {a:Addr} {Q:Int->Shared->Prop},room A->is s.heap k (.ref a)->Q (hash k) {s with toks:=s.toks+draws k}->wpAny (model prog w) A (PySem.pyHash (.ref a)) Q E s
 eqBool:∀{A:Around} {E:Value->Shared->Prop} {s:Shared} {x y:K} {u:Value} {b:Addr} {Q:Bool->Shared->Prop},room A->is s.heap x u->is s.heap y (.ref b)->Q (decide (x=y)) s->wpAny (model prog w) A (PySem.eqBool u (.ref b)) Q E s
 quiet:∀{A:Around} {E:Value->Shared->Prop} {s:Shared} {k:K} {a:Value} {Q:Bool->Shared->Prop},room A->is s.heap k a->Q true s->wpAny (model prog w) A (eqIsQuiet 8 a) Q E s
noncomputable abbrev NI:=Int ⊕ List Int
noncomputable abbrev NK:=Option (List NI)
end PySem
namespace S64
open PySem PyProof.Rows
noncomputable def KE (κ:KeyKind)(x:Keyed):κ.α:=(κ.keyOf x.1).getD κ.dflt
noncomputable def NI (κ:KeyKind)(xs:Array Keyed)(lo hi:Nat):Prop:=∀i j,lo<=i->i<=j->j<hi->κ.kle (KK κ xs j) (KK κ xs i)
noncomputable def Yl:Bool->Keyed->Array Keyed->Nat->Nat->Nat->StateT SortSt Sem (Option Nat):=sortPriv% PySem.Builtin.gallop
noncomputable def IH:Nat->StateT SortSt Sem Unit:=sortPriv% PySem.Builtin.setMinGallop
noncomputable def Dl_ (a b out:Array Keyed)(ia ib:Nat):Array Keyed:=out++a.extract ia a.size++b.extract ib b.size
noncomputable def Lp_ (a b out:Array Keyed)(ia ib:Nat):Array Keyed:=out++b.extract ib b.size++a.extract ia a.size
noncomputable abbrev G5:=Option (Array Keyed)×Array Keyed×Nat×Nat×Nat
noncomputable abbrev G6:=Option (Array Keyed)×Array Keyed×Nat×Nat×Nat×Nat
noncomputable abbrev G7:=Option (Array Keyed)×Array Keyed×Nat×Nat×Nat×Nat×Nat
noncomputable def PC (a b out:Array Keyed)(ia ib mg ac bc:Nat):StateT SortSt Sem (ForInStep G7):=do
 let y <- elem' a ia
 if (ia+1+1==a.size)=true then pure (.done (some (Lp_ a b (out.push y) (ia+1) ib),out.push y,ia+1,ib,mg,ac,bc))
 else if (decide (ac<7)&&decide (bc<7))=true then pure (.done (none,out.push y,ia+1,ib,mg,ac,bc)) else pure (.yield (none,out.push y,ia+1,ib,mg,ac,bc))
noncomputable def PB (a b out:Array Keyed)(ia ib mg ac bc:Nat):StateT SortSt Sem (ForInStep G7):=do
 let y <- elem' b ib
 if (ib+1==b.size)=true then pure (.done (some (Dl_ a b (out.push y) ia (ib+1)),out.push y,ia,ib+1,mg,ac,bc))
 else do
  let z <- elem' a ia
  let x <- Yl true z b (ib+1) (b.size-(ib+1)) 0
  match x with
  |some k=>if k > 0 then (if (ib+1+k==b.size)=true then pure (.done (some (Dl_ a b (out.push y++b.extract (ib+1) (ib+1+k)) ia (ib+1+k)),out.push y++b.extract (ib+1) (ib+1+k),ia,ib+1+k,mg,ac,k)) else PC a b (out.push y++b.extract (ib+1) (ib+1+k)) ia (ib+1+k) mg ac k) else PC a b (out.push y) ia (ib+1) mg ac k
  |_=>pure (.done (some (Dl_ a b (out.push y) ia (ib+1)),out.push y,ia,ib+1,mg,ac,bc))
noncomputable def PA (a b out:Array Keyed)(ia ib mg ac bc:Nat):StateT SortSt Sem (ForInStep G7):=do
 IH mg
 let y <- elem' b ib
 let x <- Yl false y a ia (a.size-ia) 0
 match x with
 |some k=>if k > 0 then (if (ia+k+1==a.size)=true then pure (.done (some (Lp_ a b (out++a.extract ia (ia+k)) (ia+k) ib),out++a.extract ia (ia+k),ia+k,ib,mg,k,bc)) else if (ia+k==a.size)=true then pure (.done (some (Dl_ a b (out++a.extract ia (ia+k)) (ia+k) ib),out++a.extract ia (ia+k),ia+k,ib,mg,k,bc)) else PB a b (out++a.extract ia (ia+k)) (ia+k) ib mg k bc) else PB a b out ia ib mg k bc
 |_=>pure (.done (some (Dl_ a b out ia ib),out,ia,ib,mg,ac,bc))
noncomputable def P1 (a b:Array Keyed)(mg:Nat)(c:G6):StateT SortSt Sem (ForInStep G6):=do
 let y <- elem' b c.2.2.2.1
 let z <- elem' a c.2.2.1
 let x <- lt' y z
 match x with
 |some bWins=>
  if bWins=true then
   elem' b c.2.2.2.1 >>= fun y=>
   if (c.2.2.2.1+1==b.size)=true then pure (.done (some (Dl_ a b (c.2.1.push y) c.2.2.1 (c.2.2.2.1+1)),c.2.1.push y,c.2.2.1,c.2.2.2.1+1,0,c.2.2.2.2.2+1))
   else if c.2.2.2.2.2+1 >= mg then pure (.done (none,c.2.1.push y,c.2.2.1,c.2.2.2.1+1,0,c.2.2.2.2.2+1)) else pure (.yield (none,c.2.1.push y,c.2.2.1,c.2.2.2.1+1,0,c.2.2.2.2.2+1))
  else
   elem' a c.2.2.1 >>= fun y=>
   if (c.2.2.1+1+1==a.size)=true then pure (.done (some (Lp_ a b (c.2.1.push y) (c.2.2.1+1) c.2.2.2.1),c.2.1.push y,c.2.2.1+1,c.2.2.2.1,c.2.2.2.2.1+1,0))
   else if c.2.2.2.2.1+1 >= mg then pure (.done (none,c.2.1.push y,c.2.2.1+1,c.2.2.2.1,c.2.2.2.2.1+1,0)) else pure (.yield (none,c.2.1.push y,c.2.2.1+1,c.2.2.2.1,c.2.2.2.2.1+1,0))
 |_=>pure (.done (some (Dl_ a b c.2.1 c.2.2.1 c.2.2.2.1),c.2.1,c.2.2.1,c.2.2.2.1,c.2.2.2.2.1,c.2.2.2.2.2))
noncomputable def P2 (a b:Array Keyed)(c:G7):StateT SortSt Sem (ForInStep G7):=if c.2.2.2.2.1 > 1 then PA a b c.2.1 c.2.2.1 c.2.2.2.1 (c.2.2.2.2.1-1) c.2.2.2.2.2.1 c.2.2.2.2.2.2 else PA a b c.2.1 c.2.2.1 c.2.2.2.1 c.2.2.2.2.1 c.2.2.2.2.2.1 c.2.2.2.2.2.2
noncomputable def PO (a b:Array Keyed)(c:G5):StateT SortSt Sem (ForInStep G5):=do
 let d <- forIn [0:a.size+b.size] ((none,c.2.1,c.2.2.1,c.2.2.2.1,0,0):G6) fun _ d=>P1 a b c.2.2.2.2 d
 match d.1 with
 |some r=>pure (.done (some r,d.2.1,d.2.2.1,d.2.2.2.1,c.2.2.2.2))
 |none=>do
  liftM (rule "list.sort.gallop")
  let e <- forIn [0:a.size+b.size] ((none,d.2.1,d.2.2.1,d.2.2.2.1,c.2.2.2.2+1,d.2.2.2.2.1,d.2.2.2.2.2):G7) fun _ e=>P2 a b e
  match e.1 with
  |some r=>pure (.done (some r,e.2.1,e.2.2.1,e.2.2.2.1,e.2.2.2.2.1))
  |none=>do
   IH (e.2.2.2.2.1+1)
   pure (.yield (none,e.2.1,e.2.2.1,e.2.2.2.1,e.2.2.2.2.1+1))
noncomputable def Dm_ (a b out:Array Keyed)(na nb:Nat):Array Keyed:=a.extract 0 na++b.extract 0 nb++out.reverse
noncomputable def HB_ (a b out:Array Keyed)(na nb:Nat):Array Keyed:=b.extract 0 nb++a.extract 0 na++out.reverse
noncomputable abbrev H5:=Option (Array Keyed)×Nat×Nat×Array Keyed×Nat
noncomputable abbrev H6:=Option (Array Keyed)×Nat×Nat×Array Keyed×Nat×Nat
noncomputable abbrev H7:=Option (Array Keyed)×Nat×Nat×Array Keyed×Nat×Nat×Nat
noncomputable def HC (a b out:Array Keyed)(na nb mg ac bc:Nat):StateT SortSt Sem (ForInStep H7):=do
 let y <- elem' a (na-1)
 if (na-1==0)=true then pure (.done (some (Dm_ a b (out.push y) (na-1) nb),na-1,nb,out.push y,mg,ac,bc))
 else if (decide (ac<7)&&decide (bc<7))=true then pure (.done (none,na-1,nb,out.push y,mg,ac,bc)) else pure (.yield (none,na-1,nb,out.push y,mg,ac,bc))
noncomputable def HB (a b out:Array Keyed)(na nb mg ac bc:Nat):StateT SortSt Sem (ForInStep H7):=do
 let y <- elem' b (nb-1)
 if (nb-1==1)=true then pure (.done (some (HB_ a b (out.push y) na (nb-1)),na,nb-1,out.push y,mg,ac,bc))
 else do
  let z <- elem' a (na-1)
  let x <- Yl true z b 0 (nb-1) (nb-1-1)
  match x with
  |some t=>if nb-1-t > 0 then (if (t==1)=true then pure (.done (some (HB_ a b (out.push y++(b.extract t (nb-1)).reverse) na t),na,t,out.push y++(b.extract t (nb-1)).reverse,mg,ac,nb-1-t)) else if (t==0)=true then pure (.done (some (Dm_ a b (out.push y++(b.extract t (nb-1)).reverse) na t),na,t,out.push y++(b.extract t (nb-1)).reverse,mg,ac,nb-1-t)) else HC a b (out.push y++(b.extract t (nb-1)).reverse) na t mg ac (nb-1-t)) else HC a b (out.push y) na (nb-1) mg ac (nb-1-t)
  |_=>pure (.done (some (Dm_ a b (out.push y) na (nb-1)),na,nb-1,out.push y,mg,ac,bc))
noncomputable def HA (a b out:Array Keyed)(na nb mg ac bc:Nat):StateT SortSt Sem (ForInStep H7):=do
 IH mg
 let y <- elem' b (nb-1)
 let x <- Yl false y a 0 na (na-1)
 match x with
 |some t=>if na-t > 0 then (if (t==0)=true then pure (.done (some (Dm_ a b (out++(a.extract t na).reverse) t nb),t,nb,out++(a.extract t na).reverse,mg,na-t,bc)) else HB a b (out++(a.extract t na).reverse) t nb mg (na-t) bc) else HB a b out na nb mg (na-t) bc
 |_=>pure (.done (some (Dm_ a b out na nb),na,nb,out,mg,ac,bc))
noncomputable def H1 (a b:Array Keyed)(mg:Nat)(c:H6):StateT SortSt Sem (ForInStep H6):=do
 let y <- elem' b (c.2.2.1-1)
 let z <- elem' a (c.2.1-1)
 let x <- lt' y z
 match x with
 |some aWins=>
  if aWins=true then
   elem' a (c.2.1-1) >>= fun y=>
   if (c.2.1-1==0)=true then pure (.done (some (Dm_ a b (c.2.2.2.1.push y) (c.2.1-1) c.2.2.1),c.2.1-1,c.2.2.1,c.2.2.2.1.push y,c.2.2.2.2.1+1,0))
   else if c.2.2.2.2.1+1 >= mg then pure (.done (none,c.2.1-1,c.2.2.1,c.2.2.2.1.push y,c.2.2.2.2.1+1,0)) else pure (.yield (none,c.2.1-1,c.2.2.1,c.2.2.2.1.push y,c.2.2.2.2.1+1,0))
  else
   elem' b (c.2.2.1-1) >>= fun y=>
   if (c.2.2.1-1==1)=true then pure (.done (some (HB_ a b (c.2.2.2.1.push y) c.2.1 (c.2.2.1-1)),c.2.1,c.2.2.1-1,c.2.2.2.1.push y,0,c.2.2.2.2.2+1))
   else if c.2.2.2.2.2+1 >= mg then pure (.done (none,c.2.1,c.2.2.1-1,c.2.2.2.1.push y,0,c.2.2.2.2.2+1)) else pure (.yield (none,c.2.1,c.2.2.1-1,c.2.2.2.1.push y,0,c.2.2.2.2.2+1))
 |_=>pure (.done (some (Dm_ a b c.2.2.2.1 c.2.1 c.2.2.1),c.2.1,c.2.2.1,c.2.2.2.1,c.2.2.2.2.1,c.2.2.2.2.2))
noncomputable def H2 (a b:Array Keyed)(c:H7):StateT SortSt Sem (ForInStep H7):=if c.2.2.2.2.1 > 1 then HA a b c.2.2.2.1 c.2.1 c.2.2.1 (c.2.2.2.2.1-1) c.2.2.2.2.2.1 c.2.2.2.2.2.2 else HA a b c.2.2.2.1 c.2.1 c.2.2.1 c.2.2.2.2.1 c.2.2.2.2.2.1 c.2.2.2.2.2.2
noncomputable def HO (a b:Array Keyed)(c:H5):StateT SortSt Sem (ForInStep H5):=do
 let d <- forIn [0:a.size+b.size] ((none,c.2.1,c.2.2.1,c.2.2.2.1,0,0):H6) fun _ d=>H1 a b c.2.2.2.2 d
 match d.1 with
 |some r=>pure (.done (some r,d.2.1,d.2.2.1,d.2.2.2.1,c.2.2.2.2))
 |none=>do
  liftM (rule "list.sort.gallop")
  let e <- forIn [0:a.size+b.size] ((none,d.2.1,d.2.2.1,d.2.2.2.1,c.2.2.2.2+1,d.2.2.2.2.1,d.2.2.2.2.2):H7) fun _ e=>H2 a b e
  match e.1 with
  |some r=>pure (.done (some r,e.2.1,e.2.2.1,e.2.2.2.1,e.2.2.2.2.1))
  |none=>do
   IH (e.2.2.2.2.1+1)
   pure (.yield (none,e.2.1,e.2.2.1,e.2.2.2.1,e.2.2.2.2.1+1))
noncomputable def wr (a:Array Keyed)(base:Nat)(r:List Keyed)(n:Nat):Array Keyed:=(r.zipIdx n).foldl (fun a (p,j)=>a.setIfInBounds (base+j) p) a
end S64
namespace S64
open PySem PyProof.Rows L2
noncomputable abbrev Wd:=Addr×List Int
noncomputable def wv (ws:List Wd):List V:=ws.map fun w=>V.ref w.1
noncomputable def wu (ws:List Wd):List Value:=ws.map fun w=>Value.ref w.1
noncomputable def kw (w:Wd):Int×List Int:=((w.2.length:Int),w.2)
section
variable {X:Cx} {pins:List (Addr×Obj)} {σ:L2.St} {H H0:Hp} {s:Shared} {A:Around} {E:Value->Shared->Prop} {ws:List Wd} {ts:List Addr} {a kT:Addr} {e1:Nat} {P:PySem.Fin->Shared->Prop} {f:Value}
noncomputable def Turn (X:Cx)(pins:List (Addr×Obj))(σ:L2.St)(A:Around)(f:Value)(ws:List Wd)(H0:Hp):Prop:=∀w∈ws,∀(H':Hp) (s':Shared),Inv X pins σ H' s'->Same H0 H' ->
 wpAny (model X.prog X.w) A (call f [.ref w.1]) (EP X pins σ (fun k H''=>∃t,k=.ref t/\Same H' H''/\SqT X.K H'' t [.int w.2.length,.ref w.1])) (fun _ _=>False) s'
end
end S64
namespace L2
open PySem PySem.Spec PyProof.Rows
noncomputable abbrev HA (K:PySem.W.Frag)(x:Str)(f:Addr):Prop:=PySem.W.nsIn K mainGlobals x=some (some (.ref f))
structure HF (K:PySem.W.Frag)(x:Str)(st:Stmt)(f:Addr)(fd:FuncData):Prop where
 a:PySem.W.nsIn K mainGlobals x=some (some (.ref f))
 F:Fun K x x st f fd
def Lq_       (ok:HOk P w H h)(e:Rd H a (.dT kvs)):
  ∃o es ep,h.get? a=some o/\o.ExactDict/\o.data=.dict es ep/\(a==sysModules)=false/\es.size=kvs.length/\∀(i:Nat) (k:List Key) (v:V),kvs[i]?=some (k,v)->∃b en,es[i]?=some en/\en.key=.ref b/\H b=some (.tup (k.map kV))/\RelV v en.val:=by
 obtain⟨o,es,ep,g1,g2,g3,g4,g5,g6,g7⟩:=Yh ok e
 exact⟨o,es,ep,g1,g2,g3,g5,g4,g7⟩
noncomputable def ItiT (o:Obj)(a:Addr)(kvs:List (List Key×V)):It:=⟨fun i H=>i<kvs.length/\H a=some (.frz o (.dT kvs)),fun i H x H'=>∃t b k v,H t=none/\kvs[i]?=some (k,v)/\H b=some (.tup (k.map kV))/\x=.ref t/\H'=upd H t (.tup [.ref b,v]),fun i H=>kvs.length<=i/\H a=some (.frz o (.dT kvs))⟩
def Dn_ {P:Program}{w:World}{K:PySem.W.Frag}{elts:List Expr}{x1}{tpos:Pos}{o:Obj}{a it:Addr}{kvs:List (List Key×V)}{es:Array DictEntry}{ep:Nat}(hai:a≠it)(hd:o.data=.dict es ep):
  Turn P w K (.Tuple elts x1 tpos) (ItiT o a kvs) [it] it (fun i h=>∃ok ov,IsItemIter h it a i kvs.length ep ok ov) where
 mem:=by simp
 obj:=fun i h st b hb=>by
  have e:b=it:=by simpa using hb
  subst e
  obtain⟨ok,ov,e⟩:=st
  exact⟨_,e,fun v z=>by cases z⟩
 keep:=fun i h h' st k=>by
  obtain⟨ok,ov,e⟩:=st
  exact⟨ok,ov,k it (by simp) _ e⟩
 item:=by
  intro X hP hw hK hcm i pins s σ H E I hf st hg
  subst hP hw hK
  obtain⟨hi,hq⟩:=hg
  obtain⟨ok,ov,st⟩:=st
  obtain⟨o',es',ep',g1,g2,g3,g5,hl,g7⟩:=Lq_ I.hok (.inr ⟨o,hq⟩)
  obtain⟨hko,_⟩:=(show C4 X.prog X.w H s.heap a (.frz o (.dT kvs)) from I.hok a _ hq)
  rw[hko]at g1
  cases g1
  rw[hd]at g3
  cases g3
  obtain⟨kv,hkv⟩:∃kv,kvs[i]?=some kv:=⟨kvs[i],by simp[hi]⟩
  obtain⟨k,v⟩:=kv
  obtain⟨b,en,hu,eb,hb3,ru⟩:=g7 i k v hkv
  refine PySem.W.itm (I.ok.hd hcm) (by rw[hl];exact st) hko hd (.inl rfl) (fun e h' x' f' ok' ov' q0 g1 q2 _ g5 gsz gk=>?_) (fun z=>by rw[hu]at z;cases z)
  rw[hu]at q0
  cases q0
  obtain⟨rfl,rfl,rfl,rfl⟩:=q2 rfl
  rw[hl]at g1
  have hTz:s.heap.objs.size≠it:=Nat.ne_of_gt (Heap.lt_size st)
  refine⟨_,rfl,wpAny_letOwnedTupleGo_items g1 fun h2' e1 hs2=>?_⟩
  have hk2:∀b o,b ∉ [it]->s.heap.get? b=some o->h2'.get? b=some o:=fun b o hb q=>by
   simp only[List.mem_singleton]at hb
   exact (hs2.2 b hb).trans (gk b o hb q)
  obtain⟨un,hok⟩:=I.unL hk2 hf
  have hn:H s.heap.objs.size=none:=I.hok.fresh (Nat.le_refl _)
  have new:C4 X.prog X.w (upd H s.heap.objs.size (.tup [.ref b,v])) h2' s.heap.objs.size (.tup [.ref b,v]):=⟨by have:=Aq;simp;lia,[.ref b,en.val],.cons rfl (.cons ru .nil),_,(hs2.2 _ hTz).trans g5,rfl,0,by simp[eb]⟩
  refine⟨.ref s.heap.objs.size,upd H s.heap.objs.size (.tup [.ref b,v]),I.call' (s':={s with heap:=h2' }) (ch:=[it]) rfl (un.track (Nat.le_refl _) hn) (hok.track hn new) I.bare (fun b hb=>(hf b hb).ch),rfl,⟨_,b,k,v,hn,hkv,hb3,rfl,rfl⟩,⟨_,_,e1⟩,fun b hb=>?_⟩
  have hb':=hf b hb
  have e:b=it:=by simpa using hb
  subst e
  rw[Ag (Nat.ne_of_lt (Heap.lt_size st))]
  exact hb'.1
 done:=by
  intro X hP hw hK hcm i pins s σ H E I hf st hg
  subst hP hw hK
  obtain⟨hi,hq⟩:=hg
  obtain⟨ok,ov,st⟩:=st
  obtain⟨o',es',ep',g1,g2,g3,g5,hl,g7⟩:=Lq_ I.hok (.inr ⟨o,hq⟩)
  obtain⟨hko,_⟩:=(show C4 X.prog X.w H s.heap a (.frz o (.dT kvs)) from I.hok a _ hq)
  rw[hko]at g1
  cases g1
  rw[hd]at g3
  cases g3
  refine PySem.W.itm (I.ok.hd hcm) (by rw[hl];exact st) hko hd (.inl rfl) (fun e _ _ _ _ _ q=>by have:=(Array.getElem?_eq_some_iff.mp q).1;lia) fun _ h' eb=>⟨rfl,?_⟩
  obtain⟨f0,f1,f2,f3,f4,f5⟩:=hf it (by simp)
  exact I.turned (t':=s.toks) (fun b o hb e=>eb b o hb e) f0 f1 f3 f4 f5
 self:=fun A i s Q E st h=>by
  obtain⟨ok,ov,st⟩:=st
  exact PySem.W.kcp_self st h
noncomputable def HC_ (td:TE):TI:=fun σ H R=>td σ H fun x H1=>∃a kvs,x=.ref a/\H1 a=some (.dT kvs)/\∀o,R (ItiT o a kvs) (upd H1 a (.frz o (.dT kvs)))
theorem Bf_     : HC_ te σ H Z=te σ H fun x H1=>∃a kvs,x=.ref a/\H1 a=some (.dT kvs)/\∀o,Z (ItiT o a kvs) (upd H1 a (.frz o (.dT kvs))):=rfl
def HD_   {x1}     (ho:PE X o td)(hbase:attributeBase o "items" X.env (eval o X.env)=eval o X.env:=by rfl)(hline:(apos.endLine==cpos.line)=true:=by rfl):PI X (.Tuple elts x1 tpos) (.Call (.Attribute o "items" apos) [] [] cpos) (HC_ td):=by
 intro pins s σ H R I h
 refine wpAny_Call_method0_late hbase hline (thn (ho pins s σ H _ I h) fun v s1 ⟨x,H1,I1,r1,q1⟩=>?_)
 obtain⟨a,kvs,e,hq,q⟩:=q1
 subst e
 obtain rfl:v=Value.ref a:=r1
 obtain⟨od,es,ep,g1,g2,g3,g5,hlen,g7⟩:=Lq_ I1.hok (.inl hq)
 have I2:=I1.freeze hq g1
 have hT:s1.TypeIs (.ref a) "dict" := ⟨od,g1,g2.1⟩
 refine⟨"dict","dict.items",PySem.F.plainAttrs_dict,PySem.F.slot_dict_items,PySem.F.type_dict_items,hT,fun b e=>?_,Calls.callWith_builtin rfl (PySem.evalArgs_none ?_)⟩
 ·cases e
  exact⟨od,g1,g2.2.1⟩
 refine wpAny_call_entry PySem.F.slot_dict_items hT PySem.F.entry_dict_items (?_:wpAny _ _ (Builtin.«dict.items» _) _ _ s1) (PySem.F.args_dict_items_1 _)
 unfold Builtin.«dict.items»
 refine wpAny_bind ?_
 unfold Builtin.Dict.noArgs
 refine wpAny_bind (wpAny_notOrdered_dict hT ?_)
 show wpAny _ _ (pure a) _ _ s1
 refine wpAny_pure ?_
 show wpAny _ _ (Builtin.Dict.showsAll a >>= _) _ _ s1
 unfold Builtin.Dict.showsAll
 rw[if_neg (by rw[g5];exact Bool.false_ne_true)]
 refine wpAny_bind (wpAny_pure ?_)
 refine wpAny_bind (wpAny_newObj_type (wpAny_pure ⟨_,rfl,?_⟩))
 have hk1:∀b u,s1.heap.get? b=some u->(s1.heap.push {cls:=.type "dict_items",data:=.fields #[.ref a]}).get? b=some u:=fun b u e=>Heap.get?_push_of_some _ e
 refine PySem.W.itm_iter (s:={s1 with heap:=s1.heap.push {cls:=.type "dict_items",data:=.fields #[.ref a]} }) ⟨_,Heap.get?_push_size _ rfl,rfl,rfl⟩ (hk1 a _ g1) g3 ?_
 have hle:s1.heap.objs.size<=(s1.heap.push {cls:=.type "dict_items",data:=.fields #[.ref a]}).objs.size:=by rw[Heap.size_push];exact Nat.le_succ _
 refine⟨_,[(s1.heap.push {cls:=.type "dict_items",data:=.fields #[.ref a]}).objs.size],_,_,_,rfl,I2.kept (t':=s1.toks) fun b u e=>Heap.get?_push_of_some _ (hk1 b u e),Dn_ (o:=od) (kvs:=kvs) (Nat.ne_of_lt (Nat.lt_of_lt_of_le (Heap.lt_size g1) hle)) g3,⟨.none,.none,?_⟩,fun b hb=>?_,q od⟩
 ·rw[<-hlen];exact Heap.get?_push_size _ rfl
 ·have e:b=(s1.heap.push {cls:=.type "dict_items",data:=.fields #[.ref a]}).objs.size:=by simpa using hb
  subst e
  exact I2.fpOk hle (I2.hok.fresh hle)
end L2
namespace L2
open PySem PySem.Spec PyProof.Rows S64
section
variable {X:Cx} {pins:List (Addr×Obj)} {σ:L2.St} {A:Around}
noncomputable abbrev ends (Q E:Value->Shared->Prop):Result->Shared->Prop:=fun r s'=>match r with | .ok (.ret v)=>Q v s' | .ok _=>False | .error e=>E e s'
end
end L2
namespace N80
open Nest L2 GW
noncomputable def val (b:Nat)(v:List Int):Nat:=v.foldl (fun a x=>a*b+x.toNat) 0
noncomputable def cod (b:Nat)(v:List Int):Nat:=b ^ v.length+val b v
structure Turn {R:Type}(A:Int->List Int->Prop)(p e:Int)(b:Nat)(fin:R->Prop)(best:R->Option (List Int))(res:Option (List Int)):Prop where
 s:∀t,res=some t->∃r,best r=some t/\fin r
 l:∀r t,best r=some t->fin r->∃t',res=some t'/\cod b t'<=cod b t
end N80
namespace HT
open PySem PyProof.Rows
inductive LtE (A:Around)(s:Shared)(f:Bool):List Value->List Value->Bool->Prop
 | endL {ws:List Value}:LtE A s f [] ws f
 | endR {vs:List Value}:LtE A s f vs [] f
 | eq {v w:Value} {vs ws:List Value} {b:Bool}:SeqAt.EqAt A s v w true->LtE A s f vs ws b->LtE A s f (v::vs) (w::ws) b
 | ne {v w:Value} {vs ws:List Value} {b:Bool}:SeqAt.EqAt A s v w false->(∀(prog:Program) (wd:World) (E:Value->Shared->Prop) (Q:Value->Shared->Prop),Q (.bool b) s->wpAny (model prog wd) A (richCompare .Lt v w) Q E s)->LtE A s f (v::vs) (w::ws) b
end HT
namespace L2
open PySem PySem.W PySem.Spec PySem.Calls PyProof.Rows
def Inv.thaw2         (I:Inv X pins σ H s)(e:H a=some (.frz o (.dT kvs)))(h0:X.H₀ a=some (.dT kv0)):Inv X pins σ (upd H a (.dT kvs)) s:=by
 have hO:=(show C4 X.prog X.w H s.heap a (.frz o (.dT kvs)) from I.hok a _ e)
 have ok2:HOk X.prog X.w (upd H a (.dT kvs)) s.heap:=fun b u hb=>by
  by_cases hba:b=a
  ·subst hba
   rw[Ab]at hb
   cases hb
   obtain⟨_,z,y,xs,r,q⟩:=hO
   refine⟨z,y,xs,Paired.mapP r fun p x hx=>⟨hx.1,?_,hx.2.2⟩,q⟩
   rw[Ag (fun z=>by have h1:=hx.2.1;rw[z,e]at h1;cases h1)]
   exact hx.2.1
  ·rw[Ag hba]at hb
   exact (I.hok b u hb).stay (fun c v _ q=>q) (fun c q=>by rw[Ag (fun z=>by rw[z,e]at q;cases q)];exact q) fun c xs q=>by rw[Ag (fun z=>by rw[z,e]at q;cases q)];exact q
 have ne:∀b,H b=none->upd H a (.dT kvs) b=none:=fun b hb=>by rw[Ag (fun z=>by rw[z,e]at hb;cases hb)];exact hb
 refine⟨I.ok,I.os,I.bare,⟨I.base.keep,I.base.slot,fun b o' q n hx=>ne b (I.base.free b o' q n hx),I.base.there,fun b xs q=>?_,fun b ob xs q=>?_,fun b ps q=>?_⟩,I.loc,I.cell,ne _ I.free,fun x c hc=>ne _ (I.freeC x c hc),fun p hp=>?_,ok2,I.len⟩
 ·have:=I.base.tups b xs q
  rw[Ag (fun z=>by rw[z,e]at this;cases this)];exact this
 ·have:=I.base.frzs b ob xs q
  rw[Ag (fun z=>by rw[z,h0]at q;cases q)];exact this
 ·obtain⟨more,q'⟩:=I.base.tbls b ps q
  exact⟨more,by rw[Ag (fun z=>by rw[z,h0]at q;cases q)];exact q'⟩
 ·obtain⟨q,n,r⟩:=I.pin p hp
  exact⟨q,ne _ n,r⟩
noncomputable def HE_ (H₀:Hp)(t:TS):TS:=fun D σ H=>t {D with nx:=fun σ1 H1=>D.nx σ1 H1 \/ ∃a o kvs kv0,H1 a=some (.frz o (.dT kvs))/\H₀ a=some (.dT kv0)/\D.nx σ1 (upd H1 a (.dT kvs))} σ H
theorem EJ_      : HE_ H₀ t D σ H=t {D with nx:=fun σ1 H1=>D.nx σ1 H1 \/ ∃a o kvs kv0,H1 a=some (.frz o (.dT kvs))/\H₀ a=some (.dT kv0)/\D.nx σ1 (upd H1 a (.dT kvs))} σ H:=rfl
def IU_    (h:PS X x t):PS X x (HE_ X.H₀ t):=by
 intro pins s σ H D I hq
 refine wpAny_mono (h pins s σ H _ I hq) (fun f s1 q=>?_) fun _ _ z=>z
 cases f with
 |next=>
  obtain⟨σ1,H1,I1,q1⟩:=q
  rcases q1 with q1|⟨a,o,kvs,kv0,e,h0,q1⟩
  ·exact⟨σ1,H1,I1,q1⟩
  ·exact⟨σ1,_,I1.thaw2 e h0,q1⟩
 |brk=>exact q
 |cont=>exact q
 |ret v=>exact q
def Nz_         (Pv:Nat->St->Hp->Prop)(h0:Pv 0 σ H)(hl:∀i σ H,i<=kvs.length->Pv i σ H->H a=some (.frz o (.dT kvs)))
  (hs:∀i k v t b σ H,kvs[i]?=some (k,v)->Pv i σ H->H t=none->H b=some (.tup (k.map kV))->g (.ref t) σ (upd H t (.tup [.ref b,v])) fun σ2 H2=>tb {D with nx:=Pv (i+1),ct:=Pv (i+1),bk:=D.nx} σ2 H2) (hd:∀σ H,Pv kvs.length σ H->D.nx σ H):ForW (ItiT o a kvs) g tb D σ H:=by
 refine⟨fun i m σ H=>m+i=kvs.length/\Pv i σ H,⟨kvs.length,by lia,h0⟩,fun i m σ H ⟨hm,hp⟩=>?_⟩
 have hq:=hl i σ H s!"" hp
 by_cases hi:i<kvs.length
 ·refine .inr ⟨⟨hi,hq⟩,Pv (i+1),fun σ' H' h=>⟨m-1,by lia,by lia,h⟩,fun x H' hy=>?_⟩
  obtain⟨t,b,k,v,ht,hk,hb,rfl,rfl⟩:=hy
  exact hs i k v t b σ _ hk hp ht hb
 ·have e:i=kvs.length:=by lia
  subst e
  exact .inl ⟨⟨Nat.le_refl _,hq⟩,hd σ H hp⟩
end L2
namespace Mine
open PySem L2 GW GB
local macro_rules | `(tactic| walk_at "rd") => `(tactic| (try dsimp only[↓Ko_,Hy_,↓r_ID,↓MV_,Kp_,↓r_BD,MX_,↓Na_,↓Nb_,Kr_,Ks_,Kt_,MZ_,↓Kw_,↓Kx_,Ku_,Kv_,↓Ky_,HA_,↓Mn_,↓JK_,↓Mo_,↓GV_,↓Mp_,↓r_c,↓r_op,↓r_un,↓r_I,↓r_I0,↓r_U,↓JL_,↓JM_,↓Mq_,↓Mr_,↓JN_,↓r_if,↓r_B,↓JO_,↓Ms_,↓r_or,↓Mt_,↓JP_,↓Mu_,↓JQ_,↓GW_,↓r_CB,↓Mv_,↓Mw_,↓Mx_,↓My_,↓r_sl,↓JR_,↓Ez_,↓Mz_,↓MG_,↓r_BM,↓MA_,↓EA_,↓JS_,↓JT_,↓r_Eq,↓r_Ne,↓MB_,↓GX_,↓JU_,↓GY_,↓JV_,↓JW_,↓MD_,↓Hf_,↓MI_,↓Hg_,↓MK_,↓JZ_,↓Hh_,↓Ka_,↓Kb_,↓MJ_,↓Kc_,↓Hi_,↓Hk_,↓EC_,↓Bf_,↓ED_,↓Hl_,↓ML_,MQ_,Be_,↓MN_,↓Ki_,↓Kj_,↓Kk_,↓Ho_,↓Hm_,↓EJ_,↓Hr_,↓Hv_,↓Hq_,MC_,L2.start,List.map_cons,List.map_nil,List.length_cons,List.length_nil,List.cons_append,List.nil_append,List.replicate,List.getElem?_cons_zero,List.getElem?_cons_succ,List.set_cons_zero,List.set_cons_succ,scal])<;>(try simp only[↓Ko_,Hy_,↓r_ID,↓MV_,Kp_,↓r_BD,MX_,↓Na_,↓Nb_,Kr_,Ks_,Kt_,MZ_,↓Kw_,↓Kx_,Ku_,Kv_,↓Ky_,HA_,Lg_,MY_,Lj_,IR_,Hz_,↓Mn_,↓JK_,↓Mo_,↓GV_,↓Mp_,↓r_c,↓r_op,↓r_un,↓r_I,↓r_I0,↓r_U,↓JL_,↓JM_,↓Mq_,↓Mr_,↓JN_,↓r_if,↓r_B,↓JO_,↓Ms_,↓r_or,↓Mt_,↓JP_,↓Mu_,↓JQ_,↓GW_,↓r_CB,↓Mv_,↓Mw_,↓Mx_,↓My_,↓r_sl,↓JR_,↓Ez_,↓Mz_,↓MG_,↓r_BM,↓MA_,↓EA_,↓JS_,↓JT_,↓r_Eq,↓r_Ne,↓MB_,↓GX_,↓JU_,↓GY_,↓JV_,↓JW_,↓MD_,↓Hf_,↓MI_,↓Hg_,↓MK_,↓JZ_,↓Hh_,↓Ka_,↓Kb_,↓MJ_,↓Kc_,↓Hi_,↓Hk_,↓EC_,↓Bf_,↓ED_,↓Hl_,↓ML_,MQ_,Be_,↓MN_,↓Ki_,↓Kj_,↓Kk_,↓Ho_,↓Hm_,↓EJ_,↓Hr_,↓Hv_,↓Hq_,MC_,L2.start,List.map_cons,List.map_nil,List.length_cons,List.length_nil,List.cons_append,List.nil_append,List.append_nil,List.replicate,List.getElem?_cons_zero,List.getElem?_cons_succ,List.set_cons_zero,List.set_cons_succ,Option.some.injEq,V.int.injEq,V.str.injEq,V.ref.injEq,V.bl.injEq,List.cons.injEq,and_true,true_and,and_assoc,exists_and_left,exists_eq_left',exists_eq_left,exists_eq_right,exists_eq,if_true,if_false,Bool.false_eq_true,decide_eq_true_eq,scal,Nat.reduceAdd,Nat.reduceSub,reduceCtorEq,Bool.not_true,Bool.not_false]))
local macro_rules|`(tactic|nofun)=>`(tactic|walk_at "rd")
set_option hygiene false in
local macro_rules|`(tactic|delta $x:ident)=>`(tactic|refine F.ok $x (fun vs H Q E h=>?_) (fun cdv A outer s H vs Q E hr h=>?_))
set_option hygiene false in
local macro_rules|`(nofun)=>`(FnOk P w K mg base CX0)
set_option hygiene false in
local macro_rules|`(⋯)=>`(Cal P w K mg base CX0)
local macro_rules | `(tactic| walk_at "sc") => `(tactic| exact⟨rfl,rfl,rfl,by decide +kernel,rfl,by decide +kernel,by decide +kernel⟩)
noncomputable def top (i:Nat):Stmt:=PySem.Challenge.pw_guessroom_k59_whole_any_say_teacher.main.body.getD i (.Pass ⟨0,0,0,0⟩)
noncomputable abbrev Gg:Stmt:=Bv (top 18) 0
def Bg_:FnScope ["self","letters"] ["self","letters"] (Ad Gg):=by walk_at "sc"
noncomputable abbrev I0:Stmt:=top 8
def FC_:FnScope ["letters","word"] ["letters","word"] (Ad I0):=by walk_at "sc"
noncomputable abbrev Eo:Stmt:=top 9
def Ym:FnScope ["letters","word"] ["letters","word"] (Ad Eo):=by walk_at "sc"
noncomputable abbrev Mv:Stmt:=top 13
def US:FnScope ["house","word","ways","rooms","letter"] ["house","word"] (Ad Mv):=by walk_at "sc"
noncomputable abbrev EF:Stmt:=Bv (top 18) 3
def Bh_:FnScope ["self","word"] ["self","word"] (Ad EF):=by walk_at "sc"
noncomputable abbrev K5:Stmt:=top 33
def GQ:FnScope ["book","access","guess","word","mark","last","rooms","low","high","middle","asked","told"] ["book","access","guess","word","mark","last"] (Ad K5):=by walk_at "sc"
noncomputable abbrev DW:Stmt:=Bv (top 21) 8
def Ja:FnScope ["self","words","left","word"] ["self","words"] (Ad DW):=by walk_at "sc"
noncomputable abbrev HX:Stmt:=top 23
def Kp:FnScope ["letters","access","rows","word","letter"] ["letters","access"] (Ad HX):=by walk_at "sc"
noncomputable abbrev OM:Stmt:=top 24
def UT:FnScope ["letters","access","ends","words","row","end"] ["letters","access","ends"] (Ad OM):=by walk_at "sc"
noncomputable abbrev A5:Stmt:=Bv (top 34) 3
def LM:FnScope ["self"] ["self"] (Ad A5):=by walk_at "sc"
noncomputable abbrev BY:Stmt:=top 36
def PV:FnScope ["word"] ["word"] (Ad BY):=by walk_at "sc"
noncomputable abbrev Vd:Stmt:=top 37
def Lr_:FnScope ["house","word"] ["house","word"] (Ad Vd):=by walk_at "sc"
noncomputable abbrev EG:Stmt:=top 38
def Bi_:FnScope ["house","word"] ["house","word"] (Ad EG):=by walk_at "sc"
noncomputable abbrev B9:Stmt:=Bv (top 40) 1
def Rg:FnScope ["self","house","word"] ["self","house","word"] (Ad B9):=by walk_at "sc"
noncomputable abbrev EH:Stmt:=Bv (top 34) 4
def HN:FnScope ["self","mark","last","found"] ["self"] (Ad EH):=by walk_at "sc"
noncomputable abbrev Hn:Stmt:=top 25
def Do_:FnScope ["book","word","ends"] ["book","word","ends"] (Ad Hn):=by walk_at "sc"
noncomputable abbrev CV:Stmt:=top 26
def Jb:FnScope ["book","letters","access","ends","marks","row"] ["book","letters","access","ends"] (Ad CV):=by walk_at "sc"
noncomputable abbrev Df:Stmt:=top 28
def Dp:FnScope ["letters","access","marks","rooms","room","word","ways"] ["letters","access","marks"] (Ad Df):=by walk_at "sc"
noncomputable abbrev BH:Stmt:=Bv (top 40) 2
def E8:FnScope ["self","marks","says"] ["self"] (Ad BH):=by walk_at "sc"
noncomputable abbrev Ep:Stmt:=Bv (top 18) 4
def Yn:FnScope ["self"] ["self"] (Ad Ep):=by walk_at "sc"
noncomputable abbrev DX:Stmt:=top 30
def Jc:FnScope ["heard","answer","house","word","told"] ["heard","answer","house"] (Ad DX):=by walk_at "sc"
noncomputable abbrev BI:Stmt:=Bv (top 40) 3
def Mw:FnScope ["self"] ["self"] (Ad BI):=by walk_at "sc"
noncomputable abbrev BJ:Stmt:=Bv (top 21) 9
def My:FnScope ["self"] ["self"] (Ad BJ):=by walk_at "sc"
noncomputable abbrev Ho:Stmt:=top 27
def K6:FnScope ["book","letters","access","ends","marks","known","row"] ["book","letters","access","ends"] (Ad Ho):=by walk_at "sc"
noncomputable abbrev Bz:Stmt:=Bv (top 34) 5
def Hc:FnScope ["self","row"] ["self"] (Ad Bz):=by walk_at "sc"
noncomputable abbrev CI:Stmt:=Bv (top 21) 7
def Rh:FnScope ["self"] ["self"] (Ad CI):=by walk_at "sc"
noncomputable abbrev CN:Stmt:=Bv (top 20) 3
def WV:FnScope ["self"] ["self"] (Ad CN):=by walk_at "sc"
noncomputable abbrev E9:Stmt:=Bv (top 20) 0
def Yo:FnScope ["self"] ["self"] (Ad E9):=by walk_at "sc"
noncomputable abbrev Gh:Stmt:=Bv (top 21) 0
def Bj_:FnScope ["self","letters","most","book","ways","ends"] ["self","letters","most","book","ways","ends"] (Ad Gh):=by walk_at "sc"
noncomputable abbrev BK:Stmt:=Bv (top 40) 0
def Mz:FnScope ["self","letters"] ["self","letters"] (Ad BK):=by walk_at "sc"
noncomputable abbrev Fb:Stmt:=Bv (top 34) 0
def Yp:FnScope ["self","letters","most"] ["self","letters","most"] (Ad Fb):=by walk_at "sc"
noncomputable abbrev Dh:Stmt:=Bv (top 41) 0
def TC:FnScope ["self","letters","most"] ["self","letters","most"] (Ad Dh):=by walk_at "sc"
noncomputable abbrev EI:Stmt:=Bv (top 21) 4
def WW:FnScope ["self"] ["self"] (Ad EI):=by walk_at "sc"
noncomputable abbrev Bi:Stmt:=Bv (top 41) 5
def PX:FnScope ["self"] ["self"] (Ad Bi):=by walk_at "sc"
noncomputable abbrev DY:Stmt:=Bv (top 21) 5
def Ve:FnScope ["self"] ["self"] (Ad DY):=by walk_at "sc"
noncomputable abbrev A6:Stmt:=Bv (top 41) 6
def ON:FnScope ["self"] ["self"] (Ad A6):=by walk_at "sc"
noncomputable abbrev Fc:Stmt:=Bv (top 21) 6
def Yq:FnScope ["self"] ["self"] (Ad Fc):=by walk_at "sc"
noncomputable abbrev BB:Stmt:=Bv (top 41) 7
def Ri:FnScope ["self"] ["self"] (Ad BB):=by walk_at "sc"
noncomputable abbrev DZ:Stmt:=top 43
def Bk_:FnScope ["script","k"] ["script","k"] (Ad DZ):=by walk_at "sc"
noncomputable abbrev EJ:Stmt:=Bv (top 20) 1
def WX:FnScope ["self"] ["self"] (Ad EJ):=by walk_at "sc"
noncomputable abbrev BC:Stmt:=Bv (top 41) 1
def Rj:FnScope ["self"] ["self"] (Ad BC):=by walk_at "sc"
noncomputable abbrev Jd:Stmt:=top 12
def FD_:FnScope ["number"] ["number"] (Ad Jd):=by walk_at "sc"
noncomputable abbrev Fd:Stmt:=top 17
def Yr:FnScope ["mark"] ["mark"] (Ad Fd):=by walk_at "sc"
noncomputable abbrev Er:Stmt:=Bv (top 18) 1
def Ys:FnScope ["self","word","mark"] ["self","word","mark"] (Ad Er):=by walk_at "sc"
noncomputable abbrev Gp:Stmt:=Bv (top 18) 2
def Dp_:FnScope ["self","word","mark"] ["self","word","mark"] (Ad Gp):=by walk_at "sc"
noncomputable abbrev Ba:Stmt:=Bv (top 20) 2
def Ol:FnScope ["self","deed"] ["self","deed"] (Ad Ba):=by walk_at "sc"
noncomputable abbrev B4:Stmt:=Bv (top 21) 1
def OO:FnScope ["self","number"] ["self","number"] (Ad B4):=by walk_at "sc"
noncomputable abbrev Fe:Stmt:=Bv (top 34) 1
def Yt:FnScope ["self","mark"] ["self","mark"] (Ad Fe):=by walk_at "sc"
noncomputable abbrev Di:Stmt:=Bv (top 41) 2
def TF:FnScope ["self","mark"] ["self","mark"] (Ad Di):=by walk_at "sc"
noncomputable abbrev Hq:Stmt:=top 45
def Vf:FnScope ["script","k","many"] ["script","k"] (Ad Hq):=by walk_at "sc"
noncomputable abbrev Ff:Stmt:=top 46
def Bl_:FnScope ["cell"] ["cell"] (Ad Ff):=by walk_at "sc"
noncomputable abbrev Es:Stmt:=top 57
def K7:FnScope ["kept","asker","strictly","access","ends"] ["kept","asker","strictly"] (Ad Es):=by walk_at "sc"
noncomputable abbrev DC:Stmt:=top 44
def Yu:FnScope ["found"] ["found"] (Ad DC):=by walk_at "sc"
noncomputable abbrev CW:Stmt:=top 50
def MA:FnScope ["found","letters","letter"] ["found","letters"] (Ad CW):=by walk_at "sc"
noncomputable abbrev CJ:Stmt:=top 58
def Rk:FnScope ["wish","letters","told"] ["wish","letters","told"] (Ad CJ):=by walk_at "sc"
noncomputable abbrev BZ:Stmt:=top 51
def JH:FnScope ["words","letters","k"] ["words","letters"] (Ad BZ):=by walk_at "sc"
noncomputable abbrev BQ:Stmt:=top 52
def Je:FnScope ["access","letters","k"] ["access","letters"] (Ad BQ):=by walk_at "sc"
noncomputable abbrev Ca:Stmt:=top 53
def Rl:FnScope ["ends","letters"] ["ends","letters"] (Ad Ca):=by walk_at "sc"
noncomputable abbrev Et:Stmt:=top 54
def Yv:FnScope ["told","word","ends"] ["told","word","ends"] (Ad Et):=by walk_at "sc"
noncomputable abbrev Dj:Stmt:=top 59
def Cb:FnScope ["asker","letters","most","asked","told","access","ends","wish","rows","k","many"] ["asker","letters","most","asked","told"] (Ad Dj):=by walk_at "sc"
noncomputable abbrev Fg:Stmt:=Bv (top 21) 2
def Yw:FnScope ["self"] ["self"] (Ad Fg):=by walk_at "sc"
noncomputable abbrev CK:Stmt:=Bv (top 41) 3
def Rm:FnScope ["self"] ["self"] (Ad CK):=by walk_at "sc"
noncomputable abbrev Dk:Stmt:=top 47
def Iq:FnScope ["found","due","k","c"] ["found","due"] (Ad Dk):=by walk_at "sc"
noncomputable abbrev Dm:Stmt:=top 48
def TH:FnScope ["found","due"] ["found","due"] (Ad Dm):=by walk_at "sc"
noncomputable abbrev Fh:Stmt:=top 49
def HY:FnScope ["house","word","room","told","letter"] ["house","word"] (Ad Fh):=by walk_at "sc"
noncomputable abbrev CL:Stmt:=top 55
def B0:FnScope ["letters","access","ends","told","rows","says","ways","k","row","letter","marks"] ["letters","access","ends","told"] (Ad CL):=by walk_at "sc"
noncomputable abbrev Cm:Stmt:=top 56
def CC:FnScope ["house","letters","asker","told","access","ends","due","word","mark"] ["house","letters","asker","told"] (Ad Cm):=by walk_at "sc"
noncomputable abbrev BA:Stmt:=Bv (top 21) 3
def LN:FnScope ["self","word","number"] ["self","word","number"] (Ad BA):=by walk_at "sc"
noncomputable abbrev D0:Stmt:=Bv (top 34) 2
def Vg:FnScope ["self","word","mark"] ["self","word","mark"] (Ad D0):=by walk_at "sc"
noncomputable abbrev Cn:Stmt:=Bv (top 41) 4
def PY:FnScope ["self","word","mark"] ["self","word","mark"] (Ad Cn):=by walk_at "sc"
noncomputable abbrev D1:Stmt:=top 60
def Cs:FnScope ["asker","script","at","told","house","cell","step","word","there","far"] ["asker","script","at","told"] (Ad D1):=by walk_at "sc"
noncomputable abbrev Fi:Stmt:=top 61
def K8:FnScope ["asker","letters","script","state","told","house","at"] ["asker","letters","script","state","told"] (Ad Fi):=by walk_at "sc"
noncomputable abbrev Gi:Stmt:=top 62
def Gq:FnScope ["asker","letters","most","script","state","told","asked","turn","wish"] ["asker","letters","most","script","state"] (Ad Gi):=by walk_at "sc"
noncomputable abbrev Yx:Stmt:=top 63
def XI:FnScope ["script","letters","most","asker","held","kept"] ["script"] (Ad Yx):=by walk_at "sc"
noncomputable def Vh:Caps:=[("letter",none),("letters",some 0)]
def WY:(Caps.names Vh).Nodup:=by decide +kernel
noncomputable def EK_:Caps:=[("room",none),("letter",none),("house",some 0)]
def Vi:(Caps.names EK_).Nodup:=by decide +kernel
noncomputable def Ti:Caps:=[("end",none),("book",some 0),("word",some 1)]
def Vj:(Caps.names Ti).Nodup:=by decide +kernel
noncomputable def Kq:Caps:=[("letter",none),("rooms",some 3),("marks",some 2),("word",some 5)]
def Om:(Caps.names Kq).Nodup:=by decide +kernel
noncomputable def Hd:Caps:=[("word",none),("marks",some 1),("self",some 0)]
def J2:(Caps.names Hd).Nodup:=by decide +kernel
noncomputable def Tj:Caps:=[("word",none),("marks",some 4)]
def Vk:(Caps.names Tj).Nodup:=by decide +kernel
noncomputable def He:Caps:=[("letter",none)]
def J3:(Caps.names He).Nodup:=by decide +kernel
noncomputable def JI:Caps:=[("letter",none)]
def MB:(Caps.names JI).Nodup:=by decide +kernel
noncomputable def OC:Caps:=[("end",none),("told",some 0),("word",some 1)]
def Ro:(Caps.names OC).Nodup:=by decide +kernel
noncomputable def Kr:Caps:=[("word",none),("told",some 4),("ends",some 6)]
def Oo:(Caps.names Kr).Nodup:=by decide +kernel
noncomputable def JJ:Caps:=[("word",none),("told",some 3),("ends",some 2)]
def MC:(Caps.names JJ).Nodup:=by decide +kernel
noncomputable def Lv:Caps:=[("k",none),("house",some 4),("cell",some 5),("step",some 6)]
def OP:(Caps.names Lv).Nodup:=by decide +kernel
noncomputable def HF_:Caps:=[("row",none)]
def FE_:(Caps.names HF_).Nodup:=by decide +kernel
structure Txt (mg:Str->Option Value):Prop where
 all:mg "all"=none
 bool:mg "bool"=none
 enumerate:mg "enumerate"=none
 int:mg "int"=none
 isinstance:mg "isinstance"=none
 len:mg "len"=none
 list:mg "list"=none
 max:mg "max"=none
 range:mg "range"=none
 tuple:mg "tuple"=none
 zip:mg "zip"=none
structure Own (K:PySem.W.Frag)(mg:Str->Option Value)(C_j7 C_j9 C_ji C_ja C_j1 C_j4:Addr):Prop where
 m_j7:mg "Book"=some (.ref C_j7)
 cl_j7:Cls K C_j7
 n_Book_letters:FN K C_j7 "letters"
 n_Book_marks:FN K C_j7 "marks"
 m_j9:mg "Turns"=some (.ref C_j9)
 m_ji:mg "Hunt"=some (.ref C_ji)
 m_ja:mg "Asker"=some (.ref C_ja)
 m_j1:mg "SayHunt"=some (.ref C_j1)
 cl_j1:Cls K C_j1
 n_SayHunt_book:FN K C_j1 "book"
 n_SayHunt_ends:FN K C_j1 "ends"
 n_SayHunt_gaps:FN K C_j1 "gaps"
 n_SayHunt_guess:FN K C_j1 "guess"
 n_SayHunt_letters:FN K C_j1 "letters"
 n_SayHunt_most:FN K C_j1 "most"
 n_SayHunt_ways:FN K C_j1 "ways"
 n_SayHunt_wish:FN K C_j1 "wish"
 n_SayHunt_wrong:FN K C_j1 "wrong"
 m_j4:mg "SayAsker"=some (.ref C_j4)
 cl_j4:Cls K C_j4
 n_SayAsker_hunt:FN K C_j4 "hunt"
 n_SayAsker_letters:FN K C_j4 "letters"
 q_j2d:∃t,mg "MOST_MARK"=some (.int 1000000000 t)
structure Exs (K:PySem.W.Frag)(mg:Str->Option Value)(C_j8 C_j5 C_j6 C_j3 C_j2 C_j0:Addr):Prop where
 m_j8:mg "AskError"=some (.ref C_j8)
 m_j5:mg "BadWord"=some (.ref C_j5)
 m_j6:mg "BadMark"=some (.ref C_j6)
 m_j3:mg "OutOfTurn"=some (.ref C_j3)
 m_j2:mg "NoDifference"=some (.ref C_j2)
 m_j0:mg "Contradiction"=some (.ref C_j0)
 x_j5:PySem.W.excIn K C_j5 bmV "ValueError.__new__"=true
 c_j5:ExcCls K C_j5
 e_j5:PySem.W.exmOne K (.ref C_j5) (.ref C_j8)=some true
 v_j5:PySem.W.kitOne K (.ref C_j5) (.type "ValueError")=some true
 ee_j5:PySem.W.exmOne K (.ref C_j5) (.ref C_j5)=some true
 k_j5_j8:PySem.W.kitOne K (.ref C_j5) (.ref C_j8)=some true
 k_j5_j5:PySem.W.kitOne K (.ref C_j5) (.ref C_j5)=some true
 k_j5_j6:PySem.W.kitOne K (.ref C_j5) (.ref C_j6)=some false
 k_j5_j3:PySem.W.kitOne K (.ref C_j5) (.ref C_j3)=some false
 k_j5_j2:PySem.W.kitOne K (.ref C_j5) (.ref C_j2)=some false
 k_j5_j0:PySem.W.kitOne K (.ref C_j5) (.ref C_j0)=some false
 x_j6:PySem.W.excIn K C_j6 bmV "ValueError.__new__"=true
 c_j6:ExcCls K C_j6
 e_j6:PySem.W.exmOne K (.ref C_j6) (.ref C_j8)=some true
 v_j6:PySem.W.kitOne K (.ref C_j6) (.type "ValueError")=some true
 ee_j6:PySem.W.exmOne K (.ref C_j6) (.ref C_j6)=some true
 k_j6_j8:PySem.W.kitOne K (.ref C_j6) (.ref C_j8)=some true
 k_j6_j5:PySem.W.kitOne K (.ref C_j6) (.ref C_j5)=some false
 k_j6_j6:PySem.W.kitOne K (.ref C_j6) (.ref C_j6)=some true
 k_j6_j3:PySem.W.kitOne K (.ref C_j6) (.ref C_j3)=some false
 k_j6_j2:PySem.W.kitOne K (.ref C_j6) (.ref C_j2)=some false
 k_j6_j0:PySem.W.kitOne K (.ref C_j6) (.ref C_j0)=some false
 x_j3:PySem.W.excIn K C_j3 bmV "ValueError.__new__"=true
 c_j3:ExcCls K C_j3
 e_j3:PySem.W.exmOne K (.ref C_j3) (.ref C_j8)=some true
 v_j3:PySem.W.kitOne K (.ref C_j3) (.type "ValueError")=some true
 ee_j3:PySem.W.exmOne K (.ref C_j3) (.ref C_j3)=some true
 k_j3_j8:PySem.W.kitOne K (.ref C_j3) (.ref C_j8)=some true
 k_j3_j5:PySem.W.kitOne K (.ref C_j3) (.ref C_j5)=some false
 k_j3_j6:PySem.W.kitOne K (.ref C_j3) (.ref C_j6)=some false
 k_j3_j3:PySem.W.kitOne K (.ref C_j3) (.ref C_j3)=some true
 k_j3_j2:PySem.W.kitOne K (.ref C_j3) (.ref C_j2)=some false
 k_j3_j0:PySem.W.kitOne K (.ref C_j3) (.ref C_j0)=some false
 x_j2:PySem.W.excIn K C_j2 bmV "ValueError.__new__"=true
 c_j2:ExcCls K C_j2
 e_j2:PySem.W.exmOne K (.ref C_j2) (.ref C_j8)=some true
 v_j2:PySem.W.kitOne K (.ref C_j2) (.type "ValueError")=some true
 ee_j2:PySem.W.exmOne K (.ref C_j2) (.ref C_j2)=some true
 k_j2_j8:PySem.W.kitOne K (.ref C_j2) (.ref C_j8)=some true
 k_j2_j5:PySem.W.kitOne K (.ref C_j2) (.ref C_j5)=some false
 k_j2_j6:PySem.W.kitOne K (.ref C_j2) (.ref C_j6)=some false
 k_j2_j3:PySem.W.kitOne K (.ref C_j2) (.ref C_j3)=some false
 k_j2_j2:PySem.W.kitOne K (.ref C_j2) (.ref C_j2)=some true
 k_j2_j0:PySem.W.kitOne K (.ref C_j2) (.ref C_j0)=some false
 x_j0:PySem.W.excIn K C_j0 bmV "ValueError.__new__"=true
 c_j0:ExcCls K C_j0
 e_j0:PySem.W.exmOne K (.ref C_j0) (.ref C_j8)=some true
 v_j0:PySem.W.kitOne K (.ref C_j0) (.type "ValueError")=some true
 ee_j0:PySem.W.exmOne K (.ref C_j0) (.ref C_j0)=some true
 k_j0_j8:PySem.W.kitOne K (.ref C_j0) (.ref C_j8)=some true
 k_j0_j5:PySem.W.kitOne K (.ref C_j0) (.ref C_j5)=some false
 k_j0_j6:PySem.W.kitOne K (.ref C_j0) (.ref C_j6)=some false
 k_j0_j3:PySem.W.kitOne K (.ref C_j0) (.ref C_j3)=some false
 k_j0_j2:PySem.W.kitOne K (.ref C_j0) (.ref C_j2)=some false
 k_j0_j0:PySem.W.kitOne K (.ref C_j0) (.ref C_j0)=some true
section
variable {P:Program} {w:World} {K:PySem.W.Frag} {mg:Str->Option Value} {base:Heap}
variable {C_j8 C_j5 C_j6 C_j3 C_j2 C_j0 C_j7 C_j9 C_ji C_ja C_j1 C_j4:Addr}
noncomputable def XJ (K:PySem.W.Frag):Sp:=fun vs H Q _=>∃(L:Int) (a:Addr) (ws:List Int),vs=[.int L,.ref a]/\SqT K H a (ws.map V.int)/\ws.length<=1000/\∀H',Same H H'->Q (.bl (isW L ws)) H'
def FF_   (F:Fun K "is_word" "is_word" I0 f fd)(T:Txt mg)
  (W:Own K mg C_j7 C_j9 C_ji C_ja C_j1 C_j4)
  (Z:Exs K mg C_j8 C_j5 C_j6 C_j3 C_j2 C_j0)
  : nofun 1 f fd ["letters","word"] (XJ K):=by
 delta FC_
 ·obtain⟨L,a,ws,rfl,_⟩:=h;rfl
 ·obtain⟨L,a,ws,rfl,hw,hz,k⟩:=h
  have hl:=Aq
  refine⟨_,(Af (An (AG (IH_ rfl) rfl T.all PyProof.Rows.boot_all (Aa (K2 rfl (Kl rfl) (cp:=Vh) ⟨⟨rfl,rfl⟩,True.intro⟩ (Eq_ (pvD 1)) (fun _ _ _ _=>(Bm (i:=0) WY rfl (Or.inl rfl))) (fun _ _ _ _=>Ls) (fun _ _ _ _=>(Es_ Iu_ Gy_ Ah (pvD 0) (pvD 1)))) Ae)))),?_⟩
  nofun
  refine⟨⟨_,hw⟩,IJ_ (σ':=[some (.int L)]) (fun x=>match x with | .int n=>.bl (inW L n)|_=>.non) rfl hw (by rw[List.length_map];lia) (fun x hx R hR=>?_) (fun D hD=>?_)⟩
  ·obtain⟨n,_,rfl⟩:=PQ hx
   nofun
   by_cases h0:0<=n
   ·simp only[h0,if_true]
    simpa [inW,h0] using hR
   ·simp only[h0,if_false]
    simpa [inW,h0] using hR
  ·refine⟨D,rfl,ws.map (inW L),.inl (.inl ?_),?_⟩
   ·rw[Ab,List.map_map,List.map_map];rfl
   ·have:=k _ (Same.new hD (o:=.lst ((ws.map V.int).map fun x=>match x with | .int n=>.bl (inW L n)|_=>.non)))
    simpa [isW,List.all_map] using this
noncomputable def Yy (K:PySem.W.Frag)(BW:Addr):Sp:=fun vs H Q E=>∃(L:Int) (a:Addr) (ws:List Int),vs=[.int L,.ref a]/\SqT K H a (ws.map V.int)/\ws.length<=1000/\(isW L ws=true->∀H',Same H H'->Q .non H')/\(isW L ws=false->∀H',Same H H'->E (.ref BW) none H')
def Yz   (F:Fun K "check_word" "check_word" Eo f fd)(T:Txt mg)
  (W:Own K mg C_j7 C_j9 C_ji C_ja C_j1 C_j4)
  (Z:Exs K mg C_j8 C_j5 C_j6 C_j3 C_j2 C_j0)
   (Vl:nofun 1 Kt XM ["letters","word"] (XJ K)) (ME:Fun K "is_word" "is_word" I0 Kt XM) (Vm:Au K XM ["letters","word"] []) (Vn:mg "is_word"=some (.ref Kt))
  : FnOk P w K mg base (CXe P w) 2 f fd ["letters","word"] (Yy K C_j5):=by
 refine F.okE Ym (fun vs H Q E h=>?_) (fun cdv A outer s H vs Q E hr h=>?_)
 ·obtain⟨L,a,ws,rfl,_⟩:=h;rfl
 ·obtain⟨L,a,ws,rfl,hw,hz,k,kE⟩:=h
  have hl:=Aq
  refine⟨_,(Af (B7 (EU (ptB (ET (Ay Vl (hr.mono (by decide)) rfl Vn ME.kp Vm .nil AN (Aa (pvD 0) (Aa (pvD 1) Ae))))))
   (Af (Od Z.m_j5 Z.x_j5 rfl rfl (Aa El Ae)))
   AL)),?_⟩
  nofun
  refine⟨L,a,ws,rfl,hw,hz,fun H' s'=>?_⟩
  nofun
  cases hv:isW L ws with
  |true=>
   simp only[Bool.not_true,Bool.false_eq_true,if_false]
   exact k hv H' s'
  |false=>
   simp only[Bool.not_false,if_true]
   exact⟨by lia,kE hv H' s'⟩
noncomputable def XN:Sp:=fun vs H Q _=>∃n:Int,vs=[.int n]/\Q (.bl (decide (0<=n)&&decide (n<=1000000000))) H
def FG_   (F:Fun K "is_mark" "is_mark" Jd f fd)(T:Txt mg)
  (W:Own K mg C_j7 C_j9 C_ji C_ja C_j1 C_j4)
  (Z:Exs K mg C_j8 C_j5 C_j6 C_j3 C_j2 C_j0)
  : nofun 1 f fd ["number"] (XN):=by
 delta FD_
 ·obtain⟨n,rfl,_⟩:=h;rfl
 ·obtain⟨n,rfl,k⟩:=h
  refine⟨_,(Af (An (Es_ Iu_ Iu_ Ah (pvD 0) (Nw_ rfl W.q_j2d)))),?_⟩
  nofun
  by_cases h0:0<=n
  ·simp only[h0,if_true]
   simpa [h0] using k
  ·simp only[h0,if_false]
   simpa [h0] using k
noncomputable def OD (BM:Addr):Sp:=fun vs H Q E=>∃n:Int,vs=[.int n]/\(0<=n->n<=1000000000->Q .non H)/\(¬ (0<=n/\n<=1000000000)->E (.ref BM) none H)
def YA   (F:Fun K "check_mark" "check_mark" Fd f fd)(T:Txt mg)
  (W:Own K mg C_j7 C_j9 C_ji C_ja C_j1 C_j4)
  (Z:Exs K mg C_j8 C_j5 C_j6 C_j3 C_j2 C_j0)
   (Vo:nofun 1 Ku XO ["number"] (XN)) (MF:Fun K "is_mark" "is_mark" Jd Ku XO) (Vp:Au K XO ["number"] []) (Vq:mg "is_mark"=some (.ref Ku))
  : FnOk P w K mg base (CXe P w) 2 f fd ["mark"] (OD C_j6):=by
 refine F.okE Yr (fun vs H Q E h=>?_) (fun cdv A outer s H vs Q E hr h=>?_)
 ·obtain⟨n,rfl,_⟩:=h;rfl
 ·obtain⟨n,rfl,k,kE⟩:=h
  refine⟨_,(Af (B7 (EU (ptB (ET (Ay Vo (hr.mono (by decide)) rfl Vq MF.kp Vp .nil AN (Aa (pvD 0) Ae)))))
   (Af (Od Z.m_j6 Z.x_j6 rfl rfl (Aa El Ae)))
   AL)),?_⟩
  nofun
  refine⟨n,rfl,?_⟩
  nofun
  by_cases h0:0<=n/\n<=1000000000
  ·rw[if_neg (by simp[h0.1,h0.2])]
   exact k h0.1 h0.2
  ·rw[if_pos (by simp only[Bool.not_eq_true',Bool.and_eq_false_iff,decide_eq_false_iff_not];lia)]
   exact⟨by have:=Aq;lia,kE h0⟩
noncomputable def Vr (K:PySem.W.Frag)(BW:Addr):Sp:=fun vs H Q E=>∃(h a m wv:Addr) (L:Int) (marks:List Int) (ways:List (List Int)) (ws:List Int),vs=[.ref h,.ref a]/\SqT K H h [.int L,.ref m,.ref wv]/\Rows K H wv ways/\Wf L marks ways/\SqT K H a (ws.map V.int)/\ws.length<=600/\(isW L ws=true->∀p H',Same H H'->H p=none->H' p=some (.lst ((U9 ways ws).map V.int))->Q (.ref p) H')/\(isW L ws=false->∀H',Same H H'->E (.ref BW) none H')
def IV_   (F:Fun K "trail" "trail" Mv f fd)(T:Txt mg)
  (W:Own K mg C_j7 C_j9 C_ji C_ja C_j1 C_j4)
  (Z:Exs K mg C_j8 C_j5 C_j6 C_j3 C_j2 C_j0)
   (Gr:FnOk P w K mg base (CXe P w) 2 DD GR ["letters","word"] (Yy K C_j5)) (Eu:Fun K "check_word" "check_word" Eo DD GR) (Gs:Au K GR ["letters","word"] []) (Gu:mg "check_word"=some (.ref DD))
  : FnOk P w K mg base (CXe P w) 3 f fd ["house","word"] (Vr K C_j5):=by
 refine F.okE US (fun vs H Q E h=>?_) (fun cdv A outer s H vs Q E hr h=>?_)
 ·obtain⟨h,a,m,wv,L,marks,ways,ws,rfl,_⟩:=h;rfl
 ·obtain⟨h,a,m,wv,L,marks,ways,ws,rfl,h1,h3,wf,hw,hz,k,kE⟩:=h
  have hl:=Aq
  refine⟨_,(Ac (Bc (Ay Gr (hr.mono (by decide)) rfl Gu Eu.kp Gs .nil (Km fun _ _ _ h=>h) (Aa (Ar (ixTD AZ) (pvD 0) Ah) (Aa (pvD 1) Ae))))
   (PSs.nox (Ac (AX (i:=2) US.nd (Ar (ixTD AZ) (pvD 0) Ah))
   (Ac (AX (i:=3) US.nd (JG (Aa Ah Ae)))
   (Ac (E7 PassesOwn.never rfl (Eq_ (pvD 1)) (Bm (i:=4) US.nd rfl (Or.inl rfl))
   (Af (Bc (U5 PySem.F.plainAttrs_list PySem.F.slot_list_append PySem.F.type_list_append GO (pvD 3) (Aa (Ar (ixTD AZ) (Ar (ixTD AZ) (pvD 2) (Ar (ixLD Cj) (pvD 3) (Fl_ XC Ah))) (pvD 4)) Ae)))))
   (Af (An (pvD 3)))))))),?_⟩
  nofun
  refine⟨_,h1,_,rfl,L,a,ws,rfl,hw,by lia,fun hv H1 s1=>?_,kE⟩
  nofun
  have hw1:=s1.seqT hw
  have h3':=h3.mono s1
  refine⟨_,s1.seqT h1,_,rfl,by lia,fun p hp=>?_⟩
  have s2:=Same.new hp (o:=.lst [V.int 0])
  refine⟨⟨_,s2.seqT hw1⟩,forT (xs:=ws.map V.int) (fun i σ2 H2=>Same H1 H2/\H2 p=some (.lst (((List.range (i+1)).map fun j=>FO ways (ws.take j)).map V.int))/\∃o,σ2=[some (.ref h),some (.ref a),some (.ref wv),some (.ref p),o]) ⟨s2,by rw[Ab];simp[FO],none,rfl⟩ (fun i σ2 H2 _ h=>h.1.seqT hw1) (fun i x σ2 H2 hx h=>?_) (fun σ2 H2 h=>?_)⟩
  ·obtain⟨s3,hp3,o,rfl⟩:=h
   obtain⟨n,hn,rfl⟩:=PR hx
   have hi:=(List.getElem?_eq_some_iff.mp hn).1
   have hx:=CH.mp hv n (List.mem_of_getElem? hn)
   have hwk:=wf.walk hv i
   obtain⟨row,g,r1,r2,r3,r4,r5⟩:=wf.step hwk.1 hwk.2 hx.1 hx.2
   obtain⟨xs,t,q1,q2,q3⟩:=(h3'.mono s3).atZ hwk.1 r1
   nofun
   refine⟨.inl ⟨rfl,_,SqL.of hp3⟩,_,SqL.of hp3,_,Dh_ (v:=V.int (FO ways (ws.take i))) (by simp),?_⟩
   nofun
   refine⟨_,q1,_,q2,?_⟩
   nofun
   refine⟨_,q3,_,Va hx.1 r2,_,hp3,by simp;lia,s3.over hp,?_,_,rfl⟩
   rw[Ab,show List.range (i+1+1)=List.range (i+1)++[i+1] from List.range_succ,List.map_append,List.map_append,<-r3,<-Of hn]
   rfl
  ·obtain⟨s3,hp3,o,rfl⟩:=h
   nofun
   rw[List.length_map]at hp3
   exact k hv p H2 (s1.trans s3) (s1.free hp) hp3
noncomputable def TJ (K:PySem.W.Frag)(H:Hp)(h:Addr)(L:Int)(says ways:List (List Int)):Prop:=∃m wv:Addr,SqT K H h [.int L,.ref m,.ref wv]/\Rows K H m says/\Rows K H wv ways
def TJ.mono {K:PySem.W.Frag}     (x:TJ K H h L says ways)(e:Same H H'):TJ K H' h L says ways:=by
 obtain⟨m,wv,h1,h2,h3⟩:=x
 exact⟨m,wv,e.seqT h1,h2.mono e,h3.mono e⟩
structure WfS (L:Int)(says ways:List (List Int)):Prop where
 wf:Wf L (List.replicate says.length 0) ways
 sr:∀row∈says,(row.length:Int)=L
noncomputable def sayW (says ways:List (List Int))(ws:List Int):List Int:=(List.range ws.length).map fun j=>LL says (FO ways (ws.take j)) (ws.getD j 0)
def Jf (says ways:List (List Int))(ws:List Int):(sayW says ways ws).length=ws.length:=by unfold sayW;rw[List.length_map,List.length_range]
def WfS.at {L:Int}{says ways:List (List Int)}(h:WfS L says ways){r x:Int}(r0:0<=r)(r1:r<says.length)(x0:0<=x)(x1:x<L):∃row,says[r.toNat]?=some row/\row[x.toNat]?=some (LL says r x):=by
 have hr:r.toNat<says.length:=by lia
 refine⟨says[r.toNat],by simp[hr],?_⟩
 have hl:=h.sr _ (List.getElem_mem hr)
 have hx:x.toNat<(says[r.toNat]).length:=by lia
 have e:says.getD r.toNat []=says[r.toNat]:=by rw[List.getD_eq_getElem?_getD,List.getElem?_eq_getElem hr];rfl
 unfold LL
 rw[e,List.getD_eq_getElem?_getD,List.getElem?_eq_getElem hx];rfl
def WfS.walk   (h:WfS L says ways)  (hw:isW L ws=true)(i:Nat):0<=FO ways (ws.take i)/\FO ways (ws.take i)<says.length:=by
 have:=h.wf.walk hw i
 rw[List.length_replicate]at this
 exact this
noncomputable def HG_ (K:PySem.W.Frag)(BW:Addr):Sp:=fun vs H Q E=>∃(h a:Addr) (L:Int) (says ways:List (List Int)) (ws:List Int),vs=[.ref h,.ref a]/\TJ K H h L says ways/\WfS L says ways/\SqT K H a (ws.map V.int)/\ws.length<=600/\(isW L ws=true->∀p H',Same H H'->H' p=some (.lst ((sayW says ways ws).map V.int))->Q (.ref p) H')/\(isW L ws=false->∀H',Same H H'->E (.ref BW) none H')
def Ls_   (F:Fun K "said" "said" Vd f fd)(T:Txt mg)
  (W:Own K mg C_j7 C_j9 C_ji C_ja C_j1 C_j4)
  (Z:Exs K mg C_j8 C_j5 C_j6 C_j3 C_j2 C_j0)
   (Rp:FnOk P w K mg base (CXe P w) 3 K9 PZ ["house","word"] (Vr K C_j5)) (MG:Fun K "trail" "trail" Mv K9 PZ) (Rq:Au K PZ ["house","word"] []) (Rr:mg "trail"=some (.ref K9))
  : FnOk P w K mg base (CXe P w) 4 f fd ["house","word"] (HG_ K C_j5):=by
 refine F.okE Lr_ (fun vs H Q E h=>?_) (fun cdv A outer s H vs Q E hr h=>?_)
 ·obtain⟨h,a,L,says,ways,ws,rfl,_⟩:=h;rfl
 ·obtain⟨h,a,L,says,ways,ws,rfl,hh,wf,hw,hz,k,kE⟩:=h
  have hl:=Aq
  refine⟨_,(Af (An (K2 rfl (Kl rfl) (cp:=EK_) ⟨⟨rfl,rfl⟩,True.intro⟩ (Ld_ rfl T.zip (Aa (Ay Rp (hr.mono (by decide)) rfl Rr MG.kp Rq .nil (Km fun _ _ _ h=>h) (Aa (pvD 0) (Aa (pvD 1) Ae))) (Aa (pvD 1) Ae))) (fun _ _ _ _=>(Le_ (K:=K) (n:=2) rfl rfl (JF (Bm (i:=0) Vi rfl (Or.inl rfl)) (JF (Bm (i:=1) Vi rfl (Or.inl rfl)) X1)))) (fun _ _ _ _=>Ls) (fun _ _ _ _=>(Ar (ixTD (Ye (K:=K) rfl)) (Ar (ixTD (Ye (K:=K) rfl)) (Ar (ixTD (Ye (K:=K) rfl)) (pvD 2) Ah) (pvD 0)) (pvD 1)))))),?_⟩
  nofun
  obtain⟨m,wv,h1,h2,h3⟩:=id hh
  refine⟨h,a,m,wv,L,_,ways,ws,rfl,h1,h3,wf.wf,hw,hz,fun hv p H1 s1 hp hp1=>?_,kE⟩
  refine⟨p,rfl,_,_,false,SqL.of hp1,true,s1.seqT hw,?_⟩
  have htl:(U9 ways ws).length=ws.length+1:=Yg ways ws
  obtain⟨Pv,hPv⟩:∃Pv:Nat->List V->St->Hp->Prop,∀i zs σ2 H2,Pv i zs σ2 H2↔(Same H1 H2/\zs=((List.range i).map fun j=>LL says (FO ways (ws.take j)) (ws.getD j 0)).map V.int/\∃o1 o2,σ2=[o1,o2,some (.ref h)]):=⟨_,fun _ _ _ _=>Iff.rfl⟩
  refine MP_ ws.length (by rw[List.length_map];lia) (by rw[List.length_map];lia) (by rw[List.length_map,List.length_map];exact .inr rfl) Pv ((hPv _ _ _ _).mpr ⟨Same.refl _,rfl,none,none,rfl⟩) s!"" (fun i zs σ2 H2 hi h2=>?_) (fun i u v zs σ2 H2 t hi hu hv' h2 ht=>?_) (fun zs σ2 H2 h2 D hD=>?_)
  ·obtain⟨s2,rfl,_⟩:=(hPv _ _ _ _).mp h2
   exact⟨SqL.of (s2 _ _ hp1),(s1.trans s2).seqT hw,by rw[List.length_map,List.length_map,List.length_range];exact Nat.le_refl _⟩
  ·obtain⟨s2,rfl,o1,o2,rfl⟩:=(hPv _ _ _ _).mp h2
   obtain⟨rm,hrm,rfl⟩:=PR hu
   obtain⟨n,hn,rfl⟩:=PR hv'
   have erm:rm=FO ways (ws.take i):=by
    unfold U9 at hrm
    rw[List.getElem?_map,List.getElem?_range s!""]at hrm
    exact (Option.some.inj hrm).symm
   subst erm
   have hx:=CH.mp hv n (List.mem_of_getElem? hn)
   have hwk:=wf.walk hv i
   obtain⟨srow,r1,r2⟩:=wf.at hwk.1 hwk.2 hx.1 hx.2
   have st:=s2.newT ht (o:=.tup [V.int (FO ways (ws.take i)),V.int n])
   obtain⟨m',wv',k1,k2,k3⟩:=hh.mono (s1.trans st)
   obtain⟨xs,t',q1,q2,q3⟩:=k2.atZ hwk.1 r1
   nofun
   refine⟨_,SqT.of Ab,rfl,_,_,rfl,_,_,rfl,rfl,_,k1,_,rfl,?_⟩
   nofun
   refine⟨_,q1,_,q2,t',rfl,_,q3,_,Va hx.1 r2,(hPv _ _ _ _).mpr ⟨st,?_,_,_,rfl⟩⟩
   rw[List.range_succ,List.map_append,List.map_append,List.map_singleton,List.map_singleton,show ws.getD i 0=n from by rw[List.getD_eq_getElem?_getD,hn];rfl]
  ·obtain⟨s2,rfl,_⟩:=(hPv _ _ _ _).mp h2
   exact k hv D _ ((s1.trans s2).newT hD) Ab
noncomputable def MK (K:PySem.W.Frag)(BW:Addr):Sp:=fun vs H Q E=>∃(a:Addr) (ws:List Int),vs=[.ref a]/\SqT K H a (ws.map V.int)/\(ws ≠ []->Q .non H)/\(ws=[]->E (.ref BW) none H)
def P0   (F:Fun K "check_not_empty" "check_not_empty" BY f fd)(T:Txt mg)
  (W:Own K mg C_j7 C_j9 C_ji C_ja C_j1 C_j4)
  (Z:Exs K mg C_j8 C_j5 C_j6 C_j3 C_j2 C_j0)
  : FnOk P w K mg base (CXe P w) 1 f fd ["word"] (MK K C_j5):=by
 refine F.okE PV (fun vs H Q E h=>?_) (fun cdv A outer s H vs Q E hr h=>?_)
 ·obtain⟨a,ws,rfl,_⟩:=h;rfl
 ·obtain⟨a,ws,rfl,hw,k,kE⟩:=h
  have hl:=Aq
  refine⟨_,(Af (B7 (ptT (AF (opE KY) (AG (lenD Aj) (by rfl) T.len PySem.boot_len (Aa (pvD 0) Ae)) Ah (A0 _)))
   (Af (Od Z.m_j5 Z.x_j5 rfl rfl (Aa El Ae)))
   AL)),?_⟩
  nofun
  refine⟨_,.inr hw,?_⟩
  rw[List.length_map]
  refine ite2 (fun e=>⟨by lia,kE (List.eq_nil_of_length_eq_zero (by simpa using e))⟩) (fun e=>k fun z=>e (by rw[z];rfl))
noncomputable def JK (K:PySem.W.Frag)(BW:Addr):Sp:=fun vs H Q E=>∃(h a:Addr) (L:Int) (says ways:List (List Int)) (ws:List Int),vs=[.ref h,.ref a]/\TJ K H h L says ways/\WfS L says ways/\SqT K H a (ws.map V.int)/\ws.length<=600/\(isW L ws=true->ws ≠ []->∀H' x,Same H H'->(sayW says ways ws)[ws.length-1]?=some x->Q (.int x) H')/\(isW L ws=false\/ws=[]->∀H',Same H H'->E (.ref BW) none H')
def Bm_   (F:Fun K "last_said" "last_said" EG f fd)(T:Txt mg)
  (W:Own K mg C_j7 C_j9 C_ji C_ja C_j1 C_j4)
  (Z:Exs K mg C_j8 C_j5 C_j6 C_j3 C_j2 C_j0)
   (C6:FnOk P w K mg base (CXe P w) 1 BF DE ["word"] (MK K C_j5)) (B1:Fun K "check_not_empty" "check_not_empty" BY BF DE) (C7:Au K DE ["word"] []) (C8:mg "check_not_empty"=some (.ref BF))
   (HH_:FnOk P w K mg base (CXe P w) 4 XQ HI_ ["house","word"] (HG_ K C_j5)) (Bn_:Fun K "said" "said" Vd XQ HI_) (HJ_:Au K HI_ ["house","word"] []) (HK_:mg "said"=some (.ref XQ))
  : FnOk P w K mg base (CXe P w) 5 f fd ["house","word"] (JK K C_j5):=by
 refine F.okE Bi_ (fun vs H Q E h=>?_) (fun cdv A outer s H vs Q E hr h=>?_)
 ·obtain⟨h,a,L,says,ways,ws,rfl,_⟩:=h;rfl
 ·obtain⟨h,a,L,says,ways,ws,rfl,hh,wf,hw,hz,k,kE⟩:=h
  refine⟨_,(Ac (Bc (Ay C6 (hr.mono (by decide)) rfl C8 B1.kp C7 .nil (Km fun _ _ _ h=>h) (Aa (pvD 1) Ae)))
   (Af (An (Ar (ixLD Cj) (Ay HH_ (hr.mono (by decide)) rfl HK_ Bn_.kp HJ_ .nil (Km fun _ _ _ h=>h) (Aa (pvD 0) (Aa (pvD 1) Ae))) (Fl_ XC Ah))))),?_⟩
  nofun
  refine⟨a,ws,rfl,hw,fun hne=>?_,fun e=>kE (.inr e) _ (Same.refl _)⟩
  nofun
  refine⟨h,a,L,says,ways,ws,rfl,hh,wf,hw,hz,fun hv p H1 s1 hp1=>?_,fun hv H1 s1=>kE (.inl hv) _ s1⟩
  nofun
  have hlt:ws.length-1<(sayW says ways ws).length:=by
   rw[Jf]
   have:=List.length_pos_iff.mpr hne
   lia
  have hx:(sayW says ways ws)[ws.length-1]?=some ((sayW says ways ws)[ws.length-1]):=by simp[hlt]
  refine⟨_,SqL.of hp1,_,Dh_ (v:=V.int ((sayW says ways ws)[ws.length-1])) ?_,k hv hne _ _ s1 hx⟩
  rw[List.length_map,Jf,List.getElem?_map,hx];rfl
noncomputable def Tn (C:Addr):Sp:=fun vs H Q _=>∃(p dx:Addr) (L:Int),vs=[.ref p,.int L]/\H p=some (.ins C dx [])/\∀(d:Addr) (H':Hp),H d=none->BookAt C H' p d L []->(∀b o,H b=some o->b≠p->H' b=some o)->Q .non H'
def Bo_   (F:Fun K "__init__" "Book.__init__" Gg f fd)(T:Txt mg)
  (W:Own K mg C_j7 C_j9 C_ji C_ja C_j1 C_j4)
  (Z:Exs K mg C_j8 C_j5 C_j6 C_j3 C_j2 C_j0)
  : nofun 1 f fd ["self","letters"] (Tn C_j7):=by
 delta Bg_
 ·obtain⟨p,dx,L,rfl,_⟩:=h;rfl
 ·obtain⟨p,dx,L,rfl,hp,k⟩:=h
  refine⟨_,(Ac (Gm (pvD 0) (pvD 1) rfl)
   (Af (Gm (pvD 0) K1 rfl))),?_⟩
  nofun
  refine⟨_,_,_,hp,W.cl_j7,W.n_Book_letters,by decide,fun d hd=>?_⟩
  have hdp:d≠p:=fun z=>by rw[z,Ab]at hd;cases hd
  rw[Ag hdp]at hd
  refine⟨_,_,_,by rw[Ag (Ne.symm hdp)];exact Ab,W.cl_j7,W.n_Book_marks,by simp[putF],?_⟩
  refine k d _ hd ⟨⟨_,Ab⟩,by rw[Ag hdp];exact Ab,by simp⟩ fun b o hb hbp=>?_
  rw[Ag hbp,Ag (C3 hb hd),Ag hbp]
  exact hb
noncomputable def J4 (C BW BM:Addr):Sp:=fun vs H Q E=>∃(p d t:Addr) (L m:Int) (w:List Int) (es:List (List Int×Int)),vs=[.ref p,.ref t,.int m]/\BookAt C H p d L es/\H t=some (.tup (w.map V.int))/\w.length<=900 /\
 (isW L w=false->∀H',Same H H'->E (.ref BW) none H') /\
 (isW L w=true->¬ (0<=m/\m<=1000000000)->∀H',Same H H'->E (.ref BM) none H') /\
 (isW L w=true->0<=m->m<=1000000000->∀H',Same H H'->Q .non H')
def YB   (F:Fun K "check" "Book.check" Er f fd)(T:Txt mg)
  (W:Own K mg C_j7 C_j9 C_ji C_ja C_j1 C_j4)
  (Z:Exs K mg C_j8 C_j5 C_j6 C_j3 C_j2 C_j0)
   (Gr:FnOk P w K mg base (CXe P w) 2 DD GR ["letters","word"] (Yy K C_j5)) (Eu:Fun K "check_word" "check_word" Eo DD GR) (Gs:Au K GR ["letters","word"] []) (Gu:mg "check_word"=some (.ref DD))
   (ML:FnOk P w K mg base (CXe P w) 2 Gv P4 ["mark"] (OD C_j6)) (HZ:Fun K "check_mark" "check_mark" Fd Gv P4) (MM:Au K P4 ["mark"] []) (MN:mg "check_mark"=some (.ref Gv))
  : FnOk P w K mg base (CXe P w) 3 f fd ["self","word","mark"] (J4 C_j7 C_j5 C_j6):=by
 refine F.okE Ys (fun vs H Q E h=>?_) (fun cdv A outer s H vs Q E hr h=>?_)
 ·obtain⟨p,d,t,L,m,wd,es,rfl,_⟩:=h;rfl
 ·obtain⟨p,d,t,L,m,wd,es,rfl,B,ht,hwl,kW,kM,k⟩:=h
  have hln:=Aq
  refine⟨_,(Ac (Bc (Ay Gr (hr.mono (by decide)) rfl Gu Eu.kp Gs .nil (Km fun _ _ _ h=>h) (Aa (AY (pvD 0) rfl) (Aa (pvD 1) Ae))))
   (Af (Bc (Ay ML (hr.mono (by decide)) rfl MN HZ.kp MM .nil (Km fun _ _ _ h=>h) (Aa (pvD 2) Ae))))),?_⟩
  obtain⟨⟨dx,hp⟩,hd,nd⟩:=id B
  nofun
  refine⟨_,_,_,hp,W.cl_j7,W.n_Book_letters,_,Yk _ _,?_⟩
  refine⟨L,t,wd,rfl,SqT.of ht,by lia,fun hw H1 s1=>?_,fun hw H1 s1=>kW hw H1 s1⟩
  nofun
  exact⟨m,rfl,fun h0 h1=>k hw h0 h1 _ s1,fun hm=>kM hw hm H1 s1⟩
noncomputable def putE (es:List (List Int×Int))(v:List Int)(m:Int):List (List Int×Int):=if v∈es.map (·.1) then es else es++[(v,m)]
def FH_    (nd:(es.map (·.1)).Nodup)(h:(v,m)∈es):putK (ents es) (wkey v) (.int m)=ents es:=by
 unfold putK
 rw[KZ,F6 nd h,if_pos (by simp)]
 unfold ents
 rw[List.map_map]
 refine List.map_congr_left fun e he=>?_
 show (if wkey e.1=wkey v then (wkey e.1,V.int m) else (wkey e.1,V.int e.2))=(wkey e.1,V.int e.2)
 split
 ·rename_i z
  have e1:e.1=v:=UQ z
  have h1:=F6 nd (show (e.1,e.2)∈es from he)
  rw[e1,F6 nd h]at h1
  rw[Option.some.inj h1]
 ·rfl
noncomputable def MO (C BW BM CO:Addr):Sp:=fun vs H Q E=>∃(p d t:Addr) (L m:Int) (w:List Int) (es:List (List Int×Int)),vs=[.ref p,.ref t,.int m]/\BookAt C H p d L es/\H t=some (.tup (w.map V.int))/\w.length<=900/\es.length<=100000 /\
 (isW L w=false->∀H',Same H H'->E (.ref BW) none H') /\
 (isW L w=true->¬ (0<=m/\m<=1000000000)->∀H',Same H H'->E (.ref BM) none H') /\
 (isW L w=true->0<=m->m<=1000000000->∀n,(w,n)∈es->n≠m->∀H',Same H H'->E (.ref CO) none H') /\
 (isW L w=true->0<=m->m<=1000000000->(∀n,(w,n)∈es->n=m)->∀H',BookAt C H' p d L (putE es w m)->(∀b o,H b=some o->b≠d->H' b=some o)->Q .non H')
def Dq_   (F:Fun K "put" "Book.put" Gp f fd)(T:Txt mg)
  (W:Own K mg C_j7 C_j9 C_ji C_ja C_j1 C_j4)
  (Z:Exs K mg C_j8 C_j5 C_j6 C_j3 C_j2 C_j0)
   (Gw:FnOk P w K mg base (CXe P w) 3 Ct GS ["self","word","mark"] (J4 C_j7 C_j5 C_j6)) (Gx:Fun K "check" "Book.check" Er Ct GS) (Gy:Au K GS ["self","word","mark"] []) (Gz:Meth K C_j7 "check" Ct)
  : FnOk P w K mg base (CXe P w) 4 f fd ["self","word","mark"] (MO C_j7 C_j5 C_j6 C_j0):=by
 refine F.okE Dp_ (fun vs H Q E h=>?_) (fun cdv A outer s H vs Q E hr h=>?_)
 ·obtain⟨p,d,t,L,m,w,es,rfl,_⟩:=h;rfl
 ·obtain⟨p,d,t,L,m,wd,es,rfl,B,ht,hwl,hl,kW,kM,kC,k⟩:=h
  have hln:=Aq
  refine⟨_,(Ac (Bc (DV (pvD 0) W.cl_j7 Gz Gw (hr.mono (by decide)) Gy .nil (Km fun _ _ _ h=>h) (Aa (pvD 1) (Aa (pvD 2) Ae))))
   (Ac (B7 (ptT (AF (opN Rb) (IF_ (IX hr) (AY (pvD 0) rfl) (pvD 1) (pvD 2) ⟨by rfl,by rfl,by rfl,by rfl⟩) (pvD 2) (A0 _)))
   (Af (Od Z.m_j0 Z.x_j0 rfl rfl (Aa El Ae)))
   AL)
   (Af (K0 (IX hr) (AY (pvD 0) rfl) (pvD 1) (pvD 2) rfl)))),?_⟩
  obtain⟨⟨dx,hp⟩,hd,nd⟩:=id B
  nofun
  refine⟨_,_,hp,HK _ _ (by decide +kernel) (by decide +kernel),p,d,t,L,m,wd,es,rfl,B,ht,hwl,fun hw H1 s1=>kW hw H1 s1,fun hw hm H1 s1=>kM hw hm H1 s1,fun hw h0 h1 H1 s1=>?_⟩
  have hp1:=s1 _ _ hp
  have hd1:=s1 _ _ hd
  have ht1:H1 t=some (.tup ((wkey wd).map kV)):=by rw[Ck];exact s1 _ _ ht
  have hel:(ents es).length=es.length:=by unfold ents;rw[List.length_map]
  have hpd:p≠d:=fun z=>by rw[z,hd1]at hp1;cases hp1
  have hg:=DGet.t hd1 ht1
  nofun
  by_cases hn:wd∈es.map (·.1)
  ·obtain⟨e,he,rfl⟩:=List.mem_map.mp hn
   have hv:=F6 nd (show (e.1,e.2)∈es from he)
   rw[hv]at hg
   refine⟨_,_,_,hp1,W.cl_j7,W.n_Book_marks,_,Hm _ _,d,rfl,.inr ⟨_,.inl hd1⟩,_,hg,rfl,?_⟩
   by_cases hm:e.2=m
   ·rw[if_neg (by simp[hm])]
    refine⟨_,_,_,hp1,W.cl_j7,W.n_Book_marks,_,Hm _ _,d,rfl,_,DPut.t hd1 ht1 s!"",?_⟩
    rw[FH_ nd (show (e.1,m)∈es from hm ▸ he)]
    refine k hw h0 h1 (fun n hn'=>?_) _ ⟨⟨dx,by rw[Ag hpd];exact hp1⟩,by unfold putE;rw[if_pos hn];exact Ab,by unfold putE;rw[if_pos hn];exact nd⟩ fun b o hb hbd=>by rw[Ag hbd];exact s1 _ _ hb
    have h2:=F6 nd hn'
    rw[hv]at h2
    have h3:=Option.some.inj h2
    simp at h3
    lia
   ·rw[if_pos (by simp[hm])]
    exact⟨by lia,kC hw h0 h1 e.2 he hm H1 s1⟩
  ·rw[Mu hn]at hg
   refine⟨_,_,_,hp1,W.cl_j7,W.n_Book_marks,_,Hm _ _,d,rfl,.inr ⟨_,.inl hd1⟩,_,hg,rfl,?_⟩
   rw[if_neg (by simp)]
   refine⟨_,_,_,hp1,W.cl_j7,W.n_Book_marks,_,Hm _ _,d,rfl,_,DPut.t hd1 ht1 s!"",?_⟩
   rw[UR hn]
   refine k hw h0 h1 (fun n hn'=>absurd (List.mem_map.mpr ⟨_,hn',rfl⟩) hn) _ ⟨⟨dx,by rw[Ag hpd];exact hp1⟩,by unfold putE;rw[if_neg hn];exact Ab,?_⟩ fun b o hb hbd=>by rw[Ag hbd];exact s1 _ _ hb
   unfold putE
   rw[if_neg hn,List.map_append,List.nodup_append]
   refine⟨nd,by simp,fun a ha b hb z=>?_⟩
   rw[List.map_singleton,List.mem_singleton]at hb
   exact hn (by have e:a=wd:=z.trans hb;rw[<-e];exact ha)
noncomputable def JL (C:Addr):Sp:=fun vs H Q _=>∃(p d t:Addr) (L:Int) (w:List Int) (es:List (List Int×Int)),vs=[.ref p,.ref t]/\BookAt C H p d L es/\H t=some (.tup (w.map V.int))/\(w∉es.map (·.1)->Q .non H)/\∀m,(w,m)∈es->Q (.int m) H
def Bp_   (F:Fun K "told" "Book.told" EF f fd)(T:Txt mg)
  (W:Own K mg C_j7 C_j9 C_ji C_ja C_j1 C_j4)
  (Z:Exs K mg C_j8 C_j5 C_j6 C_j3 C_j2 C_j0)
  : nofun 1 f fd ["self","word"] (JL C_j7):=by
 delta Bh_
 ·obtain⟨p,d,t,L,wd,es,rfl,_⟩:=h;rfl
 ·obtain⟨p,d,t,L,wd,es,rfl,B,ht,kn,ks⟩:=h
  refine⟨_,(Af (An (Ew_ (IX hr) (AY (pvD 0) rfl) (pvD 1) ⟨by rfl,by rfl,by rfl,by rfl⟩))),?_⟩
  obtain⟨⟨dx,hp⟩,hd,nd⟩:=id B
  have ht1:H t=some (.tup ((wkey wd).map kV)):=by rw[Ck];exact ht
  nofun
  refine⟨_,_,_,hp,W.cl_j7,W.n_Book_marks,_,Hm _ _,d,rfl,.inr ⟨_,.inl hd⟩,_,DGet.t hd ht1,?_⟩
  by_cases hm:wd∈es.map (·.1)
  ·obtain⟨e,he,rfl⟩:=List.mem_map.mp hm
   rw[F6 nd (show (e.1,e.2)∈es from he)]
   exact ks e.2 he
  ·rw[Mu hm]
   exact kn hm
noncomputable def Hr (H:Hp)(rs:List V)(es:List (List Int×Int)):Prop:=rs.length=es.length/\∀(i:Nat) (tr:List Int×Int),es[i]?=some tr->∃t b,rs[i]?=some (V.ref t)/\H t=some (.tup [.ref b,.int tr.2])/\H b=some (.tup (tr.1.map V.int))
def Hr.mono    (h:Hr H rs es)(k:∀b xs,H b=some (.tup xs)->H' b=some (.tup xs)):Hr H' rs es:=⟨h.1,fun i tr hi=>by
 obtain⟨t,b,e1,e2,e3⟩:=h.2 i tr hi
 exact⟨t,b,e1,k _ _ e2,k _ _ e3⟩⟩
noncomputable def La (K:PySem.W.Frag)(C:Addr):Sp:=fun vs H Q _=>∃(p d:Addr) (L:Int) (es:List (List Int×Int)),vs=[.ref p]/\BookAt C H p d L es/\∀l rs H',Same H H'->H l=none->H' l=some (.lst rs)->Hr H' rs es->Q (.ref l) H'
def YC   (F:Fun K "heard" "Book.heard" Ep f fd)(T:Txt mg)
  (W:Own K mg C_j7 C_j9 C_ji C_ja C_j1 C_j4)
  (Z:Exs K mg C_j8 C_j5 C_j6 C_j3 C_j2 C_j0)
  : nofun 1 f fd ["self"] (La K C_j7):=by
 delta Yn
 ·obtain⟨p,d,L,es,rfl,_⟩:=h;rfl
 ·obtain⟨p,d,L,es,rfl,B,k⟩:=h
  refine⟨_,(Af (An (Ci (IZ rfl) rfl T.list PyProof.Rows.boot_list (Aa (Yj (AY (pvD 0) rfl)) Ae)))),?_⟩
  obtain⟨⟨dx,hp⟩,hd,nd⟩:=id B
  nofun
  refine⟨_,_,_,hp,W.cl_j7,W.n_Book_marks,_,Hm _ _,d,rfl,_,.inl hd,fun v hv=>?_⟩
  have sv:=Same.new (o:=Yi v d) hv
  refine⟨d,Ab,_,.inl (sv _ _ hd),fun l rs H2 s2 hl2 hlen hr=>?_⟩
  have s3:=sv.trans (s2.newT (o:=.lst rs) hl2)
  refine k l rs _ s3 (Same.none (sv.trans s2) hl2) Ab ⟨by rw[hlen];unfold ents;rw[List.length_map],fun i tr hi=>?_⟩
  obtain⟨t,e1,b,e2,e3⟩:=hr i (wkey tr.1) (.int tr.2) (by unfold ents;rw[List.getElem?_map,hi];rfl)
  rw[Ck]at e3
  exact⟨t,b,e1,(Same.new hl2) _ _ e2,(s2.newT hl2) _ _ e3⟩
noncomputable def Vs (K:PySem.W.Frag):Sp:=fun vs H Q _=>∃(L:Nat) (a:Addr) (xs:List V) (acc:List (List Int)),vs=[.int L,.ref a]/\L<=6/\SqL K H a xs/\Am K H xs acc/\acc.length<=100/\(∀w∈acc,w.length<=100)/\∀l rs H',Same H H'->H l=none->H' l=some (.lst rs)->Am K H' rs (B8 L acc)->Q (.ref l) H'
def FI_   (F:Fun K "rows_of" "rows_of" HX f fd)(T:Txt mg)
  (W:Own K mg C_j7 C_j9 C_ji C_ja C_j1 C_j4)
  (Z:Exs K mg C_j8 C_j5 C_j6 C_j3 C_j2 C_j0)
  : nofun 1 f fd ["letters","access"] (Vs K):=by
 delta Kp
 ·obtain⟨L,a,xs,acc,rfl,_⟩:=h;rfl
 ·obtain⟨L,a,xs,acc,rfl,hL,ha,hw,hal,hwl,k⟩:=h
  have hl:=Aq
  refine⟨_,(Ac (Kk (i:=2) Kp.nd rfl (Or.inl rfl) K1)
   (Ac (E7 PassesOwn.never rfl (Ge (pvD 1)) (Bm (i:=3) Kp.nd rfl (Or.inl rfl))
   (Af (K0 (IX hr) (pvD 2) (pvD 3) Ek rfl)))
   (Ac (E7 PassesOwn.never rfl (Ge (pvD 1)) (Bm (i:=3) Kp.nd rfl (Or.inl rfl))
   (Af (E7 PassesOwn.never rfl (EV rfl T.range (Aa (pvD 0) Ae)) (Bm (i:=4) Kp.nd rfl (Or.inl rfl))
   (Af (K0 (IX hr) (pvD 2) (BU Oe (pvD 3) (F3 (Aa (pvD 4) Ae))) Ek rfl)))))
   (Af (An (Ci (IY rfl) rfl T.list PyProof.Rows.boot_list (Aa (pvD 2) Ae))))))),?_⟩
  nofun
  intro p hp
  have sp:=Same.new (o:=.dT []) hp
  refine⟨⟨_,sp.seq ha⟩,?_⟩
  obtain⟨Pv,hPv⟩:∃Pv:Nat->St->Hp->Prop,∀i σ' H',Pv i σ' H'↔(∃(kvs:List (List Key×V)) (o:Option V),Same H H'/\H' p=some (.dT kvs)/\Ip ((acc.take i).foldl ins []) kvs/\σ'=[some (.int L),some (.ref a),some (.ref p),o,none]):=⟨_,fun _ _ _=>Iff.rfl⟩
  refine forL (xs:=xs) Pv ((hPv _ _ _).mpr ⟨[],none,sp,Ab,by rw[List.take_zero];exact Ip.nil,rfl⟩) (fun i σ' H' _ h'=>by obtain⟨_,_,s',_⟩:=(hPv _ _ _).mp h';exact s'.seq ha) (fun i x σ' H' hx h'=>?_) (fun σ' H' h'=>?_)
  ·obtain⟨kvs,o,s',hd,hk,rfl⟩:=(hPv _ _ _).mp h'
   obtain⟨t,w,hwi,rfl,ht⟩:=hw.at hx
   have hlen:kvs.length<=100:=by
    have:=C5 (acc.take i) []
    rw[hk.len];simp at this ⊢;lia
   nofun
   refine⟨_,DPut.t (k:=wkey w) hd (by rw[Ck];exact s' _ _ ht) s!"",(hPv _ _ _).mpr ⟨_,_,s'.over hp,Ab,?_,rfl⟩⟩
   rw[List.take_add_one,hwi,Option.toList_some,List.foldl_append]
   exact hk.put w _
  ·obtain⟨kvs,o,s',hd,hk,rfl⟩:=(hPv _ _ _).mp h'
   rw[hw.1,List.take_length]at hk
   nofun
   refine⟨⟨_,s'.seq ha⟩,?_⟩
   obtain⟨Pw,hPw⟩:∃Pv:Nat->St->Hp->Prop,∀i σ' H',Pv i σ' H'↔(∃(kvs:List (List Key×V)) (o o':Option V),Same H H'/\H' p=some (.dT kvs)/\Ip (((acc.take i).flatMap (extW L)).foldl ins (acc.foldl ins [])) kvs/\σ'=[some (.int L),some (.ref a),some (.ref p),o,o']):=⟨_,fun _ _ _=>Iff.rfl⟩
   refine forL (xs:=xs) Pw ((hPw _ _ _).mpr ⟨kvs,_,_,s',hd,by rw[List.take_zero];exact hk,rfl⟩) (fun i σ' H' _ h'=>by obtain⟨_,_,_,s',_⟩:=(hPw _ _ _).mp h';exact s'.seq ha) (fun i x σ2 H2 hx h2=>?_) (fun σ2 H2 h2=>?_)
   ·obtain⟨kvs,o,o',s2,hd,hk,rfl⟩:=(hPw _ _ _).mp h2
    obtain⟨t,w,hwi,rfl,ht⟩:=hw.at hx
    have hwlen:=hwl w (List.mem_of_getElem? hwi)
    have ht2:=s2 _ _ ht
    nofun
    refine⟨by lia,by lia,?_⟩
    rw[Int.toNat_natCast]
    obtain⟨Py,hPy⟩:∃Pv:Nat->St->Hp->Prop,∀j σ' H',Pv j σ' H'↔(∃(kvs:List (List Key×V)) (o':Option V),Same H H'/\H' p=some (.dT kvs)/\Ip (((List.range j).map fun x:Nat=>w++[(x:Int)]).foldl ins (((acc.take i).flatMap (extW L)).foldl ins (acc.foldl ins []))) kvs/\σ'=[some (.int L),some (.ref a),some (.ref p),some (.ref t),o']):=⟨_,fun _ _ _=>Iff.rfl⟩
    refine forR Py ((hPy _ _ _).mpr ⟨kvs,_,s2,hd,hk,rfl⟩) (fun j σ3 H3 hj h3=>?_) (fun σ3 H3 h3=>?_)
    ·obtain⟨kvs,o',s3,hd,hk,rfl⟩:=(hPy _ _ _).mp h3
     have ej:(0:Int)+(j:Nat)=(j:Int):=by lia
     rw[ej]
     have ht3:=s3 _ _ ht
     have hlen:kvs.length<=10000:=by
      have h1:=C5 ((List.range j).map fun x:Nat=>w++[(x:Int)]) (((acc.take i).flatMap (extW L)).foldl ins (acc.foldl ins []))
      have h2:=C5 ((acc.take i).flatMap (extW L)) (acc.foldl ins [])
      have h3:=C5 acc []
      have h4:((acc.take i).flatMap (extW L)).length<=600:=by
       rw[List.length_flatMap]
       have:(acc.take i).map (fun a=>(extW L a).length)=(acc.take i).map (fun _=>L):=List.map_congr_left fun a _=>by simp[extW]
       rw[this,List.map_const',List.sum_replicate_nat]
       have:(acc.take i).length<=100:=by rw[List.length_take];lia
       exact Nat.le_trans (Nat.mul_le_mul this hL) s!""
      rw[hk.len]
      simp at h1 h3
      lia
     nofun
     refine⟨by lia,fun p1 hp1=>?_⟩
     refine Kn.ofS (Same.new hp1 _ _ ht3) Ab (by simp;lia) fun q H4 s4 hq=>?_
     have s34:=(Same.new (o:=.tup [V.int (j:Int)]) hp1).trans s4
     have hq':H4 q=some (.tup ((wkey (w++[(j:Int)])).map kV)):=by rw[Ck,hq];simp
     refine⟨_,DPut.t (k:=wkey (w++[(j:Int)])) (s34 _ _ hd) hq' s!"",(hPy _ _ _).mpr ⟨_,_,(s3.trans s34).over hp,Ab,?_,rfl⟩⟩
     rw[List.range_succ,List.map_append,List.foldl_append]
     exact hk.put _ _
    ·obtain⟨kvs,o',s3,hd,hk,rfl⟩:=(hPy _ _ _).mp h3
     refine (hPw _ _ _).mpr ⟨kvs,_,_,s3,hd,?_,rfl⟩
     rw[List.take_add_one,hwi,Option.toList_some,List.flatMap_append,List.foldl_append]
     simpa [extW] using hk
   ·obtain⟨kvs,o,o',s2,hd,hk,rfl⟩:=(hPw _ _ _).mp h2
    rw[hw.1,List.take_length]at hk
    nofun
    refine⟨kvs,.inl hd,fun l rs hln hrl hrs=>?_⟩
    exact k l rs _ (s2.newT hln) (Same.none s2 hln) Ab ((hk.words (K:=K) hrl hrs).mono (TK.new hln))
noncomputable def EL_ (K:PySem.W.Frag):Sp:=fun vs H Q _=>∃(L:Nat) (a e:Addr) (xs ys:List V) (acc ends:List (List Int)),vs=[.int L,.ref a,.ref e]/\L<=6/\SqL K H a xs/\Am K H xs acc/\acc.length<=100/\(∀w∈acc,w.length<=100)/\SqL K H e ys/\Am K H ys ends/\ends.length<=100/\(∀w∈ends,w.length<=500)/\∀l rs H',Same H H'->H l=none->H' l=some (.lst rs)->Am K H' rs (IE (B8 L acc) ends)->Q (.ref l) H'
def Dr_   (hL:L<=6)(hal:acc.length<=100)(hwl:∀w∈acc,w.length<=100):(B8 L acc).length<=700/\∀w∈B8 L acc,w.length<=101:=by
 have mem:∀(l s:List (List Int)) (w:List Int),w∈l.foldl ins s->w∈s\/w∈l:=by
  intro l
  induction l with
  |nil=>intro s w h;exact .inl h
  |cons v l ih=>
   intro s w h
   rw[List.foldl_cons]at h
   rcases ih _ _ h with h|h
   ·unfold ins at h
    split at h
    ·exact .inl h
    ·rcases List.mem_append.mp h with h|h
     ·exact .inl h
     ·rw[List.mem_singleton.mp h];exact .inr List.mem_cons_self
   ·exact .inr (List.mem_cons_of_mem _ h)
 refine⟨?_,fun w hw=>?_⟩
 ·have h2:=C5 (acc.flatMap (extW L)) (acc.foldl ins [])
  have h3:=C5 acc []
  have h4:(acc.flatMap (extW L)).length<=600:=by
   rw[List.length_flatMap]
   have:acc.map (fun a=>(extW L a).length)=acc.map (fun _=>L):=List.map_congr_left fun a _=>by simp[extW]
   rw[this,List.map_const',List.sum_replicate_nat]
   exact Nat.le_trans (Nat.mul_le_mul hal hL) s!""
  unfold B8
  simp at h3
  lia
 ·unfold B8 at hw
  rcases mem _ _ _ hw with h|h
  ·rcases mem _ _ _ h with h|h
   ·simp at h
   ·have:=hwl w h;lia
  ·obtain⟨v,hv,h⟩:=List.mem_flatMap.mp h
   obtain⟨x,_,rfl⟩:=List.mem_map.mp h
   have:=hwl v hv
   simp;lia
def IW_   (F:Fun K "cells" "cells" OM f fd)(T:Txt mg)
  (W:Own K mg C_j7 C_j9 C_ji C_ja C_j1 C_j4)
  (Z:Exs K mg C_j8 C_j5 C_j6 C_j3 C_j2 C_j0)
   (Kv:nofun 1 GU Kw ["letters","access"] (Vs K)) (Ia:Fun K "rows_of" "rows_of" HX GU Kw) (Kx:Au K Kw ["letters","access"] []) (Ky:mg "rows_of"=some (.ref GU))
  : nofun 2 f fd ["letters","access","ends"] (EL_ K):=by
 delta UT
 ·obtain⟨L,a,e,xs,ys,acc,ends,rfl,_⟩:=h;rfl
 ·obtain⟨L,a,e,xs,ys,acc,ends,rfl,hL,ha,hw,hal,hwl,he,hwe,hel,hewl,k⟩:=h
  have hl:=Aq
  obtain⟨hrl,hrw⟩:=Dr_ hL hal hwl
  refine⟨_,(Ac (Kk (i:=3) UT.nd rfl (Or.inl rfl) K1)
   (Ac (E7 PassesOwn.never rfl (Ge (Ay Kv (hr.mono (by decide)) rfl Ky Ia.kp Kx .nil AN (Aa (pvD 0) (Aa (pvD 1) Ae)))) (Bm (i:=4) UT.nd rfl (Or.inl rfl))
   (Af (E7 PassesOwn.never rfl (Ge (pvD 2)) (Bm (i:=5) UT.nd rfl (Or.inl rfl))
   (Af (K0 (IX hr) (pvD 3) (BU Oe (pvD 4) (pvD 5)) Ek rfl)))))
   (Af (An (Ci (IY rfl) rfl T.list PyProof.Rows.boot_list (Aa (pvD 3) Ae)))))),?_⟩
  nofun
  intro p hp
  have sp:=Same.new (o:=.dT []) hp
  refine⟨L,a,xs,acc,rfl,hL,sp.seq ha,hw.mono (TK.of sp),hal,hwl,fun r rs H1 s1 hrn hr hrs=>?_⟩
  generalize B8 L acc=rows at hrl hrw hrs k
  have s01:=sp.trans s1
  have hrH:H r=none:=Same.none sp hrn
  have hp1:=s1 _ _ (Ab (H:=H) (a:=p) (o:=.dT []))
  nofun
  refine⟨⟨_,SqL.of hr⟩,?_⟩
  have hpr:r≠p:=(Df_ hrn).2
  obtain⟨Pw,hPw⟩:∃Pv:Nat->St->Hp->Prop,∀i σ' H',Pv i σ' H'↔(∃(kvs:List (List Key×V)) (o o':Option V),Same H H'/\H' r=some (.lst rs)/\Am K H' rs rows/\H' p=some (.dT kvs)/\Ip (((rows.take i).flatMap fun r=>ends.map (r ++ ·)).foldl ins []) kvs/\σ'=[some (.int L),some (.ref a),some (.ref e),some (.ref p),o,o']):=⟨_,fun _ _ _=>Iff.rfl⟩
  refine forL (xs:=rs) Pw ((hPw _ _ _).mpr ⟨[],_,_,s01,hr,hrs,hp1,by rw[List.take_zero];exact Ip.nil,rfl⟩) (fun i σ' H' _ h'=>by obtain⟨_,_,_,_,q,_⟩:=(hPw _ _ _).mp h';exact SqL.of q) (fun i x σ2 H2 hx h2=>?_) (fun σ2 H2 h2=>?_)
  ·obtain⟨kvs,o,o',s2,hr2,hrs2,hd,hk,rfl⟩:=(hPw _ _ _).mp h2
   obtain⟨t,w,hwi,rfl,ht⟩:=hrs2.at hx
   have hwlen:=hrw w (List.mem_of_getElem? hwi)
   nofun
   refine⟨⟨_,s2.seq he⟩,?_⟩
   obtain⟨Py,hPy⟩:∃Pv:Nat->St->Hp->Prop,∀j σ' H',Pv j σ' H'↔(∃(kvs:List (List Key×V)) (o':Option V),Same H H'/\H' r=some (.lst rs)/\Am K H' rs rows/\H' t=some (.tup (w.map V.int))/\H' p=some (.dT kvs)/\Ip (((ends.take j).map (w ++ ·)).foldl ins (((rows.take i).flatMap fun r=>ends.map (r ++ ·)).foldl ins [])) kvs/\σ'=[some (.int L),some (.ref a),some (.ref e),some (.ref p),some (.ref t),o']):=⟨_,fun _ _ _=>Iff.rfl⟩
   refine forL (xs:=ys) Py ((hPy _ _ _).mpr ⟨kvs,_,s2,hr2,hrs2,ht,hd,by rw[List.take_zero];exact hk,rfl⟩) (fun j σ' H' _ h'=>by obtain⟨_,_,s',_⟩:=(hPy _ _ _).mp h';exact s'.seq he) (fun j y σ3 H3 hy h3=>?_) (fun σ3 H3 h3=>?_)
   ·obtain⟨kvs,o',s3,hr3,hrs3,ht3,hd,hk,rfl⟩:=(hPy _ _ _).mp h3
    obtain⟨u,v,hvi,rfl,hu⟩:=hwe.at hy
    have hvlen:=hewl v (List.mem_of_getElem? hvi)
    have hlen:kvs.length<=100000:=by
     have h1:=C5 ((ends.take j).map (w ++ ·)) (((rows.take i).flatMap fun r=>ends.map (r ++ ·)).foldl ins [])
     have h2:=C5 ((rows.take i).flatMap fun r=>ends.map (r ++ ·)) []
     have h4:((rows.take i).flatMap fun r=>ends.map (r ++ ·)).length<=70000:=by
      rw[List.length_flatMap]
      have:(rows.take i).map (fun a=>(ends.map (a ++ ·)).length)=(rows.take i).map (fun _=>ends.length):=List.map_congr_left fun a _=>by simp
      rw[this,List.map_const',List.sum_replicate_nat]
      have:(rows.take i).length<=700:=by rw[List.length_take];lia
      exact Nat.le_trans (Nat.mul_le_mul this hel) s!""
     rw[hk.len]
     rw[List.length_map,List.length_take]at h1
     rw[List.length_nil,Nat.zero_add]at h2
     lia
    nofun
    refine Kn.ofS ht3 (s3 _ _ hu) (by simp;lia) fun q H4 s4 hq=>?_
    have hq':H4 q=some (.tup ((wkey (w++v)).map kV)):=by rw[Ck,hq];simp
    have hd4:=s4 _ _ hd
    have kD:TK H4 (upd H4 p (.dT (putK kvs (wkey (w++v)) (V.bl true)))):=TK.dT hd4
    refine⟨_,DPut.t (k:=wkey (w++v)) hd4 hq' s!"",(hPy _ _ _).mpr ⟨_,_,(s3.trans s4).over hp,by rw[Ag hpr];exact s4 _ _ hr3,(hrs3.mono (TK.of s4)).mono kD,kD _ _ (s4 _ _ ht3),Ab,?_,rfl⟩⟩
    rw[List.take_add_one,hvi,Option.toList_some,List.map_append,List.foldl_append]
    exact hk.put _ _
   ·obtain⟨kvs,o',s3,hr3,hrs3,ht3,hd,hk,rfl⟩:=(hPy _ _ _).mp h3
    rw[hwe.1,List.take_length]at hk
    refine (hPw _ _ _).mpr ⟨kvs,_,_,s3,hr3,hrs3,hd,?_,rfl⟩
    rw[List.take_add_one,hwi,Option.toList_some,List.flatMap_append,List.foldl_append]
    simpa using hk
  ·obtain⟨kvs,o,o',s2,hr2,hrs2,hd,hk,rfl⟩:=(hPw _ _ _).mp h2
   rw[hrs.1,List.take_length]at hk
   nofun
   refine⟨kvs,.inl hd,fun l rs' hln hrl' hrs'=>?_⟩
   exact k l rs' _ (s2.newT hln) (Same.none s2 hln) Ab ((hk.words (K:=K) hrl' hrs').mono (TK.new hln))
noncomputable def mkO (es:List (List Int×Int))(w:List Int):Option Int:=(es.find? fun e=>decide (e.1=w)).map (·.2)
noncomputable def oV:Option Int->V
 |some m=>.int m
 |none=>.non
def Lb:∀{es:List (List Int×Int)} {w:List Int} {m:Int},(es.map (·.1)).Nodup->(w,m)∈es->mkO es w=some m
 |[],_,_,_,h=>by cases h
 |e::es,w,m,nd,h=>by
  rw[List.map_cons,List.nodup_cons]at nd
  unfold mkO
  rw[List.find?_cons]
  rcases List.mem_cons.mp h with h|h
  ·subst h
   simp
  ·have hne:e.1≠w:=fun z=>nd.1 (by rw[z];exact List.mem_map_of_mem (f:=(·.1)) h)
   rw[decide_eq_false hne]
   exact Lb nd.2 h
def UU {es:List (List Int×Int)}{w:List Int}(h:w∉es.map (·.1)):mkO es w=none:=by
 unfold mkO
 rw[List.find?_eq_none.mpr fun e he z=>h (by have:=of_decide_eq_true z;rw[<-this];exact List.mem_map_of_mem (f:=(·.1)) he)]
 rfl
noncomputable def XR (K:PySem.W.Frag)(C:Addr):Sp:=fun vs H Q _=>∃(p d t a:Addr) (L:Int) (w:List Int) (es:List (List Int×Int)) (xs:List V) (ends:List (List Int)),vs=[.ref p,.ref t,.ref a]/\BookAt C H p d L es/\H t=some (.tup (w.map V.int))/\w.length<=100/\SqL K H a xs/\Am K H xs ends/\ends.length<=100/\(∀e∈ends,e.length<=500)/\∀l H',Same H H'->H' l=some (.lst (ends.map fun e=>oV (mkO es (w++e))))->Q (.ref l) H'
def Ds_   (F:Fun K "marks_of" "marks_of" Hn f fd)(T:Txt mg)
  (W:Own K mg C_j7 C_j9 C_ji C_ja C_j1 C_j4)
  (Z:Exs K mg C_j8 C_j5 C_j6 C_j3 C_j2 C_j0)
   (EK:nofun 1 B5 Ew ["self","word"] (JL C_j7)) (Fj:Fun K "told" "Book.told" EF B5 Ew) (EL:Au K Ew ["self","word"] []) (EM:Meth K C_j7 "told" B5)
  : nofun 2 f fd ["book","word","ends"] (XR K C_j7):=by
 delta Do_
 ·obtain⟨p,d,t,a,L,wd,es,xs,ends,rfl,_⟩:=h;rfl
 ·obtain⟨p,d,t,a,L,wd,es,xs,ends,rfl,B,ht,hwl,ha,hE,hel,hew,k⟩:=h
  have hl:=Aq
  refine⟨_,(Af (An (K2 rfl (Kl rfl) (cp:=Ti) ⟨⟨rfl,rfl⟩,⟨⟨rfl,rfl⟩,True.intro⟩⟩ (Ge (pvD 2)) (fun _ _ _ _=>(Bm (i:=0) Vj rfl (Or.inl rfl))) (fun _ _ _ _=>Ls) (fun _ _ _ _=>(DV (pvD 1) W.cl_j7 EM EK (hr.mono (by decide)) EL .nil AN (Aa (BU (PU (K:=K) rfl) (pvD 2) (pvD 0)) Ae)))))),?_⟩
  nofun
  obtain⟨⟨dx,hp⟩,hd,nd⟩:=id B
  refine⟨⟨_,ha⟩,Dg_ (xs:=xs) (fun i ys σ' H'=>Same H H'/\ys=(ends.take i).map (fun e=>oV (mkO es (wd++e)))/\∃o,σ'=[o,some (.ref p),some (.ref t)]) ⟨Same.refl _,rfl,none,rfl⟩ (by rw[hE.1];lia) (fun i ys σ' H' hi h'=>⟨h'.1.seq ha,by rw[h'.2.1,List.length_map,List.length_take];lia⟩) (fun i x ys σ' H' hx h'=>?_) (fun ys σ' H' h' D hD=>?_)⟩
  ·obtain⟨s1,rfl,o,rfl⟩:=h'
   obtain⟨te,e,hei,rfl,hte⟩:=hE.at hx
   have hel':=hew e (List.mem_of_getElem? hei)
   have et:ends.take (i+1)=ends.take i++[e]:=by rw[List.take_add_one,hei];rfl
   nofun
   refine⟨_,_,s1 _ _ hp,HK _ _ (by decide +kernel) (by decide +kernel),Kn.ofS (s1 _ _ ht) (s1 _ _ hte) (by simp;lia) fun q H2 s2 hq=>?_⟩
   have s12:=s1.trans s2
   refine⟨p,d,q,L,wd++e,es,rfl,B.mono s12,by rw[List.map_append];exact hq,fun hm=>⟨s12,?_,_,rfl⟩,fun m hm=>⟨s12,?_,_,rfl⟩⟩
   ·rw[et,List.map_append,List.map_singleton,UU hm];rfl
   ·rw[et,List.map_append,List.map_singleton,Lb nd hm];rfl
  ·obtain⟨s1,rfl,o,rfl⟩:=h'
   rw[hE.1,List.take_length]
   exact k D _ (s1.newT hD) Ab
noncomputable def IF (H:Hp)(f:List Int->List V)(ks:List (List Int))(kvs:List (List Key×V)):Prop:=kvs.length=ks.length/\∀(i:Nat) (w:List Int),ks[i]?=some w->∃t,kvs[i]?=some (wkey w,.ref t)/\H t=some (.tup (f w))
def IF.nil   : IF H f [] []:=⟨rfl,fun i w h=>by simp at h⟩
def IF.mono     (h:IF H f ks kvs)(s:∀t ys,H t=some (.tup ys)->H' t=some (.tup ys)):IF H' f ks kvs:=⟨h.1,fun i w hi=>by
 obtain⟨t,a,b⟩:=h.2 i w hi
 exact⟨t,a,s _ _ b⟩⟩
def IF.snoc {H:Hp}{f:List Int->List V}{ks:List (List Int)}{kvs:List (List Key×V)}{w:List Int}{t:Addr}(h:IF H f ks kvs)(ht:H t=some (.tup (f w))):IF H f (ks++[w]) (kvs++[(wkey w,.ref t)]):=by
 refine⟨by simp[h.1],fun i r hi=>?_⟩
 by_cases hl:i<ks.length
 ·rw[List.getElem?_append_left hl]at hi
  rw[List.getElem?_append_left (by rw[h.1];exact hl)]
  exact h.2 i r hi
 ·have:=(List.getElem?_eq_some_iff.mp hi).1
  rw[List.length_append,List.length_singleton]at this
  have e:i=ks.length:=by lia
  subst e
  rw[List.getElem?_append_right (Nat.le_refl _),Nat.sub_self]at hi
  simp at hi
  subst hi
  exact⟨t,by rw[<-h.1];simp,ht⟩
def IF.keys     (h:IF H f ks kvs):Ip ks kvs:=by
 refine List.ext_getElem? fun i=>?_
 rw[List.getElem?_map,List.getElem?_map]
 cases e:ks[i]? with
 |none=>
  have:kvs[i]?=none:=List.getElem?_eq_none (by rw[h.1];exact List.getElem?_eq_none_iff.mp e)
  rw[this];rfl
 |some w=>
  obtain⟨t,a,_⟩:=h.2 i w e
  rw[a];rfl
def HL_ {s:List (List Int)}{w:List Int}(h:s.Nodup):(ins s w).Nodup:=by
 unfold ins
 split
 ·exact h
 ·rename_i hw
  rw[List.nodup_append]
  refine⟨h,by simp,fun a ha b hb z=>?_⟩
  rw[List.mem_singleton.mp hb]at z
  exact hw (z ▸ ha)
def GA:∀{l s:List (List Int)},s.Nodup->(l.foldl ins s).Nodup
 |[],_,h=>h
 |w::l,s,h=>by rw[List.foldl_cons];exact GA (HL_ h)
def Dt_ (n:Nat)(acc:List (List Int)):(B8 n acc).Nodup:=GA (GA List.nodup_nil)
def HM_ (n:Nat):∀(acc:List (List Int)),(acc.flatMap (extW n)).length<=acc.length*n
 |[]=>by simp
 |w::acc=>by
  rw[List.flatMap_cons,List.length_append,List.length_cons,Nat.succ_mul]
  have h1:=HM_ n acc
  have h2:(extW n w).length=n:=by unfold extW;simp
  lia
def Bq_ (n:Nat)(acc:List (List Int)):(B8 n acc).length<=acc.length+acc.length*n:=by
 unfold B8
 have h1:=C5 (acc.flatMap (extW n)) (acc.foldl ins [])
 have h2:=C5 acc []
 have h3:=HM_ n acc
 simp at h2
 lia
def IX_ {s:List (List Int)}{w:List Int}{m:Nat}(h:∀v∈s,v.length<=m)(hw:w.length<=m):∀v∈ins s w,v.length<=m:=fun v hv=>by
 unfold ins at hv
 split at hv
 ·exact h v hv
 ·rcases List.mem_append.mp hv with hv|hv
  ·exact h v hv
  ·rw[List.mem_singleton.mp hv];exact hw
def OQ {m:Nat}:∀{l s:List (List Int)},(∀v∈s,v.length<=m)->(∀v∈l,v.length<=m)->∀v∈l.foldl ins s,v.length<=m
 |[],_,h,_=>h
 |w::l,s,h,hl=>by rw[List.foldl_cons];exact OQ (IX_ h (hl w (by simp))) (fun v hv=>hl v (by simp[hv]))
def FJ_   (h:∀w∈acc,w.length<=m):∀w∈B8 n acc,w.length<=m+1:=by
 unfold B8
 refine OQ (OQ (by simp) fun v hv=>by have:=h v hv;lia) fun v hv=>?_
 obtain⟨u,hu,hv⟩:=List.mem_flatMap.mp hv
 unfold extW at hv
 obtain⟨x,_,rfl⟩:=List.mem_map.mp hv
 have:=h u hu
 rw[List.length_append,List.length_singleton]
 lia
noncomputable def HN_ (K:PySem.W.Frag)(C:Addr):Sp:=fun vs H Q _=>∃(p d a b:Addr) (L:Int) (N:Nat) (es:List (List Int×Int)) (xs ys:List V) (acc ends:List (List Int)),vs=[.ref p,.int N,.ref a,.ref b]/\BookAt C H p d L es/\N<=6/\SqL K H a xs/\Am K H xs acc/\acc.length<=64/\(∀w∈acc,w.length<=64)/\SqL K H b ys/\Am K H ys ends/\ends.length<=50/\(∀e∈ends,e.length<=500)/\∀l kvs H',Same H H'->H l=none->H' l=some (.dT kvs)->IF H' (fun w=>ends.map fun e=>oV (mkO es (w++e))) (B8 N acc) kvs->Q (.ref l) H'
def Vt   (F:Fun K "marks_by_row" "marks_by_row" CV f fd)(T:Txt mg)
  (W:Own K mg C_j7 C_j9 C_ji C_ja C_j1 C_j4)
  (Z:Exs K mg C_j8 C_j5 C_j6 C_j3 C_j2 C_j0)
   (Kv:nofun 1 GU Kw ["letters","access"] (Vs K)) (Ia:Fun K "rows_of" "rows_of" HX GU Kw) (Kx:Au K Kw ["letters","access"] []) (Ky:mg "rows_of"=some (.ref GU))
   (Rt:nofun 2 IL Vu ["book","word","ends"] (XR K C_j7)) (Kz:Fun K "marks_of" "marks_of" Hn IL Vu) (Ru:Au K Vu ["book","word","ends"] []) (Rv:mg "marks_of"=some (.ref IL))
  : nofun 3 f fd ["book","letters","access","ends"] (HN_ K C_j7):=by
 delta Jb
 ·obtain⟨p,d,a,b,L,N,es,xs,ys,acc,ends,rfl,_⟩:=h;rfl
 ·obtain⟨p,d,a,b,L,N,es,xs,ys,acc,ends,rfl,B,hN,ha,hA,hal,haw,hb,hE,hel,hew,k⟩:=h
  have hl:=Aq
  refine⟨_,(Ac (Kk (i:=4) Jb.nd rfl (Or.inl rfl) K1)
   (Ac (E7 PassesOwn.never rfl (Ge (Ay Kv (hr.mono (by decide)) rfl Ky Ia.kp Kx .nil AN (Aa (pvD 1) (Aa (pvD 2) Ae)))) (Bm (i:=5) Jb.nd rfl (Or.inl rfl))
   (Af (K0 (IX hr) (pvD 4) (pvD 5) (Ci DB rfl T.tuple PyProof.Rows.boot_tuple (Aa (Ay Rt (hr.mono (by decide)) rfl Rv Kz.kp Ru .nil AN (Aa (pvD 0) (Aa (pvD 5) (Aa (pvD 3) Ae)))) Ae)) rfl)))
   (Af (An (pvD 4))))),?_⟩
  nofun
  intro m hm
  have s0:=Same.new hm (o:=.dT [])
  refine⟨N,a,xs,acc,rfl,hN,s0.seq ha,hA.mono (fun _ _ z=>s0 _ _ z),by lia,fun w hw=>by have:=haw w hw;lia,fun r rs H1 s1 hr0 hr1 hW=>⟨r,rfl,⟨_,SqL.of hr1⟩,?_⟩⟩
  have hm1:=s1 _ _ (show upd H m (.dT []) m=some (.dT []) from Ab)
  have s01:=s0.trans s1
  have hrlen:=Bq_ N acc
  have hrw:=FJ_ (n:=N) haw
  have hnd:=Dt_ N acc
  have hrl:(B8 N acc).length<=500:=by
   have:acc.length*N<=64*6:=Nat.mul_le_mul hal hN
   lia
  have kk:=k
  generalize B8 N acc=rw' at hW hrl hrw hnd kk
  clear k hrlen
  obtain⟨Pv,hPv⟩:∃Pv:Nat->St->Hp->Prop,∀i σ' H',Pv i σ' H'↔(∃(kvs:List (List Key×V)) (o:Option V),Same H H'/\H' r=some (.lst rs)/\TK H1 H'/\H' m=some (.dT kvs)/\IF H' (fun w=>ends.map fun e=>oV (mkO es (w++e))) (rw'.take i) kvs/\σ'=[some (.ref p),some (.int N),some (.ref a),some (.ref b),some (.ref m),o]):=⟨_,fun _ _ _=>Iff.rfl⟩
  refine forL (xs:=rs) Pv ((hPv _ _ _).mpr ⟨[],none,s01,hr1,TK.refl _,hm1,by rw[List.take_zero];exact IF.nil,rfl⟩) (fun i σ' H' _ h'=>by obtain⟨_,_,_,h2,_⟩:=(hPv _ _ _).mp h';exact SqL.of h2) (fun i x σ' H' hx h'=>?_) (fun σ' H' h'=>?_)
  ·obtain⟨kvs,o,s',hr',tk,hm',hM,rfl⟩:=(hPv _ _ _).mp h'
   obtain⟨t,w,hwi,rfl,ht⟩:=hW.at hx
   have hi:=(List.getElem?_eq_some_iff.mp hwi).1
   have hwl:=hrw w (List.mem_of_getElem? hwi)
   have et:rw'.take (i+1)=rw'.take i++[w]:=by rw[List.take_add_one,hwi];rfl
   have hno:w∉rw'.take i:=fun z=>by
    obtain⟨j,hj,ej⟩:=List.getElem_of_mem z
    rw[List.length_take]at hj
    rw[List.getElem_take]at ej
    have:=(List.getElem_inj (h₀:=(show j<rw'.length by lia)) (h₁:=hi) hnd).mp (by rw[ej];exact ((List.getElem?_eq_some_iff.mp hwi).2).symm)
    lia
   have hv:valV kvs (wkey w)=none:=by
    have:=hM.keys.some_iff w
    rw[decide_eq_false hno]at this
    cases e:valV kvs (wkey w) with
    |none=>rfl
    |some v=>rw[e]at this;cases this
   have hkl:kvs.length<=500:=by rw[hM.1,List.length_take];lia
   nofun
   refine⟨p,d,t,b,L,w,es,ys,ends,rfl,B.mono s',tk _ _ ht,by lia,s'.seq hb,hE.mono (fun _ _ z=>s' _ _ z),by lia,fun e he=>by have:=hew e he;lia,fun l H2 s2 hl2=>⟨l,rfl,_,.inl ⟨SqL.of hl2,fun t2 ht2=>?_⟩⟩⟩
   have s3:=s2.newT ht2 (o:=.tup (ends.map fun e=>oV (mkO es (w++e))))
   refine⟨_,DPut.t (k:=wkey w) (s3 _ _ hm') (by rw[Ck];exact s3 _ _ (tk _ _ ht)) s!"",(hPv _ _ _).mpr ⟨_,_,(s'.trans s3).over hm,?_,fun c zs z=>?_,Ab,?_,rfl⟩⟩
   ·rw[Ag (fun z=>by rw[z,hm']at hr';cases hr')];exact s3 _ _ hr'
   ·rw[Ag (fun e=>by have:=tk _ _ z;rw[e,hm']at this;cases this)];exact s3 _ _ (tk _ _ z)
   ·rw[IC_ _ hv,et]
    exact ((hM.mono fun c zs z=>s3 _ _ z).snoc (t:=t2) Ab).mono fun c zs z=>by
     rw[Ag (fun e=>by rw[e,s3 _ _ hm']at z;cases z)];exact z
  ·obtain⟨kvs,o,s',hr',tk,hm',hM,rfl⟩:=(hPv _ _ _).mp h'
   rw[hW.1,List.take_length]at hM
   nofun
   exact kk m kvs _ s' hm hm' hM
def IF.get {H:Hp}{f:List Int->List V}{ks:List (List Int)}{kvs:List (List Key×V)}(h:IF H f ks kvs){w:List Int}(hw:w∈ks):∃t,valV kvs (wkey w)=some (.ref t)/\H t=some (.tup (f w)):=by
 have hs:=h.keys.some_iff w
 rw[decide_eq_true hw]at hs
 unfold valV at hs ⊢
 cases e:kvs.find? (fun kv=>decide (kv.1=wkey w)) with
 |none=>rw[e]at hs;cases hs
 |some kv=>
  have h1:kv.1=wkey w:=by have:=List.find?_some e;simpa using this
  obtain⟨i,hi,ei⟩:=List.getElem_of_mem (List.mem_of_find?_eq_some e)
  have hi':i<ks.length:=by rw[<-h.1];exact hi
  obtain⟨t,a,b⟩:=h.2 i ks[i] (by simp[hi'])
  rw[List.getElem?_eq_getElem hi,ei]at a
  have ea:=Option.some.inj a
  rw[ea]at h1
  have:ks[i]=w:=UQ h1
  rw[this]at b
  exact⟨t,by rw[ea];rfl,b⟩
def IY_ {s:List (List Int)}{w v:List Int}:v∈ins s w↔v∈s\/v=w:=by
 unfold ins
 split
 ·rename_i h
  exact⟨.inl,fun z=>z.elim id fun e=>e ▸ h⟩
 ·simp
def Lc:∀{l s:List (List Int)} {v:List Int},v∈l.foldl ins s↔v∈s\/v∈l
 |[],s,v=>by simp
 |w::l,s,v=>by
  rw[List.foldl_cons,Lc,IY_,List.mem_cons,or_assoc]
def Ld {n:Nat}{acc:List (List Int)}{w:List Int}(h:w∈acc):w∈B8 n acc:=by
 unfold B8
 exact Lc.mpr (.inl (Lc.mpr (.inr h)))
noncomputable def XS (K:PySem.W.Frag)(C:Addr):Sp:=fun vs H Q _=>∃(p d a b:Addr) (L:Int) (N:Nat) (es:List (List Int×Int)) (xs ys:List V) (acc ends:List (List Int)) (g:List Int->List Int),vs=[.ref p,.int N,.ref a,.ref b]/\BookAt C H p d L es/\N<=6/\SqL K H a xs/\Am K H xs acc/\acc.length<=64/\(∀w∈acc,w.length<=64)/\SqL K H b ys/\Am K H ys ends/\ends.length<=50/\(∀e∈ends,e.length<=500)/\(∀w∈B8 N acc,(ends.map fun e=>oV (mkO es (w++e)))=(g w).map V.int)/\(∀w t H',(B8 N acc).find? (fun w=>decide (g w∉acc.map g))=some w->Same H H'->H' t=some (.tup (w.map V.int))->Q (.ref t) H')/\∀H',(B8 N acc).find? (fun w=>decide (g w∉acc.map g))=none->Same H H'->Q .non H'
def Du_   (F:Fun K "stranger" "stranger" Ho f fd)(T:Txt mg)
  (W:Own K mg C_j7 C_j9 C_ji C_ja C_j1 C_j4)
  (Z:Exs K mg C_j8 C_j5 C_j6 C_j3 C_j2 C_j0)
   (EZ:nofun 3 Co Fl ["book","letters","access","ends"] (HN_ K C_j7)) (CY:Fun K "marks_by_row" "marks_by_row" CV Co Fl) (E1:Au K Fl ["book","letters","access","ends"] []) (E2:mg "marks_by_row"=some (.ref Co))
  : nofun 4 f fd ["book","letters","access","ends"] (XS K C_j7):=by
 delta K6
 ·obtain⟨p,d,a,b,L,N,es,xs,ys,acc,ends,g,rfl,_⟩:=h;rfl
 ·obtain⟨p,d,a,b,L,N,es,xs,ys,acc,ends,g,rfl,B,hN,ha,hA,hal,haw,hb,hE,hel,hew,hg,k,kn⟩:=h
  have hl:=Aq
  refine⟨_,(Ac (Kk (i:=4) K6.nd rfl (Or.inr rfl) (Ay EZ (hr.mono (by decide)) rfl E2 CY.kp E1 .nil AN (Aa (pvD 0) (Aa (pvD 1) (Aa (pvD 2) (Aa (pvD 3) Ae))))))
   (Ac (Yb (i:=5) K6.nd rfl rfl rfl (Kl rfl) (cp:=Tj) ⟨⟨rfl,rfl⟩,True.intro⟩ (Ge (pvD 2)) (fun _ _ _ _=>(Bm (i:=0) Vk rfl (Or.inl rfl))) (fun _ _ _ _=>Ls) (fun _ _ _ _=>(Mq (IX hr) (pvD 1) (pvD 0) (fun _ _=>rfl))))
   (Ac (E7 PassesOwn.never rfl (IO_ (pvD 4)) (Bm (i:=6) K6.nd rfl (Or.inl rfl))
   (Af (B7 (ptT (AF (Vc (hu9 hr)) (Mq (IX hr) (pvD 4) (pvD 6) (fun _ _=>rfl)) (pvD 5) rfl))
   (Af (An (pvD 6)))
   AL)))
   (Af (An Gk))))),?_⟩
  nofun
  refine⟨p,d,a,b,L,N,es,xs,ys,acc,ends,rfl,B,hN,ha,hA,hal,haw,hb,hE,hel,hew,fun m kvs H1 s1 hm0 hm hM=>?_⟩
  nofun
  have kk:=k
  have kkn:=kn
  have hin:∀w∈acc,w∈B8 N acc:=fun w h=>Ld h
  generalize B8 N acc=rw' at hM hg kk kkn hin
  clear k kn
  have ha1:=s1.seq ha
  have hA1:Am K H1 xs acc:=hA.mono (TK.of s1)
  refine⟨⟨_,ha1⟩,Dg_ (xs:=xs) (fun i ys σ' H'=>H'=H1/\Am K H1 ys ((acc.take i).map g)/\∃o,σ'=[o,some (.ref m)]) ⟨rfl,Am.nil,none,rfl⟩ (by rw[hA.1];lia) (fun i ys σ' H' hi h'=>⟨by rw[h'.1];exact ha1,by rw[h'.2.1.1,List.length_map,List.length_take];lia⟩) (fun i x ys σ' H' hx h'=>?_) (fun ys σ' H' h' D hD=>?_)⟩
  ·obtain⟨rfl,hY,o,rfl⟩:=h'
   obtain⟨t,w,hwi,rfl,ht⟩:=hA1.at hx
   have hwm:=List.mem_of_getElem? hwi
   obtain⟨u,hu1,hu2⟩:=hM.get (hin w hwm)
   have et:acc.take (i+1)=acc.take i++[w]:=by rw[List.take_add_one,hwi];rfl
   rw[hg w (hin w hwm)]at hu2
   nofun
   have hdg:DGet H' m (.ref t) (some (.ref u)):=by rw[<-hu1];exact DGet.t (k:=wkey w) hm (by rw[Ck];exact ht)
   refine⟨_,hdg,?_,_,rfl⟩
   rw[et,List.map_append]
   exact hY.snoc hu2
  ·obtain⟨rfl,hY,o,rfl⟩:=h'
   rw[hA.1,List.take_length]at hY
   have sD:=Same.new hD (o:=.lst ys)
   have hm2:=sD _ _ hm
   refine⟨kvs,hm2,fun oo=>?_⟩
   have hDm:D≠m:=fun z=>by rw[z,hm]at hD;cases hD
   obtain⟨HF,hHF⟩:∃HF:Hp,HF=upd (upd H' D (.lst ys)) m (.frz oo (.dT kvs)):=⟨_,rfl⟩
   rw[<-hHF]
   have hmF:HF m=some (.frz oo (.dT kvs)):=by rw[hHF];exact Ab
   have tkF:TK H' HF:=fun c zs z=>by rw[hHF,Ag (fun e=>by rw[e,hm]at z;cases z)];exact sD _ _ z
   have hDF:HF D=some (.lst ys):=by rw[hHF,Ag hDm];exact Ab
   have sF:Same H HF:=by rw[hHF];exact (s1.trans sD).over hm0
   obtain⟨Pv,hPv⟩:∃Pv:Nat->St->Hp->Prop,∀i σ' H',Pv i σ' H'↔(H'=HF/\(∀w∈rw'.take i,g w∈acc.map g)/\∃o,σ'=[some (.ref p),some (.int N),some (.ref a),some (.ref b),some (.ref m),some (.ref D),o]):=⟨_,fun _ _ _=>Iff.rfl⟩
   refine forD Pv ((hPv _ _ _).mpr ⟨rfl,(fun w hw=>by rw[List.take_zero]at hw;cases hw),none,rfl⟩) (fun i σ2 H2 _ h2=>by rw[((hPv _ _ _).mp h2).1];exact hmF) (fun i k0 v0 bb σ2 H2 hkv h2 hbb=>?_) (fun σ2 H2 h2=>?_)
   ·obtain⟨rfl,hall,o2,rfl⟩:=(hPv _ _ _).mp h2
    have hi:i<rw'.length:=by rw[<-hM.1];exact (List.getElem?_eq_some_iff.mp hkv).1
    have hwi:rw'[i]?=some rw'[i]:=by simp[hi]
    obtain⟨t,e1,e2⟩:=hM.2 i _ hwi
    have hwm:=List.mem_of_getElem? hwi
    rw[hkv]at e1
    cases e1
    replace e2:H' t=some (.tup ((g rw'[i]).map V.int)):=by rw[<-hg _ hwm];exact e2
    rw[Ck]at hbb
    have et:rw'.take (i+1)=rw'.take i++[rw'[i]]:=by rw[List.take_add_one,hwi];rfl
    nofun
    obtain⟨t',hv1,hv2⟩:=hM.get hwm
    replace hv2:H' t'=some (.tup ((g rw'[i]).map V.int)):=by rw[<-hg _ hwm];exact hv2
    refine⟨V.ref t',.inr ⟨kvs,wkey rw'[i],bb,.inr ⟨oo,hmF⟩,rfl,by rw[Ck];exact hbb,hv1.symm⟩,t',rfl,_,SqL.of hDF,g rw'[i],acc.map g,hY.mono tkF,SqT.of (tkF _ _ hv2),?_⟩
    by_cases hmem:g rw'[i]∈acc.map g
    ·rw[if_neg (by rw[decide_eq_true hmem];decide)]
     refine (hPv _ _ _).mpr ⟨rfl,fun w hw=>?_,_,rfl⟩
     rw[et]at hw
     rcases List.mem_append.mp hw with hw|hw
     ·exact hall w hw
     ·rw[List.mem_singleton.mp hw];exact hmem
    ·rw[if_pos (by rw[decide_eq_false hmem];rfl)]
     refine kk rw'[i] bb _ (List.find?_eq_some_iff_getElem.mpr ⟨decide_eq_true hmem,i,hi,rfl,fun j hj=>?_⟩) sF hbb
     have:=hall rw'[j] (List.mem_iff_getElem?.mpr ⟨j,by rw[List.getElem?_take,if_pos hj];simp[show j<rw'.length by lia]⟩)
     rw[decide_eq_false (not_not_intro this)]
     rfl
   ·obtain⟨rfl,hall,o2,rfl⟩:=(hPv _ _ _).mp h2
    rw[hM.1,List.take_length]at hall
    nofun
    refine kkn _ (List.find?_eq_none.mpr fun w hw=>?_) sF
    simp[hall w hw]
noncomputable def eI (g:List Int->List Int)(acc:List (List Int))(i:Nat):List (List Int×Int):=(List.range i).map fun j=>(g (acc.getD j []),(j:Int))
def Lt_ (g:List Int->List Int)(acc:List (List Int))(i:Nat):eI g acc (i+1)=eI g acc i++[(g (acc.getD i []),(i:Int))]:=by unfold eI;rw[List.range_succ,List.map_append];rfl
def HO_ (g:List Int->List Int)(acc:List (List Int))  (hi:i<=acc.length):(eI g acc i).map (·.1)=(acc.map g).take i:=by
 refine List.ext_getElem? fun j=>?_
 unfold eI
 rw[List.map_map,List.getElem?_map,List.getElem?_take,List.getElem?_map]
 by_cases hj:j<i
 ·rw[if_pos hj,List.getElem?_range hj]
  have hj':j<acc.length:=by lia
  simp[List.getD_eq_getElem?_getD,hj']
 ·rw[if_neg hj,List.getElem?_eq_none (by simp;lia)];rfl
def Nd_    (hx:x∈acc.map g):(x,(((acc.map g).idxOf x:Nat):Int))∈eI g acc acc.length:=by
 unfold eI
 have hlt:(acc.map g).idxOf x<(acc.map g).length:=List.idxOf_lt_length_of_mem hx
 rw[List.length_map]at hlt
 refine List.mem_map.mpr ⟨(acc.map g).idxOf x,List.mem_range.mpr hlt,?_⟩
 have h1:(acc.map g)[(acc.map g).idxOf x]'(by rw[List.length_map];exact hlt)=x:=List.getElem_idxOf _
 rw[List.getElem_map]at h1
 rw[List.getD_eq_getElem?_getD,List.getElem?_eq_getElem hlt]
 show (g _,_)=_
 rw[Option.getD_some,h1]
def Dv_ {n:Nat}{acc:List (List Int)}{w:List Int}{x:Nat}(h:w∈acc)(hx:x<n):w++[(x:Int)]∈B8 n acc:=by
 unfold B8
 refine Lc.mpr (.inr (List.mem_flatMap.mpr ⟨w,h,?_⟩))
 unfold extW
 exact List.mem_map.mpr ⟨x,List.mem_range.mpr hx,rfl⟩
def Br_ {l:List (List Int)}{i:Nat}(hi:i<l.length)(nd:l.Nodup):l[i]∉l.take i:=fun z=>by
 obtain⟨j,hj,ej⟩:=List.getElem_of_mem z
 rw[List.length_take]at hj
 rw[List.getElem_take]at ej
 have:=(List.getElem_inj (h₀:=(show j<l.length by lia)) (h₁:=hi) nd).mp ej
 lia
noncomputable def EM_ (K:PySem.W.Frag):Sp:=fun vs H Q _=>∃(N:Nat) (a m:Addr) (xs:List V) (acc:List (List Int)) (kvs:List (List Key×V)) (g:List Int->List Int),vs=[.int N,.ref a,.ref m]/\N<=6/\SqL K H a xs/\Am K H xs acc/\acc.length<=64/\(∀w∈acc,w.length<=64)/\H m=some (.dT kvs)/\IF H (fun w=>(g w).map V.int) (B8 N acc) kvs/\(acc.map g).Nodup/\(∀w∈acc,∀x:Nat,x<N->g (w++[(x:Int)])∈acc.map g)/\∀t ys H',Same H H'->H' t=some (.tup ys)->Am K H' ys (acc.map fun w=>(List.range N).map fun x:Nat=>(((acc.map g).idxOf (g (w++[(x:Int)])):Nat):Int))->Q (.ref t) H'
def TL   (F:Fun K "ways_by_marks" "ways_by_marks" Df f fd)(T:Txt mg)
  (W:Own K mg C_j7 C_j9 C_ji C_ja C_j1 C_j4)
  (Z:Exs K mg C_j8 C_j5 C_j6 C_j3 C_j2 C_j0)
  : nofun 1 f fd ["letters","access","marks"] (EM_ K):=by
 delta Dp
 ·obtain⟨N,a,m,xs,acc,kvs,g,rfl,_⟩:=h;rfl
 ·obtain⟨N,a,m,xs,acc,kvs,g,rfl,hN,ha,hA,hal,haw,hm,hM,hnd,hin,k⟩:=h
  have hl:=Aq
  refine⟨_,(Ac (Kk (i:=3) Dp.nd rfl (Or.inr rfl) K1)
   (Ac (E7 PassesOwn.never rfl (IM_ rfl T.enumerate (pvD 1)) (Ep_ rfl (JF (Bm (i:=4) Dp.nd rfl (Or.inl rfl)) (JF (Bm (i:=5) Dp.nd rfl (Or.inr rfl)) X1)))
   (Af (K0 (IX hr) (pvD 3) (Mq (IX hr) (pvD 2) (pvD 5) (fun _ _=>rfl)) (pvD 4) rfl)))
   (Ac (AX (i:=6) Dp.nd (JG Ae))
   (Ac (E7 PassesOwn.never rfl (Ge (pvD 1)) (Bm (i:=5) Dp.nd rfl (Or.inr rfl))
   (Af (Bc (U5 PySem.F.plainAttrs_list PySem.F.slot_list_append PySem.F.type_list_append GO (pvD 6) (Aa (Ci DB rfl T.tuple PyProof.Rows.boot_tuple (Aa (K2 rfl (Kl rfl) (cp:=Kq) ⟨⟨rfl,rfl⟩,⟨⟨rfl,rfl⟩,⟨⟨rfl,rfl⟩,True.intro⟩⟩⟩ (EV rfl T.range (Aa (pvD 0) Ae)) (fun _ _ _ _=>(Bm (i:=0) Om rfl (Or.inl rfl))) (fun _ _ _ _=>Ls) (fun _ _ _ _=>(Ew_ (IX hr) (pvD 1) (Mq (IX hr) (pvD 2) (BU (PU (K:=K) rfl) (pvD 3) (F3 (Aa (pvD 0) Ae))) (fun _ _=>rfl)) ⟨by rfl,by rfl,by rfl,by rfl⟩))) Ae)) Ae)))))
   (Af (An (Ci DB rfl T.tuple PyProof.Rows.boot_tuple (Aa (pvD 6) Ae)))))))),?_⟩
  nofun
  intro p hp
  have s0:=Same.new hp (o:=.dT [])
  have hkn:∀i,i<=acc.length->((eI g acc i).map (·.1)).Nodup:=fun i hi=>by rw[HO_ g acc hi];exact hnd.sublist (List.take_sublist _ _)
  refine⟨_,s0.seq ha,?_⟩
  obtain⟨Pv,hPv⟩:∃Pv:Nat->St->Hp->Prop,∀i σ' H',Pv i σ' H'↔(∃o1 o2:Option V,Same H H'/\H' p=some (.dT (ents (eI g acc i)))/\σ'=[some (.int N),some (.ref a),some (.ref m),some (.ref p),o1,o2,none]):=⟨_,fun _ _ _=>Iff.rfl⟩
  have hpm:p≠m:=fun z=>by rw[z,hm]at hp;cases hp
  refine forM Pv ((hPv _ _ _).mpr ⟨none,none,s0,Ab,rfl⟩) (fun i σ' H' _ h'=>by obtain⟨_,_,s',_⟩:=(hPv _ _ _).mp h';exact s'.seq ha) (fun i v σ' H' t hv h' ht=>?_) (fun σ' H' h'=>?_)
  ·obtain⟨o1,o2,s',hp',rfl⟩:=(hPv _ _ _).mp h'
   obtain⟨tw,w,hwi,rfl,htw⟩:=hA.at hv
   have hwm:=List.mem_of_getElem? hwi
   have hi:=(List.getElem?_eq_some_iff.mp hwi).1
   have sT:=s'.newT ht (o:=.tup [.int i,.ref tw])
   obtain⟨u,hu1,hu2⟩:=hM.get (Ld (n:=N) hwm)
   have hgd:acc.getD i []=w:=by rw[List.getD_eq_getElem?_getD,hwi];rfl
   have hno:g w∉(eI g acc i).map (·.1):=by
    rw[HO_ g acc s!""]
    have:=Br_ (l:=acc.map g) (i:=i) (by rw[List.length_map];exact hi) hnd
    rw[List.getElem_map,(List.getElem?_eq_some_iff.mp hwi).2]at this
    exact this
   nofun
   have hdg:DGet (upd H' t (.tup [V.int i,V.ref tw])) m (.ref tw) (some (.ref u)):=by rw[<-hu1];exact DGet.t (k:=wkey w) (sT _ _ hm) (by rw[Ck];exact sT _ _ htw)
   have hle:(ents (eI g acc i)).length=i:=by unfold ents eI;rw[List.length_map,List.length_map,List.length_range]
   refine⟨_,SqT.of Ab,rfl,V.int i,_,rfl,V.ref tw,_,rfl,rfl,V.ref u,hdg,_,DPut.t (k:=wkey (g w)) (Same.new ht _ _ hp') (by rw[Ck];exact sT _ _ hu2) s!"",(hPv _ _ _).mpr ⟨_,_,sT.over hp,by rw[Ab,UR hno,Lt_,hgd],rfl⟩⟩
  ·obtain⟨o1,o2,s',hp',rfl⟩:=(hPv _ _ _).mp h'
   rw[hA.1]at hp'
   nofun
   refine⟨by lia,fun q hq=>⟨⟨_,(s'.newT hq).seq ha⟩,?_⟩⟩
   have sq:=s'.newT hq (o:=.lst [])
   have hqH:H q=none:=s'.none hq
   have hpq:p≠q:=fun z=>by rw[z,hq]at hp';cases hp'
   obtain⟨Pw,hPw⟩:∃Pv:Nat->St->Hp->Prop,∀i σ2 H2,Pv i σ2 H2↔(∃(ys:List V) (o:Option V),Same H H2/\H2 p=some (.dT (ents (eI g acc acc.length)))/\H2 q=some (.lst ys)/\Am K H2 ys ((acc.take i).map fun w=>(List.range N).map fun x:Nat=>(((acc.map g).idxOf (g (w++[(x:Int)])):Nat):Int))/\σ2=[some (.int N),some (.ref a),some (.ref m),some (.ref p),o1,o,some (.ref q)]):=⟨_,fun _ _ _=>Iff.rfl⟩
   refine forL (xs:=xs) Pw ((hPw _ _ _).mpr ⟨[],_,sq,Same.new hq _ _ hp',Ab,Am.nil,rfl⟩) (fun i σ2 H2 _ h2=>by obtain⟨_,_,s2,_⟩:=(hPw _ _ _).mp h2;exact s2.seq ha) (fun i x σ2 H2 hx h2=>?_) (fun σ2 H2 h2=>?_)
   ·obtain⟨ys,o,s2,hp2,hq2,hY,rfl⟩:=(hPw _ _ _).mp h2
    obtain⟨tw,w,hwi,rfl,htw⟩:=hA.at hx
    have hwm:=List.mem_of_getElem? hwi
    have hwl:=haw w hwm
    have et:acc.take (i+1)=acc.take i++[w]:=by rw[List.take_add_one,hwi];rfl
    have hyl:ys.length<=64:=by rw[hY.1,List.length_map,List.length_take];lia
    nofun
    refine⟨.inl ⟨rfl,_,SqL.of hq2⟩,by lia,by lia,?_⟩
    rw[Int.toNat_natCast]
    obtain⟨Pc,hPc⟩:∃Pc:Nat->List V->St->Hp->Prop,∀j us σ4 H4,Pc j us σ4 H4↔(Same H2 H4/\us=((List.range j).map fun x:Nat=>(((acc.map g).idxOf (g (w++[(x:Int)])):Nat):Int)).map V.int/\∃o,σ4=[o,some (.ref p),some (.ref m),some (.ref tw)]):=⟨_,fun _ _ _ _=>Iff.rfl⟩
    refine II_ Pc ((hPc _ _ _ _).mpr ⟨Same.refl _,rfl,none,rfl⟩) s!"" (fun j us σ4 H4 _ h4=>?_) (fun j us σ4 H4 hj h4=>?_) (fun us σ4 H4 h4 D hD=>?_)
    ·obtain⟨_,rfl,_⟩:=(hPc _ _ _ _).mp h4
     rw[List.length_map,List.length_map,List.length_range];lia
    ·obtain⟨s4,rfl,o4,rfl⟩:=(hPc _ _ _ _).mp h4
     rw[Int.zero_add]
     have s24:=s2.trans s4
     obtain⟨u,hu1,hu2⟩:=hM.get (Dv_ (n:=N) hwm hj)
     have hmem:=Nd_ (hin w hwm j hj)
     nofun
     refine⟨.inr ⟨_,.inl (s4 _ _ hp2)⟩,by lia,fun p1 hp1=>Kn.ofS (Same.new hp1 _ _ (s24 _ _ htw)) Ab (by simp;lia) fun q3 H5 s5 hq5=>?_⟩
     have s45:=(Same.new hp1 (o:=.tup [V.int j])).trans s5
     have s25:=s24.trans s45
     have hdg:DGet H5 m (.ref q3) (some (.ref u)):=by rw[<-hu1];exact DGet.t (k:=wkey (w++[(j:Int)])) (s25 _ _ hm) (by rw[Ck,List.map_append];exact hq5)
     refine⟨_,hdg,_,DGet.t (k:=wkey (g (w++[(j:Int)]))) ((s4.trans s45) _ _ hp2) (by rw[Ck];exact s25 _ _ hu2),(hPc _ _ _ _).mpr ⟨s4.trans s45,?_,_,rfl⟩⟩
     rw[F6 (hkn _ (Nat.le_refl _)) hmem,List.range_succ,List.map_append,List.map_append]
     rfl
    ·obtain⟨s4,rfl,o4,rfl⟩:=(hPc _ _ _ _).mp h4
     refine⟨D,rfl,_,.inl ⟨SqL.of Ab,fun t ht=>?_⟩⟩
     have sDt:=(s4.newT hD).newT ht (o:=.tup (((List.range N).map fun x:Nat=>(((acc.map g).idxOf (g (w++[(x:Int)])):Nat):Int)).map V.int))
     have hq5:=sDt _ _ hq2
     refine⟨_,hq5,by lia,(hPw _ _ _).mpr ⟨ys++[.ref t],_,(s2.trans sDt).over hqH,by rw[Ag hpq];exact sDt _ _ hp2,Ab,?_,rfl⟩⟩
     rw[et,List.map_append]
     exact ((hY.mono (TK.of sDt)).snoc Ab).mono (TK.lst hq5)
   ·obtain⟨ys,o,s2,hp2,hq2,hY,rfl⟩:=(hPw _ _ _).mp h2
    rw[hA.1,List.take_length]at hY
    nofun
    exact⟨_,.inl ⟨SqL.of hq2,fun t ht=>k t ys _ (s2.newT ht) Ab (hY.mono (TK.of (Same.new ht)))⟩⟩
def YD (l:List (List Int)):∀(s:List (List Int)) (v:List Int),v∈l.foldl ins s↔v∈s\/v∈l:=by
 induction l with
 |nil=>intro s v;simp
 |cons a l ih=>
  intro s v
  rw[List.foldl_cons,ih]
  unfold ins
  split
  ·rename_i h
   constructor
   ·rintro (h1|h1)
    ·exact .inl h1
    ·exact .inr (List.mem_cons_of_mem _ h1)
   ·rintro (h1|h1)
    ·exact .inl h1
    ·rcases List.mem_cons.mp h1 with rfl|h1
     ·exact .inl h
     ·exact .inr h1
  ·constructor
   ·rintro (h1|h1)
    ·rcases List.mem_append.mp h1 with h1|h1
     ·exact .inl h1
     ·rw[List.mem_singleton.mp h1];exact .inr (List.mem_cons_self ..)
    ·exact .inr (List.mem_cons_of_mem _ h1)
   ·rintro (h1|h1)
    ·exact .inl (List.mem_append_left _ h1)
    ·rcases List.mem_cons.mp h1 with rfl|h1
     ·exact .inl (by simp)
     ·exact .inr h1
def AW    : v∈B8 L W↔v∈W \/ ∃a∈W,∃x:Nat,x<L/\v=a++[(x:Int)]:=by
 unfold B8
 rw[YD,YD]
 simp only[List.not_mem_nil,false_or,List.mem_flatMap,extW,List.mem_map,List.mem_range]
 constructor
 ·rintro (h|⟨a,ha,x,hx,rfl⟩)
  ·exact .inl h
  ·exact .inr ⟨a,ha,x,hx,rfl⟩
 ·rintro (h|⟨a,ha,x,hx,rfl⟩)
  ·exact .inl h
  ·exact .inr ⟨a,ha,x,hx,rfl⟩
def B6   : c∈IE R E ↔ ∃r∈R,∃e∈E,c=r++e:=by
 unfold IE
 rw[YD]
 simp only[List.not_mem_nil,false_or,List.mem_flatMap,List.mem_map]
 constructor
 ·rintro⟨r,hr,e,he,rfl⟩;exact⟨r,hr,e,he,rfl⟩
 ·rintro⟨r,hr,e,he,rfl⟩;exact⟨r,hr,e,he,rfl⟩
noncomputable abbrev Bk:=List (List Int×Int)
noncomputable def Grow (es es':Bk):Prop:=∀v m,mkO es v=some m->mkO es' v=some m
def Grow.refl (es:Bk):Grow es es:=fun _ _ h=>h
def Grow.snoc (es:Bk)(v:List Int)(m:Int):Grow es (es++[(v,m)]):=fun u n h=>by
 unfold mkO at h ⊢
 rw[List.find?_append]
 cases hf:es.find? (fun e=>decide (e.1=u)) with
 |none=>rw[hf]at h;cases h
 |some e=>rw[hf]at h;exact h
def YE    (h:mkO es v=some m):(v,m)∈es:=by
 unfold mkO at h
 cases hf:es.find? (fun e=>decide (e.1=v)) with
 |none=>rw[hf]at h;cases h
 |some e=>
  rw[hf]at h
  have h1:=List.mem_of_find?_eq_some hf
  have h2:=List.find?_some hf
  simp at h h2
  subst h h2
  exact h1
def Vv   : v∈es.map (·.1) ↔ ∃m,mkO es v=some m:=by
 constructor
 ·intro h
  cases hm:mkO es v with
  |some m=>exact⟨m,rfl⟩
  |none=>
   obtain⟨e,he,rfl⟩:=List.mem_map.mp h
   unfold mkO at hm
   rw[Option.map_eq_none_iff,List.find?_eq_none]at hm
   exact absurd (decide_eq_true rfl) (hm e he)
 ·rintro⟨m,hm⟩
  exact List.mem_map.mpr ⟨_,YE hm,rfl⟩
noncomputable def TM (E:List (List Int))(es:Bk)(v u:List Int):Prop:=∃e∈E,∃m n,mkO es (v++e)=some m/\mkO es (u++e)=some n/\m≠n
def TM.symm    (h:TM E es v u):TM E es u v:=by
 obtain⟨e,he,m,n,a,b,c⟩:=h
 exact⟨e,he,n,m,b,a,Ne.symm c⟩
def TM.mono    (h:TM E es v u)(hE:∀e∈E,e∈E')(g:Grow es es'):TM E' es' v u:=by
 obtain⟨e,he,m,n,a,b,c⟩:=h
 exact⟨e,hE e he,m,n,g _ _ a,g _ _ b,c⟩
noncomputable def Pend (L:Nat)(W E:List (List Int))(es:Bk):Prop:=∃a∈W,∃x:Nat,x<L/\∀u∈W,TM E es (a++[(x:Int)]) u
def Pend.mono    (h:Pend L W E es)(g:Grow es es'):Pend L W E es':=by
 obtain⟨a,ha,x,hx,k⟩:=h
 exact⟨a,ha,x,hx,fun u hu=>(k u hu).mono (fun _ z=>z) g⟩
structure Tb (L most:Nat)(W E:List (List Int))(es:Bk):Prop where
 l1:1<=L
 l6:L<=6
 m12:most<=12
 w0:W[0]?=some []
 wW:∀v∈W,isW L v=true/\v.length<W.length
 wn:W.length<=most
 e0:E.take L=(List.range L).map fun x:Nat=>[(x:Int)]
 eW:∀e∈E,isW L e=true/\e ≠ []
 nd:(es.map (·.1)).Nodup
 bW:∀p∈es,isW L p.1=true/\0<=p.2/\p.2<=1000000000
 dist:∀(i j:Nat) (v u:List Int),W[i]?=some v->W[j]?=some u->i≠j->TM E es v u
 jj:E.length+1<=W.length+L\/(E.length=W.length+L/\Pend L W E es)
def Tb.en    (t:Tb L most W E es):E.length<=most+L:=by
 have:=t.wn
 rcases t.jj with h|h
 ·lia
 ·lia
def Tb.put {L most:Nat}{W E:List (List Int)}{es:Bk}(t:Tb L most W E es){v:List Int}{m:Int}(hn:v∉es.map (·.1))(hv:isW L v=true)(h0:0<=m)(h9:m<=1000000000):Tb L most W E (es++[(v,m)]) where
 l1:=t.l1
 l6:=t.l6
 m12:=t.m12
 w0:=t.w0
 wW:=t.wW
 wn:=t.wn
 e0:=t.e0
 eW:=t.eW
 nd:=by
  rw[List.map_append,List.nodup_append]
  exact⟨t.nd,by simp,fun a ha b hb=>by rw[List.mem_singleton.mp hb];intro z;subst z;exact hn ha⟩
 bW:=fun p hp=>by
  rcases List.mem_append.mp hp with hp|hp
  ·exact t.bW p hp
  ·rw[List.mem_singleton.mp hp];exact⟨hv,h0,h9⟩
 dist:=fun i j v' u h1 h2 h3=>(t.dist i j v' u h1 h2 h3).mono (fun _ z=>z) (Grow.snoc es v m)
 jj:=by
  rcases t.jj with h|h
  ·exact .inl h
  ·exact .inr ⟨h.1,h.2.mono (Grow.snoc es v m)⟩
noncomputable def Full (L:Nat)(W E:List (List Int))(es:Bk):Prop:=∀c∈IE (B8 L W) E,∃m,mkO es c=some m
noncomputable def gOf (E:List (List Int))(es:Bk)(v:List Int):List Int:=E.map fun e=>(mkO es (v++e)).getD 0
def HP_    (f:Full L W E es)  (hv:v∈B8 L W):(E.map fun e=>oV (mkO es (v++e)))=(gOf E es v).map V.int:=by
 unfold gOf
 rw[List.map_map]
 refine List.map_congr_left fun e he=>?_
 obtain⟨m,hm⟩:=f (v++e) (B6.mpr ⟨v,hv,e,he,rfl⟩)
 show oV (mkO es (v++e))=V.int ((mkO es (v++e)).getD 0)
 rw[hm];rfl
def MQ    (f:Full L W E es)  (hv:v∈B8 L W)(hu:u∈B8 L W):gOf E es v≠gOf E es u↔TM E es v u:=by
 constructor
 ·intro h
  refine Classical.byContradiction fun hno=>h ?_
  unfold gOf
  refine List.map_congr_left fun e he=>?_
  obtain⟨m,hm⟩:=f (v++e) (B6.mpr ⟨v,hv,e,he,rfl⟩)
  obtain⟨n,hn⟩:=f (u++e) (B6.mpr ⟨u,hu,e,he,rfl⟩)
  rw[hm,hn]
  exact Classical.byContradiction fun hne=>hno ⟨e,he,m,n,hm,hn,hne⟩
 ·rintro⟨e,he,m,n,hm,hn,hne⟩ heq
  unfold gOf at heq
  have:=List.map_inj_left.mp heq e he
  rw[hm,hn]at this
  exact hne this
def Tb.nodup    (t:Tb L most W E es)(f:Full L W E es):(W.map (gOf E es)).Nodup:=by
 rw[List.nodup_iff_pairwise_ne,List.pairwise_map,List.pairwise_iff_getElem]
 intro i j hi hj hij
 exact (MQ f (AW.mpr (.inl (List.getElem_mem hi))) (AW.mpr (.inl (List.getElem_mem hj)))).mpr (t.dist i j _ _ (List.getElem?_eq_getElem hi) (List.getElem?_eq_getElem hj) s!"")
def Tb.more    (t:Tb L most W E es)(f:Full L W E es)  (h:(B8 L W).find? (fun v=>decide (gOf E es v∉W.map (gOf E es)))=some v):(v∈B8 L W/\v∉W/\isW L v=true/\v.length<=W.length)/\(W.length<most->Tb L most (W++[v]) E es):=by
 have h1:=List.mem_of_find?_eq_some h
 have h2:=List.find?_some h
 have h2:gOf E es v∉W.map (gOf E es):=of_decide_eq_true h2
 have hnW:v∉W:=fun z=>h2 (List.mem_map_of_mem z)
 have hap:∀u∈W,TM E es v u:=fun u hu=>(MQ f h1 (AW.mpr (.inl hu))).mp fun z=>h2 (by rw[z];exact List.mem_map_of_mem hu)
 have hv:isW L v=true/\v.length<=W.length:=by
  rcases AW.mp h1 with h|⟨a,ha,x,hx,rfl⟩
  ·exact absurd h hnW
  ·have:=t.wW a ha
   exact⟨CH.mpr fun y hy=>by
    rcases List.mem_append.mp hy with hy|hy
    ·exact CH.mp this.1 y hy
    ·rw[List.mem_singleton.mp hy];lia,by rw[List.length_append,List.length_singleton];lia⟩
 refine⟨⟨h1,hnW,hv.1,hv.2⟩,fun hm=>⟨t.l1,t.l6,t.m12,?_,fun u hu=>?_,by simp;lia,t.e0,t.eW,t.nd,t.bW,fun i j a b hi hj hij=>?_,?_⟩⟩
 ·have:=(List.getElem?_eq_some_iff.mp t.w0).1
  rw[List.getElem?_append_left this];exact t.w0
 ·rw[List.length_append,List.length_singleton]
  rcases List.mem_append.mp hu with hu|hu
  ·have:=t.wW u hu;exact⟨this.1,by lia⟩
  ·rw[List.mem_singleton.mp hu];exact⟨hv.1,by lia⟩
 ·have hi':=(List.getElem?_eq_some_iff.mp hi).1
  have hj':=(List.getElem?_eq_some_iff.mp hj).1
  rw[List.length_append,List.length_singleton]at hi' hj'
  by_cases hil:i<W.length
  ·rw[List.getElem?_append_left hil]at hi
   by_cases hjl:j<W.length
   ·rw[List.getElem?_append_left hjl]at hj
    exact t.dist i j a b hi hj hij
   ·rw[List.getElem?_append_right s!"",show j-W.length=0 by lia]at hj
    cases hj
    exact (hap a (List.mem_of_getElem? hi)).symm
  ·rw[List.getElem?_append_right s!"",show i-W.length=0 by lia]at hi
   cases hi
   rw[List.getElem?_append_left s!""]at hj
   exact hap b (List.mem_of_getElem? hj)
 ·rw[List.length_append,List.length_singleton]
  rcases t.jj with h|h
  ·exact .inl s!""
  ·exact .inl s!""
def Tb.none    (t:Tb L most W E es)(f:Full L W E es)(h:(B8 L W).find? (fun v=>decide (gOf E es v∉W.map (gOf E es)))=none):¬ Pend L W E es/\(∀a∈W,∀x:Nat,x<L->gOf E es (a++[(x:Int)])∈W.map (gOf E es)):=by
 have hall:∀v∈B8 L W,gOf E es v∈W.map (gOf E es):=fun v hv=>by
  have:=List.find?_eq_none.mp h v hv
  simpa using this
 refine⟨fun ⟨a,ha,x,hx,k⟩=>?_,fun a ha x hx=>hall _ (AW.mpr (.inr ⟨a,ha,x,hx,rfl⟩))⟩
 have hr:=AW.mpr (.inr ⟨a,ha,x,hx,rfl⟩)
 obtain⟨u,hu,e⟩:=List.mem_map.mp (hall _ hr)
 exact (MQ f hr (AW.mpr (.inl hu))).mpr (k u hu) e.symm
def Tb.end    (t:Tb L most W E es)  (hx:x<L):E[x]?=some [(x:Int)]:=by
 have h:=congrArg (fun l=>l[x]?) t.e0
 rw[List.getElem?_take,if_pos hx,List.getElem?_map,List.getElem?_range hx]at h
 exact h
def Tb.endl    (t:Tb L most W E es):L<=E.length:=by
 have h:=congrArg List.length t.e0
 rw[List.length_take,List.length_map,List.length_range]at h
 lia
structure GuessOk (L:Nat)(W E:List (List Int))(es:Bk)(marks ways:List (List Int)):Prop where
 ml:marks.length=W.length
 sl:∀row∈marks,row.length=L
 m:∀(i:Nat) (v:List Int) (x:Nat),W[i]?=some v->x<L->∃row y,marks[i]?=some row/\row[x]?=some y/\mkO es (v++[(x:Int)])=some y
 wl:ways.length=W.length
 rl:∀row∈ways,row.length=L
 go:∀(i:Nat) (v:List Int) (x:Nat),W[i]?=some v->x<L->∃(row:List Int) (k:Nat) (u:List Int),ways[i]?=some row/\row[x]?=some (k:Int)/\W[k]?=some u/\∀e∈E,∃y,mkO es (v++[(x:Int)]++e)=some y/\mkO es (u++e)=some y
def GuessOk.mono      (g:GuessOk L W E es marks ways)(h:Grow es es'):GuessOk L W E es' marks ways:=by
 refine⟨g.ml,g.sl,fun i v x hv hx=>?_,g.wl,g.rl,fun i v x hv hx=>?_⟩
 ·obtain⟨row,y,a,b,c⟩:=g.m i v x hv hx
  exact⟨row,y,a,b,h _ _ c⟩
 ·obtain⟨row,k,u,a,b,c,d⟩:=g.go i v x hv hx
  refine⟨row,k,u,a,b,c,fun e he=>?_⟩
  obtain⟨y,y1,y2⟩:=d e he
  exact⟨y,h _ _ y1,h _ _ y2⟩
def Ne_ {α:Type}[BEq α][LawfulBEq α]{l:List α}{a:α}(h:a∈l):l[l.idxOf a]?=some a/\l.idxOf a<l.length:=by
 have h1:=List.idxOf_lt_length_iff.mpr h
 exact⟨by rw[List.getElem?_eq_getElem h1,List.getElem_idxOf],h1⟩
def Tb.guess    (t:Tb L most W E es)(f:Full L W E es)(h:∀a∈W,∀x:Nat,x<L->gOf E es (a++[(x:Int)])∈W.map (gOf E es)):GuessOk L W E es (W.map fun v=>(gOf E es v).take L) (W.map fun v=>(List.range L).map fun x:Nat=>(((W.map (gOf E es)).idxOf (gOf E es (v++[(x:Int)])):Nat):Int)):=by
 refine⟨by rw[List.length_map],fun row hr=>?_,fun i v x hv hx=>?_,by rw[List.length_map],fun row hr=>?_,fun i v x hv hx=>?_⟩
 ·obtain⟨v,_,rfl⟩:=List.mem_map.mp hr
  have:=t.endl
  unfold gOf
  rw[List.length_take,List.length_map];lia
 ·have he:=t.end hx
  obtain⟨m,hm⟩:=f (v++[(x:Int)]) (B6.mpr ⟨v,AW.mpr (.inl (List.mem_of_getElem? hv)),[(x:Int)],List.mem_of_getElem? he,rfl⟩)
  refine⟨_,m,by rw[List.getElem?_map,hv];rfl,?_,hm⟩
  rw[List.getElem?_take,if_pos hx]
  unfold gOf
  rw[List.getElem?_map,he]
  show some ((mkO es (v++[(x:Int)])).getD 0)=_
  rw[hm];rfl
 ·obtain⟨v,_,rfl⟩:=List.mem_map.mp hr
  rw[List.length_map,List.length_range]
 ·have hvW:=List.mem_of_getElem? hv
  have hg:=h v hvW x hx
  obtain⟨q1,q2⟩:=Ne_ hg
  obtain⟨k,hk⟩:∃k,k=(W.map (gOf E es)).idxOf (gOf E es (v++[(x:Int)])):=⟨_,rfl⟩
  rw[<-hk]at q1 q2
  rw[List.length_map]at q2
  rw[List.getElem?_map,List.getElem?_eq_getElem q2]at q1
  have q3:gOf E es W[k]=gOf E es (v++[(x:Int)]):=Option.some.inj q1
  refine⟨_,k,W[k],by rw[List.getElem?_map,hv];rfl,by rw[List.getElem?_map,List.getElem?_range hx,hk];rfl,List.getElem?_eq_getElem q2,fun e he=>?_⟩
  obtain⟨y,hy⟩:=f (v++[(x:Int)]++e) (B6.mpr ⟨_,AW.mpr (.inr ⟨v,hvW,x,hx,rfl⟩),e,he,rfl⟩)
  obtain⟨z,hz⟩:=f (W[k]++e) (B6.mpr ⟨_,AW.mpr (.inl (List.getElem_mem q2)),e,he,rfl⟩)
  have:=List.map_inj_left.mp q3 e he
  rw[hy,hz]at this
  have e2:z=y:=this
  exact⟨y,hy,by rw[hz,e2]⟩
def Tb.wf    (t:Tb L most W E es)   (g:GuessOk L W E es marks ways):WfS L marks ways:=by
 have h0:=(List.getElem?_eq_some_iff.mp t.w0).1
 have:=t.wn
 have:=t.m12
 have:=t.l1
 have:=t.l6
 have hml:=g.ml
 refine⟨⟨by lia,by lia,by rw[List.length_replicate];lia,by rw[List.length_replicate];lia,by rw[List.length_replicate,g.wl,g.ml],fun row hr=>?_,fun m hm=>by rw[(List.mem_replicate.mp hm).2];lia⟩,fun row hr=>by rw[g.sl row hr]⟩
 refine⟨by rw[g.rl row hr],fun y hy=>?_⟩
 obtain⟨i,hi⟩:=List.mem_iff_getElem?.mp hr
 have hil:=(List.getElem?_eq_some_iff.mp hi).1
 rw[g.wl]at hil
 obtain⟨x,hx⟩:=List.mem_iff_getElem?.mp hy
 have hxl:=(List.getElem?_eq_some_iff.mp hx).1
 rw[g.rl row hr]at hxl
 obtain⟨row',k,u,a,b,c,_⟩:=g.go i _ x (List.getElem?_eq_getElem hil) hxl
 rw[hi]at a
 cases a
 rw[hx]at b
 cases b
 have:=(List.getElem?_eq_some_iff.mp c).1
 rw[List.length_replicate];lia
def GuessOk.room    (t:Tb L most W E es)   (g:GuessOk L W E es marks ways)  (hv:isW L v=true):∀i:Nat,∃(k:Nat) (u:List Int),FO ways (v.take i)=(k:Int)/\W[k]?=some u:=fun i=>by
 have wf:=t.wf g
 obtain⟨h0,h1⟩:=wf.walk hv i
 rw[g.ml]at h1
 obtain⟨k,hk⟩:=Int.eq_ofNat_of_zero_le h0
 rw[hk]at h1
 exact⟨k,W[k]'s!"",hk,List.getElem?_eq_getElem s!""⟩
def GuessOk.step {L most:Nat}{W E:List (List Int)}{es:Bk}(t:Tb L most W E es){marks:List (List Int)}{ways:List (List Int)}(g:GuessOk L W E es marks ways){v:List Int}(hv:isW L v=true){i k:Nat}{a:List Int}{y:Int}(hy:v[i]?=some y)(hk:FO ways (v.take i)=(k:Int))(ha:W[k]?=some a):∃(x k':Nat) (u:List Int),y=(x:Int)/\x<L/\FO ways (v.take (i+1))=(k':Int)/\W[k']?=some u/\∀e∈E,∃m,mkO es (a++[(x:Int)]++e)=some m/\mkO es (u++e)=some m:=by
 have hb:=CH.mp hv y (List.mem_of_getElem? hy)
 obtain⟨x,rfl⟩:=Int.eq_ofNat_of_zero_le hb.1
 obtain⟨row,k',u,q1,q2,q3,q4⟩:=g.go k a x ha s!""
 refine⟨x,k',u,rfl,by lia,?_,q3,q4⟩
 rw[Of hy,hk]
 exact UP (by rw[show ((k:Int)).toNat=k by lia];exact q1) (by rw[show ((x:Int)).toNat=x by lia];exact q2)
def Tb.halved {L most:Nat}{W E:List (List Int)}{es:Bk}(t:Tb L most W E es)(hE:E.length+1<=W.length+L){marks:List (List Int)}{ways:List (List Int)}(g:GuessOk L W E es marks ways){v:List Int}(hv:isW L v=true){i k k':Nat}(hi':i+1<v.length){a u:List Int}{mk b:Int}(hk:FO ways (v.take i)=(k:Int))(ha:W[k]?=some a)(h1:mkO es (a++v.drop i)=some b)(hne:b≠mk)(hk':FO ways (v.take (i+1))=(k':Int))(hu:W[k']?=some u)(h2:mkO es (u++v.drop (i+1))=some mk):Tb L most W (E++[v.drop (i+1)]) es/\Pend L W (E++[v.drop (i+1)]) es:=by
 have hi:i<v.length:=by lia
 obtain⟨y,hy⟩:∃y,v[i]?=some y:=⟨v[i],by simp⟩
 obtain⟨x,k2,u2,rfl,hx,q1,q2,q3⟩:=g.step t hv hy hk ha
 have ek:k2=k':=by rw[hk']at q1;exact (Int.ofNat.inj q1).symm
 subst ek
 rw[hu]at q2
 cases q2
 have hdr:v.drop i=(x:Int)::v.drop (i+1):=by
  have:=(List.getElem?_eq_some_iff.mp hy)
  rw[List.drop_eq_getElem_cons hi,this.2]
 have hpend:Pend L W (E++[v.drop (i+1)]) es:=by
  refine⟨a,List.mem_of_getElem? ha,x,hx,fun w' hw'=>?_⟩
  obtain⟨j,hj⟩:=List.mem_iff_getElem?.mp hw'
  by_cases hjk:j=k2
  ·subst hjk
   rw[hu]at hj
   cases hj
   refine⟨v.drop (i+1),by simp,b,mk,?_,h2,hne⟩
   rw[hdr]at h1
   rw[List.append_assoc];exact h1
  ·obtain⟨e,he,m,n,z1,z2,z3⟩:=t.dist j k2 _ _ hj hu hjk
   obtain⟨y2,y3,y4⟩:=q3 e he
   rw[z2]at y4
   cases y4
   exact⟨e,List.mem_append_left _ he,n,m,y3,z1,Ne.symm z3⟩
 refine⟨⟨t.l1,t.l6,t.m12,t.w0,t.wW,t.wn,?_,fun e he=>?_,t.nd,t.bW,fun i j v u h1 h2 h3=>(t.dist i j v u h1 h2 h3).mono (fun e he=>List.mem_append_left _ he) (Grow.refl _),?_⟩,hpend⟩
 ·rw[List.take_append_of_le_length t.endl];exact t.e0
 ·rcases List.mem_append.mp he with he|he
  ·exact t.eW e he
  ·rw[List.mem_singleton.mp he]
   exact⟨CH.mpr fun y hy=>CH.mp hv y (List.mem_of_mem_drop hy),fun z=>by have:=congrArg List.length z;rw[List.length_drop]at this;simp at this;lia⟩
 ·rw[List.length_append,List.length_singleton]
  by_cases hlt:E.length+1<W.length+L
  ·exact .inl s!""
  ·exact .inr ⟨by lia,hpend⟩
structure AS where
 L:Nat
 most:Nat
 W:List (List Int)
 E:List (List Int)
 G:List (List Int)
 gs:Option (List (List Int)×List (List Int))
 wr:Option (List Int)
 es:Bk
inductive Wish where
 | ask (c:List Int)
 | shown (m ws:List (List Int))
 | done (m ws:List (List Int))
 | spent (c:List Int)
inductive HR where
 | ask (c:List Int)
 | fin (hi:Nat)
noncomputable def Lw (L:Nat)(W E:List (List Int))(es:Bk):List (List Int):=(IE (B8 L W) E).filter fun c=>(mkO es c).isNone
noncomputable def Cc (L:Nat)(W E:List (List Int))(es:Bk):List (List Int):=W.map fun v=>(gOf E es v).take L
noncomputable def lsay (m ws:List (List Int))(v:List Int):Int:=(sayW m ws v).getD (v.length-1) 0
noncomputable def EO (L:Nat)(W E:List (List Int))(es:Bk):List (List Int):=W.map fun v=>(List.range L).map fun x:Nat=>(((W.map (gOf E es)).idxOf (gOf E es (v++[(x:Int)])):Nat):Int)
noncomputable def Ea (es:Bk)(m ws:List (List Int)):Option (List Int):=(es.find? fun e=>decide (lsay m ws e.1≠e.2)).map (·.1)
noncomputable def JE (W ws:List (List Int))(v:List Int)(i:Nat):List Int:=W.getD (FO ws (v.take i)).toNat []
noncomputable def KA (es:Bk)(W ws:List (List Int))(v:List Int)(mk:Int):Nat->Nat->Nat->HR
 |0,_,hi=>.fin hi
 |f+1,lo,hi=>if hi-lo > 1 then (match mkO es (JE W ws v ((lo+hi) / 2)++v.drop ((lo+hi) / 2)) with
   |none=>.ask (JE W ws v ((lo+hi) / 2)++v.drop ((lo+hi) / 2))
   |some t=>if t=mk then KA es W ws v mk f lo ((lo+hi) / 2) else KA es W ws v mk f ((lo+hi) / 2) hi) else .fin hi
noncomputable def E5 (L:Nat)(W E:List (List Int))(es:Bk):Option (List Int):=(B8 L W).find? fun v=>decide (gOf E es v∉W.map (gOf E es))
noncomputable def Jg (s:AS):AS×Option Wish:=match E5 s.L s.W s.E s.es with
 |some r=>if s.W.length=s.most then (s,some (.spent r)) else ({s with W:=s.W++[r],G:=Lw s.L (s.W++[r]) s.E s.es},none)
 |none=>match Ea s.es (Cc s.L s.W s.E s.es) (EO s.L s.W s.E s.es) with
  |none=>({s with gs:=some (Cc s.L s.W s.E s.es,EO s.L s.W s.E s.es),wr:=none},some (.shown (Cc s.L s.W s.E s.es) (EO s.L s.W s.E s.es)))
  |some v=>({s with gs:=some (Cc s.L s.W s.E s.es,EO s.L s.W s.E s.es),wr:=some v},none)
noncomputable def P5 (s:AS)(v:List Int)(m ws:List (List Int)):AS×Option Wish:=match KA s.es s.W ws v (lsay m ws v) v.length 0 (v.length-1) with
 |.ask c=>(s,some (.ask c))
 |.fin hi=>({s with wr:=none,E:=s.E++[v.drop hi],G:=Lw s.L s.W (s.E++[v.drop hi]) s.es},none)
noncomputable def EW (s:AS):AS×Option Wish:=match s.G with
 |c::r=>({s with G:=r},some (.ask c))
 |[]=>match s.wr with
  |some v=>match s.gs with
   |some (m,ws)=>P5 s v m ws
   |none=>(s,none)
  |none=>Jg s
structure OkX (x:Option (List Int))(B:Nat)(s:AS):Prop where
 tb:Tb s.L s.most s.W s.E s.es
 cov:∀c∈IE (B8 s.L s.W) s.E,(∃m,mkO s.es c=some m)\/c∈s.G\/x=some c
 gn:s.G.Nodup
 gW:∀c∈s.G,(isW s.L c=true/\c ≠ [])/\mkO s.es c=none/\c.length<=B+(s.most+1)*s.E.length
 le:∀e∈s.E,e.length+(s.most+1)<=B+(s.most+1)*s.E.length
 lb:∀p∈s.es,p.1.length<=B+(s.most+1)*s.E.length+(if s.wr.isSome then s.most else 0)
 ne:∀p∈s.es,p.1 ≠ []
 wr:∀v,s.wr=some v->s.G=[]/\s.E.length+1<=s.W.length+s.L/\isW s.L v=true/\v.length<=B+(s.most+1)*s.E.length/\∃m ws t,s.gs=some (m,ws)/\GuessOk s.L s.W s.E s.es m ws/\mkO s.es v=some t/\t≠lsay m ws v
def OkX.full {B:Nat}  (o:OkX none B s)(h:s.G=[]):Full s.L s.W s.E s.es:=fun c hc=>by
 rcases o.cov c hc with z|z|z
 ·exact z
 ·rw[h]at z;cases z
 ·cases z
def OkX.lens  {B:Nat}  (o:OkX x B s):(s.most+1)*s.E.length<=(s.most+1)*(s.most+s.L):=Nat.mul_le_mul_left _ o.tb.en
def OkX.cell {x:Option (List Int)}{B:Nat}{s:AS}{W:List (List Int)}{E:List (List Int)}(hW:∀v∈W,isW s.L v=true/\v.length<W.length)(hn:W.length<=s.most)(hE:∀e∈E,(isW s.L e=true/\e ≠ [])/\e.length+(s.most+1)<=B+(s.most+1)*E.length){c:List Int}(hc:c∈IE (B8 s.L W) E):(isW s.L c=true/\c ≠ [])/\c.length<=B+(s.most+1)*E.length:=by
 obtain⟨r,hr,e,he,rfl⟩:=B6.mp hc
 have h2:=hE e he
 have h1:isW s.L r=true/\r.length<=W.length:=by
  rcases AW.mp hr with h|⟨a,ha,y,hy,rfl⟩
  ·have:=hW r h;exact⟨this.1,by lia⟩
  ·have:=hW a ha
   exact⟨CH.mpr fun z hz=>by
    rcases List.mem_append.mp hz with hz|hz
    ·exact CH.mp this.1 z hz
    ·rw[List.mem_singleton.mp hz];lia,by rw[List.length_append,List.length_singleton];lia⟩
 refine⟨⟨CH.mpr fun z hz=>?_,fun z=>h2.1.2 (List.append_eq_nil_iff.mp z).2⟩,by rw[List.length_append];lia⟩
 rcases List.mem_append.mp hz with hz|hz
 ·exact CH.mp h1.1 z hz
 ·exact CH.mp h2.1.1 z hz
def Vw (R E:List (List Int)):(IE R E).Nodup:=GA List.nodup_nil
def Dw_ {B:Nat}{s:AS}{W E:List (List Int)}(hW:∀v∈W,isW s.L v=true/\v.length<W.length)(hn:W.length<=s.most)(hE:∀e∈E,(isW s.L e=true/\e ≠ [])/\e.length+(s.most+1)<=B+(s.most+1)*E.length):(∀c∈IE (B8 s.L W) E,(∃m,mkO s.es c=some m)\/c∈Lw s.L W E s.es\/(none:Option (List Int))=some c)/\(Lw s.L W E s.es).Nodup/\∀c∈Lw s.L W E s.es,(isW s.L c=true/\c ≠ [])/\mkO s.es c=none/\c.length<=B+(s.most+1)*E.length:=by
 refine⟨fun c hc=>?_,(Vw _ _).filter _,fun c hc=>?_⟩
 ·cases hm:mkO s.es c with
  |some m=>exact .inl ⟨m,rfl⟩
  |none=>exact .inr (.inl (List.mem_filter.mpr ⟨hc,by rw[hm];rfl⟩))
 ·obtain⟨h1,h2⟩:=List.mem_filter.mp hc
  have:=OkX.cell (x:=none) (s:=s) hW hn hE h1
  exact⟨this.1,by simpa using h2,this.2⟩
def YF {L most:Nat}{W E:List (List Int)}{es:Bk}(t:Tb L most W E es){m ws:List (List Int)}(g:GuessOk L W E es m ws){v:List Int}(hv:isW L v=true){mk:Int}:∀(f lo hi:Nat),hi-lo<=f+1->lo<hi->hi<=v.length-1->(∃b,mkO es (JE W ws v lo++v.drop lo)=some b/\b≠mk)->mkO es (JE W ws v hi++v.drop hi)=some mk->match KA es W ws v mk f lo hi with
   |.ask c=>mkO es c=none/\∃i,i<v.length-1/\c=JE W ws v i++v.drop i
   |.fin h=>0<h/\h<=v.length-1/\(∃b,mkO es (JE W ws v (h-1)++v.drop (h-1))=some b/\b≠mk)/\mkO es (JE W ws v h++v.drop h)=some mk
 |0,lo,hi,h1,h2,h3,h4,h5=>by
  have:lo=hi-1:=by lia
  subst this
  exact⟨by lia,h3,h4,h5⟩
 |f+1,lo,hi,h1,h2,h3,h4,h5=>by
  unfold KA
  by_cases hg:hi-lo > 1
  ·rw[if_pos hg]
   cases hm:mkO es (JE W ws v ((lo+hi) / 2)++v.drop ((lo+hi) / 2)) with
   |none=>exact⟨hm,(lo+hi) / 2,by lia,rfl⟩
   |some b=>
    dsimp only
    by_cases hb:b=mk
    ·rw[if_pos hb]
     subst hb
     exact YF t g hv f lo ((lo+hi) / 2) s!"" s!"" s!"" h4 hm
    ·rw[if_neg hb]
     exact YF t g hv f ((lo+hi) / 2) hi s!"" s!"" h3 ⟨b,hm,hb⟩ h5
  ·rw[if_neg hg]
   have:lo=hi-1:=by lia
   subst this
   exact⟨by lia,h3,h4,h5⟩
def P6    (t:Tb L most W E es)  (g:GuessOk L W E es m ws)  (hv:isW L v=true)(i:Nat):∃k:Nat,FO ws (v.take i)=(k:Int)/\W[k]?=some (JE W ws v i):=by
 obtain⟨k,u,h1,h2⟩:=g.room t hv i
 refine⟨k,h1,?_⟩
 unfold JE
 rw[h1,show ((k:Int)).toNat=k by lia,List.getD_eq_getElem?_getD,h2];rfl
open Classical in
noncomputable def mu (s:AS):Nat:=4*(s.most-s.W.length)+(if s.wr.isSome then 2 else if Pend s.L s.W s.E s.es then 1 else 3)
noncomputable def WOk (B:Nat)(s:AS):Wish->Prop
 |.ask c=>OkX (some c) B s/\mkO s.es c=none/\(isW s.L c=true/\c ≠ [])/\c.length<=B+(s.most+1)*s.E.length+(if s.wr.isSome then s.most else 0)/\c∉s.G
 |.shown m ws=>OkX none B s/\s.G=[]/\s.wr=none/\s.gs=some (m,ws)/\GuessOk s.L s.W s.E s.es m ws/\∀p∈s.es,lsay m ws p.1=p.2
 |.done m ws=>OkX none B s/\s.G=[]/\s.wr=none/\s.gs=some (m,ws)/\GuessOk s.L s.W s.E s.es m ws/\∀p∈s.es,lsay m ws p.1=p.2
 |.spent r=>OkX none B s/\s.G=[]/\s.wr=none/\s.W.length=s.most/\r∈B8 s.L s.W/\r∉s.W/\isW s.L r=true/\r.length<=s.W.length/\∀u∈s.W,TM s.E s.es r u
structure Kept (s s':AS):Prop where
 l:s'.L=s.L
 m:s'.most=s.most
 e:s'.es=s.es
def Vx {B:Nat}  (o:OkX none B s)    (g:GuessOk s.L s.W s.E s.es m ws)(hvW:isW s.L v=true)(ht:mkO s.es v=some t)(hne:t≠lsay m ws v):v ≠ []/\JE s.W ws v 0=[]/\mkO s.es (JE s.W ws v (v.length-1)++v.drop (v.length-1))=some (lsay m ws v)/\0<v.length-1:=by
 have tb:=o.tb
 have hw0:=tb.w0
 have hvn:v ≠ []:=o.ne (v,t) (YE ht)
 have hv0:0<v.length:=List.length_pos_iff.mpr hvn
 have a0:JE s.W ws v 0=[]:=by
  obtain⟨k,k1,k2⟩:=P6 tb g hvW 0
  have:(k:Int)=0:=by rw[<-k1];rfl
  have:k=0:=by lia
  subst this
  rw[hw0]at k2
  exact (Option.some.inj k2).symm
 have aL:mkO s.es (JE s.W ws v (v.length-1)++v.drop (v.length-1))=some (lsay m ws v):=by
  obtain⟨k,k1,k2⟩:=P6 tb g hvW (v.length-1)
  have hlt:v.length-1<v.length:=by lia
  have hx:=CH.mp hvW _ (List.getElem_mem hlt)
  obtain⟨x,hxe⟩:∃x:Nat,v[v.length-1]=(x:Int):=⟨(v[v.length-1]).toNat,by lia⟩
  obtain⟨row,y,y1,y2,y3⟩:=g.m k _ x k2 s!""
  have hd:v.drop (v.length-1)=[(x:Int)]:=by
   rw[List.drop_eq_getElem_cons hlt,hxe,show v.length-1+1=v.length by lia,List.drop_length]
  rw[hd,y3]
  have e:lsay m ws v=LL m (FO ws (v.take (v.length-1))) (v.getD (v.length-1) 0):=by
   unfold lsay sayW
   rw[List.getD_eq_getElem?_getD,List.getElem?_map,List.getElem?_range hlt];rfl
  rw[e,k1,List.getD_eq_getElem?_getD,List.getElem?_eq_getElem hlt]
  show some y=some (LL m (k:Int) v[v.length-1])
  rw[hxe,UP (by rw[show ((k:Int)).toNat=k by lia];exact y1) (by rw[show ((x:Int)).toNat=x by lia];exact y2)]
 have hv1:0<v.length-1:=by
  refine Nat.pos_of_ne_zero fun z=>?_
  rw[z,a0]at aL
  rw[List.drop_zero,List.nil_append,ht]at aL
  exact hne (Option.some.inj aL)
 exact⟨hvn,a0,aL,hv1⟩
def IZ_ {B:Nat}  (o:OkX none B s)   (hv:s.wr=some v)(hg:s.gs=some (m,ws)):(∀s',P5 s v m ws=(s',none)->OkX none B s'/\Kept s s'/\mu s'<mu s)/\∀s' x,P5 s v m ws=(s',some x)->WOk B s' x/\Kept s s':=by
 obtain⟨hG,hE,hvW,hvl,m',ws',t,e1,g,ht,hne⟩:=o.wr v hv
 rw[hg]at e1
 cases e1
 have tb:=o.tb
 have hw0:=tb.w0
 obtain⟨hvn,a0,aL,hv1⟩:=Vx o g hvW ht hne
 have hv0:0<v.length:=by lia
 have key:=YF tb g hvW (mk:=lsay m ws v) v.length 0 (v.length-1) s!"" hv1 s!"" ⟨t,by rw[a0];exact ht,hne⟩ aL
 unfold P5
 cases hh:KA s.es s.W ws v (lsay m ws v) v.length 0 (v.length-1) with
 |ask c=>
  rw[hh]at key
  obtain⟨k1,i,hi,rfl⟩:=key
  refine⟨fun s' z=>(by cases z),fun s' x z=>?_⟩
  cases z
  obtain⟨k,q1,q2⟩:=P6 tb g hvW i
  have q3:=tb.wW _ (List.mem_of_getElem? q2)
  have q4:=tb.wn
  refine⟨⟨⟨tb,fun c hc=>?_,o.gn,o.gW,o.le,o.lb,o.ne,o.wr⟩,k1,⟨CH.mpr fun y hy=>?_,fun z=>?_⟩,?_,by rw[hG];simp⟩,⟨rfl,rfl,rfl⟩⟩
  ·rcases o.cov c hc with z|z|z
   ·exact .inl z
   ·exact .inr (.inl z)
   ·cases z
  ·rcases List.mem_append.mp hy with hy|hy
   ·exact CH.mp q3.1 y hy
   ·exact CH.mp hvW y (List.mem_of_mem_drop hy)
  ·have:=congrArg List.length (List.append_eq_nil_iff.mp z).2
   rw[List.length_drop]at this
   simp at this
   lia
  ·rw[hv,List.length_append,List.length_drop]
   simp only[Option.isSome_some,if_true]
   lia
 |fin hi=>
  rw[hh]at key
  obtain⟨h0,h1,⟨b,b1,b2⟩,h3⟩:=key
  refine⟨fun s' z=>?_,fun s' x z=>(by cases z)⟩
  cases z
  obtain⟨k,q1,q2⟩:=P6 tb g hvW (hi-1)
  obtain⟨k',q1',q2'⟩:=P6 tb g hvW hi
  have e1:hi-1+1=hi:=by lia
  obtain⟨tb',pend⟩:=tb.halved hE g hvW (i:=hi-1) s!"" q1 q2 b1 b2 (by rw[e1];exact q1') q2' (by rw[e1];exact h3)
  rw[e1]at tb' pend
  have hle:∀e∈s.E++[v.drop hi],(isW s.L e=true/\e ≠ [])/\e.length+(s.most+1)<=B+(s.most+1)*(s.E++[v.drop hi]).length:=fun e he=>by
   rw[List.length_append,List.length_singleton,Nat.mul_succ]
   rcases List.mem_append.mp he with he|he
   ·have:=o.le e he;exact⟨tb.eW e he,by lia⟩
   ·rw[List.mem_singleton.mp he,List.length_drop]
    exact⟨⟨CH.mpr fun y hy=>CH.mp hvW y (List.mem_of_mem_drop hy),fun z=>by have:=congrArg List.length z;rw[List.length_drop]at this;simp at this;lia⟩,by lia⟩
  obtain⟨c1,c2,c3⟩:=Dw_ (B:=B) (s:=s) (W:=s.W) (E:=s.E++[v.drop hi]) tb.wW tb.wn hle
  refine⟨⟨tb',c1,c2,c3,fun e he=>(hle e he).2,fun p hp=>?_,o.ne,fun v' z=>(by cases z)⟩,⟨rfl,rfl,rfl⟩,?_⟩
  ·have:=o.lb p hp
   rw[hv]at this
   simp only[Option.isSome_some,if_true]at this
   show p.1.length<=B+(s.most+1)*(s.E++[v.drop hi]).length+0
   rw[List.length_append,List.length_singleton,Nat.mul_succ]
   lia
  ·unfold mu
   rw[hv]
   simp only[Option.isSome_some,if_true,Option.isSome_none,Bool.false_eq_true,if_false]
   rw[if_pos pend]
   lia
def HQ_ {B:Nat}  (o:OkX none B s)(hG:s.G=[])(hw:s.wr=none):(∀s',Jg s=(s',none)->OkX none B s'/\Kept s s'/\mu s'<mu s)/\∀s' x,Jg s=(s',some x)->WOk B s' x/\Kept s s':=by
 have tb:=o.tb
 have full:=o.full hG
 have hlb:∀p∈s.es,p.1.length<=B+(s.most+1)*s.E.length:=fun p hp=>by
  have:=o.lb p hp
  rw[hw]at this
  exact this
 unfold Jg
 cases hst:E5 s.L s.W s.E s.es with
 |some r=>
  obtain⟨⟨r1,r2,r3,r4⟩,more⟩:=tb.more full hst
  have rap:∀u∈s.W,TM s.E s.es r u:=fun u hu=>by
   have h2:=List.find?_some hst
   have h2:gOf s.E s.es r∉s.W.map (gOf s.E s.es):=of_decide_eq_true h2
   exact (MQ full r1 (AW.mpr (.inl hu))).mp fun z=>h2 (by rw[z];exact List.mem_map_of_mem hu)
  dsimp only
  by_cases hm:s.W.length=s.most
  ·rw[if_pos hm]
   refine⟨fun s' z=>(by cases z),fun s' x z=>?_⟩
   cases z
   exact⟨⟨o,hG,hw,hm,r1,r2,r3,r4,rap⟩,⟨rfl,rfl,rfl⟩⟩
  ·rw[if_neg hm]
   refine⟨fun s' z=>?_,fun s' x z=>(by cases z)⟩
   cases z
   have hlt:s.W.length<s.most:=by have:=tb.wn;lia
   have tb':=more hlt
   obtain⟨c1,c2,c3⟩:=Dw_ (B:=B) (s:=s) (W:=s.W++[r]) (E:=s.E) tb'.wW tb'.wn (fun e he=>⟨tb.eW e he,o.le e he⟩)
   refine⟨⟨tb',c1,c2,c3,o.le,o.lb,o.ne,fun v z=>?_⟩,⟨rfl,rfl,rfl⟩,?_⟩
   ·rw[show s.wr=some v from z]at hw;cases hw
   ·unfold mu
    show 4*(s.most-(s.W++[r]).length)+(if s.wr.isSome then 2 else _)<_
    rw[List.length_append,List.length_singleton,hw]
    simp only[Option.isSome_none,Bool.false_eq_true,if_false]
    split<;>split<;>lia
 |none=>
  obtain⟨np,cl⟩:=tb.none full hst
  have g:GuessOk s.L s.W s.E s.es (Cc s.L s.W s.E s.es) (EO s.L s.W s.E s.es):=tb.guess full cl
  have hEW:s.E.length+1<=s.W.length+s.L:=by
   rcases tb.jj with h|h
   ·exact h
   ·exact absurd h.2 np
  dsimp only
  cases hf:Ea s.es (Cc s.L s.W s.E s.es) (EO s.L s.W s.E s.es) with
  |none=>
   refine⟨fun s' z=>(by cases z),fun s' x z=>?_⟩
   cases z
   refine⟨⟨⟨tb,o.cov,o.gn,o.gW,o.le,fun p hp=>by have:=hlb p hp;exact this,o.ne,fun v z=>(by cases z)⟩,hG,rfl,rfl,g,fun p hp=>?_⟩,⟨rfl,rfl,rfl⟩⟩
   unfold Ea at hf
   rw[Option.map_eq_none_iff,List.find?_eq_none]at hf
   have:=hf p hp
   simpa using this
  |some v=>
   refine⟨fun s' z=>?_,fun s' x z=>(by cases z)⟩
   cases z
   unfold Ea at hf
   cases hfd:s.es.find? (fun e=>decide (lsay (Cc s.L s.W s.E s.es) (EO s.L s.W s.E s.es) e.1≠e.2)) with
   |none=>rw[hfd]at hf;cases hf
   |some e=>
    rw[hfd]at hf
    cases hf
    have h1:=List.mem_of_find?_eq_some hfd
    have h2:=List.find?_some hfd
    have h2:lsay (Cc s.L s.W s.E s.es) (EO s.L s.W s.E s.es) e.1≠e.2:=of_decide_eq_true h2
    refine⟨⟨tb,o.cov,o.gn,o.gW,o.le,fun p hp=>by have:=hlb p hp;show p.1.length<=B+(s.most+1)*s.E.length+s.most;lia,o.ne,fun v z=>?_⟩,⟨rfl,rfl,rfl⟩,?_⟩
    ·cases z
     exact⟨hG,hEW,(tb.bW e h1).1,hlb e h1,_,_,e.2,rfl,g,Lb tb.nd h1,Ne.symm h2⟩
    ·unfold mu
     rw[hw]
     simp only[Option.isSome_some,if_true,Option.isSome_none,Bool.false_eq_true,if_false]
     rw[if_neg np]
     lia
def OR {B:Nat}  (o:OkX none B s):(∀s',EW s=(s',none)->OkX none B s'/\Kept s s'/\mu s'<mu s)/\∀s' x,EW s=(s',some x)->WOk B s' x/\Kept s s':=by
 unfold EW
 cases hG:s.G with
 |cons c r=>
  refine⟨fun s' z=>(by cases z),fun s' x z=>?_⟩
  cases z
  have hwr:s.wr=none:=by
   cases h:s.wr with
   |none=>rfl
   |some v=>have:=(o.wr v h).1;rw[hG]at this;cases this
  have gn:=o.gn
  rw[hG,List.nodup_cons]at gn
  have hc:=o.gW c (by rw[hG];exact List.mem_cons_self ..)
  refine⟨⟨⟨o.tb,fun b hb=>?_,gn.2,fun b hb=>o.gW b (by rw[hG];exact List.mem_cons_of_mem _ hb),o.le,o.lb,o.ne,fun v z=>?_⟩,hc.2.1,hc.1,by have:=hc.2.2;show c.length<=B+(s.most+1)*s.E.length+(if s.wr.isSome=true then s.most else 0);lia,gn.1⟩,⟨rfl,rfl,rfl⟩⟩
  ·rcases o.cov b hb with z|z|z
   ·exact .inl z
   ·rw[hG]at z
    rcases List.mem_cons.mp z with rfl|z
    ·exact .inr (.inr rfl)
    ·exact .inr (.inl z)
   ·cases z
  ·rw[show s.wr=some v from z]at hwr;cases hwr
 |nil=>
  cases hw:s.wr with
  |none=>exact HQ_ o hG hw
  |some v=>
   obtain⟨_,_,_,_,m,ws,t,e1,_⟩:=o.wr v hw
   rw[e1]
   exact IZ_ o hw e1
noncomputable def afl (wv:V)(L most:Int)(b pw pe pg:Addr)(gv rv:V):List (Str×V):=[("wish",wv),("letters",.int L),("most",.int most),("book",.ref b),("ways",.ref pw),("ends",.ref pe),("gaps",.ref pg),("guess",gv),("wrong",rv)]
section
variable (wv:V) (L most:Int) (b pw pe pg:Addr) (gv rv y:V)
def OS:(afl wv L most b pw pe pg gv rv).lookup ("wish" : Str)=some wv:=by kernel_rfl
def IM:(afl wv L most b pw pe pg gv rv).lookup ("letters" : Str)=some (.int L):=by kernel_rfl
def Lu_:(afl wv L most b pw pe pg gv rv).lookup ("most" : Str)=some (.int most):=by kernel_rfl
def Le:(afl wv L most b pw pe pg gv rv).lookup ("book" : Str)=some (.ref b):=by kernel_rfl
def Lf:(afl wv L most b pw pe pg gv rv).lookup ("ways" : Str)=some (.ref pw):=by kernel_rfl
def Rw:(afl wv L most b pw pe pg gv rv).lookup ("ends" : Str)=some (.ref pe):=by kernel_rfl
def HR_:(afl wv L most b pw pe pg gv rv).lookup ("gaps" : Str)=some (.ref pg):=by kernel_rfl
def UW:(afl wv L most b pw pe pg gv rv).lookup ("guess" : Str)=some gv:=by kernel_rfl
def Og:(afl wv L most b pw pe pg gv rv).lookup ("wrong" : Str)=some rv:=by kernel_rfl
def EN_:putF "wish" y (afl wv L most b pw pe pg gv rv)=afl y L most b pw pe pg gv rv:=by kernel_rfl
def Ja_ (q:Addr):putF "gaps" (.ref q) (afl wv L most b pw pe pg gv rv)=afl wv L most b pw pe q gv rv:=by kernel_rfl
def HS_:putF "guess" y (afl wv L most b pw pe pg gv rv)=afl wv L most b pw pe pg y rv:=by kernel_rfl
def Vy:putF "wrong" y (afl wv L most b pw pe pg gv rv)=afl wv L most b pw pe pg gv y:=by kernel_rfl
def Jb_:putF "wrong" .non (putF "guess" .non (putF "gaps" (.ref pg) (putF "ends" (.ref pe) (putF "ways" (.ref pw) (putF "book" (.ref b) (putF "most" (.int most) (putF "letters" (.int L) (putF "wish" .non []))))))))=afl .non L most b pw pe pg .non .non:=by kernel_rfl
end
structure AD where
 dx:Addr
 b:Addr
 d:Addr
 pw:Addr
 pe:Addr
 pg:Addr
noncomputable def HouT (K:PySem.W.Frag)(H:Hp)(h:Addr)(L:Int)(m:List (List Int))(ws:List (List Int)):Prop:=∃tm tw us zs,H h=some (.tup [.int L,.ref tm,.ref tw])/\H tm=some (.tup us)/\Am K H us m/\H tw=some (.tup zs)/\Am K H zs ws
def HouT.mono {K:PySem.W.Frag}      (x:HouT K H h L m ws)(k:TK H H'):HouT K H' h L m ws:=by
 obtain⟨tm,tw,us,zs,a,b,c,d,e⟩:=x
 exact⟨tm,tw,us,zs,k _ _ a,k _ _ b,c.mono k,k _ _ d,e.mono k⟩
def Am.rows39 {K:PySem.W.Frag}     (h:Am K H zs ws)(hw:SqT K H t zs):Rows K H t ws:=by
 refine⟨zs.map (fun v=>match v with | .ref t=>t|_=>0),?_,by rw[List.length_map];exact h.1,fun i t r hi hr=>?_⟩
 ·have e:(zs.map (fun v=>match v with | .ref t=>t|_=>0)).map V.ref=zs:=by
   rw[List.map_map]
   refine List.ext_getElem? fun i=>?_
   rw[List.getElem?_map]
   by_cases hi:i<ws.length
   ·obtain⟨t,a,_⟩:=h.2 i ws[i] (by simp[hi])
    rw[a];rfl
   ·rw[List.getElem?_eq_none (by rw[h.1];lia)];rfl
  rw[e];exact hw
 ·obtain⟨t',a,b⟩:=h.2 i r hr
  rw[List.getElem?_map,a]at hi
  cases hi
  exact SqT.of b
def HouT.house {K:PySem.W.Frag}      (x:HouT K H h L m ws):TJ K H h L m ws:=by
 obtain⟨tm,tw,us,zs,a,b,c,d,e⟩:=x
 exact⟨tm,tw,SqT.of a,Am.rows39 c (SqT.of b),Am.rows39 e (SqT.of d)⟩
noncomputable def GV (K:PySem.W.Frag)(H:Hp)(L:Int)(gv:V):Option (List (List Int)×List (List Int))->Prop
 |none=>gv=.non
 |some (m,ws)=>∃h,gv=.ref h/\HouT K H h L m ws
noncomputable def RV (H:Hp)(rv:V):Option (List Int)->Prop
 |none=>rv=.non
 |some v=>∃t,rv=.ref t/\H t=some (.tup (v.map V.int))
def GV.mono {K:PySem.W.Frag}     (x:GV K H L gv o)(k:TK H H'):GV K H' L gv o:=by
 match o,x with
 |none,x=>exact x
 |some (m,ws),⟨h,a,b⟩=>exact⟨h,a,b.mono k⟩
def RV.mono    (x:RV H rv o)(k:TK H H'):RV H' rv o:=by
 match o,x with
 |none,x=>exact x
 |some v,⟨t,a,b⟩=>exact⟨t,a,k _ _ b⟩
noncomputable def Wish.tag:Wish->Str
 |.ask _ => "ask"
 |.shown _ _ => "show"
 |.done _ _ => "done"
 |.spent _ => "spent"
noncomputable def NA_ (K:PySem.W.Frag)(H:Hp)(L:Int)(u:Addr):Wish->Prop
 |.ask c=>H u=some (.tup (c.map V.int))
 |.shown m ws=>HouT K H u L m ws
 |.done m ws=>HouT K H u L m ws
 |.spent c=>H u=some (.tup (c.map V.int))
noncomputable def CM (K:PySem.W.Frag)(H:Hp)(L:Int)(wv:V)(x:Wish):Prop:=∃t u,wv=.ref t/\H t=some (.tup [.str x.tag,.ref u])/\NA_ K H L u x
def CM.mono {K:PySem.W.Frag}   {wv:V}  (h:CM K H L wv x)(k:TK H H'):CM K H' L wv x:=by
 obtain⟨t,u,a,b,c⟩:=h
 refine⟨t,u,a,k _ _ b,?_⟩
 cases x with
 |ask c'=>exact k _ _ c
 |spent c'=>exact k _ _ c
 |shown m ws=>exact HouT.mono c k
 |done m ws=>exact HouT.mono c k
structure AskAt (K:PySem.W.Frag)(CA CB:Addr)(H:Hp)(a:Addr)(ad:AD)(s:AS)(wv gv rv:V)(zs ys us:List V):Prop where
 ob:H a=some (.ins CA ad.dx (afl wv s.L s.most ad.b ad.pw ad.pe ad.pg gv rv))
 bk:BookAt CB H ad.b ad.d s.L s.es
 w:H ad.pw=some (.lst zs)
 wW:Am K H zs s.W
 e:H ad.pe=some (.lst ys)
 eW:Am K H ys s.E
 g:H ad.pg=some (.lst us)
 gW:Am K H us s.G
 we:ad.pw≠ad.pe
 wg:ad.pw≠ad.pg
 eg:ad.pe≠ad.pg
 gv:GV K H s.L gv s.gs
 rv:RV H rv s.wr
noncomputable def Asks (K:PySem.W.Frag)(CA CB:Addr)(H:Hp)(a:Addr)(ad:AD)(s:AS)(wv:V):Prop:=∃gv rv zs ys us,AskAt K CA CB H a ad s wv gv rv zs ys us
def BookAt.tk      (h:BookAt C H p d L es)(hp:∀o,H p=some o->H' p=some o)(hd:∀o,H d=some o->H' d=some o):BookAt C H' p d L es:=by
 obtain⟨⟨dx,a⟩,b,c⟩:=h
 exact⟨⟨dx,hp _ a⟩,hd _ b,c⟩
noncomputable def Frm (H H':Hp)(a:Addr)(ad:AD):Prop:=(∀x o,H x=some o->x≠a->x≠ad.d->x≠ad.pw->x≠ad.pe->x≠ad.pg->H' x=some o)/\∀x,H' x=none->H x=none
noncomputable def AdOk (H:Hp)(ad ad':AD):Prop:=ad'.dx=ad.dx/\ad'.b=ad.b/\ad'.d=ad.d/\ad'.pw=ad.pw/\ad'.pe=ad.pe/\(ad'.pg=ad.pg\/H ad'.pg=none)
def AdOk.refl (H:Hp)(ad:AD):AdOk H ad ad:=⟨rfl,rfl,rfl,rfl,rfl,.inl rfl⟩
def Frm.of  (s:Same H H')(a:Addr)(ad:AD):Frm H H' a ad:=⟨fun x o h _ _ _ _ _=>s _ _ h,fun x h=>s.none h⟩
def Frm.trans {H H1 H2:Hp}  {ad ad1:AD}(f:Frm H H1 a ad)(k:AdOk H ad ad1)(g:Frm H1 H2 a ad1):Frm H H2 a ad:=by
 obtain⟨k1,k2,k3,k4,k5,k6⟩:=k
 refine⟨fun x o h n1 n2 n3 n4 n5=>g.1 x o (f.1 x o h n1 n2 n3 n4 n5) n1 (by rw[k3];exact n2) (by rw[k4];exact n3) (by rw[k5];exact n4) (fun z=>?_),fun x h=>f.2 x (g.2 x h)⟩
 rcases k6 with k6|k6
 ·exact n5 (z.trans k6)
 ·rw[z,k6]at h;cases h
def AdOk.trans {H H1:Hp}  {ad ad1 ad2:AD}(f:Frm H H1 a ad)(k:AdOk H ad ad1)(g:AdOk H1 ad1 ad2):AdOk H ad ad2:=by
 obtain⟨k1,k2,k3,k4,k5,k6⟩:=k
 obtain⟨g1,g2,g3,g4,g5,g6⟩:=g
 refine⟨g1.trans k1,g2.trans k2,g3.trans k3,g4.trans k4,g5.trans k5,?_⟩
 rcases g6 with g6|g6
 ·rw[g6];exact k6
 ·exact .inr (f.2 _ g6)
section
variable {K:PySem.W.Frag} {CA CB:Addr} {H H':Hp} {a:Addr} {ad:AD} {s:AS} {wv gv rv:V} {zs ys us:List V}
def AskAt.same (x:AskAt K CA CB H a ad s wv gv rv zs ys us)(k:Same H H'):AskAt K CA CB H' a ad s wv gv rv zs ys us:=
 ⟨k _ _ x.ob,x.bk.mono k,k _ _ x.w,x.wW.mono (TK.of k),k _ _ x.e,x.eW.mono (TK.of k),k _ _ x.g,x.gW.mono (TK.of k),x.we,x.wg,x.eg,x.gv.mono (TK.of k),x.rv.mono (TK.of k)⟩
def AskAt.tkob (x:AskAt K CA CB H a ad s wv gv rv zs ys us)(o:HO):TK H (upd H a o):=fun t ts h=>by rw[Ag (fun z=>by rw[z,x.ob]at h;cases h)];exact h
def AskAt.na (x:AskAt K CA CB H a ad s wv gv rv zs ys us):ad.pw≠a/\ad.pe≠a/\ad.pg≠a/\ad.d≠a/\ad.b≠ad.d/\ad.pw≠ad.d/\ad.pe≠ad.d/\ad.pg≠ad.d/\ad.b≠ad.pw/\ad.b≠ad.pe/\ad.b≠ad.pg:=by
 obtain⟨dx,hb⟩:=x.bk.ob
 refine⟨fun z=>?_,fun z=>?_,fun z=>?_,fun z=>?_,fun z=>?_,fun z=>?_,fun z=>?_,fun z=>?_,fun z=>?_,fun z=>?_,fun z=>?_⟩
 ·have:=x.w;rw[z,x.ob]at this;cases this
 ·have:=x.e;rw[z,x.ob]at this;cases this
 ·have:=x.g;rw[z,x.ob]at this;cases this
 ·have:=x.bk.dc;rw[z,x.ob]at this;cases this
 ·rw[z,x.bk.dc]at hb;cases hb
 ·have:=x.w;rw[z,x.bk.dc]at this;cases this
 ·have:=x.e;rw[z,x.bk.dc]at this;cases this
 ·have:=x.g;rw[z,x.bk.dc]at this;cases this
 ·rw[z,x.w]at hb;cases hb
 ·rw[z,x.e]at hb;cases hb
 ·rw[z,x.g]at hb;cases hb
def AskAt.nb (x:AskAt K CA CB H a ad s wv gv rv zs ys us):ad.b≠a:=fun z=>by
 obtain⟨dx,hb⟩:=x.bk.ob
 rw[z,x.ob]at hb
 injection hb with hb
 injection hb with _ _ hb
 have h1:=congrArg (fun l=>List.lookup ("wish" : Str) l) hb
 rw[OS,HK _ _ (by decide +kernel) (by decide +kernel)]at h1
 cases h1
def AskAt.put (x:AskAt K CA CB H a ad s wv gv rv zs ys us)   (hL:s'.L=s.L)(hm:s'.most=s.most)(hW:s'.W=s.W)(hE:s'.E=s.E)(hG:s'.G=s.G)(hes:s'.es=s.es)(g':GV K H s'.L gv' s'.gs)(r':RV H rv' s'.wr):AskAt K CA CB (upd H a (.ins CA ad.dx (afl wv' s.L s.most ad.b ad.pw ad.pe ad.pg gv' rv'))) a ad s' wv' gv' rv' zs ys us:=by
 obtain⟨n1,n2,n3,n4,n5,n6,n7,n8,n9,n10,n11⟩:=x.na
 have tk:=x.tkob (.ins CA ad.dx (afl wv' s.L s.most ad.b ad.pw ad.pe ad.pg gv' rv'))
 exact⟨by rw[Ab,hL,hm],by rw[hL,hes];exact BookAt.tk x.bk (fun o h=>by rw[Ag x.nb];exact h) (fun o h=>by rw[Ag n4];exact h),by rw[Ag n1];exact x.w,by rw[hW];exact x.wW.mono tk,by rw[Ag n2];exact x.e,by rw[hE];exact x.eW.mono tk,by rw[Ag n3];exact x.g,by rw[hG];exact x.gW.mono tk,x.we,x.wg,x.eg,g'.mono tk,r'.mono tk⟩
def AskAt.putF (x:AskAt K CA CB H a ad s wv gv rv zs ys us)(o:HO):Frm H (upd H a o) a ad:=⟨fun y o' h n _ _ _ _=>by rw[Ag n];exact h,fun y h=>by
 by_cases z:y=a
 ·rw[z,Ab]at h;cases h
 ·rwa [Ag z]at h⟩
end
inductive Goes:AS->AS->Wish->Prop where
 | stop {s s':AS} {x:Wish}:EW s=(s',some x)->Goes s s' x
 | more {s s1 s':AS} {x:Wish}:EW s=(s1,none)->Goes s1 s' x->Goes s s' x
def Goes.ok {B:Nat}   (g:Goes s s' x)(o:OkX none B s):WOk B s' x/\Kept s s':=by
 induction g with
 |stop h=>exact (OR o).2 _ _ h
 |more h _ ih=>
  obtain⟨o1,k1,_⟩:=(OR o).1 _ h
  obtain⟨o2,k2⟩:=ih o1
  exact⟨o2,⟨k2.l.trans k1.l,k2.m.trans k1.m,k2.e.trans k1.e⟩⟩
structure Sz (s:AS):Prop where
 l6:s.L<=6
 w:s.W.length<=13/\∀v∈s.W,v.length<=50
 e:s.E.length<=20/\∀v∈s.E,v.length<=500
 b:∀p∈s.es,p.1.length<=600
def XT (ys:List Int)(m:Nat):cutV (ys.map V.int) (some (m:Int)) none=(ys.drop m).map V.int:=by
 rw[EB_]
 unfold cutI
 rw[HT.sIx_nat,HT.sIx_none]
 congr 1
 by_cases h:m<=ys.length
 ·rw[Nat.min_eq_left h,List.take_of_length_le (by rw[List.length_drop];lia)]
 ·rw[Nat.min_eq_right s!"",List.drop_length,List.drop_of_length_le s!"",List.take_nil]
def HT_ (ws:List (List Int))(v:List Int)  (hi:i<=v.length):((U9 ws v).map V.int)[i]?=some (V.int (FO ws (v.take i))):=by
 unfold U9
 rw[List.getElem?_map,List.getElem?_map,List.getElem?_range s!""];rfl
def Frm.seq {H H1 H2:Hp}  {ad:AD}(f:Frm H H1 a ad)(g:Frm H1 H2 a ad):Frm H H2 a ad:=f.trans (AdOk.refl H ad) g
noncomputable def Bd (B:Nat)(s:AS):Prop:=B+(s.most+1)*(s.most+s.L)+s.most<=500
def OkX.sz  {B:Nat}  (o:OkX y B s)(h:Bd B s):Sz s:=by
 have tb:=o.tb
 have h1:=tb.wn
 have h2:=tb.m12
 have h3:=tb.en
 have h4:=o.lens
 have h5:=tb.l6
 unfold Bd at h
 refine⟨tb.l6,⟨by lia,fun v hv=>by have:=(tb.wW v hv).2;lia⟩,⟨by lia,fun v hv=>by have:=o.le v hv;lia⟩,fun p hp=>?_⟩
 have:=o.lb p hp
 split at this<;>lia
def Rx (wv:V)(L most:Int)(b pw pe pg:Addr)(gv rv:V):(afl wv L most b pw pe pg gv rv).length<1000:=by unfold afl;simp
section
variable {K:PySem.W.Frag} {CA CB:Addr} {H H':Hp} {a:Addr} {ad:AD} {s:AS} {wv gv rv:V} {zs ys us:List V}
def AskAt.putW (x:AskAt K CA CB H a ad s wv gv rv zs ys us)   (h:Am K H zs' W'):AskAt K CA CB (upd H ad.pw (.lst zs')) a ad {s with W:=W' } wv gv rv zs' ys us:=by
 obtain⟨n1,n2,n3,n4,n5,n6,n7,n8,n9,n10,n11⟩:=x.na
 have tk:=TK.lst x.w (o:=.lst zs')
 exact⟨by rw[Ag (Ne.symm n1)];exact x.ob,BookAt.tk x.bk (fun o h=>by rw[Ag n9];exact h) (fun o h=>by rw[Ag (Ne.symm n6)];exact h),Ab,h.mono tk,by rw[Ag (Ne.symm x.we)];exact x.e,x.eW.mono tk,by rw[Ag (Ne.symm x.wg)];exact x.g,x.gW.mono tk,x.we,x.wg,x.eg,x.gv.mono tk,x.rv.mono tk⟩
def AskAt.putE (x:AskAt K CA CB H a ad s wv gv rv zs ys us)   (h:Am K H ys' E'):AskAt K CA CB (upd H ad.pe (.lst ys')) a ad {s with E:=E' } wv gv rv zs ys' us:=by
 obtain⟨n1,n2,n3,n4,n5,n6,n7,n8,n9,n10,n11⟩:=x.na
 have tk:=TK.lst x.e (o:=.lst ys')
 exact⟨by rw[Ag (Ne.symm n2)];exact x.ob,BookAt.tk x.bk (fun o h=>by rw[Ag n10];exact h) (fun o h=>by rw[Ag (Ne.symm n7)];exact h),by rw[Ag x.we];exact x.w,x.wW.mono tk,Ab,h.mono tk,by rw[Ag (Ne.symm x.eg)];exact x.g,x.gW.mono tk,x.we,x.wg,x.eg,x.gv.mono tk,x.rv.mono tk⟩
def AskAt.putG (x:AskAt K CA CB H a ad s wv gv rv zs ys us)   (h:Am K H us' G'):AskAt K CA CB (upd H ad.pg (.lst us')) a ad {s with G:=G' } wv gv rv zs ys us':=by
 obtain⟨n1,n2,n3,n4,n5,n6,n7,n8,n9,n10,n11⟩:=x.na
 have tk:=TK.lst x.g (o:=.lst us')
 exact⟨by rw[Ag (Ne.symm n3)];exact x.ob,BookAt.tk x.bk (fun o h=>by rw[Ag n11];exact h) (fun o h=>by rw[Ag (Ne.symm n8)];exact h),by rw[Ag x.wg];exact x.w,x.wW.mono tk,by rw[Ag x.eg];exact x.e,x.eW.mono tk,Ab,h.mono tk,x.we,x.wg,x.eg,x.gv.mono tk,x.rv.mono tk⟩
def Frm.put   (h:q=ad.pw\/q=ad.pe\/q=ad.pg\/q=ad.d)(hq:∃o,H q=some o):Frm H (upd H q o) a ad:=by
 refine⟨fun y o' hy n1 n2 n3 n4 n5=>?_,fun y hy=>?_⟩
 ·rw[Ag (fun z=>by rcases h with h|h|h|h<;>subst h<;>contradiction)];exact hy
 ·by_cases z:y=q
  ·rw[z,Ab]at hy;cases hy
  ·rwa [Ag z]at hy
end
def Nf_ {i n:Nat}(h:i<n):seqIndex? (i:Int) n=some i:=by
 unfold seqIndex?
 simp[show ¬ (i:Int)<0 by lia,h]
def Am.tail39 {K:PySem.W.Frag}     (h:Am K H us (c::r)):Am K H (us.eraseIdx 0) r:=by
 cases us with
 |nil=>have:=h.1;cases this
 |cons u us=>
  refine⟨?_,fun i w hi=>?_⟩
  ·have:=h.1
   simpa using this
  ·exact h.2 (i+1) w (by simpa using hi)
def FK_    (h:mkO es b=none)(hb:b≠c):mkO (es++[(c,m)]) b=none:=by
 refine UU fun z=>?_
 rw[List.map_append]at z
 rcases List.mem_append.mp z with z|z
 ·obtain⟨n,hn⟩:=Vv.mp z
  rw[h]at hn;cases hn
 ·exact hb (List.mem_singleton.mp z)
def OkX.told  {B:Nat}  (o:OkX y B s)   (hy:∀b,y=some b->b=c)(hn:c∉s.es.map (·.1))(hc:isW s.L c=true/\c ≠ [])(h0:0<=m)(h9:m<=1000000000)(hl:c.length<=B+(s.most+1)*s.E.length+(if s.wr.isSome then s.most else 0))(hg:c∉s.G):OkX none B {s with es:=s.es++[(c,m)]}:=by
 have gr:=Grow.snoc s.es c m
 refine⟨o.tb.put hn hc.1 h0 h9,fun b hb=>?_,o.gn,fun b hb=>?_,o.le,fun p hp=>?_,fun p hp=>?_,fun v hv=>?_⟩
 ·rcases o.cov b hb with ⟨z,hz⟩|z|z
  ·exact .inl ⟨z,gr _ _ hz⟩
  ·exact .inr (.inl z)
  ·have:=hy b z
   subst this
   exact .inl ⟨m,Lb (o.tb.put hn hc.1 h0 h9).nd (by simp)⟩
 ·obtain⟨h1,h2,h3⟩:=o.gW b hb
  exact⟨h1,FK_ h2 (fun z=>hg (z ▸ hb)),h3⟩
 ·rcases List.mem_append.mp hp with hp|hp
  ·exact o.lb p hp
  ·rw[List.mem_singleton.mp hp];exact hl
 ·rcases List.mem_append.mp hp with hp|hp
  ·exact o.ne p hp
  ·rw[List.mem_singleton.mp hp];exact hc.2
 ·obtain⟨h1,h2,h3,h4,mm,ws,t,h5,h6,h7,h8⟩:=o.wr v hv
  exact⟨h1,h2,h3,h4,mm,ws,t,h5,h6.mono gr,gr _ _ h7,h8⟩
section
variable {K:PySem.W.Frag} {CA CB:Addr} {H H':Hp} {a:Addr} {ad:AD} {s:AS} {wv gv rv:V} {zs ys us:List V}
def AskAt.putB (x:AskAt K CA CB H a ad s wv gv rv zs ys us)  (hb:BookAt CB H' ad.b ad.d s.L es')(hf:∀b o,H b=some o->b≠ad.d->H' b=some o):AskAt K CA CB H' a ad {s with es:=es' } wv gv rv zs ys us/\Frm H H' a ad/\TK H H':=by
 obtain⟨n1,n2,n3,n4,n5,n6,n7,n8,n9,n10,n11⟩:=x.na
 have tk:TK H H':=fun t ts h=>hf t _ h (fun z=>by rw[z,x.bk.dc]at h;cases h)
 refine⟨⟨hf _ _ x.ob (Ne.symm n4),hb,hf _ _ x.w n6,x.wW.mono tk,hf _ _ x.e n7,x.eW.mono tk,hf _ _ x.g n8,x.gW.mono tk,x.we,x.wg,x.eg,x.gv.mono tk,x.rv.mono tk⟩,⟨fun y o h _ n _ _ _=>hf _ _ h n,fun y h=>?_⟩,tk⟩
 cases hy:H y with
 |none=>rfl
 |some o=>
  by_cases z:y=ad.d
  ·rw[z,hb.dc]at h;cases h
  ·rw[hf _ _ hy z]at h;cases h
end
noncomputable def fE57 (L:Nat):List (List Int):=(List.range L).map fun x:Nat=>[(x:Int)]
noncomputable def s039 (L most:Nat):AS:={L:=L,most:=most,W:=[[]],E:=fE57 L,G:=Lw L [[]] (fE57 L) [],gs:=none,wr:=none,es:=[]}
def HU_  (B:Nat)(b1:1<=B)(l1:1<=L)(l6:L<=6)(m1:1<=most)(m12:most<=12):OkX none B (s039 L most):=by
 have hw:∀v ∈ [([]:List Int)],isW (L:Int) v=true/\v.length < [([]:List Int)].length:=fun v hv=>by
  rw[List.mem_singleton.mp hv];exact⟨CH.mpr fun x hx=>(by cases hx),by simp⟩
 have hEl:(fE57 L).length=L:=by unfold fE57;rw[List.length_map,List.length_range]
 have hE:∀e∈fE57 L,(isW (L:Int) e=true/\e ≠ [])/\e.length+(most+1)<=B+(most+1)*(fE57 L).length:=fun v hv=>by
  obtain⟨x,hx,rfl⟩:=List.mem_map.mp hv
  have hx:=List.mem_range.mp hx
  have hm:(most+1)*1<=(most+1)*(fE57 L).length:=Nat.mul_le_mul_left _ s!""
  refine⟨⟨CH.mpr fun y hy=>?_,by simp⟩,?_⟩
  ·rw[List.mem_singleton.mp hy];lia
  ·rw[List.length_singleton];lia
 obtain⟨c1,c2,c3⟩:=Dw_ (B:=B) (s:=s039 L most) (W:=[[]]) (E:=fE57 L) hw (by show 1<=most;lia) hE
 refine⟨⟨l1,l6,m12,rfl,hw,by show 1<=most;lia,List.take_of_length_le (by show (fE57 L).length<=L;lia),fun e he=>(hE e he).1,List.nodup_nil,fun p hp=>(by cases hp),fun i j v u h1 h2 h3=>?_,.inl (by show (fE57 L).length+1<=1+L;lia)⟩,c1,c2,c3,fun e he=>(hE e he).2,fun p hp=>(by cases hp),fun p hp=>(by cases hp),fun v hv=>(by cases hv)⟩
 have h1:=(List.getElem?_eq_some_iff.mp h1).1
 have h2:=(List.getElem?_eq_some_iff.mp h2).1
 have h1:i<1:=h1
 have h2:j<1:=h2
 lia
def OU {l k:List (List Int)}(h:l.Nodup)(hs:∀x∈l,x∈k):l.length<=k.length:=by
 induction l generalizing k with
 |nil=>simp
 |cons a l ih=>
  rw[List.nodup_cons]at h
  have ha:=hs a List.mem_cons_self
  have h1:∀x∈l,x∈k.erase a:=fun x hx=>by
   refine (List.mem_erase_of_ne ?_).mpr (hs x (List.mem_cons_of_mem _ hx))
   intro z;subst z;exact h.1 hx
  have:=ih h.2 h1
  rw[List.length_erase_of_mem ha]at this
  have hp:=List.length_pos_of_mem ha
  rw[List.length_cons];lia
noncomputable def bq:Nat->Nat->Nat
 |0,_=>0
 |f+1,n=>if n<=1 then 0 else bq f ((n+1) / 2)+1
def Lv_:∀f n,bq f n<=f
 |0,_=>Nat.le_refl _
 |f+1,n=>by
  unfold bq
  have:=Lv_ f ((n+1) / 2)
  split<;>lia
def YG:∀(f:Nat) {k n:Nat},k<=n->bq f k<=bq f n
 |0,_,_,_=>Nat.le_refl _
 |f+1,k,n,h=>by
  unfold bq
  have:=YG f (show (k+1) / 2<=(n+1) / 2 by lia)
  split<;>split<;>lia
def Ry (f n:Nat):bq (f+1) n=if n<=1 then 0 else bq f ((n+1) / 2)+1:=rfl
def HV_:∀(f:Nat) {n:Nat},n<=2 ^ f->bq (f+1) n=bq f n
 |0,n,h=>by
  have h:n<=1:=h
  rw[Ry,if_pos h]
  rfl
 |f+1,n,h=>by
  rw[Nat.pow_succ]at h
  by_cases h1:n<=1
  ·rw[Ry (f+1),if_pos h1,Ry f,if_pos h1]
  ·rw[Ry (f+1),if_neg h1,HV_ f s!"",Ry f n,if_neg h1]
def HW_  (h1:1<n)(h2:n<=1024)(hk:k<=(n+1) / 2):bq 10 k+1<=bq 10 n:=by
 have a:=YG 10 hk
 have b:bq 10 ((n+1) / 2)=bq 9 ((n+1) / 2):=HV_ 9 (show (n+1) / 2<=512 by lia)
 have c:bq 10 n=bq 9 ((n+1) / 2)+1:=by rw[Ry,if_neg s!""]
 lia
noncomputable def Vz (es:Bk)(W ws:List (List Int))(v:List Int)(mk:Int):Nat->Nat->Nat->Nat
 |0,_,_=>0
 |f+1,lo,hi=>if hi-lo > 1 then (match mkO es (JE W ws v ((lo+hi) / 2)++v.drop ((lo+hi) / 2)) with
   |none=>bq 10 (hi-lo)
   |some t=>if t=mk then Vz es W ws v mk f lo ((lo+hi) / 2) else Vz es W ws v mk f ((lo+hi) / 2) hi) else 0
def Oh (es:Bk)(W ws:List (List Int))(v:List Int)(mk:Int):∀f lo hi,Vz es W ws v mk f lo hi<=bq 10 (hi-lo)
 |0,lo,hi=>Nat.zero_le _
 |f+1,lo,hi=>by
  unfold Vz
  by_cases hg:hi-lo > 1
  ·rw[if_pos hg]
   cases hm:mkO es (JE W ws v ((lo+hi) / 2)++v.drop ((lo+hi) / 2)) with
   |none=>exact Nat.le_refl _
   |some t=>
    dsimp only
    split
    ·exact Nat.le_trans (Oh es W ws v mk f _ _) (YG 10 s!"")
    ·exact Nat.le_trans (Oh es W ws v mk f _ _) (YG 10 s!"")
  ·rw[if_neg hg];exact Nat.zero_le _
def Rz {es:Bk}{W ws:List (List Int)}{v:List Int}{mk:Int}{c:List Int}{m:Int}(nd:((es++[(c,m)]).map (·.1)).Nodup):∀f lo hi,hi-lo<=1024->KA es W ws v mk f lo hi=.ask c->Vz (es++[(c,m)]) W ws v mk f lo hi+1<=Vz es W ws v mk f lo hi
 |0,lo,hi,_,h=>by cases h
 |f+1,lo,hi,hz,h=>by
  unfold KA at h
  unfold Vz
  by_cases hg:hi-lo > 1
  ·rw[if_pos hg]at h ⊢
   rw[if_pos hg]
   cases hm:mkO es (JE W ws v ((lo+hi) / 2)++v.drop ((lo+hi) / 2)) with
   |none=>
    rw[hm]at h
    have e:JE W ws v ((lo+hi) / 2)++v.drop ((lo+hi) / 2)=c:=by injection h
    rw[e,Lb nd (show (c,m)∈es++[(c,m)] by simp)]
    dsimp only
    split
    ·have h1:=Oh (es++[(c,m)]) W ws v mk f lo ((lo+hi) / 2)
     have h2:=HW_ (n:=hi-lo) (k:=(lo+hi) / 2-lo) hg hz s!""
     lia
    ·have h1:=Oh (es++[(c,m)]) W ws v mk f ((lo+hi) / 2) hi
     have h2:=HW_ (n:=hi-lo) (k:=hi-(lo+hi) / 2) hg hz s!""
     lia
   |some t=>
    rw[hm]at h
    dsimp only at h
    rw[Grow.snoc es c m _ _ hm]
    dsimp only
    by_cases ht:t=mk
    ·rw[if_pos ht]at h ⊢
     rw[if_pos ht]
     exact Rz nd f _ _ s!"" h
    ·rw[if_neg ht]at h ⊢
     rw[if_neg ht]
     exact Rz nd f _ _ s!"" h
  ·rw[if_neg hg]at h;cases h
noncomputable def Ir (s:AS):List (List Int):=IE (B8 s.L s.W) s.E
noncomputable def nonA (A:List (List Int))(s:AS):Nat:=A.countP fun c=>decide (c∉Ir s)
structure J59 (A W0 E0:List (List Int))(st:Prop)(s:AS):Prop where
 gc:∀c∈s.G,c∈Ir s
 n0:s.wr=none->nonA A s+10*s.L<=10*s.E.length
 n1:∀v m ws,s.wr=some v->s.gs=some (m,ws)->nonA A s+10*s.L+Vz s.es s.W ws v (lsay m ws v) v.length 0 (v.length-1)<=10*s.E.length+10
 ac:∀(k:Nat) (v:List Int),s.W[k]?=some v->0<k->∃(j:Nat) (u:List Int) (x:Nat),j<k/\s.W[j]?=some u/\x<s.L/\v=u++[(x:Int)]
 en:s.E.Nodup
 gw:W0 <+: s.W
 ge:E0 <+: s.E
 gs:st->W0.length<s.W.length\/s.wr.isSome=true\/Pend s.L s.W s.E s.es
noncomputable def JX59 (s:AS):Wish->Prop
 |.ask c=>(s.wr=none->c∈Ir s)/\∀v m ws,s.wr=some v->s.gs=some (m,ws)->KA s.es s.W ws v (lsay m ws v) v.length 0 (v.length-1)=.ask c
 |.shown m ws=>E5 s.L s.W s.E s.es=none/\m=Cc s.L s.W s.E s.es/\ws=EO s.L s.W s.E s.es
 |.done _ _=>E5 s.L s.W s.E s.es=none
 |.spent _=>True
def Bs_   (hc:∀c∈Ir s,c∈Ir s'):nonA A s'<=nonA A s:=by
 unfold nonA
 refine List.countP_mono_left fun p _ h=>?_
 simp only[decide_eq_true_eq]at h ⊢
 exact fun z=>h (hc _ z)
def RA     (h:c∈Lw L W E es):c∈IE (B8 L W) E:=(List.mem_filter.mp h).1
def Dx_     (h:v∈B8 L W):v∈B8 L (W++[r]):=by
 rcases AW.mp h with h|⟨a,ha,y,hy,e⟩
 ·exact AW.mpr (.inl (List.mem_append_left _ h))
 ·exact AW.mpr (.inr ⟨a,List.mem_append_left _ ha,y,hy,e⟩)
def Jc_ {B:Nat}{A W0 E0:List (List Int)}{st:Prop}  (o:OkX none B s)(j:J59 A W0 E0 st s)(hG:s.G=[])(hw:s.wr=none):(∀s',Jg s=(s',none)->J59 A W0 E0 st s')/\∀s' x,Jg s=(s',some x)->J59 A W0 E0 st s'/\JX59 s' x:=by
 have tb:=o.tb
 have full:=o.full hG
 unfold Jg
 cases hst:E5 s.L s.W s.E s.es with
 |some r=>
  obtain⟨⟨r1,r2,r3,r4⟩,_⟩:=tb.more full hst
  dsimp only
  by_cases hm:s.W.length=s.most
  ·rw[if_pos hm]
   exact⟨fun s' z=>(by cases z),fun s' x z=>(by cases z;exact⟨j,trivial⟩)⟩
  ·rw[if_neg hm]
   refine⟨fun s' z=>?_,fun s' x z=>(by cases z)⟩
   cases z
   refine⟨fun c hc=>RA hc,fun _=>?_,fun v m ws hv=>?_,fun k v hk k0=>?_,j.en,j.gw.trans (List.prefix_append _ _),j.ge,fun _=>.inl ?_⟩
   ·have h1:=Bs_ (A:=A) (s:=s) (s':={s with W:=s.W++[r],G:=Lw s.L (s.W++[r]) s.E s.es}) (fun c hc=>by
     obtain⟨q,hq,e,he,rfl⟩:=B6.mp hc
     exact B6.mpr ⟨q,Dx_ hq,e,he,rfl⟩)
    have:=j.n0 hw
    show nonA A _+10*s.L<=10*s.E.length
    lia
   ·rw[show s.wr=some v from hv]at hw;cases hw
   ·have hk:(s.W++[r])[k]?=some v:=hk
    show ∃(j:Nat) (u:List Int) (x:Nat),j<k/\(s.W++[r])[j]?=some u/\x<s.L/\v=u++[(x:Int)]
    have hkl:=(List.getElem?_eq_some_iff.mp hk).1
    rw[List.length_append,List.length_singleton]at hkl
    by_cases hkk:k<s.W.length
    ·rw[List.getElem?_append_left hkk]at hk
     obtain⟨i,u,x,q1,q2,q3,q4⟩:=j.ac k v hk k0
     exact⟨i,u,x,q1,by rw[List.getElem?_append_left s!""];exact q2,q3,q4⟩
    ·rw[List.getElem?_append_right s!"",show k-s.W.length=0 by lia]at hk
     cases hk
     rcases AW.mp r1 with h|⟨a,ha,x,hx,rfl⟩
     ·exact absurd h r2
     ·obtain⟨i,hi⟩:=List.mem_iff_getElem?.mp ha
      have hil:=(List.getElem?_eq_some_iff.mp hi).1
      exact⟨i,a,x,by lia,by rw[List.getElem?_append_left hil];exact hi,hx,rfl⟩
   ·have:=j.gw.length_le
    show W0.length<(s.W++[r]).length
    rw[List.length_append,List.length_singleton];lia
 |none=>
  obtain⟨np,cl⟩:=tb.none full hst
  dsimp only
  cases hf:Ea s.es (Cc s.L s.W s.E s.es) (EO s.L s.W s.E s.es) with
  |none=>
   refine⟨fun s' z=>(by cases z),fun s' x z=>?_⟩
   cases z
   refine⟨⟨j.gc,fun _=>j.n0 hw,fun v m ws hv=>(by cases hv),j.ac,j.en,j.gw,j.ge,fun z=>?_⟩,hst,rfl,rfl⟩
   rcases j.gs z with h|h|h
   ·exact .inl h
   ·rw[hw]at h;cases h
   ·exact absurd h np
  |some v=>
   refine⟨fun s' z=>?_,fun s' x z=>(by cases z)⟩
   cases z
   refine⟨j.gc,fun z=>(by cases z),fun v' m ws hv hg=>?_,j.ac,j.en,j.gw,j.ge,fun _=>.inr (.inl rfl)⟩
   have h1:=Oh s.es s.W ws v' (lsay m ws v') v'.length 0 (v'.length-1)
   have h2:=Lv_ 10 (v'.length-1-0)
   have h3:=j.n0 hw
   have h4:nonA A s+10*s.L+Vz s.es s.W ws v' (lsay m ws v') v'.length 0 (v'.length-1)<=10*s.E.length+10:=by lia
   exact h4
def Lw_    (t:Tb L most W E es)  (g:GuessOk L W E es m ws)  (hv:isW L v=true)  {mk b:Int}(h0:0<hi)(h1:hi<=v.length-1)(b1:mkO es (JE W ws v (hi-1)++v.drop (hi-1))=some b)(b2:b≠mk)(h3:mkO es (JE W ws v hi++v.drop hi)=some mk):v.drop hi∉E:=fun z=>by
 obtain⟨k,q1,q2⟩:=P6 t g hv (hi-1)
 obtain⟨k',q1',q2'⟩:=P6 t g hv hi
 have e1:hi-1+1=hi:=by lia
 have hlt:hi-1<v.length:=by lia
 obtain⟨x,k2,u2,ex,hx,p1,p2,p3⟩:=g.step t hv (List.getElem?_eq_getElem hlt) q1 q2
 rw[e1,q1']at p1
 have:k'=k2:=Int.ofNat.inj p1
 subst this
 rw[q2']at p2
 cases p2
 obtain⟨y,y1,y2⟩:=p3 _ z
 rw[h3]at y2
 cases y2
 rw[List.drop_eq_getElem_cons hlt,ex,e1]at b1
 rw[List.append_assoc]at y1
 have y1:mkO es (JE W ws v (hi-1)++(x:Int)::v.drop hi)=some mk:=y1
 rw[b1]at y1
 exact b2 (Option.some.inj y1)
def EO_ {B:Nat}{A W0 E0:List (List Int)}{st:Prop}  (o:OkX none B s)(j:J59 A W0 E0 st s):(∀s',EW s=(s',none)->J59 A W0 E0 st s')/\∀s' x,EW s=(s',some x)->J59 A W0 E0 st s'/\JX59 s' x:=by
 have no:=OR o
 revert no
 unfold EW
 cases hG:s.G with
 |cons c r=>
  refine fun _=>⟨fun s' z=>(by cases z),fun s' x z=>?_⟩
  cases z
  have hwr:s.wr=none:=by
   cases h:s.wr with
   |none=>rfl
   |some v=>have:=(o.wr v h).1;rw[hG]at this;cases this
  refine⟨⟨fun b hb=>j.gc b (by rw[hG];exact List.mem_cons_of_mem _ hb),j.n0,j.n1,j.ac,j.en,j.gw,j.ge,j.gs⟩,fun _=>j.gc c (by rw[hG];exact List.mem_cons_self ..),fun v m ws hv=>?_⟩
  rw[show s.wr=some v from hv]at hwr;cases hwr
 |nil=>
  cases hw:s.wr with
  |none=>exact fun _=>Jc_ o j hG hw
  |some v=>
   obtain⟨_,hE,hvW,hvl,m,ws,t,e1,g,ht,hne⟩:=o.wr v hw
   obtain⟨hvn,a0,aL,hv1⟩:=Vx o g hvW ht hne
   have key:=YF o.tb g hvW (mk:=lsay m ws v) v.length 0 (v.length-1) s!"" hv1 s!"" ⟨t,by rw[a0];exact ht,hne⟩ aL
   rw[e1]
   dsimp only
   unfold P5
   cases hh:KA s.es s.W ws v (lsay m ws v) v.length 0 (v.length-1) with
   |ask c=>
    refine fun _=>⟨fun s' z=>(by cases z),fun s' x z=>?_⟩
    cases z
    refine⟨j,fun z=>(by rw[hw]at z;cases z),fun v' m' ws' hv' hg'=>?_⟩
    rw[hw]at hv'
    rw[e1]at hg'
    cases hv';cases hg'
    exact hh
   |fin hi=>
    rw[hh]at key
    obtain⟨h0,h1,⟨b,b1,b2⟩,h3⟩:=key
    refine fun no=>⟨fun s' z=>?_,fun s' x z=>(by cases z)⟩
    obtain⟨_,_,hmu⟩:=no.1 s' z
    cases z
    refine⟨fun c hc=>RA hc,fun _=>?_,fun v m ws hv=>(by cases hv),j.ac,?_,j.gw,j.ge.trans (List.prefix_append _ _),fun _=>.inr (.inr ?_)⟩
    ·have h1:=Bs_ (A:=A) (s:=s) (s':={s with wr:=none,E:=s.E++[v.drop hi],G:=Lw s.L s.W (s.E++[v.drop hi]) s.es}) (fun c hc=>by
      obtain⟨q,hq,e,he,rfl⟩:=B6.mp hc
      exact B6.mpr ⟨q,hq,e,List.mem_append_left _ he,rfl⟩)
     have h2:=j.n1 v m ws hw e1
     show nonA A _+10*s.L<=10*(s.E++[v.drop hi]).length
     rw[List.length_append,List.length_singleton]
     lia
    ·show (s.E++[v.drop hi]).Nodup
     rw[List.nodup_append]
     have hnew:=Lw_ o.tb g hvW h0 h1 b1 b2 h3
     exact⟨j.en,by simp,fun a ha b hb=>by rw[List.mem_singleton.mp hb];intro z;subst z;exact hnew ha⟩
    ·unfold mu at hmu
     rw[hw]at hmu
     simp only[Option.isSome_some,if_true,Option.isSome_none,Bool.false_eq_true,if_false]at hmu
     refine Classical.byContradiction fun hp=>?_
     rw[if_neg hp]at hmu
     lia
def Goes.J59 {B:Nat}{A W0 E0:List (List Int)}{st:Prop}   (g:Goes s s' x)(o:OkX none B s)(j:J59 A W0 E0 st s):Mine.J59 A W0 E0 st s'/\JX59 s' x:=by
 induction g with
 |stop h=>exact (EO_ o j).2 _ _ h
 |more h _ ih=>
  obtain⟨o1,_,_⟩:=(OR o).1 _ h
  exact ih o1 ((EO_ o j).1 _ h)
def J59.told {B:Nat}{A W0 E0:List (List Int)}{st:Prop}    (o:OkX (some c) B s)(hB:B+(s.most+1)*(s.most+s.L)<=1024)(j:J59 A W0 E0 st s)(x:JX59 s (.ask c))(hn:c∉s.es.map (·.1)):J59 (A++[c]) W0 E0 st {s with es:=s.es++[(c,m)]}:=by
 obtain⟨x1,x2⟩:=x
 have nd:((s.es++[(c,m)]).map (·.1)).Nodup:=by
  rw[List.map_append,List.nodup_append]
  exact⟨o.tb.nd,by simp,fun a ha b hb=>by rw[List.mem_singleton.mp hb];intro z;subst z;exact hn ha⟩
 have h2:nonA (A++[c]) {s with es:=s.es++[(c,m)]}<=nonA A s+1:=by
  show List.countP (fun c=>decide (c∉Ir s)) (A++[c])<=List.countP (fun c=>decide (c∉Ir s)) A+1
  rw[List.countP_append,List.countP_singleton]
  split<;>lia
 refine⟨j.gc,fun hw=>?_,fun v m' ws hv hg=>?_,j.ac,j.en,j.gw,j.ge,fun z=>?_⟩
 ·have h1:=j.n0 hw
  have h2:nonA (A++[c]) {s with es:=s.es++[(c,m)]}=nonA A s:=by
   show List.countP (fun c=>decide (c∉Ir s)) (A++[c])=_
   rw[List.countP_append,List.countP_singleton,if_neg (by simp[x1 hw])]
   rfl
  rw[h2]
  exact h1
 ·have h1:=j.n1 v m' ws hv hg
  obtain⟨_,_,_,hvl,_⟩:=o.wr v hv
  have h4:=o.lens
  have h3:=Rz (W:=s.W) (ws:=ws) (v:=v) (mk:=lsay m' ws v) nd v.length 0 (v.length-1) s!"" (x2 v m' ws hv hg)
  have h5:nonA (A++[c]) {s with es:=s.es++[(c,m)]}+10*s.L+Vz (s.es++[(c,m)]) s.W ws v (lsay m' ws v) v.length 0 (v.length-1)<=10*s.E.length+10:=by lia
  exact h5
 ·rcases j.gs z with h|h|h
  ·exact .inl h
  ·exact .inr (.inl h)
  ·exact .inr (.inr (h.mono (Grow.snoc s.es c m)))
def UX    (f:Full L W E es)(g:Grow es es')  (hr:r∈B8 L W):gOf E es' r=gOf E es r:=by
 unfold gOf
 refine List.map_congr_left fun e he=>?_
 obtain⟨m,hm⟩:=f (r++e) (B6.mpr ⟨r,hr,e,he,rfl⟩)
 rw[hm,g _ _ hm]
def NB_ {B:Nat}{A W0 E0:List (List Int)}{st:Prop}{s:AS}{m ws:List (List Int)}{w:List Int}{n:Int}(o:OkX none B s)(hG:s.G=[])(hwr:s.wr=none)(j:J59 A W0 E0 st s)(x:JX59 s (.shown m ws))(hne:lsay m ws w≠n){s':AS}{y:Wish}(g:Goes {s with es:=s.es++[(w,n)]} s' y):∃s2,Goes s2 s' y/\J59 A s.W s.E True s2/\EW {s with es:=s.es++[(w,n)]}=(s2,none):=by
 obtain⟨hst,rfl,rfl⟩:=x
 have full:=o.full hG
 have gr:=Grow.snoc s.es w n
 have eW:s.W.map (gOf s.E (s.es++[(w,n)]))=s.W.map (gOf s.E s.es):=List.map_congr_left fun v hv=>UX full gr (AW.mpr (.inl hv))
 have eS:E5 s.L s.W s.E (s.es++[(w,n)])=none:=by
  unfold E5 at hst ⊢
  rw[List.find?_eq_none]at hst ⊢
  intro v hv
  have:=hst v hv
  rw[eW,UX full gr hv]
  exact this
 have eM:Cc s.L s.W s.E (s.es++[(w,n)])=Cc s.L s.W s.E s.es:=by
  unfold Cc
  refine List.map_congr_left fun v hv=>?_
  rw[UX full gr (AW.mpr (.inl hv))]
 have eY:EO s.L s.W s.E (s.es++[(w,n)])=EO s.L s.W s.E s.es:=by
  unfold EO
  rw[eW]
  refine List.map_congr_left fun v hv=>List.map_congr_left fun y hy=>?_
  rw[UX full gr (AW.mpr (.inr ⟨v,hv,y,List.mem_range.mp hy,rfl⟩))]
 obtain⟨u,hu⟩:∃u,Ea (s.es++[(w,n)]) (Cc s.L s.W s.E s.es) (EO s.L s.W s.E s.es)=some u:=by
  unfold Ea
  cases hf:(s.es++[(w,n)]).find? (fun e=>decide (lsay (Cc s.L s.W s.E s.es) (EO s.L s.W s.E s.es) e.1≠e.2)) with
  |some e=>exact⟨e.1,rfl⟩
  |none=>
   have:=List.find?_eq_none.mp hf (w,n) (by simp)
   simp[hne]at this
 have en:EW {s with es:=s.es++[(w,n)]}=({s with es:=s.es++[(w,n)],gs:=some (Cc s.L s.W s.E s.es,EO s.L s.W s.E s.es),wr:=some u},none):=by
  unfold EW
  rw[show ({s with es:=s.es++[(w,n)]}:AS).G=[] from hG]
  dsimp only
  rw[hwr]
  dsimp only
  unfold Jg
  dsimp only
  rw[eS]
  dsimp only
  rw[eM,eY,hu]
 have h7:=j.n0 hwr
 refine⟨{s with es:=s.es++[(w,n)],gs:=some (Cc s.L s.W s.E s.es,EO s.L s.W s.E s.es),wr:=some u},?_,⟨j.gc,fun z=>(by cases z),fun v m ws hv hg=>?_,j.ac,j.en,List.prefix_refl _,List.prefix_refl _,fun _=>.inr (.inl rfl)⟩,en⟩
 ·cases g with
  |stop h=>rw[en]at h;cases h
  |more h g=>rw[en]at h;cases h;exact g
 ·have h1:=Oh (s.es++[(w,n)]) s.W ws v (lsay m ws v) v.length 0 (v.length-1)
  have h3:=Lv_ 10 (v.length-1-0)
  have h5:nonA A s+10*s.L+Vz (s.es++[(w,n)]) s.W ws v (lsay m ws v) v.length 0 (v.length-1)<=10*s.E.length+10:=by lia
  exact h5
def J59.start (L most:Nat):J59 [] [[]] [] False (s039 L most):=by
 refine⟨fun c hc=>RA hc,fun _=>?_,fun v m ws hv=>(by cases hv),fun k v hk k0=>?_,?_,List.prefix_refl _,List.nil_prefix,fun z=>z.elim⟩
 ·show 0+10*L<=10*(fE57 L).length
  unfold fE57;rw[List.length_map,List.length_range];lia
 ·have h1:=(List.getElem?_eq_some_iff.mp hk).1
  have h1:k<1:=h1
  lia
 ·show (fE57 L).Nodup
  unfold fE57
  rw[List.nodup_iff_pairwise_ne,List.pairwise_map]
  refine List.Pairwise.imp ?_ (List.nodup_iff_pairwise_ne.mp List.nodup_range)
  intro a b h z
  injection z with z
  lia
def J59.rows {A W0 E0:List (List Int)}{st:Prop}  (w0:s.W[0]?=some [])(j:J59 A W0 E0 st s):(B8 s.L s.W).length<=1+s.W.length*s.L:=by
 have h:=OU (l:=B8 s.L s.W) (k:=[]::s.W.flatMap (extW s.L)) (GA (GA List.nodup_nil)) fun v hv=>by
  have key:∀a∈s.W,∀x:Nat,x<s.L->a++[(x:Int)]∈s.W.flatMap (extW s.L):=fun a ha x hx=>List.mem_flatMap.mpr ⟨a,ha,List.mem_map.mpr ⟨x,List.mem_range.mpr hx,rfl⟩⟩
  rcases AW.mp hv with h|⟨a,ha,x,hx,rfl⟩
  ·obtain⟨k,hk⟩:=List.mem_iff_getElem?.mp h
   by_cases k0:0<k
   ·obtain⟨i,u,x,_,hu,hx,rfl⟩:=j.ac k v hk k0
    exact List.mem_cons_of_mem _ (key u (List.mem_of_getElem? hu) x hx)
   ·rw[show k=0 by lia,w0]at hk
    cases hk
    exact List.mem_cons_self
  ·exact List.mem_cons_of_mem _ (key a ha x hx)
 have e:(s.W.flatMap (extW s.L)).length=s.W.length*s.L:=by
  rw[List.length_flatMap]
  generalize s.W=l
  induction l with
  |nil=>simp
  |cons a l ih=>rw[List.map_cons,List.sum_cons,ih,extW,List.length_map,List.length_range,List.length_cons,Nat.succ_mul];lia
 rw[List.length_cons,e]at h
 lia
def Dy_ (R E:List (List Int)):(IE R E).length<=R.length*E.length:=by
 unfold IE
 have a1:=C5 (R.flatMap fun r=>E.map (r ++ ·)) []
 have a2:(R.flatMap fun r=>E.map (r ++ ·)).length=R.length*E.length:=by
  rw[List.length_flatMap]
  generalize R=l
  induction l with
  |nil=>simp
  |cons a l ih=>rw[List.map_cons,List.sum_cons,ih,List.length_map,List.length_cons,Nat.succ_mul];lia
 rw[a2,List.length_nil]at a1
 lia
def J59.few {A W0 E0:List (List Int)}{st:Prop}  (w0:s.W[0]?=some [])(j:J59 A W0 E0 st s)(nd:A.Nodup):A.length<=(1+s.W.length*s.L)*s.E.length+nonA A s:=by
 have h1:=List.length_eq_countP_add_countP (l:=A) (fun c=>decide (c∉Ir s))
 have h3:A.countP (fun p=>decide (¬ decide (p∉Ir s)=true))<=(Ir s).length:=by
  rw[List.countP_eq_length_filter]
  refine OU (nd.filter _) fun c hc=>?_
  have:=(List.mem_filter.mp hc).2
  simpa using this
 have h4:(Ir s).length<=(1+s.W.length*s.L)*s.E.length:=Nat.le_trans (Dy_ _ _) (Nat.mul_le_mul_right _ (j.rows w0))
 unfold nonA
 lia
noncomputable def VA (marks ways:List (List Int))(tr:List Int×Int):Bool:=decide (lsay marks ways tr.1≠tr.2)
noncomputable def MR (K:PySem.W.Frag)(fm:Addr):Sp:=fun vs H Q _=>∃(l h:Addr) (L:Int) (marks ways:List (List Int)) (rs:List V) (es:List (List Int×Int)),vs=[.ref l,.ref fm,.ref h]/\SqL K H l rs/\Hr H rs es/\TJ K H h L marks ways/\WfS L marks ways/\(∀e∈es,(isW L e.1=true/\e.1 ≠ [])/\e.1.length<=600) /\
 ∀H',Same H H'->((∀e∈es,VA marks ways e=false)->Q .non H')/\∀(i:Nat) (e:List Int×Int) (t:Addr),(∀j,j<i->∀e',es[j]?=some e'->VA marks ways e'=false)->es[i]?=some e->VA marks ways e=true->H' t=some (.tup (e.1.map V.int))->Q (.ref t) H'
def VB   (F:Fun K "first_unlike" "first_unlike" DX f fd)(T:Txt mg)
  (W:Own K mg C_j7 C_j9 C_ji C_ja C_j1 C_j4)
  (Z:Exs K mg C_j8 C_j5 C_j6 C_j3 C_j2 C_j0)
   (Fm:FnOk P w K mg base (CXe P w) 5 BL Ex ["house","word"] (JK K C_j5)) (D2:Fun K "last_said" "last_said" EG BL Ex) (Fo:Au K Ex ["house","word"] []) (Fp:mg "last_said"=some (.ref BL))
  : nofun 6 f fd ["heard","answer","house"] (MR K BL):=by
 delta Jc
 ·obtain⟨l,h,L,marks,ways,rs,es,rfl,_⟩:=h;rfl
 ·obtain⟨l,h,L,marks,ways,rs,es,rfl,hl1,ht,hh,wf,hes,k⟩:=h
  refine⟨_,(Ac (E7 PassesOwn.never rfl (Ge (pvD 0)) (Ep_ rfl (JF (Bm (i:=3) Jc.nd rfl (Or.inl rfl)) (JF (Bm (i:=4) Jc.nd rfl (Or.inl rfl)) X1)))
   (Af (B7 (ptT (AF (opN Rb) (IQ_ 1 Fm (hr.mono (by decide)) D2.kp Fo .nil (Rc (P:=P) (w:=w)) (Aa (pvD 2) (Aa (pvD 3) Ae))) (pvD 4) (A0 _)))
   (Af (An (pvD 3)))
   AL)))
   (Af (An Gk))),?_⟩
  nofun
  refine⟨⟨_,hl1⟩,?_⟩
  obtain⟨Pv,hPv⟩:∃Pv:Nat->St->Hp->Prop,∀i σ' H',Pv i σ' H'↔(Same H H'/\(∀j,j<i->∀e,es[j]?=some e->VA marks ways e=false)/\∃o o',σ'=[some (.ref l),some (.ref BL),some (.ref h),o,o']):=⟨_,fun _ _ _=>Iff.rfl⟩
  refine forL (xs:=rs) Pv ((hPv _ _ _).mpr ⟨Same.refl _,fun j hj=>absurd hj (Nat.not_lt_zero _),none,none,rfl⟩) (fun i σ2 H2 _ h2=>((hPv _ _ _).mp h2).1.seq hl1) (fun i x σ2 H2 hx h2=>?_) (fun σ2 H2 h2=>?_)
  ·obtain⟨s2,hall,o,o',rfl⟩:=(hPv _ _ _).mp h2
   have hi:i<es.length:=by rw[<-ht.1];exact (List.getElem?_eq_some_iff.mp hx).1
   have hei:es[i]?=some es[i]:=by simp[hi]
   obtain⟨t,wt,e1,e2,e3⟩:=ht.2 i _ hei
   rw[hx]at e1
   cases e1
   have hok:=hes _ (List.mem_of_getElem? hei)
   generalize es[i]=e at hei e2 e3 hok
   nofun
   refine⟨_,SqT.of (s2 _ _ e2),rfl,_,_,rfl,_,_,rfl,rfl,h,wt,L,marks,ways,e.1,rfl,hh.mono s2,wf,SqT.of (s2 _ _ e3),hok.2,fun _ hne H3 x s3 hx3=>?_,fun z=>by rcases z with z|z;(rw[hok.1.1]at z;cases z);exact absurd z hok.1.2⟩
   have hlx:x=lsay marks ways e.1:=by
    unfold lsay
    rw[List.getD_eq_getElem?_getD,hx3];rfl
   subst hlx
   refine⟨rfl,?_⟩
   by_cases hw:lsay marks ways e.1=e.2
   ·rw[if_neg (by rw[hw];simp)]
    refine (hPv _ _ _).mpr ⟨s2.trans s3,fun j hj e' hj'=>?_,_,_,rfl⟩
    by_cases hji:j<i
    ·exact hall j hji e' hj'
    ·have ej:j=i:=by lia
     subst ej
     rw[hei]at hj'
     cases hj'
     exact decide_eq_false fun z=>z hw
   ·rw[if_pos (by simp[hw])]
    exact (k _ (s2.trans s3)).2 i e wt hall hei (decide_eq_true hw) ((s2.trans s3) _ _ e3)
  ·obtain⟨s2,hall,o,o',rfl⟩:=(hPv _ _ _).mp h2
   nofun
   refine (k _ s2).1 fun e he=>?_
   obtain⟨j,hj,ej⟩:=List.getElem_of_mem he
   exact hall j (by rw[ht.1];exact hj) e (by rw[List.getElem?_eq_getElem hj,ej])
def EP_ (f:Str)(v:V):∀fs:List (Str×V),(putF f v fs).length<=fs.length+1
 |[]=>by simp[putF]
 | (g,x)::r=>by
  unfold putF
  split
  ·simp
  ·have:=EP_ f v r
   rw[List.length_cons,List.length_cons];lia
def HX_   (hW:W.length<=100)(hL:L<=6)(hE:E.length<=100):(IE (B8 L W) E).length<=100000:=by
 unfold IE
 have h1:=C5 ((B8 L W).flatMap fun r=>E.map (r ++ ·)) []
 have h2:((B8 L W).flatMap fun r=>E.map (r ++ ·)).length=(B8 L W).length*E.length:=by
  rw[List.length_flatMap]
  generalize B8 L W=l
  induction l with
  |nil=>simp
  |cons a l ih=>rw[List.map_cons,List.sum_cons,ih,List.length_map,List.length_cons,Nat.succ_mul];lia
 have h3:=Bq_ L W
 have h4:W.length*L<=100*6:=Nat.mul_le_mul hW hL
 have h5:(B8 L W).length*E.length<=700*100:=Nat.mul_le_mul s!"" hE
 rw[h2,List.length_nil]at h1
 lia
noncomputable def EQ_ (CA:Addr):Sp:=fun vs H Q _=>∃(a dx:Addr) (fs:List (Str×V)),vs=[.ref a]/\H a=some (.ins CA dx fs)/\fs.length<1000/\Q .non (upd H a (.ins CA dx (putF "wish" .non fs)))
def YH   (F:Fun K "__init__" "Turns.__init__" E9 f fd)(T:Txt mg)
  (W:Own K mg C_j7 C_j9 C_ji C_ja C_j1 C_j4)
  (Z:Exs K mg C_j8 C_j5 C_j6 C_j3 C_j2 C_j0)
  : nofun 1 f fd ["self"] (EQ_ C_j1):=by
 delta Yo
 ·obtain⟨a,dx,fs,rfl,_⟩:=h;rfl
 ·obtain⟨a,dx,fs,rfl,ha,hz,k⟩:=h
  refine⟨_,(Af (Gm (pvD 0) Gk rfl)),?_⟩
  nofun
  exact⟨_,_,_,ha,W.cl_j1,W.n_SayHunt_wish,hz,k⟩
noncomputable def ER_ (CA:Addr):Sp:=fun vs H Q _=>∃(a dx b pw pe:Addr) (L most:Int),vs=[.ref a,.int L,.int most,.ref b,.ref pw,.ref pe]/\H a=some (.ins CA dx [])/\∀(pg:Addr) (H':Hp),H pg=none->H' a=some (.ins CA dx (afl .non L most b pw pe pg .non .non))->H' pg=some (.lst [])->(∀x o,H x=some o->x≠a->H' x=some o)->(∀x,H' x=none->H x=none)->Q .non H'
def Bt_   (F:Fun K "__init__" "Hunt.__init__" Gh f fd)(T:Txt mg)
  (W:Own K mg C_j7 C_j9 C_ji C_ja C_j1 C_j4)
  (Z:Exs K mg C_j8 C_j5 C_j6 C_j3 C_j2 C_j0)
   (MS:nofun 1 Fq P7 ["self"] (EQ_ C_j1)) (JN:Fun K "__init__" "Turns.__init__" E9 Fq P7) (MT:Au K P7 ["self"] []) (MU:CMeth K C_j9 "__init__" Fq)
  : nofun 3 f fd ["self","letters","most","book","ways","ends"] (ER_ C_j1):=by
 delta Bj_
 ·obtain⟨a,dx,b,pw,pe,L,most,rfl,_⟩:=h;rfl
 ·obtain⟨a,dx,b,pw,pe,L,most,rfl,ha,k⟩:=h
  have hl:=Aq
  refine⟨_,(Ac (Bc (MT_ rfl W.m_j9 MU MS (hr.mono (by decide)) MT .nil AN (Aa (pvD 0) Ae)))
   (Ac (Gm (pvD 0) (pvD 1) rfl)
   (Ac (Gm (pvD 0) (pvD 2) rfl)
   (Ac (Gm (pvD 0) (pvD 3) rfl)
   (Ac (Gm (pvD 0) (pvD 4) rfl)
   (Ac (Gm (pvD 0) (pvD 5) rfl)
   (Ac (Gm (pvD 0) (JG Ae) rfl)
   (Ac (Gm (pvD 0) Gk rfl)
   (Af (Gm (pvD 0) Gk rfl)))))))))),?_⟩
  nofun
  have pl:∀(f:Str) (v:V) (fs:List (Str×V)) (n:Nat),fs.length<n->(putF f v fs).length<n+1:=fun f v fs n h=>by have:=EP_ f v fs;lia
  have z1:=pl "wish" .non [] 1 (by simp)
  have z2:=pl "letters" (.int L) _ _ z1
  have z3:=pl "most" (.int most) _ _ z2
  have z4:=pl "book" (.ref b) _ _ z3
  have z5:=pl "ways" (.ref pw) _ _ z4
  have z6:=pl "ends" (.ref pe) _ _ z5
  refine⟨a,dx,[],rfl,ha,by simp,_,_,_,Ab,W.cl_j1,W.n_SayHunt_letters,by lia,_,_,_,Ab,W.cl_j1,W.n_SayHunt_most,by lia,_,_,_,Ab,W.cl_j1,W.n_SayHunt_book,by lia,_,_,_,Ab,W.cl_j1,W.n_SayHunt_ways,by lia,_,_,_,Ab,W.cl_j1,W.n_SayHunt_ends,by lia,by lia,fun pg hpg=>?_⟩
  have hga:pg≠a:=fun z=>by rw[z,Ab]at hpg;cases hpg
  have z7:=pl "gaps" (.ref pg) _ _ z6
  have z8:=pl "guess" .non _ _ z7
  refine⟨_,_,_,by rw[Ag (Ne.symm hga)];exact Ab,W.cl_j1,W.n_SayHunt_gaps,by lia,_,_,_,Ab,W.cl_j1,W.n_SayHunt_guess,by lia,_,_,_,Ab,W.cl_j1,W.n_SayHunt_wrong,by lia,?_⟩
  have hpgH:H pg=none:=by
   simp only[Ag hga]at hpg
   exact hpg
  refine k pg _ hpgH (by rw[Ab,Jb_]) (by simp only[Ag hga];exact Ab) (fun y o hy hya=>?_) (fun y hy=>?_)
  ·have hyg:y≠pg:=fun z=>by rw[z,hpgH]at hy;cases hy
   simp only[Ag hya,Ag hyg]
   exact hy
  ·by_cases hya:y=a
   ·rw[hya,Ab]at hy;cases hy
   ·by_cases hyg:y=pg
    ·rw[hyg];exact hpgH
    ·simp only[Ag hya,Ag hyg]at hy
     exact hy
noncomputable def ES_ (K:PySem.W.Frag)(CA CB:Addr):Sp:=fun vs H Q _=>∃(a:Addr) (ad:AD) (s:AS) (wv:V),vs=[.ref a]/\Asks K CA CB H a ad s wv/\Q wv H
def WZ   (F:Fun K "wants" "Turns.wants" EJ f fd)(T:Txt mg)
  (W:Own K mg C_j7 C_j9 C_ji C_ja C_j1 C_j4)
  (Z:Exs K mg C_j8 C_j5 C_j6 C_j3 C_j2 C_j0)
  : nofun 1 f fd ["self"] (ES_ K C_j1 C_j7):=by
 delta WX
 ·obtain⟨a,ad,s,wv,rfl,_⟩:=h;rfl
 ·obtain⟨a,ad,s,wv,rfl,⟨gv,rv,zs,ys,us,x⟩,k⟩:=h
  refine⟨_,(Af (An (AY (pvD 0) rfl))),?_⟩
  nofun
  exact⟨_,_,_,x.ob,W.cl_j1,W.n_SayHunt_wish,_,OS ..,k⟩
noncomputable def MV (K:PySem.W.Frag)(CA CB OT:Addr):Sp:=fun vs H Q E=>∃(a:Addr) (ad:AD) (s:AS) (wv:V) (x:Wish) (d:Str),vs=[.ref a,.str d]/\Asks K CA CB H a ad s wv/\CM K H s.L wv x/\(x.tag=d->Q .non H)/\(x.tag≠d->E (.ref OT) none H)
def Oq   (F:Fun K "check_wants" "Turns.check_wants" Ba f fd)(T:Txt mg)
  (W:Own K mg C_j7 C_j9 C_ji C_ja C_j1 C_j4)
  (Z:Exs K mg C_j8 C_j5 C_j6 C_j3 C_j2 C_j0)
  : FnOk P w K mg base (CXe P w) 1 f fd ["self","deed"] (MV K C_j1 C_j7 C_j3):=by
 refine F.okE Ol (fun vs H Q E h=>?_) (fun cdv A outer s H vs Q E hr h=>?_)
 ·obtain⟨a,ad,s,wv,x,d,rfl,_⟩:=h;rfl
 ·obtain⟨a,ad,s,wv,x,d,rfl,⟨gv,rv,zs,ys,us,A'⟩,hw,k,kE⟩:=h
  have hl:=Aq
  refine⟨_,(Af (B7 (ptT (AF (opN Rb) (Ar (ixTD AZ) (AY (pvD 0) rfl) Ah) (pvD 1) (A0 _)))
   (Af (Od Z.m_j3 Z.x_j3 rfl rfl (Aa El Ae)))
   AL)),?_⟩
  nofun
  obtain⟨t,u,rfl,ht,_⟩:=hw
  refine⟨_,_,_,A'.ob,W.cl_j1,W.n_SayHunt_wish,_,OS ..,t,rfl,_,SqT.of ht,V.str x.tag,rfl,rfl,?_⟩
  by_cases hd:x.tag=d
  ·rw[if_neg (by simp[hd])];exact k hd
  ·rw[if_pos (by simp[hd])];exact⟨by lia,kE hd⟩
noncomputable def P8 (K:PySem.W.Frag)(CA CB:Addr)(f:AS->List (List Int)):Sp:=fun vs H Q _=>∃(a:Addr) (ad:AD) (s:AS) (wv:V),vs=[.ref a]/\Asks K CA CB H a ad s wv/\∀l ts H',Same H H'->H l=none->H' l=some (.lst ts)->Am K H' ts (f s)->Q (.ref l) H'
def W2   (F:Fun K "access" "Hunt.access" EI f fd)(T:Txt mg)
  (W:Own K mg C_j7 C_j9 C_ji C_ja C_j1 C_j4)
  (Z:Exs K mg C_j8 C_j5 C_j6 C_j3 C_j2 C_j0)
  : nofun 1 f fd ["self"] (P8 K C_j1 C_j7 AS.W):=by
 delta WW
 ·obtain⟨a,ad,s,wv,rfl,_⟩:=h;rfl
 ·obtain⟨a,ad,s,wv,rfl,⟨gv,rv,zs,ys,us,x⟩,k⟩:=h
  refine⟨_,(Af (An (Ci Mp rfl T.list PyProof.Rows.boot_list (Aa (AY (pvD 0) rfl) Ae)))),?_⟩
  nofun
  exact⟨_,_,_,x.ob,W.cl_j1,W.n_SayHunt_ways,_,Lf ..,ad.pw,rfl,zs,.inl (SqL.of x.w),fun l hl=>k l zs _ (Same.new hl) hl Ab (x.wW.mono (TK.new hl))⟩
def VC   (F:Fun K "tellers" "Hunt.tellers" DY f fd)(T:Txt mg)
  (W:Own K mg C_j7 C_j9 C_ji C_ja C_j1 C_j4)
  (Z:Exs K mg C_j8 C_j5 C_j6 C_j3 C_j2 C_j0)
  : nofun 1 f fd ["self"] (P8 K C_j1 C_j7 AS.E):=by
 delta Ve
 ·obtain⟨a,ad,s,wv,rfl,_⟩:=h;rfl
 ·obtain⟨a,ad,s,wv,rfl,⟨gv,rv,zs,ys,us,x⟩,k⟩:=h
  refine⟨_,(Af (An (Ci Mp rfl T.list PyProof.Rows.boot_list (Aa (AY (pvD 0) rfl) Ae)))),?_⟩
  nofun
  exact⟨_,_,_,x.ob,W.cl_j1,W.n_SayHunt_ends,_,Rw ..,ad.pe,rfl,ys,.inl (SqL.of x.e),fun l hl=>k l ys _ (Same.new hl) hl Ab (x.eW.mono (TK.new hl))⟩
noncomputable def XU (K:PySem.W.Frag)(CA CB:Addr):Sp:=fun vs H Q _=>∃(a:Addr) (ad:AD) (s:AS) (wv:V),vs=[.ref a]/\Asks K CA CB H a ad s wv/\∀l rs H',Same H H'->H l=none->H' l=some (.lst rs)->Hr H' rs s.es->Q (.ref l) H'
def YI   (F:Fun K "heard" "Hunt.heard" Fc f fd)(T:Txt mg)
  (W:Own K mg C_j7 C_j9 C_ji C_ja C_j1 C_j4)
  (Z:Exs K mg C_j8 C_j5 C_j6 C_j3 C_j2 C_j0)
   (GC:nofun 1 Cu GX ["self"] (La K C_j7)) (GD:Fun K "heard" "Book.heard" Ep Cu GX) (GF:Au K GX ["self"] []) (GG:Meth K C_j7 "heard" Cu)
  : nofun 2 f fd ["self"] (XU K C_j1 C_j7):=by
 delta Yq
 ·obtain⟨a,ad,s,wv,rfl,_⟩:=h;rfl
 ·obtain⟨a,ad,s,wv,rfl,⟨gv,rv,zs,ys,us,x⟩,k⟩:=h
  refine⟨_,(Af (An (AM (AY (pvD 0) rfl) W.cl_j7 GG GC (hr.mono (by decide)) GF .nil AN))),?_⟩
  nofun
  obtain⟨dxb,hb⟩:=x.bk.ob
  exact⟨_,_,_,x.ob,W.cl_j1,W.n_SayHunt_book,_,Le ..,ad.b,rfl,_,_,hb,HK _ _ (by decide +kernel) (by decide +kernel),ad.b,ad.d,_,s.es,rfl,x.bk,k⟩
noncomputable def Bu_ (K:PySem.W.Frag)(CA CB:Addr):Sp:=fun vs H Q _=>∃(a l:Addr) (ad:AD) (s:AS) (wv:V) (ts:List V) (ws:List (List Int)),vs=[.ref a,.ref l]/\Asks K CA CB H a ad s wv/\SqL K H l ts/\Am K H ts ws/\ws.Nodup/\ws.length<=100000/\∀ad' H',Asks K CA CB H' a ad' {s with G:=ws.filter fun c=>(mkO s.es c).isNone} wv->Frm H H' a ad->AdOk H ad ad'->Q .non H'
def VD   (F:Fun K "ask_for" "Hunt.ask_for" DW f fd)(T:Txt mg)
  (W:Own K mg C_j7 C_j9 C_ji C_ja C_j1 C_j4)
  (Z:Exs K mg C_j8 C_j5 C_j6 C_j3 C_j2 C_j0)
   (EK:nofun 1 B5 Ew ["self","word"] (JL C_j7)) (Fj:Fun K "told" "Book.told" EF B5 Ew) (EL:Au K Ew ["self","word"] []) (EM:Meth K C_j7 "told" B5)
  : nofun 2 f fd ["self","words"] (Bu_ K C_j1 C_j7):=by
 delta Ja
 ·obtain⟨a,l,ad,s,wv,ts,ws,rfl,_⟩:=h;rfl
 ·obtain⟨a,l,ad,s,wv,ts,ws,rfl,⟨gv,rv,zs,ys,us,x⟩,hl',hW,nd,hz,k⟩:=h
  have hl:=Aq
  refine⟨_,(Ac (Kk (i:=2) Ja.nd rfl (Or.inl rfl) K1)
   (Ac (E7 PassesOwn.never rfl (Ge (pvD 1)) (Bm (i:=3) Ja.nd rfl (Or.inl rfl))
   (Af (B7 (ptT (AF XD (DV (AY (pvD 0) rfl) W.cl_j7 EM EK (hr.mono (by decide)) EL .nil AN (Aa (pvD 3) Ae)) Gk (A0 _)))
   (Af (K0 (IX hr) (pvD 2) (pvD 3) Ek rfl))
   AL)))
   (Af (Gm (pvD 0) (Ci (IY rfl) rfl T.list PyProof.Rows.boot_list (Aa (pvD 2) Ae)) rfl)))),?_⟩
  nofun
  intro p hp
  have sp:=Same.new (o:=.dT []) hp
  obtain⟨dxb,hb⟩:=x.bk.ob
  obtain⟨Pv,hPv⟩:∃Pv:Nat->St->Hp->Prop,∀i σ' H',Pv i σ' H'↔(∃(kvs:List (List Key×V)) (o:Option V),Same H H'/\H' p=some (.dT kvs)/\Ip ((ws.take i).filter fun c=>(mkO s.es c).isNone) kvs/\σ'=[some (.ref a),some (.ref l),some (.ref p),o]):=⟨_,fun _ _ _=>Iff.rfl⟩
  refine⟨⟨_,sp.seq hl'⟩,forL (xs:=ts) Pv ((hPv _ _ _).mpr ⟨[],none,sp,Ab,by rw[List.take_zero];exact Ip.nil,rfl⟩) (fun i σ' H' _ h'=>by obtain⟨_,_,s',_⟩:=(hPv _ _ _).mp h';exact s'.seq hl') (fun i y σ' H' hy h'=>?_) (fun σ' H' h'=>?_)⟩
  ·obtain⟨kvs,o,s',hd,hk,rfl⟩:=(hPv _ _ _).mp h'
   obtain⟨t,c,hci,rfl,ht⟩:=hW.at hy
   have hil:i<ws.length:=(List.getElem?_eq_some_iff.mp hci).1
   have hlen:kvs.length<=100000:=by
    rw[hk.len]
    have h1:=List.length_filter_le (fun c=>(mkO s.es c).isNone) (ws.take i)
    rw[List.length_take]at h1
    lia
   have ht':=s' _ _ ht
   have hnot:c∉ws.take i:=fun z=>by
    obtain⟨j,hj⟩:=List.mem_iff_getElem?.mp z
    rw[List.getElem?_take]at hj
    split at hj
    ·rename_i hji
     have h1:=List.getElem?_eq_some_iff.mp hj
     have h2:=List.getElem?_eq_some_iff.mp hci
     have:=(List.pairwise_iff_getElem.mp (List.nodup_iff_pairwise_ne.mp nd)) j i h1.1 h2.1 hji
     exact this (h1.2.trans h2.2.symm)
    ·cases hj
   have etk:(ws.take (i+1)).filter (fun c=>(mkO s.es c).isNone)=(ws.take i).filter (fun c=>(mkO s.es c).isNone)++(if (mkO s.es c).isNone then [c] else []):=by
    rw[List.take_add_one,hci,List.filter_append]
    congr 1
    show List.filter _ [c]=_
    rw[List.filter_cons]
    rfl
   nofun
   refine⟨_,_,_,s' _ _ x.ob,W.cl_j1,W.n_SayHunt_book,_,Le ..,ad.b,rfl,_,_,s' _ _ hb,HK _ _ (by decide +kernel) (by decide +kernel),ad.b,ad.d,t,_,c,s.es,rfl,x.bk.mono s',ht',fun hn=>?_,fun m hm=>?_⟩
   ·dsimp only
    rw[if_pos rfl]
    have hno:(mkO s.es c).isNone=true:=by rw[UU hn];rfl
    refine⟨_,DPut.t (k:=wkey c) hd (by rw[Ck];exact ht') s!"",(hPv _ _ _).mpr ⟨_,_,s'.over hp,Ab,?_,rfl⟩⟩
    rw[etk,if_pos hno]
    have:=hk.put c (.bl true)
    unfold ins at this
    rw[if_neg (fun z=>hnot (List.mem_filter.mp z).1)]at this
    exact this
   ·dsimp only
    rw[if_neg (by simp)]
    have hso:(mkO s.es c).isNone=false:=by rw[Lb x.bk.nd hm];rfl
    refine (hPv _ _ _).mpr ⟨kvs,_,s',hd,?_,rfl⟩
    rw[etk,hso]
    simpa using hk
  ·obtain⟨kvs,o,s',hd,hk,rfl⟩:=(hPv _ _ _).mp h'
   rw[hW.1,List.take_length]at hk
   nofun
   refine⟨kvs,.inl hd,fun q rs hq hrl hrs=>?_⟩
   have x1:=x.same (s'.newT hq (o:=.lst rs))
   have uq:upd H' q (.lst rs) q=some (.lst rs):=Ab
   have hwd:=(hk.words (K:=K) hrl hrs).mono (TK.new hq (o:=.lst rs))
   have s1:=s'.newT hq (o:=.lst rs)
   have hqH:H q=none:=s'.none hq
   generalize upd H' q (.lst rs)=H1 at x1 uq hwd s1 ⊢
   obtain⟨n1,n2,n3,n4,n5,n6,n7,n8,n9,n10,n11⟩:=x1.na
   have hqa:q≠a:=fun z=>by rw[z,x1.ob]at uq;cases uq
   refine⟨_,_,_,x1.ob,W.cl_j1,W.n_SayHunt_gaps,by unfold afl;simp,?_⟩
   rw[Ja_]
   refine k {ad with pg:=q} _ ⟨gv,rv,zs,ys,rs,?_⟩ ⟨fun y o hy m1 m2 m3 m4 m5=>by rw[Ag m1];exact s1 _ _ hy,fun y hy=>?_⟩ ⟨rfl,rfl,rfl,rfl,rfl,.inr hqH⟩
   ·have tk:=x1.tkob (.ins C_j1 ad.dx (afl wv s.L s.most ad.b ad.pw ad.pe q gv rv))
    refine⟨Ab,BookAt.tk x1.bk (fun o h=>by rw[Ag x1.nb];exact h) (fun o h=>by rw[Ag n4];exact h),by rw[Ag n1];exact x1.w,x1.wW.mono tk,by rw[Ag n2];exact x1.e,x1.eW.mono tk,by rw[Ag hqa];exact uq,hwd.mono tk,x.we,fun z=>?_,fun z=>?_,x1.gv.mono tk,x1.rv.mono tk⟩
    ·rw[show q=ad.pw from z.symm,x.w]at hqH;cases hqH
    ·rw[show q=ad.pe from z.symm,x.e]at hqH;cases hqH
   ·by_cases hya:y=a
    ·rw[hya,Ab]at hy;cases hy
    ·rw[Ag hya]at hy;exact s1.none hy
noncomputable def UY (K:PySem.W.Frag)(CA CB:Addr):Sp:=fun vs H Q _=>∃(a:Addr) (ad:AD) (s:AS) (wv:V),vs=[.ref a]/\Asks K CA CB H a ad s wv/\Sz s/\∀ad' H',Asks K CA CB H' a ad' {s with G:=Lw s.L s.W s.E s.es} wv->Frm H H' a ad->AdOk H ad ad'->Q .non H'
def LO   (F:Fun K "look_for_gaps" "Asker.look_for_gaps" A5 f fd)(T:Txt mg)
  (W:Own K mg C_j7 C_j9 C_ji C_ja C_j1 C_j4)
  (Z:Exs K mg C_j8 C_j5 C_j6 C_j3 C_j2 C_j0)
   (J5:nofun 2 CZ MW ["self","words"] (Bu_ K C_j1 C_j7)) (HS:Fun K "ask_for" "Hunt.ask_for" DW CZ MW) (J6:Au K MW ["self","words"] []) (J7:Meth K C_j1 "ask_for" CZ)
   (Dz_:nofun 2 RC ET_ ["letters","access","ends"] (EL_ K)) (VE:Fun K "cells" "cells" OM RC ET_) (DA_:Au K ET_ ["letters","access","ends"] []) (DB_:mg "cells"=some (.ref RC))
  : nofun 3 f fd ["self"] (UY K C_j1 C_j7):=by
 delta LM
 ·obtain⟨a,ad,s,wv,rfl,_⟩:=h;rfl
 ·obtain⟨a,ad,s,wv,rfl,⟨gv,rv,zs,ys,us,x⟩,sz,k⟩:=h
  have hl:=Aq
  refine⟨_,(Af (Bc (DV (pvD 0) W.cl_j1 J7 J5 (hr.mono (by decide)) J6 .nil AN (Aa (Ay Dz_ (hr.mono (by decide)) rfl DB_ VE.kp DA_ .nil AN (Aa (AY (pvD 0) rfl) (Aa (AY (pvD 0) rfl) (Aa (AY (pvD 0) rfl) Ae)))) Ae)))),?_⟩
  nofun
  have w1:=sz.w.1
  have e1:=sz.e.1
  refine⟨_,_,x.ob,by kernel_rfl,_,_,_,x.ob,W.cl_j1,W.n_SayHunt_letters,_,IM ..,_,_,_,x.ob,W.cl_j1,W.n_SayHunt_ways,_,Lf ..,_,_,_,x.ob,W.cl_j1,W.n_SayHunt_ends,_,Rw ..,s.L,ad.pw,ad.pe,zs,ys,s.W,s.E,rfl,sz.l6,SqL.of x.w,x.wW,by lia,fun v hv=>by have:=sz.w.2 v hv;lia,SqL.of x.e,x.eW,by lia,sz.e.2,fun l rs H1 s1 hlN hl1 hw=>?_⟩
  have hcl:(IE (B8 s.L s.W) s.E).length<=100000:=HX_ s!"" sz.l6 s!""
  exact⟨a,l,ad,s,wv,rs,_,rfl,⟨_,_,_,_,_,x.same s1⟩,SqL.of hl1,hw,Vw _ _,hcl,fun ad' H2 x2 f2 k2=>k ad' H2 x2 ((Frm.of s1 a ad).trans (AdOk.refl H ad) f2) (AdOk.trans (Frm.of s1 a ad) (AdOk.refl H ad) k2)⟩
noncomputable def EU_ (K:PySem.W.Frag):Sp:=fun vs H Q _=>∃(a:Addr) (L:Nat),vs=[.ref a,.int L]/\L<=6/\∀l ts H',Same H H'->H l=none->H' l=some (.lst ts)->Am K H' ts (fE57 L)->Q (.ref l) H'
def MX   (F:Fun K "first_ends" "SayHunt.first_ends" BK f fd)(T:Txt mg)
  (W:Own K mg C_j7 C_j9 C_ji C_ja C_j1 C_j4)
  (Z:Exs K mg C_j8 C_j5 C_j6 C_j3 C_j2 C_j0)
  : nofun 1 f fd ["self","letters"] (EU_ K):=by
 delta Mz
 ·obtain⟨a,L,rfl,_⟩:=h;rfl
 ·obtain⟨a,L,rfl,hL,k⟩:=h
  have hl:=Aq
  refine⟨_,(Af (An (K2 rfl (Kl rfl) (cp:=He) True.intro (EV rfl T.range (Aa (pvD 1) Ae)) (fun _ _ _ _=>(Bm (i:=0) J3 rfl (Or.inl rfl))) (fun _ _ _ _=>Ls) (fun _ _ _ _=>(F3 (Aa (pvD 0) Ae)))))),?_⟩
  nofun
  refine⟨by lia,by lia,?_⟩
  rw[Int.toNat_natCast]
  obtain⟨Pc,hPc⟩:∃Pc:Nat->List V->St->Hp->Prop,∀i us σ' H',Pc i us σ' H'↔(Same H H'/\Am K H' us (fE57 i)/\∃o,σ'=[o]):=⟨_,fun _ _ _ _=>Iff.rfl⟩
  refine II_ Pc ((hPc _ _ _ _).mpr ⟨Same.refl _,Am.nil,none,rfl⟩) s!"" (fun i us σ' H' hi h'=>?_) (fun i us σ' H' hi h'=>?_) (fun us σ' H1 h' D hD=>?_)
  ·obtain⟨_,hR,_⟩:=(hPc _ _ _ _).mp h'
   rw[hR.1];unfold fE57;rw[List.length_map,List.length_range];exact Nat.le_refl _
  ·obtain⟨s1,hR,o,rfl⟩:=(hPc _ _ _ _).mp h'
   rw[Int.zero_add]
   nofun
   refine⟨by lia,fun t ht=>(hPc _ _ _ _).mpr ⟨s1.newT ht,?_,_,rfl⟩⟩
   have e:fE57 (i+1)=fE57 i++[[(i:Int)]]:=by unfold fE57;rw[List.range_succ,List.map_append];rfl
   rw[e]
   exact (hR.mono (TK.new ht)).snoc Ab
  ·obtain⟨s1,hR,o,rfl⟩:=(hPc _ _ _ _).mp h'
   exact k D us _ (s1.newT hD) (s1.none hD) Ab (hR.mono (TK.new hD))
noncomputable def OV (K:PySem.W.Frag):Sp:=fun vs H Q _=>∃(a h t:Addr) (L:Int) (m ws:List (List Int)) (v:List Int),vs=[.ref a,.ref h,.ref t]/\TJ K H h L m ws/\WfS L m ws/\SqT K H t (v.map V.int)/\v.length<=600/\isW L v=true/\v ≠ []/\∀H',Same H H'->Q (.int (lsay m ws v)) H'
def RD   (F:Fun K "answer" "SayHunt.answer" B9 f fd)(T:Txt mg)
  (W:Own K mg C_j7 C_j9 C_ji C_ja C_j1 C_j4)
  (Z:Exs K mg C_j8 C_j5 C_j6 C_j3 C_j2 C_j0)
   (Fm:FnOk P w K mg base (CXe P w) 5 BL Ex ["house","word"] (JK K C_j5)) (D2:Fun K "last_said" "last_said" EG BL Ex) (Fo:Au K Ex ["house","word"] []) (Fp:mg "last_said"=some (.ref BL))
  : nofun 6 f fd ["self","house","word"] (OV K):=by
 delta Rg
 ·obtain⟨a,h,t,L,m,ws,v,rfl,_⟩:=h;rfl
 ·obtain⟨a,h,t,L,m,ws,v,rfl,hh,wf,ht,hz,hv,hne,k⟩:=h
  refine⟨_,(Af (An (Ay Fm (hr.mono (by decide)) rfl Fp D2.kp Fo .nil (Rc (P:=P) (w:=w)) (Aa (pvD 1) (Aa (pvD 2) Ae))))),?_⟩
  nofun
  refine⟨h,t,L,m,ws,v,rfl,hh,wf,ht,hz,fun _ _ H' x s' hx=>?_,fun z=>?_⟩
  ·have hlx:x=lsay m ws v:=by
    unfold lsay
    rw[List.getD_eq_getElem?_getD,hx];rfl
   subst hlx
   exact k H' s'
  ·rcases z with z|z
   ·rw[hv]at z;cases z
   ·exact absurd z hne
def Lx_  {K:PySem.W.Frag}     (hK:X.K=K)(he:PE X e ta)(hb:attributeBase e f X.env (eval e X.env)=eval e X.env):PE X (.Attribute e f pos) (tFld K ta f):=by subst hK;exact AY he hb
noncomputable def HY_ (_K:PySem.W.Frag):V->Option Int->Option Int->Hp->VK->Prop:=fun x lo hi H Q=>∃a xs,x=.ref a/\H a=some (.tup xs)/\∀p H',Same H H'->H' p=some (.tup (cutV xs lo hi))->Q (.ref p) H'
def DC_  : SlR X (HY_ X.K):=by
 intro pins s σ H x v vl vu lo hi sl Q I rx hs pl pu h
 obtain⟨a,xs,rfl,hx,q⟩:=h
 by_cases hw:HT.sIx xs.length 0 lo=0/\HT.sIx xs.length xs.length hi=xs.length
 ·cases rx
  obtain⟨its,r,ht,hz⟩:=I.tuple (SqT.of hx)
  have hlen:its.toArray.size=xs.length:=by rw[List.size_toArray];exact r.length.symm
  refine⟨"tuple",_,PyProof.Rows.slot_tuple_getitem.lookup,ht.typeIs,?_⟩
  refine HT.getItem_tuple_whole ht hs pl pu (by rw[hlen];exact hw) ⟨.ref a,H,I,rfl,q a H (Same.refl _) ?_⟩
  unfold cutV
  rw[hw.1,hw.2,List.drop_zero,Nat.sub_zero,List.take_length]
  exact hx
 ·exact GH_ pins s σ H (.ref a) v vl vu lo hi sl Q I rx hs pl pu ⟨a,xs,rfl,SqT.of hx,hw,fun p hp=>q p _ (Same.new hp) Ab⟩
def Jd_  {K:PySem.W.Frag}(h:X.K=K):SlR X (HY_ K):=by subst h;exact DC_
def HY_.of {K:PySem.W.Frag}{a:Addr}{xs:List V}{m:Nat}{H:Hp}{Q:VK}(ha:H a=some (.tup xs))(q:∀p H',Same H H'->H' p=some (.tup (xs.take m))->Q (.ref p) H'):HY_ K (.ref a) none (some (m:Int)) H Q:=by
 refine⟨a,xs,rfl,ha,fun p H' s' h=>q p H' s' ?_⟩
 rw[h]
 unfold cutV
 rw[HT.sIx_nat,HT.sIx_none,List.drop_zero,Nat.sub_zero]
 congr 2
 rw[List.take_eq_take_iff]
 lia
noncomputable def Kz_ (K:PySem.W.Frag)(CA CB:Addr):Sp:=fun vs H Q _=>∃(a:Addr) (ad:AD) (s:AS) (wv:V),vs=[.ref a]/\Asks K CA CB H a ad s wv/\Sz s/\Tb s.L s.most s.W s.E s.es/\Full s.L s.W s.E s.es/\E5 s.L s.W s.E s.es=none/\∀h H',Same H H'->HouT K H' h s.L (Cc s.L s.W s.E s.es) (EO s.L s.W s.E s.es)->Q (.ref h) H'
def MY   (F:Fun K "make_guess" "SayHunt.make_guess" BH f fd)(T:Txt mg)
  (W:Own K mg C_j7 C_j9 C_ji C_ja C_j1 C_j4)
  (Z:Exs K mg C_j8 C_j5 C_j6 C_j3 C_j2 C_j0)
   (EZ:nofun 3 Co Fl ["book","letters","access","ends"] (HN_ K C_j7)) (CY:Fun K "marks_by_row" "marks_by_row" CV Co Fl) (E1:Au K Fl ["book","letters","access","ends"] []) (E2:mg "marks_by_row"=some (.ref Co))
   (Jh:nofun 1 Eb Lx ["letters","access","marks"] (EM_ K)) (Fs:Fun K "ways_by_marks" "ways_by_marks" Df Eb Lx) (Ji:Au K Lx ["letters","access","marks"] []) (Jj:mg "ways_by_marks"=some (.ref Eb))
  : nofun 4 f fd ["self"] (Kz_ K C_j1 C_j7):=by
 delta E8
 ·obtain⟨a,ad,s,wv,rfl,_⟩:=h;rfl
 ·obtain⟨a,ad,s,wv,rfl,⟨gv,rv,zs,ys,us,x⟩,sz,tb,fu,hs,k⟩:=h
  have hl:=Aq
  refine⟨_,(Ac (Kk (i:=1) E8.nd rfl (Or.inr rfl) (Ay EZ (hr.mono (by decide)) rfl E2 CY.kp E1 .nil AN (Aa (AY (pvD 0) rfl) (Aa (AY (pvD 0) rfl) (Aa (AY (pvD 0) rfl) (Aa (AY (pvD 0) rfl) Ae))))))
   (Ac (AX (i:=2) E8.nd (Ci DB rfl T.tuple PyProof.Rows.boot_tuple (Aa (K2 rfl (Kl rfl) (cp:=Hd) ⟨⟨rfl,rfl⟩,⟨⟨rfl,rfl⟩,True.intro⟩⟩ (Ge (AY (pvD 0) rfl)) (fun _ _ _ _=>(Bm (i:=0) J2 rfl (Or.inl rfl))) (fun _ _ _ _=>Ls) (fun _ _ _ _=>(FK (Jd_ (K:=K) rfl) (Mq (IX hr) (pvD 1) (pvD 0) (fun _ _=>rfl)) Hk (Hl (Lx_ (K:=K) rfl (pvD 2) rfl))))) Ae)))
   (Af (An (F3 (Aa (AY (pvD 0) rfl) (Aa (pvD 2) (Aa (Ay Jh (hr.mono (by decide)) rfl Jj Fs.kp Ji .nil AN (Aa (AY (pvD 0) rfl) (Aa (AY (pvD 0) rfl) (Aa (pvD 1) Ae)))) Ae)))))))),?_⟩
  nofun
  have w1:=sz.w.1
  have e1:=sz.e.1
  obtain⟨np,cl⟩:=tb.none fu hs
  refine⟨_,_,_,x.ob,W.cl_j1,W.n_SayHunt_book,_,Le ..,_,_,_,x.ob,W.cl_j1,W.n_SayHunt_letters,_,IM ..,_,_,_,x.ob,W.cl_j1,W.n_SayHunt_ways,_,Lf ..,_,_,_,x.ob,W.cl_j1,W.n_SayHunt_ends,_,Rw ..,ad.b,ad.d,ad.pw,ad.pe,s.L,s.L,s.es,zs,ys,s.W,s.E,rfl,x.bk,sz.l6,SqL.of x.w,x.wW,by lia,fun v hv=>by have:=sz.w.2 v hv;lia,SqL.of x.e,x.eW,by lia,sz.e.2,fun m kvs H1 s1 hm0 hm hM=>?_⟩
  have hA1:Am K H1 zs s.W:=x.wW.mono (TK.of s1)
  have hob1:=s1 _ _ x.ob
  refine⟨_,_,_,hob1,W.cl_j1,W.n_SayHunt_ways,_,Lf ..,_,rfl,⟨_,s1.seq (SqL.of x.w)⟩,Dg_ (xs:=zs) (fun i us σ' H'=>Same H1 H'/\Am K H' us ((s.W.take i).map fun v=>(gOf s.E s.es v).take s.L)/\∃o,σ'=[o,some (.ref m),some (.ref a)]) ⟨Same.refl _,Am.nil,none,rfl⟩ (by rw[x.wW.1];lia) (fun i us σ' H' hi h'=>⟨(s1.trans h'.1).seq (SqL.of x.w),by rw[h'.2.1.1,List.length_map,List.length_take];lia⟩) (fun i y us σ' H' hx h'=>?_) (fun us σ' H' h' D hD=>?_)⟩
  ·obtain⟨s2,hus,o,rfl⟩:=h'
   obtain⟨t,w,hwi,rfl,ht⟩:=(hA1.mono (TK.of s2)).at hx
   have hwm:=List.mem_of_getElem? hwi
   have et:s.W.take (i+1)=s.W.take i++[w]:=by rw[List.take_add_one,hwi];rfl
   obtain⟨u,hu1,hu2⟩:=hM.get (Ld (n:=s.L) hwm)
   have hdg:DGet H' m (.ref t) (some (.ref u)):=by rw[<-hu1];exact DGet.t (k:=wkey w) (s2 _ _ hm) (by rw[Ck];exact ht)
   nofun
   refine⟨_,hdg,_,_,_,s2 _ _ hob1,W.cl_j1,W.n_SayHunt_letters,_,IM ..,_,rfl,HY_.of (s2 _ _ hu2) fun p H4 s4 hp=>⟨s2.trans s4,?_,_,rfl⟩⟩
   rw[et,List.map_append]
   refine (hus.mono (TK.of s4)).snoc ?_
   rw[hp,HP_ fu (Ld (n:=s.L) hwm),List.map_take]
  ·obtain⟨s2,hus,o,rfl⟩:=h'
   rw[x.wW.1,List.take_length]at hus
   refine⟨D,rfl,_,.inl ⟨SqL.of Ab,fun tm htm=>?_⟩⟩
   have sD:=(s2.newT hD (o:=.lst us)).newT htm (o:=.tup us)
   have s3:=s1.trans sD
   have hob3:=s3 _ _ x.ob
   refine⟨_,_,_,hob3,W.cl_j1,W.n_SayHunt_letters,_,IM ..,_,_,_,hob3,W.cl_j1,W.n_SayHunt_letters,_,IM ..,_,_,_,hob3,W.cl_j1,W.n_SayHunt_ways,_,Lf ..,s.L,ad.pw,m,zs,s.W,kvs,gOf s.E s.es,rfl,sz.l6,s3.seq (SqL.of x.w),x.wW.mono (TK.of s3),by lia,fun v hv=>by have:=sz.w.2 v hv;lia,sD _ _ hm,⟨hM.1,fun i w hi=>?_⟩,tb.nodup fu,cl,fun tw zs' H3 s4 htw hz=>⟨by lia,fun h hh=>?_⟩⟩
   ·obtain⟨t,e1,e2⟩:=hM.2 i w hi
    refine⟨t,e1,?_⟩
    have:=sD _ _ e2
    show _=some (HO.tup ((gOf s.E s.es w).map V.int))
    rw[<-HP_ fu (List.mem_of_getElem? hi)]
    exact this
   ·have sh:=Same.new hh (o:=.tup [.int s.L,.ref tm,.ref tw])
    have s5:=s4.trans sh
    refine k h _ (s3.trans s5) ⟨tm,tw,us,zs',Ab,s5 _ _ Ab,hus.mono (TK.of (((Same.new hD (o:=.lst us)).newT htm (o:=.tup us)).trans s5)),sh _ _ htw,hz.mono (TK.of sh)⟩
noncomputable def KA_ (K:PySem.W.Frag)(CA CB:Addr):Sp:=fun vs H Q _=>∃(a:Addr) (ad:AD) (s:AS) (wv:V) (m ws:List (List Int)),vs=[.ref a]/\Asks K CA CB H a ad s wv/\s.gs=some (m,ws)/\WfS s.L m ws/\(∀e∈s.es,(isW s.L e.1=true/\e.1 ≠ [])/\e.1.length<=600)/\∀H',Same H H'->(Ea s.es m ws=none->Q .non H')/\∀v t,Ea s.es m ws=some v->H' t=some (.tup (v.map V.int))->Q (.ref t) H'
def MZ   (F:Fun K "wrong_word" "SayHunt.wrong_word" BI f fd)(T:Txt mg)
  (W:Own K mg C_j7 C_j9 C_ji C_ja C_j1 C_j4)
  (Z:Exs K mg C_j8 C_j5 C_j6 C_j3 C_j2 C_j0)
   (Fm:FnOk P w K mg base (CXe P w) 5 BL Ex ["house","word"] (JK K C_j5)) (D2:Fun K "last_said" "last_said" EG BL Ex) (Fo:Au K Ex ["house","word"] []) (Fp:mg "last_said"=some (.ref BL))
   (GC:nofun 1 Cu GX ["self"] (La K C_j7)) (GD:Fun K "heard" "Book.heard" Ep Cu GX) (GF:Au K GX ["self"] []) (GG:Meth K C_j7 "heard" Cu)
   (J8:nofun 6 E3 M0 ["heard","answer","house"] (MR K BL)) (F4:Fun K "first_unlike" "first_unlike" DX E3 M0) (J9:Au K M0 ["heard","answer","house"] []) (Ka:mg "first_unlike"=some (.ref E3))
  : nofun 7 f fd ["self"] (KA_ K C_j1 C_j7):=by
 delta Mw
 ·obtain⟨a,ad,s,wv,m,ws,rfl,_⟩:=h;rfl
 ·obtain⟨a,ad,s,wv,m,ws,rfl,⟨gv,rv,zs,ys,us,x⟩,hg,wf,hb,k⟩:=h
  refine⟨_,(Af (An (Ay J8 (hr.mono (by decide)) rfl Ka F4.kp J9 .nil AN (Aa (AM (AY (pvD 0) rfl) W.cl_j7 GG GC (hr.mono (by decide)) GF .nil AN) (Aa (Gm_ (v:=.ref BL) rfl Fp rfl) (Aa (AY (pvD 0) rfl) Ae)))))),?_⟩
  nofun
  have hgv:=x.gv
  rw[hg]at hgv
  obtain⟨h,rfl,hh⟩:=hgv
  obtain⟨⟨dx,hob⟩,hdc,nd⟩:=id x.bk
  refine⟨_,_,_,x.ob,W.cl_j1,W.n_SayHunt_book,_,Le ..,_,rfl,_,_,hob,HK _ _ (by decide +kernel) (by decide +kernel),ad.b,ad.d,s.L,s.es,rfl,x.bk,fun l rs H1 s1 hl0 hl1 htr=>?_⟩
  refine⟨_,_,_,s1 _ _ x.ob,W.cl_j1,W.n_SayHunt_guess,_,UW ..,l,h,s.L,m,ws,rs,s.es,rfl,SqL.of hl1,htr,(hh.mono (TK.of s1)).house,wf,hb,fun H' s'=>⟨fun hno=>(k H' (s1.trans s')).1 ?_,fun i e t hno hi hw' ht=>?_⟩⟩
  ·unfold Ea
   rw[Option.map_eq_none_iff,List.find?_eq_none]
   intro e he
   have:=hno e he
   unfold VA at this
   rw[this];simp
  ·refine (k H' (s1.trans s')).2 e.1 t ?_ ht
   ·unfold Ea
    have hil:=(List.getElem?_eq_some_iff.mp hi).1
    have e':s.es=s.es.take i++(e::s.es.drop (i+1)):=by
     have h1:=(List.take_append_drop (i+1) s.es).symm
     rw[List.take_add_one,hi,List.append_assoc]at h1
     exact h1
    rw[e',List.find?_append,List.find?_eq_none.mpr fun p hp=>?_,List.find?_cons]
    ·unfold VA at hw'
     rw[hw'];rfl
    ·obtain⟨j,hj⟩:=List.mem_iff_getElem?.mp hp
     rw[List.getElem?_take]at hj
     split at hj
     ·rename_i hji
      have:=hno j hji p hj
      unfold VA at this
      rw[this];simp
     ·cases hj
def Tb.ends0    (t:Tb L most W E es):E[0]?=some [0]:=by
 have h1:=t.l1
 have h:=congrArg (fun l=>l[0]?) t.e0
 simp only[List.getElem?_take,List.getElem?_map,List.getElem?_range h1]at h
 rw[if_pos s!""]at h
 exact h
noncomputable def Bv_ (K:PySem.W.Frag)(CB:Addr):Sp:=fun vs H Q _=>∃(b d pw h t:Addr) (L:Nat) (es:Bk) (zs:List V) (W:List (List Int)) (m ws:List (List Int)) (v:List Int) (mk:Int) (n:Nat),vs=[.ref b,.ref pw,.ref h,.ref t,.int mk,.int n]/\BookAt CB H b d L es/\H pw=some (.lst zs)/\Am K H zs W/\TJ K H h L m ws/\WfS L m ws/\H t=some (.tup (v.map V.int))/\isW L v=true/\0<n/\n<v.length/\v.length<=600/\(∀u∈W,u.length<=50)/\(∀i,i<=v.length->∃k:Nat,FO ws (v.take i)=(k:Int)/\W[k]?=some (JE W ws v i))/\∀H',Same H H'->(∀c u t',KA es W ws v mk v.length 0 n=.ask c->H' u=some (.tup (c.map V.int))->H' t'=some (.tup [.str "ask",.ref u])->Q (.ref t') H')/\(∀hi u t',KA es W ws v mk v.length 0 n=.fin hi->H' u=some (.tup ((v.drop hi).map V.int))->H' t'=some (.tup [.str "end",.ref u])->Q (.ref t') H')
def HZ_   (F:Fun K "halved" "halved" K5 f fd)(T:Txt mg)
  (W:Own K mg C_j7 C_j9 C_ji C_ja C_j1 C_j4)
  (Z:Exs K mg C_j8 C_j5 C_j6 C_j3 C_j2 C_j0)
   (Rp:FnOk P w K mg base (CXe P w) 3 K9 PZ ["house","word"] (Vr K C_j5)) (MG:Fun K "trail" "trail" Mv K9 PZ) (Rq:Au K PZ ["house","word"] []) (Rr:mg "trail"=some (.ref K9))
   (EK:nofun 1 B5 Ew ["self","word"] (JL C_j7)) (Fj:Fun K "told" "Book.told" EF B5 Ew) (EL:Au K Ew ["self","word"] []) (EM:Meth K C_j7 "told" B5)
  : nofun 4 f fd ["book","access","guess","word","mark","last"] (Bv_ K C_j7):=by
 delta GQ
 ·obtain⟨b,d,pw,h,t,L,es,zs,W',m,ws,v,mk,N,rfl,_⟩:=h;rfl
 ·obtain⟨b,d,pw,h,t,L,es,zs,W',m,ws,v,mk,N,rfl,bk,hpw,hW,hh,wf,ht,hv,hv0,hvN,hz,hz2,hacc,k⟩:=h
  have hl:=Aq
  refine⟨_,(Ac (AX (i:=6) GQ.nd (Ay Rp (hr.mono (by decide)) rfl Rr MG.kp Rq .nil (Rc (P:=P) (w:=w)) (Aa (pvD 2) (Aa (pvD 3) Ae))))
   (Ac (AX (i:=7) GQ.nd Ah)
   (Ac (AX (i:=8) GQ.nd (pvD 5))
   (Ac (X2 PassesOwn.never (ptT (AF (opD0 Gz_) (BU (opD0 AN_) (pvD 8) (pvD 7)) Ah (A0 _)))
   (Ac (AX (i:=9) GQ.nd (BU (opD OL) (BU (opD0 Hb) (pvD 7) (pvD 8)) Ah))
   (Ac (AX (i:=10) GQ.nd (BU Oe (Ar (ixLD Cj) (pvD 1) (Ar (ixLD Cj) (pvD 6) (pvD 9))) (FK GH_ (pvD 3) (Hl (pvD 9)) Hk)))
   (Ac (AX (i:=11) GQ.nd (DV (pvD 0) W.cl_j7 EM EK (hr.mono (by decide)) EL .nil AN (Aa (pvD 10) Ae)))
   (Ac (B7 (ptT (AF XD (pvD 11) Gk (A0 _)))
   (Af (An (F3 (Aa El (Aa (pvD 10) Ae)))))
   AL)
   (Af (B7 (ptT (AF (opE KY) (pvD 11) (pvD 4) (A0 _)))
   (Af (AX (i:=8) GQ.nd (pvD 9)))
   (Af (AX (i:=7) GQ.nd (pvD 9))))))))))
   (Af (An (F3 (Aa El (Aa (FK GH_ (pvD 3) (Hl (pvD 8)) Hk) Ae))))))))),?_⟩
  obtain⟨⟨dxb,hb⟩,hd,nd⟩:=id bk
  nofun
  obtain⟨tm,tw,h1,_,h3⟩:=id hh
  refine⟨h,t,tm,tw,L,_,ws,v,rfl,h1,h3,wf.wf,SqT.of ht,hz,fun _ p H1 s1 hpN hp=>?_,fun z=>by rw[hv]at z;cases z⟩
  obtain⟨Pv,hPv⟩:∃Pv:Nat->St->Hp->Prop,∀n σ' H',Pv n σ' H'↔(∃(lo hi:Nat) (f:Nat) (o1 o2 o3:Option V),Same H1 H'/\n=hi-lo/\hi-lo<=f+1/\lo<hi/\hi<=N/\KA es W' ws v mk v.length 0 N=KA es W' ws v mk f lo hi/\σ'=[some (.ref b),some (.ref pw),some (.ref h),some (.ref t),some (.int mk),some (.int N),some (.ref p),some (.int lo),some (.int hi),o1,o2,o3]):=⟨_,fun _ _ _=>Iff.rfl⟩
  refine Hd_ Pv ⟨N,(hPv _ _ _).mpr ⟨0,N,v.length,none,none,none,Same.refl _,by lia,by lia,by lia,by lia,rfl,rfl⟩⟩ fun n σ' H' h'=>?_
  obtain⟨lo,hi,f,o1,o2,o3,s',hn,hf,hlo,hhi,e,rfl⟩:=(hPv _ _ _).mp h'
  nofun
  by_cases hg:hi-lo > 1
  ·rw[if_pos s!""]
   refine⟨fun σ2 H2=>∃m',m'<n/\Pv m' σ2 H2,fun _ _ z=>z,?_⟩
   have em:((lo:Int)+(hi:Int)) / 2=(((lo+hi) / 2:Nat):Int):=by lia
   simp only[em]
   have hmid:(lo+hi) / 2<=v.length:=by lia
   obtain⟨kk,k1,k2⟩:=hacc _ hmid
   obtain⟨ta,a1,a2⟩:=(hW.mono (TK.of (s1.trans s'))).2 kk _ k2
   have ht':=(s1.trans s') _ _ ht
   refine⟨by show CDiv _ _;unfold CDiv;lia,_,SqL.of (s' _ _ hp),_,Cr (HT_ ws v hmid),zs,_,rfl,SqL.of ((s1.trans s') _ _ hpw),_,(by rw[k1];exact Cr a1),_,SqT.of ht',?_,fun q hq=>?_⟩
   ·rw[HT.sIx_nat,HT.sIx_none,List.length_map];lia
   rw[XT]
   have sq:=Same.new (o:=.tup ((v.drop ((lo+hi) / 2)).map V.int)) hq
   have hlen:=hz2 _ (List.mem_of_getElem? k2)
   refine Kn.ofS (sq _ _ a2) Ab (by rw[List.length_map,List.length_map,List.length_drop];lia) fun u H2 s2 hu=>?_
   rw[<-List.map_append]at hu
   have s3:=(s1.trans s').trans (sq.trans s2)
   have s4:=s'.trans (sq.trans s2)
   refine⟨_,_,s3 _ _ hb,HK _ _ (by decide +kernel) (by decide +kernel),b,d,u,L,_,es,rfl,bk.mono s3,hu,fun hn2=>?_,fun t' hm=>?_⟩
   ·dsimp only
    rw[if_pos rfl]
    refine⟨by lia,fun x hx=>?_⟩
    obtain⟨f',rfl⟩:∃f',f=f'+1:=⟨f-1,by lia⟩
    refine (k _ (s3.newT hx)).1 _ u x ?_ (Same.new hx _ _ hu) Ab
    rw[e]
    unfold KA
    rw[if_pos hg,UU hn2]
   ·dsimp only
    rw[if_neg (by simp)]
    obtain⟨f',rfl⟩:∃f',f=f'+1:=⟨f-1,by lia⟩
    have e2:KA es W' ws v mk (f'+1) lo hi=if t'=mk then KA es W' ws v mk f' lo ((lo+hi) / 2) else KA es W' ws v mk f' ((lo+hi) / 2) hi:=by
     conv=>lhs;unfold KA
     rw[if_pos hg,Lb nd hm]
    rw[e2]at e
    refine⟨rfl,?_⟩
    by_cases htm:t'=mk
    ·rw[if_pos (by rw[htm])]
     rw[if_pos htm]at e
     exact⟨_,by lia,(hPv _ _ _).mpr ⟨lo,(lo+hi) / 2,f',_,_,_,s4,rfl,by lia,by lia,by lia,e,rfl⟩⟩
    ·rw[if_neg (fun z=>htm (V.int.inj z))]
     rw[if_neg htm]at e
     exact⟨_,by lia,(hPv _ _ _).mpr ⟨(lo+hi) / 2,hi,f',_,_,_,s4,rfl,by lia,by lia,by lia,e,rfl⟩⟩
  ·rw[if_neg s!""]
   have ht':=(s1.trans s') _ _ ht
   refine⟨_,SqT.of ht',?_,fun q hq=>⟨by lia,fun x hx=>?_⟩⟩
   ·rw[HT.sIx_nat,HT.sIx_none,List.length_map];lia
   rw[XT]at hx ⊢
   have sq:=Same.new (o:=.tup ((v.drop hi).map V.int)) hq
   refine (k _ (((s1.trans s').trans sq).newT hx)).2 hi q x ?_ (Same.new hx _ _ Ab) Ab
   rw[e]
   cases f with
   |zero=>rfl
   |succ f=>unfold KA;rw[if_neg hg]
noncomputable def Bw_ (K:PySem.W.Frag)(CA CB:Addr):Sp:=fun vs H Q _=>∃(a:Addr) (ad:AD) (s:AS) (wv:V) (B:Nat),vs=[.ref a]/\Asks K CA CB H a ad s wv/\OkX none B s/\s.G=[]/\Bd B s/\E5 s.L s.W s.E s.es=none/\∀H' r,Asks K CA CB H' a ad (Jg s).1 wv->Frm H H' a ad->((Jg s).2=none->r=.non)->(∀x,(Jg s).2=some x->CM K H' s.L r x)->Q r H'
def M3   (F:Fun K "look_at_guess" "Hunt.look_at_guess" BJ f fd)(T:Txt mg)
  (W:Own K mg C_j7 C_j9 C_ji C_ja C_j1 C_j4)
  (Z:Exs K mg C_j8 C_j5 C_j6 C_j3 C_j2 C_j0)
   (FP:nofun 4 Br Ib ["self"] (Kz_ K C_j1 C_j7)) (D6:Fun K "make_guess" "SayHunt.make_guess" BH Br Ib) (FQ:Au K Ib ["self"] []) (FT:Meth K C_j1 "make_guess" Br)
   (FU:nofun 7 Bs Ic ["self"] (KA_ K C_j1 C_j7)) (D7:Fun K "wrong_word" "SayHunt.wrong_word" BI Bs Ic) (FV:Au K Ic ["self"] []) (FW:Meth K C_j1 "wrong_word" Bs)
  : nofun 8 f fd ["self"] (Bw_ K C_j1 C_j7):=by
 delta My
 ·obtain⟨a,ad,s,wv,B,rfl,_⟩:=h;rfl
 ·obtain⟨a,ad,s,wv,B,rfl,⟨gv,rv,zs,ys,us,x⟩,ok,hG,bd,hst,k⟩:=h
  have hl:=Aq
  have sz:=ok.sz bd
  have tb:=ok.tb
  obtain⟨np,cl⟩:=tb.none (ok.full hG) hst
  have g:GuessOk s.L s.W s.E s.es (Cc s.L s.W s.E s.es) (EO s.L s.W s.E s.es):=tb.guess (ok.full hG) cl
  have wf:=tb.wf g
  refine⟨_,(Ac (Gm (pvD 0) (AM (pvD 0) W.cl_j1 FT FP (hr.mono (by decide)) FQ .nil AN) rfl)
   (Ac (Gm (pvD 0) (AM (pvD 0) W.cl_j1 FW FU (hr.mono (by decide)) FV .nil AN) rfl)
   (Ac (B7 (ptT (AF XD (AY (pvD 0) rfl) Gk (A0 _)))
   (Af (An (F3 (Aa El (Aa (AY (pvD 0) rfl) Ae)))))
   AL)
   (Af (An Gk))))),?_⟩
  nofun
  refine⟨_,_,x.ob,by kernel_rfl,a,ad,s,wv,rfl,⟨_,_,_,_,_,x⟩,sz,tb,ok.full hG,hst,fun h H1 s1 hh=>?_⟩
  have x1:=x.same s1
  refine⟨_,_,_,x1.ob,W.cl_j1,W.n_SayHunt_guess,Rx ..,?_⟩
  rw[HS_]
  have x2:=x1.put (wv':=wv) (gv':=.ref h) (rv':=rv) (s':={s with gs:=some (Cc s.L s.W s.E s.es,EO s.L s.W s.E s.es)}) rfl rfl rfl rfl rfl rfl ⟨h,rfl,hh⟩ x1.rv
  have f2:=(Frm.of s1 a ad).seq (x1.putF (.ins C_j1 ad.dx (afl wv s.L s.most ad.b ad.pw ad.pe ad.pg (.ref h) rv)))
  refine⟨_,_,x2.ob,by kernel_rfl,a,ad,_,wv,_,_,rfl,⟨_,_,_,_,_,x2⟩,rfl,wf,fun e he=>⟨⟨(tb.bW e he).1,ok.ne e he⟩,sz.b e he⟩,fun H3 s3=>⟨fun hno=>?_,fun v t hv ht=>?_⟩⟩
  ·have el:Jg s=({s with gs:=some (Cc s.L s.W s.E s.es,EO s.L s.W s.E s.es),wr:=none},some (.shown (Cc s.L s.W s.E s.es) (EO s.L s.W s.E s.es))):=by
    unfold Jg
    rw[hst]
    dsimp only
    rw[hno]
   have x3:=x2.same s3
   refine⟨_,_,_,x3.ob,W.cl_j1,W.n_SayHunt_wrong,Rx ..,?_⟩
   rw[Vy]
   have x4:=x3.put (wv':=wv) (gv':=.ref h) (rv':=.non) (s':={s with gs:=some (Cc s.L s.W s.E s.es,EO s.L s.W s.E s.es),wr:=none}) rfl rfl rfl rfl rfl rfl x3.gv rfl
   have f4:=(f2.seq (Frm.of s3 a ad)).seq (x3.putF (.ins C_j1 ad.dx (afl wv s.L s.most ad.b ad.pw ad.pe ad.pg (.ref h) .non)))
   refine⟨_,_,_,x4.ob,W.cl_j1,W.n_SayHunt_wrong,_,Og ..,?_⟩
   rw[if_pos rfl]
   refine⟨_,_,_,x4.ob,W.cl_j1,W.n_SayHunt_guess,_,UW ..,by lia,fun p hp=>?_⟩
   refine k _ _ ?_ (f4.seq (Frm.of (Same.new hp) a ad)) ?_ ?_
   ·rw[el];exact⟨_,_,_,_,_,x4.same (Same.new hp)⟩
   ·rw[el];exact fun z=>by cases z
   ·rw[el]
    intro y z
    cases z
    refine⟨p,h,rfl,Ab,?_⟩
    obtain⟨h',e',hh'⟩:=(x4.same (Same.new hp)).gv
    cases e'
    exact hh'
  ·have el:Jg s=({s with gs:=some (Cc s.L s.W s.E s.es,EO s.L s.W s.E s.es),wr:=some v},none):=by
    unfold Jg
    rw[hst]
    dsimp only
    rw[hv]
   have x3:=x2.same s3
   refine⟨_,_,_,x3.ob,W.cl_j1,W.n_SayHunt_wrong,Rx ..,?_⟩
   rw[Vy]
   have x4:=x3.put (wv':=wv) (gv':=.ref h) (rv':=.ref t) (s':={s with gs:=some (Cc s.L s.W s.E s.es,EO s.L s.W s.E s.es),wr:=some v}) rfl rfl rfl rfl rfl rfl x3.gv ⟨t,rfl,ht⟩
   have f4:=(f2.seq (Frm.of s3 a ad)).seq (x3.putF (.ins C_j1 ad.dx (afl wv s.L s.most ad.b ad.pw ad.pe ad.pg (.ref h) (.ref t))))
   refine⟨_,_,_,x4.ob,W.cl_j1,W.n_SayHunt_wrong,_,Og ..,?_⟩
   rw[if_neg (by simp)]
   refine k _ _ ?_ f4 ?_ ?_
   ·rw[el];exact⟨_,_,_,_,_,x4⟩
   ·rw[el];exact fun _=>rfl
   ·rw[el];exact fun y z=>by cases z
noncomputable def OW (K:PySem.W.Frag)(CA CB:Addr)(pre:AS->Prop)(f:AS->AS×Option Wish):Sp:=fun vs H Q _=>∃(a:Addr) (ad:AD) (s:AS) (wv:V) (B:Nat),vs=[.ref a]/\Asks K CA CB H a ad s wv/\OkX none B s/\Bd B s/\pre s/\∀ad' H' r,Asks K CA CB H' a ad' (f s).1 wv->Frm H H' a ad->AdOk H ad ad'->((f s).2=none->r=.non)->(∀x,(f s).2=some x->CM K H' s.L r x)->Q r H'
def LP   (F:Fun K "look_at_words" "Asker.look_at_words" Bz f fd)(T:Txt mg)
  (W:Own K mg C_j7 C_j9 C_ji C_ja C_j1 C_j4)
  (Z:Exs K mg C_j8 C_j5 C_j6 C_j3 C_j2 C_j0)
   (A7:nofun 3 As Be ["self"] (UY K C_j1 C_j7)) (Bn:Fun K "look_for_gaps" "Asker.look_for_gaps" A5 As Be) (A8:Au K Be ["self"] []) (A9:Meth K C_j1 "look_for_gaps" As)
   (FX:nofun 8 Bt Ie ["self"] (Bw_ K C_j1 C_j7)) (D8:Fun K "look_at_guess" "Hunt.look_at_guess" BJ Bt Ie) (FY:Au K Ie ["self"] []) (FZ:Meth K C_j1 "look_at_guess" Bt)
   (RE:nofun 4 IP VF ["book","letters","access","ends"] (XS K C_j7)) (KC:Fun K "stranger" "stranger" Ho IP VF) (RF:Au K VF ["book","letters","access","ends"] []) (RG:mg "stranger"=some (.ref IP))
  : nofun 9 f fd ["self"] (OW K C_j1 C_j7 (fun s=>s.G=[]/\s.wr=none) Jg):=by
 delta Hc
 ·obtain⟨a,ad,s,wv,B,rfl,_⟩:=h;rfl
 ·obtain⟨a,ad,s,wv,B,rfl,⟨gv,rv,zs,ys,us,x⟩,ok,bd,⟨hG,hwr⟩,k⟩:=h
  have hl:=Aq
  have sz:=ok.sz bd
  have tb:=ok.tb
  have w1:=sz.w.1
  have e1:=sz.e.1
  refine⟨_,(Ac (AX (i:=1) Hc.nd (Ay RE (hr.mono (by decide)) rfl RG KC.kp RF .nil AN (Aa (AY (pvD 0) rfl) (Aa (AY (pvD 0) rfl) (Aa (AY (pvD 0) rfl) (Aa (AY (pvD 0) rfl) Ae))))))
   (Ac (B7 (ptT (AF XD (pvD 1) Gk (A0 _)))
   (Af (An (AM (pvD 0) W.cl_j1 FZ FX (hr.mono (by decide)) FY .nil AN)))
   AL)
   (Ac (B7 (ptT (AF (opE KY) (AG (lenD Aj) (by rfl) T.len PySem.boot_len (Aa (AY (pvD 0) rfl) Ae)) (AY (pvD 0) rfl) (A0 _)))
   (Af (An (F3 (Aa El (Aa (pvD 1) Ae)))))
   AL)
   (Ac (Bc (U5 PySem.F.plainAttrs_list PySem.F.slot_list_append PySem.F.type_list_append GO (AY (pvD 0) rfl) (Aa (pvD 1) Ae)))
   (Ac (Bc (AM (pvD 0) W.cl_j1 A9 A7 (hr.mono (by decide)) A8 .nil AN))
   (Af (An Gk))))))),?_⟩
  nofun
  refine⟨_,_,_,x.ob,W.cl_j1,W.n_SayHunt_book,_,Le ..,_,_,_,x.ob,W.cl_j1,W.n_SayHunt_letters,_,IM ..,_,_,_,x.ob,W.cl_j1,W.n_SayHunt_ways,_,Lf ..,_,_,_,x.ob,W.cl_j1,W.n_SayHunt_ends,_,Rw ..,ad.b,ad.d,ad.pw,ad.pe,s.L,s.L,s.es,zs,ys,s.W,s.E,gOf s.E s.es,rfl,x.bk,sz.l6,SqL.of x.w,x.wW,by lia,fun v hv=>by have:=sz.w.2 v hv;lia,SqL.of x.e,x.eW,by lia,sz.e.2,fun v hv=>HP_ (ok.full hG) hv,fun r t H1 hst s1 ht=>?_,fun H1 hst s1=>?_⟩
  ·dsimp only
   rw[if_neg (by simp)]
   have x1:=x.same s1
   have f1:=Frm.of s1 a ad
   have k1:=AdOk.refl H ad
   refine⟨_,_,_,x1.ob,W.cl_j1,W.n_SayHunt_ways,_,Lf ..,ad.pw,rfl,_,.inl (SqL.of x1.w),_,_,_,x1.ob,W.cl_j1,W.n_SayHunt_most,_,Lu_ ..,rfl,?_⟩
   rw[x1.wW.1]
   by_cases hm:s.W.length=s.most
   ·rw[if_pos (by rw[hm])]
    have el:Jg s=(s,some (.spent r)):=by
     unfold Jg
     rw[show E5 s.L s.W s.E s.es=some r from hst]
     dsimp only
     rw[if_pos hm]
    refine⟨by lia,fun p hp=>?_⟩
    refine k ad _ _ ?_ (f1.seq (Frm.of (Same.new hp) a ad)) k1 ?_ ?_
    ·rw[el];exact⟨_,_,_,_,_,x1.same (Same.new hp)⟩
    ·rw[el];exact fun z=>by cases z
    ·rw[el]
     intro y z
     cases z
     exact⟨p,t,rfl,Ab,Same.new hp _ _ ht⟩
   ·rw[if_neg (fun z=>hm (by have:=V.int.inj z;lia))]
    have el:Jg s=({s with W:=s.W++[r],G:=Lw s.L (s.W++[r]) s.E s.es},none):=by
     unfold Jg
     rw[show E5 s.L s.W s.E s.es=some r from hst]
     dsimp only
     rw[if_neg hm]
    have x2:=x1.putW (x1.wW.snoc ht)
    have f2:=f1.seq (Frm.put (a:=a) (o:=.lst (zs++[.ref t])) (.inl rfl) ⟨_,x1.w⟩)
    obtain⟨o2,kp,_⟩:=(HQ_ ok hG hwr).1 _ el
    have sz2:=o2.sz (B:=B) bd
    refine⟨_,_,_,x1.ob,W.cl_j1,W.n_SayHunt_ways,_,Lf ..,.inl ⟨rfl,_,SqL.of x1.w⟩,ad.pw,rfl,_,x1.w,by rw[x1.wW.1];lia,_,_,x2.ob,by kernel_rfl,a,ad,_,wv,rfl,⟨_,_,_,_,_,x2⟩,⟨sz2.l6,sz2.w,sz2.e,sz2.b⟩,fun ad' H3 x3 f3 k3=>?_⟩
    refine k ad' H3 _ ?_ (f2.trans k1 f3) (AdOk.trans f2 k1 k3) ?_ ?_
    ·rw[el];exact x3
    ·rw[el];exact fun _=>rfl
    ·rw[el];exact fun y z=>by cases z
  ·dsimp only
   rw[if_pos rfl]
   have x1:=x.same s1
   have f1:=Frm.of s1 a ad
   have k1:=AdOk.refl H ad
   exact⟨_,_,x1.ob,by kernel_rfl,a,ad,s,wv,B,rfl,⟨_,_,_,_,_,x1⟩,ok,hG,bd,hst,fun H3 r x3 f3=>k ad H3 r x3 (f1.seq f3) k1⟩
def W3   (F:Fun K "halve" "Asker.halve" EH f fd)(T:Txt mg)
  (W:Own K mg C_j7 C_j9 C_ji C_ja C_j1 C_j4)
  (Z:Exs K mg C_j8 C_j5 C_j6 C_j3 C_j2 C_j0)
   (YJ:nofun 4 Oi Bx_ ["book","access","guess","word","mark","last"] (Bv_ K C_j7)) (P9:Fun K "halved" "halved" K5 Oi Bx_) (YK:Au K Bx_ ["book","access","guess","word","mark","last"] []) (YL:mg "halved"=some (.ref Oi))
   (A7:nofun 3 As Be ["self"] (UY K C_j1 C_j7)) (Bn:Fun K "look_for_gaps" "Asker.look_for_gaps" A5 As Be) (A8:Au K Be ["self"] []) (A9:Meth K C_j1 "look_for_gaps" As)
   (Dq:nofun 6 Bq Ec ["self","house","word"] (OV K)) (Dr:Fun K "answer" "SayHunt.answer" B9 Bq Ec) (Ds:Au K Ec ["self","house","word"] []) (Dt:Meth K C_j1 "answer" Bq)
  : nofun 7 f fd ["self"] (OW K C_j1 C_j7 (fun s=>s.G=[]/\s.wr≠none) EW):=by
 delta HN
 ·obtain⟨a,ad,s,wv,B,rfl,_⟩:=h;rfl
 ·obtain⟨a,ad,s,wv,B,rfl,⟨gv,rv,zs,ys,us,x⟩,ok,bd,⟨hG,hwr⟩,k⟩:=h
  have hl:=Aq
  have sz:=ok.sz bd
  have tb:=ok.tb
  have w1:=sz.w.1
  have e1:=sz.e.1
  obtain⟨v,hv⟩:=Option.ne_none_iff_exists'.mp hwr
  obtain⟨_,hEW,hvW,hvl,m,ws,tt,hgs,g,htt,hne⟩:=ok.wr v hv
  have en:EW s=P5 s v m ws:=by
   unfold EW
   rw[hG,hv,hgs]
  have wf:=tb.wf g
  have hgv:=x.gv
  rw[hgs]at hgv
  obtain⟨h,rfl,hh⟩:=hgv
  have hrv:=x.rv
  rw[hv]at hrv
  obtain⟨t,rfl,ht⟩:=hrv
  refine⟨_,(Ac (AX (i:=1) HN.nd (DV (pvD 0) W.cl_j1 Dt Dq (hr.mono (by decide)) Ds .nil AN (Aa (AY (pvD 0) rfl) (Aa (AY (pvD 0) rfl) Ae))))
   (Ac (AX (i:=2) HN.nd (BU (opD0 AN_) (AG (lenD Aj) (by rfl) T.len PySem.boot_len (Aa (AY (pvD 0) rfl) Ae)) (AG (lenD Aj) (by rfl) T.len PySem.boot_len (Aa (Ar (ixLD Cj) (AY (pvD 0) rfl) Ah) Ae))))
   (Ac (AX (i:=3) HN.nd (Ay YJ (hr.mono (by decide)) rfl YL P9.kp YK .nil AN (Aa (AY (pvD 0) rfl) (Aa (AY (pvD 0) rfl) (Aa (AY (pvD 0) rfl) (Aa (AY (pvD 0) rfl) (Aa (pvD 1) (Aa (pvD 2) Ae))))))))
   (Ac (B7 (ptT (AF (opE KY) (Ar (ixTD AZ) (pvD 3) Ah) El (A0 _)))
   (Af (An (pvD 3)))
   AL)
   (Ac (Gm (pvD 0) Gk rfl)
   (Ac (Bc (U5 PySem.F.plainAttrs_list PySem.F.slot_list_append PySem.F.type_list_append GO (AY (pvD 0) rfl) (Aa (Ar (ixTD AZ) (pvD 3) Ah) Ae)))
   (Ac (Bc (AM (pvD 0) W.cl_j1 A9 A7 (hr.mono (by decide)) A8 .nil AN))
   (Af (An Gk))))))))),?_⟩
  nofun
  obtain⟨hvn,_,_,hv1⟩:=Vx ok g hvW htt hne
  have hvl2:v.length<=600:=by
   have:=ok.lens
   unfold Bd at bd
   lia
  refine⟨_,_,x.ob,by kernel_rfl,_,_,_,x.ob,W.cl_j1,W.n_SayHunt_guess,_,UW ..,_,_,_,x.ob,W.cl_j1,W.n_SayHunt_wrong,_,Og ..,a,h,t,s.L,m,ws,v,rfl,hh.house,wf,SqT.of ht,hvl2,hvW,hvn,fun H1 s1=>?_⟩
  have x1:=x.same s1
  have f1:=Frm.of s1 a ad
  have k1:=AdOk.refl H ad
  obtain⟨t0,q1,q2⟩:=x1.eW.2 0 [0] tb.ends0
  have ht1:=s1 _ _ ht
  refine⟨_,_,_,x1.ob,W.cl_j1,W.n_SayHunt_wrong,_,Og ..,t,rfl,_,.inr (SqT.of ht1),_,_,_,x1.ob,W.cl_j1,W.n_SayHunt_ends,_,Rw ..,ad.pe,rfl,_,SqL.of x1.e,_,Cr (j:=0) q1,t0,rfl,_,.inr (SqT.of q2),_,_,_,x1.ob,W.cl_j1,W.n_SayHunt_book,_,Le ..,_,_,_,x1.ob,W.cl_j1,W.n_SayHunt_ways,_,Lf ..,_,_,_,x1.ob,W.cl_j1,W.n_SayHunt_guess,_,UW ..,_,_,_,x1.ob,W.cl_j1,W.n_SayHunt_wrong,_,Og ..,ad.b,ad.d,ad.pw,h,t,s.L,s.es,zs,s.W,m,ws,v,lsay m ws v,v.length-1,by simp;lia,x1.bk,x1.w,x1.wW,(hh.mono (TK.of s1)).house,wf,ht1,hvW,hv1,by lia,hvl2,sz.w.2,fun i _=>P6 tb g hvW i,fun H2 s2=>⟨fun c u t' hc hu ht'=>?_,fun hi u t' hc hu ht'=>?_⟩⟩
  ·have el:EW s=(s,some (.ask c)):=by
    rw[en]
    unfold P5
    rw[hc]
   refine⟨t',rfl,_,SqT.of ht',_,rfl,rfl,?_⟩
   rw[if_pos rfl]
   refine k ad H2 _ ?_ (f1.seq (Frm.of s2 a ad)) k1 ?_ ?_
   ·rw[el];exact⟨_,_,_,_,_,x1.same s2⟩
   ·rw[el];exact fun z=>by cases z
   ·rw[el]
    intro y z
    cases z
    exact⟨t',u,rfl,ht',hu⟩
  ·have el:EW s=({s with wr:=none,E:=s.E++[v.drop hi],G:=Lw s.L s.W (s.E++[v.drop hi]) s.es},none):=by
    rw[en]
    unfold P5
    rw[hc]
   have x2:=x1.same s2
   have f2:=f1.seq (Frm.of s2 a ad)
   refine⟨t',rfl,_,SqT.of ht',_,rfl,rfl,?_⟩
   rw[if_neg (fun z=>absurd (V.str.inj z) (by decide +kernel))]
   refine⟨_,_,_,x2.ob,W.cl_j1,W.n_SayHunt_wrong,Rx ..,?_⟩
   rw[Vy]
   have x3:=x2.put (wv':=wv) (gv':=.ref h) (rv':=.non) (s':={s with wr:=none}) rfl rfl rfl rfl rfl rfl x2.gv rfl
   have f3:=f2.seq (x2.putF (.ins C_j1 ad.dx (afl wv s.L s.most ad.b ad.pw ad.pe ad.pg (.ref h) .non)))
   have tk3:=x2.tkob (.ins C_j1 ad.dx (afl wv s.L s.most ad.b ad.pw ad.pe ad.pg (.ref h) .non))
   have ht3:=tk3 _ _ ht'
   have hu3:=tk3 _ _ hu
   have x4:=x3.putE (x3.eW.snoc hu3)
   have f4:=f3.seq (Frm.put (a:=a) (o:=.lst (ys++[.ref u])) (.inr (.inl rfl)) ⟨_,x3.e⟩)
   obtain⟨o2,kp,_⟩:=(OR ok).1 _ el
   have sz2:=o2.sz (B:=B) bd
   refine⟨_,_,_,x3.ob,W.cl_j1,W.n_SayHunt_ends,_,Rw ..,.inl ⟨rfl,_,SqL.of x3.e⟩,t',rfl,_,SqT.of ht3,_,rfl,ad.pe,rfl,_,x3.e,by rw[x3.eW.1];show s.E.length<_;lia,_,_,x4.ob,by kernel_rfl,a,ad,_,wv,rfl,⟨_,_,_,_,_,x4⟩,⟨sz2.l6,sz2.w,sz2.e,sz2.b⟩,fun ad' H3 x5 f5 k5=>?_⟩
   refine k ad' H3 _ ?_ (f4.trans k1 f5) (AdOk.trans f4 k1 k5) ?_ ?_
   ·rw[el];exact x5
   ·rw[el];exact fun _=>rfl
   ·rw[el];exact fun y z=>by cases z
def RH   (F:Fun K "next_wish" "Hunt.next_wish" CI f fd)(T:Txt mg)
  (W:Own K mg C_j7 C_j9 C_ji C_ja C_j1 C_j4)
  (Z:Exs K mg C_j8 C_j5 C_j6 C_j3 C_j2 C_j0)
   (Lg:nofun 7 DF OE ["self"] (OW K C_j1 C_j7 (fun s=>s.G=[]/\s.wr≠none) EW)) (II:Fun K "halve" "Asker.halve" EH DF OE) (Lh:Au K OE ["self"] []) (Li:Meth K C_j1 "halve" DF)
   (Ft:nofun 9 Bo Hf ["self"] (OW K C_j1 C_j7 (fun s=>s.G=[]/\s.wr=none) Jg)) (DG:Fun K "look_at_words" "Asker.look_at_words" Bz Bo Hf) (Fu:Au K Hf ["self"] []) (Fv:Meth K C_j1 "look_at_words" Bo)
  : nofun 10 f fd ["self"] (OW K C_j1 C_j7 (fun _=>True) EW):=by
 delta Rh
 ·obtain⟨a,ad,s,wv,B,rfl,_⟩:=h;rfl
 ·obtain⟨a,ad,s,wv,B,rfl,⟨gv,rv,zs,ys,us,x⟩,ok,bd,_,k⟩:=h
  have hl:=Aq
  refine⟨_,(Ac (B7 (ptT (AF (opD0 Gz_) (AG (lenD Aj) (by rfl) T.len PySem.boot_len (Aa (AY (pvD 0) rfl) Ae)) Ah (A0 _)))
   (Af (An (F3 (Aa El (Aa (U5 PySem.F.plainAttrs_list PySem.F.slot_list_pop PySem.F.type_list_pop IA_ (AY (pvD 0) rfl) (Aa Ah Ae)) Ae)))))
   AL)
   (Ac (B7 (ptT (AF GA_ (AY (pvD 0) rfl) Gk (A0 _)))
   (Af (An (AM (pvD 0) W.cl_j1 Li Lg (hr.mono (by decide)) Lh .nil AN)))
   AL)
   (Af (An (AM (pvD 0) W.cl_j1 Fv Ft (hr.mono (by decide)) Fu .nil AN))))),?_⟩
  nofun
  refine⟨_,_,_,x.ob,W.cl_j1,W.n_SayHunt_gaps,_,HR_ ..,ad.pg,rfl,_,.inl (SqL.of x.g),?_⟩
  cases hG:s.G with
  |cons c r=>
   have hgl:us.length=r.length+1:=by rw[x.gW.1,hG];rfl
   have hgW:=x.gW
   rw[hG]at hgW
   obtain⟨tc,g1,g2⟩:=hgW.2 0 c rfl
   rw[if_pos s!""]
   have el:EW s=({s with G:=r},some (.ask c)):=by
    unfold EW
    rw[hG]
   have x2:=x.putG (Am.tail39 hgW)
   have f2:Frm H (upd H ad.pg (.lst (us.eraseIdx 0))) a ad:=Frm.put (.inr (.inr (.inl rfl))) ⟨_,x.g⟩
   have tk2:=TK.lst x.g (o:=.lst (us.eraseIdx 0))
   refine⟨_,_,_,x.ob,W.cl_j1,W.n_SayHunt_gaps,_,HR_ ..,.inl ⟨rfl,_,SqL.of x.g⟩,ad.pg,rfl,_,x.g,by decide,by decide,0,Nf_ (i:=0) s!"",_,g1,by lia,fun p hp=>?_⟩
   refine k ad _ _ ?_ (f2.seq (Frm.of (Same.new hp) a ad)) (AdOk.refl H ad) ?_ ?_
   ·rw[el];exact⟨_,_,_,_,_,x2.same (Same.new hp)⟩
   ·rw[el];exact fun z=>by cases z
   ·rw[el]
    intro y z
    cases z
    exact⟨p,tc,rfl,Ab,Same.new hp _ _ (tk2 _ _ g2)⟩
  |nil=>
   rw[if_neg (by rw[x.gW.1,hG];simp)]
   refine⟨_,_,_,x.ob,W.cl_j1,W.n_SayHunt_wrong,_,Og ..,?_⟩
   cases hwr:s.wr with
   |none=>
    have hrv:=x.rv
    rw[hwr]at hrv
    have hrv:rv=.non:=hrv
    subst hrv
    have en:EW s=Jg s:=by
     unfold EW
     rw[hG,hwr]
    rw[en]at k
    rw[if_neg (by simp)]
    exact⟨_,_,x.ob,by kernel_rfl,a,ad,s,wv,B,rfl,⟨_,_,_,_,_,x⟩,ok,bd,⟨hG,hwr⟩,k⟩
   |some v=>
    have hrv:=x.rv
    rw[hwr]at hrv
    obtain⟨t,rfl,ht⟩:=hrv
    rw[if_pos (by simp)]
    exact⟨_,_,x.ob,by kernel_rfl,a,ad,s,wv,B,rfl,⟨_,_,_,_,_,x⟩,ok,bd,⟨hG,by rw[hwr];simp⟩,k⟩
noncomputable def YM (K:PySem.W.Frag)(CA CB:Addr):Sp:=fun vs H Q _=>∃(a:Addr) (ad:AD) (s:AS) (wv:V) (B:Nat),vs=[.ref a]/\Asks K CA CB H a ad s wv/\OkX none B s/\Bd B s/\∀ad' H' s' x wv',Goes s s' x->Asks K CA CB H' a ad' s' wv'->CM K H' s.L wv' x->Frm H H' a ad->AdOk H ad ad'->Q .non H'
def W4   (F:Fun K "go_on" "Turns.go_on" CN f fd)(T:Txt mg)
  (W:Own K mg C_j7 C_j9 C_ji C_ja C_j1 C_j4)
  (Z:Exs K mg C_j8 C_j5 C_j6 C_j3 C_j2 C_j0)
   (F7:nofun 10 Cd KD ["self"] (OW K C_j1 C_j7 (fun _=>True) EW)) (F8:Fun K "next_wish" "Hunt.next_wish" CI Cd KD) (F9:Au K KD ["self"] []) (Ga:Meth K C_j1 "next_wish" Cd)
  : nofun 11 f fd ["self"] (YM K C_j1 C_j7):=by
 delta WV
 ·obtain⟨a,ad,s,wv,B,rfl,_⟩:=h;rfl
 ·obtain⟨a,ad,s,wv,B,rfl,⟨gv,rv,zs,ys,us,x⟩,ok,bd,k⟩:=h
  have hl:=Aq
  refine⟨_,(Ac (Gm (pvD 0) (AM (pvD 0) W.cl_j1 Ga F7 (hr.mono (by decide)) F9 .nil AN) rfl)
   (Af (X2 PassesOwn.never (ptT (AF XD (AY (pvD 0) rfl) Gk (A0 _)))
   (Af (Gm (pvD 0) (AM (pvD 0) W.cl_j1 Ga F7 (hr.mono (by decide)) F9 .nil AN) rfl))))),?_⟩
  nofun
  obtain⟨Pv,hPv⟩:∃Pv:Nat->St->Hp->Prop,∀n σ' H',Pv n σ' H'↔(∃(ad1:AD) (s1:AS) (wv1:V),Asks K C_j1 C_j7 H' a ad1 s1 wv1/\Frm H H' a ad/\AdOk H ad ad1/\σ'=[some (.ref a)]/\((wv1=.non/\OkX none B s1/\Kept s s1/\(∀s' y,Goes s1 s' y->Goes s s' y)/\n=mu s1+1) \/ ∃y,CM K H' s.L wv1 y/\Goes s s1 y/\n=0)):=⟨_,fun _ _ _=>Iff.rfl⟩
  have step:∀(s1:AS) (ad1:AD) (wv1:V) (H1:Hp) (M:Nat),Asks K C_j1 C_j7 H1 a ad1 s1 wv1->Frm H H1 a ad->AdOk H ad ad1->OkX none B s1->Kept s s1->(∀s' y,Goes s1 s' y->Goes s s' y)->mu s1<=M->∃x x_1,H1 a=some (HO.ins C_j1 x x_1)/\List.lookup ("next_wish" : Str) x_1=none/\OW K C_j1 C_j7 (fun x=>True) EW [V.ref a] H1 (fun y H1=>∃x x_2 x_3,H1 a=some (HO.ins x x_2 x_3)/\Cls K x/\FN K x ("wish" : Str)/\x_3.length<1000/\∃m',m'<M+1/\Pv m' [some (V.ref a)] (upd H1 a (HO.ins x x_2 (putF ("wish" : Str) y x_3)))) E0:=by
   rintro s1 ad1 wv1 H1 M ⟨gv,rv,zs,ys,us,x1⟩ f1 k1 ok1 kp1 go1 hM
   refine⟨_,_,x1.ob,by kernel_rfl,a,ad1,s1,wv1,B,rfl,⟨_,_,_,_,_,x1⟩,ok1,by unfold Bd at bd ⊢;rw[kp1.m,kp1.l];exact bd,trivial,fun ad2 H2 r x2 f2 k2 hN hS=>?_⟩
   obtain⟨gv2,rv2,zs2,ys2,us2,x2⟩:=x2
   refine⟨_,_,_,x2.ob,W.cl_j1,W.n_SayHunt_wish,Rx ..,?_⟩
   rw[EN_]
   have x3:=x2.put (wv':=r) (gv':=gv2) (rv':=rv2) (s':=(EW s1).1) rfl rfl rfl rfl rfl rfl x2.gv x2.rv
   have f3:=(f1.trans k1 f2).trans (AdOk.trans f1 k1 k2) (x2.putF (.ins C_j1 ad2.dx (afl r (EW s1).1.L (EW s1).1.most ad2.b ad2.pw ad2.pe ad2.pg gv2 rv2)))
   have tk:=x2.tkob (.ins C_j1 ad2.dx (afl r (EW s1).1.L (EW s1).1.most ad2.b ad2.pw ad2.pe ad2.pg gv2 rv2))
   have k3:=AdOk.trans f1 k1 k2
   cases hn:(EW s1).2 with
   |none=>
    have e1:EW s1=((EW s1).1,none):=by rw[<-hn]
    obtain⟨ok2,kp2,hmu⟩:=(OR ok1).1 _ e1
    refine⟨mu (EW s1).1+1,by lia,(hPv _ _ _).mpr ⟨ad2,_,r,⟨_,_,_,_,_,x3⟩,f3,k3,rfl,.inl ⟨hN hn,ok2,⟨kp2.l.trans kp1.l,kp2.m.trans kp1.m,kp2.e.trans kp1.e⟩,fun s' y hy=>go1 s' y (.more e1 hy),rfl⟩⟩⟩
   |some y=>
    have e1:EW s1=((EW s1).1,some y):=by rw[<-hn]
    have hw:=(hS y hn).mono tk
    rw[kp1.l]at hw
    exact⟨0,by lia,(hPv _ _ _).mpr ⟨ad2,_,r,⟨_,_,_,_,_,x3⟩,f3,k3,rfl,.inr ⟨y,hw,go1 _ _ (.stop e1),rfl⟩⟩⟩
  obtain⟨c1,c2,c3,c4,c5⟩:=step s ad wv H (mu s+1) ⟨_,_,_,_,_,x⟩ (Frm.of (Same.refl _) a ad) (AdOk.refl H ad) ok ⟨rfl,rfl,rfl⟩ (fun _ _ z=>z) s!""
  refine⟨c1,c2,c3,c4,?_⟩
  obtain⟨a',ad',s',wv',B',e1,e2,e3,e4,e5,e6⟩:=c5
  refine⟨a',ad',s',wv',B',e1,e2,e3,e4,e5,fun ad2 H2 r x2 f2 k2 hN hS=>?_⟩
  obtain⟨d1,d2,d3,d4,d5,d6,d7,m',_,d8⟩:=e6 ad2 H2 r x2 f2 k2 hN hS
  refine⟨d1,d2,d3,d4,d5,d6,d7,Hd_ Pv ⟨m',d8⟩ fun n σ' H' h'=>?_⟩
  obtain⟨ad1,s1,wv1,⟨gv,rv,zs,ys,us,x1⟩,f1,k1,rfl,hh⟩:=(hPv _ _ _).mp h'
  nofun
  refine⟨_,_,_,x1.ob,W.cl_j1,W.n_SayHunt_wish,_,OS ..,?_⟩
  rcases hh with ⟨rfl,ok1,kp1,go1,hn⟩|⟨y,hw,go1,hn⟩
  ·rw[if_pos rfl]
   refine⟨fun σ2 H2=>∃m',m'<n/\Pv m' σ2 H2,fun _ _ z=>z,?_⟩
   subst hn
   exact step s1 ad1 _ H' (mu s1) ⟨_,_,_,_,_,x1⟩ f1 k1 ok1 kp1 go1 s!""
  ·obtain⟨t,u,e,_⟩:=id hw
   rw[if_neg (by rw[e];simp)]
   exact k ad1 _ s1 y wv1 go1 ⟨_,_,_,_,_,x1⟩ hw f1 k1
noncomputable def KB_ (K:PySem.W.Frag)(CA CB:Addr)(H:Hp)(a:Addr)(ad:AD)(s:AS)(Q:VK):Prop:=∀ad' H' s' x' wv',Goes s s' x'->Asks K CA CB H' a ad' s' wv'->CM K H' s.L wv' x'->Frm H H' a ad->AdOk H ad ad'->Q .non H'
noncomputable def YN (K:PySem.W.Frag)(CA CB OT BM:Addr):Sp:=fun vs H Q E=>∃(a:Addr) (ad:AD) (s:AS) (wv:V) (x:Wish) (B:Nat) (m:Int),vs=[.ref a,.int m]/\Asks K CA CB H a ad s wv/\CM K H s.L wv x/\WOk B s x/\Bd B s/\s.es.length<=100000/\(x.tag ≠ "ask" -> E (.ref OT) none H)/\∀c,x=.ask c->(¬ (0<=m/\m<=1000000000)->∀H',Same H H'->E (.ref BM) none H')/\(0<=m->m<=1000000000->KB_ K CA CB H a ad {s with es:=s.es++[(c,m)]} Q)
def OX   (F:Fun K "keep_answer" "Hunt.keep_answer" B4 f fd)(T:Txt mg)
  (W:Own K mg C_j7 C_j9 C_ji C_ja C_j1 C_j4)
  (Z:Exs K mg C_j8 C_j5 C_j6 C_j3 C_j2 C_j0)
   (CP:nofun 11 Bx C0 ["self"] (YM K C_j1 C_j7)) (DH:Fun K "go_on" "Turns.go_on" CN Bx C0) (CQ:Au K C0 ["self"] []) (CT:Meth K C_j1 "go_on" Bx)
   (IQ:FnOk P w K mg base (CXe P w) 4 Ed Jk ["self","word","mark"] (MO C_j7 C_j5 C_j6 C_j0)) (IS:Fun K "put" "Book.put" Gp Ed Jk) (IT:Au K Jk ["self","word","mark"] []) (IU:Meth K C_j7 "put" Ed)
   (AO:FnOk P w K mg base (CXe P w) 1 Ap AU ["self","deed"] (MV K C_j1 C_j7 C_j3)) (Bb:Fun K "check_wants" "Turns.check_wants" Ba Ap AU) (AQ:Au K AU ["self","deed"] []) (AR:Meth K C_j1 "check_wants" Ap)
  : FnOk P w K mg base (CXe P w) 12 f fd ["self","number"] (YN K C_j1 C_j7 C_j3 C_j6):=by
 refine F.okE OO (fun vs H Q E h=>?_) (fun cdv A outer s H vs Q E hr h=>?_)
 ·obtain⟨a,ad,s,wv,x,B,m,rfl,_⟩:=h;rfl
 ·obtain⟨a,ad,s,wv,y,B,m,rfl,⟨gv,rv,zs,ys,us,x⟩,hw,ok,bd,hz,kE,k⟩:=h
  have hl:=Aq
  refine⟨_,(Ac (Bc (DV (pvD 0) W.cl_j1 AR AO (hr.mono (by decide)) AQ .nil (Km fun _ _ _ h=>h) (Aa El Ae)))
   (Ac (Bc (DV (AY (pvD 0) rfl) W.cl_j7 IU IQ (hr.mono (by decide)) IT .nil (Km fun _ _ _ h=>h) (Aa (Ar (ixTD AZ) (AY (pvD 0) rfl) Ah) (Aa (pvD 1) Ae))))
   (Af (Bc (AM (pvD 0) W.cl_j1 CT CP (hr.mono (by decide)) CQ .nil AN))))),?_⟩
  nofun
  refine⟨_,_,x.ob,by kernel_rfl,a,ad,s,wv,y,"ask",rfl,⟨_,_,_,_,_,x⟩,hw,fun htag=>?_,kE⟩
  cases y with
  |shown mm ws=>exact absurd htag (show ¬ ("show" : Str) = "ask" by decide +kernel)
  |done mm ws=>exact absurd htag (show ¬ ("done" : Str) = "ask" by decide +kernel)
  |spent c=>exact absurd htag (show ¬ ("spent" : Str) = "ask" by decide +kernel)
  |ask c=>
   obtain⟨t,u,rfl,ht,hu⟩:=hw
   obtain⟨kM,kk⟩:=k c rfl
   obtain⟨okc,hn,hc,hlen,hg⟩:=ok
   have hcw:=hc.1
   obtain⟨dxb,hb⟩:=x.bk.ob
   have hnk:c∉s.es.map (·.1):=fun z=>by
    obtain⟨n,hn'⟩:=Vv.mp z
    rw[hn]at hn';cases hn'
   have hcl:c.length<=900:=by
    have h1:=okc.lens
    unfold Bd at bd
    split at hlen<;>lia
   refine⟨_,_,_,x.ob,W.cl_j1,W.n_SayHunt_book,_,Le ..,ad.b,rfl,_,_,hb,HK _ _ (by decide +kernel) (by decide +kernel),_,_,_,x.ob,W.cl_j1,W.n_SayHunt_wish,_,OS ..,t,rfl,_,SqT.of ht,_,rfl,ad.b,ad.d,u,s.L,m,c,s.es,rfl,x.bk,hu,hcl,hz,fun z=>(by rw[hcw]at z;cases z),fun _ hm H' s'=>kM hm H' s',fun _ _ _ n hin _ _ _=>absurd (List.mem_map.mpr ⟨_,hin,rfl⟩) hnk,fun _ h0 h9 _ H' hb' hf=>?_⟩
   unfold putE at hb'
   rw[if_neg hnk]at hb'
   obtain⟨x2,f2,tk2⟩:=x.putB hb' hf
   exact⟨_,_,x2.ob,by kernel_rfl,a,ad,_,_,B,rfl,⟨_,_,_,_,_,x2⟩,okc.told (fun b hb=>(Option.some.inj hb).symm) hnk hc h0 h9 hlen hg,bd,fun ad' H3 s' y' wv' go x3 hw3 f3 k3=>kk h0 h9 ad' H3 s' y' wv' go x3 hw3 (f2.trans (AdOk.refl H ad) f3) (AdOk.trans f2 (AdOk.refl H ad) k3)⟩
noncomputable def EV_ (K:PySem.W.Frag)(CA CB OT:Addr):Sp:=fun vs H Q E=>∃(a:Addr) (ad:AD) (s:AS) (wv:V) (x:Wish),vs=[.ref a]/\Asks K CA CB H a ad s wv/\CM K H s.L wv x/\(x.tag ≠ "show" -> E (.ref OT) none H)/\∀mm ws,x=.shown mm ws->∀H' wv',Asks K CA CB H' a ad s wv'->CM K H' s.L wv' (.done mm ws)->Frm H H' a ad->Q .non H'
def YO   (F:Fun K "agree" "Hunt.agree" Fg f fd)(T:Txt mg)
  (W:Own K mg C_j7 C_j9 C_ji C_ja C_j1 C_j4)
  (Z:Exs K mg C_j8 C_j5 C_j6 C_j3 C_j2 C_j0)
   (AO:FnOk P w K mg base (CXe P w) 1 Ap AU ["self","deed"] (MV K C_j1 C_j7 C_j3)) (Bb:Fun K "check_wants" "Turns.check_wants" Ba Ap AU) (AQ:Au K AU ["self","deed"] []) (AR:Meth K C_j1 "check_wants" Ap)
  : FnOk P w K mg base (CXe P w) 2 f fd ["self"] (EV_ K C_j1 C_j7 C_j3):=by
 refine F.okE Yw (fun vs H Q E h=>?_) (fun cdv A outer s H vs Q E hr h=>?_)
 ·obtain⟨a,ad,s,wv,x,rfl,_⟩:=h;rfl
 ·obtain⟨a,ad,s,wv,y,rfl,⟨gv,rv,zs,ys,us,x⟩,hw,kE,k⟩:=h
  have hl:=Aq
  refine⟨_,(Ac (Bc (DV (pvD 0) W.cl_j1 AR AO (hr.mono (by decide)) AQ .nil (Km fun _ _ _ h=>h) (Aa El Ae)))
   (Af (Gm (pvD 0) (F3 (Aa El (Aa (Ar (ixTD AZ) (AY (pvD 0) rfl) Ah) Ae))) rfl))),?_⟩
  nofun
  refine⟨_,_,x.ob,by kernel_rfl,a,ad,s,wv,y,"show",rfl,⟨_,_,_,_,_,x⟩,hw,fun htag=>?_,kE⟩
  cases y with
  |ask c=>exact absurd htag (show ¬ ("ask" : Str) = "show" by decide +kernel)
  |done mm ws=>exact absurd htag (show ¬ ("done" : Str) = "show" by decide +kernel)
  |spent c=>exact absurd htag (show ¬ ("spent" : Str) = "show" by decide +kernel)
  |shown mm ws=>
   obtain⟨t,u,rfl,ht,hu⟩:=hw
   refine⟨_,_,_,x.ob,W.cl_j1,W.n_SayHunt_wish,_,OS ..,t,rfl,_,SqT.of ht,_,rfl,by lia,fun p hp=>?_⟩
   have x1:=x.same (Same.new hp (o:=.tup [.str "done",.ref u]))
   refine⟨_,_,_,x1.ob,W.cl_j1,W.n_SayHunt_wish,Rx ..,?_⟩
   rw[EN_]
   have x2:=x1.put (wv':=.ref p) (gv':=gv) (rv':=rv) (s':=s) rfl rfl rfl rfl rfl rfl x1.gv x1.rv
   have tk:=x1.tkob (.ins C_j1 ad.dx (afl (.ref p) s.L s.most ad.b ad.pw ad.pe ad.pg gv rv))
   exact k mm ws rfl _ _ ⟨_,_,_,_,_,x2⟩ ⟨p,u,rfl,tk _ _ Ab,HouT.mono hu (TK.trans (TK.new hp) tk)⟩ ((Frm.of (Same.new hp) a ad).seq (x1.putF _))
noncomputable def EW_ (K:PySem.W.Frag)(CA CB OT BW BM ND CO:Addr):Sp:=fun vs H Q E=>∃(a t:Addr) (ad:AD) (s:AS) (wv:V) (x:Wish) (B:Nat) (w:List Int) (m:Int),vs=[.ref a,.ref t,.int m]/\Asks K CA CB H a ad s wv/\CM K H s.L wv x/\WOk B s x/\Bd B s/\s.es.length<=100000/\H t=some (.tup (w.map V.int))/\w ≠ []/\w.length<=600/\(x.tag ≠ "show" -> E (.ref OT) none H)/\∀mm ws,x=.shown mm ws->(isW s.L w=false->∀H',Same H H'->E (.ref BW) none H')/\(isW s.L w=true->¬ (0<=m/\m<=1000000000)->∀H',Same H H'->E (.ref BM) none H')/\(isW s.L w=true->0<=m->m<=1000000000->(lsay mm ws w=m->∀H',Same H H'->E (.ref ND) none H')/\(lsay mm ws w≠m->w∈s.es.map (·.1)->∀H',Same H H'->E (.ref CO) none H')/\(lsay mm ws w≠m->w∉s.es.map (·.1)->w.length<=B+(s.most+1)*s.E.length/\KB_ K CA CB H a ad {s with es:=s.es++[(w,m)]} Q))
def LQ   (F:Fun K "keep_objection" "Hunt.keep_objection" BA f fd)(T:Txt mg)
  (W:Own K mg C_j7 C_j9 C_ji C_ja C_j1 C_j4)
  (Z:Exs K mg C_j8 C_j5 C_j6 C_j3 C_j2 C_j0)
   (Dq:nofun 6 Bq Ec ["self","house","word"] (OV K)) (Dr:Fun K "answer" "SayHunt.answer" B9 Bq Ec) (Ds:Au K Ec ["self","house","word"] []) (Dt:Meth K C_j1 "answer" Bq)
   (CP:nofun 11 Bx C0 ["self"] (YM K C_j1 C_j7)) (DH:Fun K "go_on" "Turns.go_on" CN Bx C0) (CQ:Au K C0 ["self"] []) (CT:Meth K C_j1 "go_on" Bx)
   (Gw:FnOk P w K mg base (CXe P w) 3 Ct GS ["self","word","mark"] (J4 C_j7 C_j5 C_j6)) (Gx:Fun K "check" "Book.check" Er Ct GS) (Gy:Au K GS ["self","word","mark"] []) (Gz:Meth K C_j7 "check" Ct)
   (IQ:FnOk P w K mg base (CXe P w) 4 Ed Jk ["self","word","mark"] (MO C_j7 C_j5 C_j6 C_j0)) (IS:Fun K "put" "Book.put" Gp Ed Jk) (IT:Au K Jk ["self","word","mark"] []) (IU:Meth K C_j7 "put" Ed)
   (AO:FnOk P w K mg base (CXe P w) 1 Ap AU ["self","deed"] (MV K C_j1 C_j7 C_j3)) (Bb:Fun K "check_wants" "Turns.check_wants" Ba Ap AU) (AQ:Au K AU ["self","deed"] []) (AR:Meth K C_j1 "check_wants" Ap)
  : FnOk P w K mg base (CXe P w) 12 f fd ["self","word","number"] (EW_ K C_j1 C_j7 C_j3 C_j5 C_j6 C_j2 C_j0):=by
 refine F.okE LN (fun vs H Q E h=>?_) (fun cdv A outer s H vs Q E hr h=>?_)
 ·obtain⟨a,t,ad,s,wv,x,B,wd,m,rfl,_⟩:=h;rfl
 ·obtain⟨a,t,ad,s,wv,y,B,wd,m,rfl,⟨gv,rv,zs,ys,us,x⟩,hw,ok,bd,hz,ht,hwn,hz2,kE,k⟩:=h
  have hl:=Aq
  refine⟨_,(Ac (Bc (DV (pvD 0) W.cl_j1 AR AO (hr.mono (by decide)) AQ .nil (Km fun _ _ _ h=>h) (Aa El Ae)))
   (Ac (Bc (DV (AY (pvD 0) rfl) W.cl_j7 Gz Gw (hr.mono (by decide)) Gy .nil (Km fun _ _ _ h=>h) (Aa (pvD 1) (Aa (pvD 2) Ae))))
   (Ac (B7 (ptT (AF (opE KY) (DV (pvD 0) W.cl_j1 Dt Dq (hr.mono (by decide)) Ds .nil AN (Aa (Ar (ixTD AZ) (AY (pvD 0) rfl) Ah) (Aa (pvD 1) Ae))) (pvD 2) (A0 _)))
   (Af (Od Z.m_j2 Z.x_j2 rfl rfl (Aa El Ae)))
   AL)
   (Ac (Bc (DV (AY (pvD 0) rfl) W.cl_j7 IU IQ (hr.mono (by decide)) IT .nil (Km fun _ _ _ h=>h) (Aa (pvD 1) (Aa (pvD 2) Ae))))
   (Af (Bc (AM (pvD 0) W.cl_j1 CT CP (hr.mono (by decide)) CQ .nil AN))))))),?_⟩
  nofun
  refine⟨_,_,x.ob,by kernel_rfl,a,ad,s,wv,y,"show",rfl,⟨_,_,_,_,_,x⟩,hw,fun htag=>?_,kE⟩
  cases y with
  |ask c=>exact absurd htag (show ¬ ("ask" : Str) = "show" by decide +kernel)
  |done mm ws=>exact absurd htag (show ¬ ("done" : Str) = "show" by decide +kernel)
  |spent c=>exact absurd htag (show ¬ ("spent" : Str) = "show" by decide +kernel)
  |shown mm ws=>
   obtain⟨tw,u,rfl,htw,hu⟩:=hw
   obtain⟨kW,kM,kk⟩:=k mm ws rfl
   obtain⟨ok0,hG,hwr,hgs,g,hall⟩:=ok
   obtain⟨dxb,hb⟩:=x.bk.ob
   have wf:=ok0.tb.wf g
   refine⟨_,_,_,x.ob,W.cl_j1,W.n_SayHunt_book,_,Le ..,ad.b,rfl,_,_,hb,HK _ _ (by decide +kernel) (by decide +kernel),ad.b,ad.d,t,s.L,m,wd,s.es,rfl,x.bk,ht,by lia,kW,kM,fun hc h0 h9 H1 s1=>?_⟩
   obtain⟨kN,kC,kG⟩:=kk hc h0 h9
   have x1:=x.same s1
   have ht1:=s1 _ _ ht
   refine⟨_,_,x1.ob,by kernel_rfl,_,_,_,x1.ob,W.cl_j1,W.n_SayHunt_wish,_,OS ..,tw,rfl,_,SqT.of (s1 _ _ htw),_,rfl,a,u,t,s.L,mm,ws,wd,rfl,HouT.house (HouT.mono hu (TK.of s1)),wf,SqT.of ht1,hz2,hc,hwn,fun H2 s2=>⟨rfl,?_⟩⟩
   by_cases he:lsay mm ws wd=m
   ·rw[if_pos (by rw[he])]
    exact⟨by lia,kN he _ (s1.trans s2)⟩
   ·rw[if_neg (fun z=>he (V.int.inj z))]
    have x2:=x1.same s2
    have s12:=s1.trans s2
    refine⟨_,_,_,x2.ob,W.cl_j1,W.n_SayHunt_book,_,Le ..,ad.b,rfl,_,_,s12 _ _ hb,HK _ _ (by decide +kernel) (by decide +kernel),ad.b,ad.d,t,s.L,m,wd,s.es,rfl,x2.bk,s12 _ _ ht,by lia,hz,fun z=>(by rw[hc]at z;cases z),fun _ z=>absurd ⟨h0,h9⟩ z,fun _ _ _ n hin _ H3 s3=>kC he (List.mem_map.mpr ⟨_,hin,rfl⟩) H3 (s12.trans s3),fun _ _ _ hsame H3 hb' hf=>?_⟩
    have hnk:wd∉s.es.map (·.1):=fun z=>by
     obtain⟨p,hp,rfl⟩:=List.mem_map.mp z
     have h1:=hsame p.2 hp
     exact he ((hall p hp).trans h1)
    unfold putE at hb'
    rw[if_neg hnk]at hb'
    obtain⟨hlen,kT⟩:=kG he hnk
    obtain⟨x3,f3,tk3⟩:=x2.putB hb' hf
    have f3':=(Frm.of s12 a ad).seq f3
    exact⟨_,_,x3.ob,by kernel_rfl,a,ad,_,_,B,rfl,⟨_,_,_,_,_,x3⟩,ok0.told (fun b hb=>(by cases hb)) hnk ⟨hc,hwn⟩ h0 h9 s!"" (by rw[hG];simp),bd,fun ad' H4 s' y' wv' go x4 hw4 f4 k4=>kT ad' H4 s' y' wv' go x4 hw4 (f3'.trans (AdOk.refl H ad) f4) (AdOk.trans f3' (AdOk.refl H ad) k4)⟩
def YQ   (F:Fun K "hear" "Asker.hear" Fe f fd)(T:Txt mg)
  (W:Own K mg C_j7 C_j9 C_ji C_ja C_j1 C_j4)
  (Z:Exs K mg C_j8 C_j5 C_j6 C_j3 C_j2 C_j0)
   (GY:FnOk P w K mg base (CXe P w) 12 BR Jl ["self","number"] (YN K C_j1 C_j7 C_j3 C_j6)) (E6:Fun K "keep_answer" "Hunt.keep_answer" B4 BR Jl) (GZ:Au K Jl ["self","number"] []) (G0:Meth K C_j1 "keep_answer" BR)
  : FnOk P w K mg base (CXe P w) 13 f fd ["self","mark"] (YN K C_j1 C_j7 C_j3 C_j6):=by
 refine F.okE Yt (fun vs H Q E h=>?_) (fun cdv A outer s H vs Q E hr h=>?_)
 ·obtain⟨a,ad,s,wv,x,B,m,rfl,_⟩:=h;rfl
 ·obtain⟨a,ad,s,wv,y,B,m,rfl,⟨gv,rv,zs,ys,us,x⟩,hw,ok,bd,hz,kE,k⟩:=h
  have hl:=Aq
  refine⟨_,(Af (Bc (DV (pvD 0) W.cl_j1 G0 GY (hr.mono (by decide)) GZ .nil (Km fun _ _ _ h=>h) (Aa (pvD 1) Ae)))),?_⟩
  nofun
  exact⟨_,_,x.ob,by kernel_rfl,a,ad,s,wv,y,B,m,rfl,⟨_,_,_,_,_,x⟩,hw,ok,bd,hz,kE,k⟩
def VG   (F:Fun K "differ" "Asker.differ" D0 f fd)(T:Txt mg)
  (W:Own K mg C_j7 C_j9 C_ji C_ja C_j1 C_j4)
  (Z:Exs K mg C_j8 C_j5 C_j6 C_j3 C_j2 C_j0)
   (Fw:FnOk P w K mg base (CXe P w) 12 Bp Hg ["self","word","number"] (EW_ K C_j1 C_j7 C_j3 C_j5 C_j6 C_j2 C_j0)) (DI:Fun K "keep_objection" "Hunt.keep_objection" BA Bp Hg) (Fx:Au K Hg ["self","word","number"] []) (Fy:Meth K C_j1 "keep_objection" Bp)
  : FnOk P w K mg base (CXe P w) 13 f fd ["self","word","mark"] (EW_ K C_j1 C_j7 C_j3 C_j5 C_j6 C_j2 C_j0):=by
 refine F.okE Vg (fun vs H Q E h=>?_) (fun cdv A outer s H vs Q E hr h=>?_)
 ·obtain⟨a,t,ad,s,wv,x,B,wd,m,rfl,_⟩:=h;rfl
 ·obtain⟨a,t,ad,s,wv,y,B,wd,m,rfl,⟨gv,rv,zs,ys,us,x⟩,hw,ok,bd,hz,ht,hwn,hz2,kE,k⟩:=h
  have hl:=Aq
  refine⟨_,(Af (Bc (DV (pvD 0) W.cl_j1 Fy Fw (hr.mono (by decide)) Fx .nil (Km fun _ _ _ h=>h) (Aa (pvD 1) (Aa (pvD 2) Ae))))),?_⟩
  nofun
  exact⟨_,_,x.ob,by kernel_rfl,a,t,ad,s,wv,y,B,wd,m,rfl,⟨_,_,_,_,_,x⟩,hw,ok,bd,hz,ht,hwn,hz2,kE,k⟩
noncomputable def EX_ (K:PySem.W.Frag)(CA CB:Addr):Sp:=fun vs H Q _=>∃(a dx:Addr) (L most:Nat),vs=[.ref a,.int L,.int most]/\H a=some (.ins CA dx [])/\1<=L/\L<=6/\1<=most/\most<=12/\∀ad H' s x wv,Goes (s039 L most) s x->Asks K CA CB H' a ad s wv->CM K H' L wv x->(∀y o,H y=some o->y≠a->H' y=some o)->(∀y,H' y=none->H y=none)->(H ad.d=none/\H ad.pw=none/\H ad.pe=none/\H ad.pg=none)->Q .non H'
def YR   (F:Fun K "__init__" "Asker.__init__" Fb f fd)(T:Txt mg)
  (W:Own K mg C_j7 C_j9 C_ji C_ja C_j1 C_j4)
  (Z:Exs K mg C_j8 C_j5 C_j6 C_j3 C_j2 C_j0)
   (OY:nofun 1 Fz To ["self","letters"] (Tn C_j7)) (Lj:Fun K "__init__" "Book.__init__" Gg Fz To) (OZ:Au K To ["self","letters"] []) (O0:Mk K C_j7 Fz)
   (A7:nofun 3 As Be ["self"] (UY K C_j1 C_j7)) (Bn:Fun K "look_for_gaps" "Asker.look_for_gaps" A5 As Be) (A8:Au K Be ["self"] []) (A9:Meth K C_j1 "look_for_gaps" As)
   (CP:nofun 11 Bx C0 ["self"] (YM K C_j1 C_j7)) (DH:Fun K "go_on" "Turns.go_on" CN Bx C0) (CQ:Au K C0 ["self"] []) (CT:Meth K C_j1 "go_on" Bx)
   (O1:nofun 3 Gj Tp ["self","letters","most","book","ways","ends"] (ER_ C_j1)) (Lk:Fun K "__init__" "Hunt.__init__" Gh Gj Tp) (O2:Au K Tp ["self","letters","most","book","ways","ends"] []) (O3:CMeth K C_ji "__init__" Gj)
   (F0:nofun 1 Bu Ig ["self","letters"] (EU_ K)) (D9:Fun K "first_ends" "SayHunt.first_ends" BK Bu Ig) (F1:Au K Ig ["self","letters"] []) (F2:Meth K C_j1 "first_ends" Bu)
  : nofun 12 f fd ["self","letters","most"] (EX_ K C_j1 C_j7):=by
 delta Yp
 ·obtain⟨a,dx,L,most,rfl,_⟩:=h;rfl
 ·obtain⟨a,dx,L,most,rfl,ha,l1,l6,m1,m12,k⟩:=h
  have hl:=Aq
  refine⟨_,(Ac (Bc (MT_ rfl W.m_ji O3 O1 (hr.mono (by decide)) O2 .nil AN (Aa (pvD 0) (Aa (pvD 1) (Aa (pvD 2) (Aa (CY_ O0 OY (hr.mono (by decide)) rfl W.m_j7 OZ .nil AN (Aa (pvD 1) Ae)) (Aa (JG (Aa (F3 Ae) Ae)) (Aa (DV (pvD 0) W.cl_j1 F2 F0 (hr.mono (by decide)) F1 .nil AN (Aa (pvD 1) Ae)) Ae))))))))
   (Ac (Bc (AM (pvD 0) W.cl_j1 A9 A7 (hr.mono (by decide)) A8 .nil AN))
   (Af (Bc (AM (pvD 0) W.cl_j1 CT CP (hr.mono (by decide)) CQ .nil AN))))),?_⟩
  nofun
  intro b dxb hbN hdN hne
  have hab:a≠b:=fun z=>by rw[<-z,ha]at hbN;cases hbN
  refine⟨b,dxb,L,rfl,Ab,fun d H2 hd bk hf=>⟨rfl,by lia,fun p hp=>⟨by lia,fun pw hpw=>?_⟩⟩⟩
  have s2:Same H H2:=fun y o hy=>by
   have y1:y≠b:=fun z=>by rw[z,hbN]at hy;cases hy
   have y2:y≠dxb:=fun z=>by rw[z,hdN]at hy;cases hy
   exact hf y o (by rw[Ag y1,Ag y2];exact hy) y1
  have hdH:H d=none:=by
   cases h:H d with
   |none=>rfl
   |some o=>
    have y1:d≠b:=fun z=>by rw[z,hbN]at h;cases h
    have y2:d≠dxb:=fun z=>by rw[z,hdN]at h;cases h
    rw[Ag y1,Ag y2,h]at hd;cases hd
  have sp:=Same.new (o:=.tup []) hp
  have s3:=sp.trans (Same.new (o:=.lst [.ref p]) hpw)
  have hp3:=(Same.new (o:=.lst [.ref p]) hpw) _ _ (show upd H2 p (.tup []) p=some (.tup []) from Ab)
  have hw3:upd (upd H2 p (.tup [])) pw (.lst [.ref p]) pw=some (.lst [.ref p]):=Ab
  generalize upd (upd H2 p (.tup [])) pw (.lst [.ref p])=H3 at s3 hp3 hw3 ⊢
  have hpwH:H pw=none:=s2.none (sp.none hpw)
  refine⟨_,_,s3 _ _ (s2 _ _ ha),by kernel_rfl,a,L,rfl,l6,fun pe ts H4 s4 hpe hpe4 hts=>?_⟩
  refine⟨a,dx,b,pw,pe,L,most,rfl,s4 _ _ (s3 _ _ (s2 _ _ ha)),fun pg H5 hpg hob hpg5 hf5 hn5=>?_⟩
  have s34:=s3.trans s4
  have s04:=s2.trans s34
  have bk4:=bk.mono s34
  have ne:∀y,H y=none->y≠a:=fun y hy z=>by rw[z,ha]at hy;cases hy
  have hpeH:H pe=none:=s2.none (s3.none hpe)
  have hpgH:H pg=none:=s04.none hpg
  have hp4:=s4 _ _ hp3
  have hpH:H p=none:=s2.none hp
  have hts5:Am K H5 ts (fE57 L):=hts.mono fun y o hy=>hf5 _ _ hy fun z=>by
   have:=s04 _ _ ha
   rw[z,this]at hy;cases hy
  have x5:AskAt K C_j1 C_j7 H5 a ⟨dx,b,d,pw,pe,pg⟩ {s039 L most with G:=[]} .non .non .non [.ref p] ts []:=
   ⟨hob,BookAt.tk bk4 (fun o h=>hf5 _ _ h (Ne.symm hab)) (fun o h=>hf5 _ _ h (ne _ hdH)),hf5 _ _ (s4 _ _ hw3) (ne _ hpwH),Am.nil.snoc (w:=[]) (hf5 _ _ hp4 (ne _ hpH)),hf5 _ _ hpe4 (ne _ hpeH),hts5,hpg5,Am.nil,fun z=>(by rw[show pe=pw from z.symm,hw3]at hpe;cases hpe),fun z=>(by rw[show pg=pw from z.symm,s4 _ _ hw3]at hpg;cases hpg),fun z=>(by rw[show pg=pe from z.symm,hpe4]at hpg;cases hpg),rfl,rfl⟩
  have hmm:(most+1)*(most+L)<=13*18:=Nat.mul_le_mul s!"" s!""
  have bd:Bd 1 (s039 L most):=by
   show 1+(most+1)*(most+L)+most<=500
   lia
  have ok:=HU_ 1 s!"" l1 l6 m1 m12
  have sz:=ok.sz bd
  refine⟨_,_,x5.ob,by kernel_rfl,a,_,_,.non,rfl,⟨_,_,_,_,_,x5⟩,⟨sz.l6,sz.w,sz.e,sz.b⟩,fun ad6 H6 x6 f6 k6=>?_⟩
  obtain⟨gv6,rv6,zs6,ys6,us6,x6⟩:=x6
  refine⟨_,_,x6.ob,by kernel_rfl,a,ad6,s039 L most,.non,1,rfl,⟨_,_,_,_,_,x6⟩,ok,bd,fun ad7 H7 s' y wv' go x7 hw7 f7 k7=>?_⟩
  have f57:=f6.trans k6 f7
  obtain⟨q1,q2,q3,q4,q5,q6⟩:=AdOk.trans f6 k6 k7
  have hn:∀y,H7 y=none->H y=none:=fun y hy=>s04.none (hn5 y (f57.2 y hy))
  refine k ad7 H7 s' y wv' go x7 hw7 (fun z o hz hza=>?_) hn ⟨by rw[q3];exact hdH,by rw[q4];exact hpwH,by rw[q5];exact hpeH,?_⟩
  ·exact f57.1 z o (hf5 _ _ (s04 _ _ hz) hza) hza (fun e=>by rw[e]at hz;rw[show H d=none from hdH]at hz;cases hz) (fun e=>by rw[e]at hz;rw[show H pw=none from hpwH]at hz;cases hz) (fun e=>by rw[e]at hz;rw[show H pe=none from hpeH]at hz;cases hz) (fun e=>by rw[e]at hz;rw[show H pg=none from hpgH]at hz;cases hz)
  ·rcases q6 with q6|q6
   ·rw[q6];exact hpgH
   ·exact s04.none (hn5 _ q6)
noncomputable def sfl (L:Int)(a:Addr):List (Str×V):=[("letters",.int L),("hunt",.ref a)]
def M4 (L:Int)(a:Addr):(sfl L a).lookup ("hunt" : Str)=some (.ref a):=by kernel_rfl
def AskAt.keep {K:PySem.W.Frag}    {ad:AD}  {wv gv rv:V}  (x:AskAt K CA CB H a ad s wv gv rv zs ys us)(k:∀y o,H y=some o->(y=a\/y=ad.b\/y=ad.d\/y=ad.pw\/y=ad.pe\/y=ad.pg)->H' y=some o)(tk:TK H H'):AskAt K CA CB H' a ad s wv gv rv zs ys us:=
 ⟨k _ _ x.ob (.inl rfl),BookAt.tk x.bk (fun o h=>k _ _ h (.inr (.inl rfl))) (fun o h=>k _ _ h (.inr (.inr (.inl rfl)))),k _ _ x.w (.inr (.inr (.inr (.inl rfl)))),x.wW.mono tk,k _ _ x.e (.inr (.inr (.inr (.inr (.inl rfl))))),x.eW.mono tk,k _ _ x.g (.inr (.inr (.inr (.inr (.inr rfl))))),x.gW.mono tk,x.we,x.wg,x.eg,x.gv.mono tk,x.rv.mono tk⟩
noncomputable def SAt (K:PySem.W.Frag)(CS CA CB:Addr)(H:Hp)(p a:Addr)(ad:AD)(s:AS)(wv:V):Prop:=(∃dx L,H p=some (.ins CS dx (sfl L a)))/\Asks K CA CB H a ad s wv
def SAt.same {K:PySem.W.Frag}    {ad:AD}  {wv:V}(x:SAt K CS CA CB H p a ad s wv)(e:Same H H'):SAt K CS CA CB H' p a ad s wv:=by
 obtain⟨⟨dx,L,h⟩,gv,rv,zs,ys,us,x⟩:=x
 exact⟨⟨dx,L,e _ _ h⟩,_,_,_,_,_,x.same e⟩
def SAt.np {K:PySem.W.Frag}    {ad:AD}  {wv:V}(x:SAt K CS CA CB H p a ad s wv):p≠a/\p≠ad.d/\p≠ad.pw/\p≠ad.pe/\p≠ad.pg:=by
 obtain⟨⟨dx,L,h⟩,gv,rv,zs,ys,us,x⟩:=x
 refine⟨fun z=>?_,fun z=>?_,fun z=>?_,fun z=>?_,fun z=>?_⟩
 ·rw[z,x.ob]at h
  injection h with h
  injection h with _ _ h
  have:=congrArg List.length h
  simp[afl,sfl]at this
 ·rw[z,x.bk.dc]at h;cases h
 ·rw[z,x.w]at h;cases h
 ·rw[z,x.e]at h;cases h
 ·rw[z,x.g]at h;cases h
def SAt.frm {K:PySem.W.Frag}    {ad ad':AD}  {wv wv':V}(x:SAt K CS CA CB H p a ad s wv)(f:Frm H H' a ad)(y:Asks K CA CB H' a ad' s' wv'):SAt K CS CA CB H' p a ad' s' wv':=by
 obtain⟨n1,n2,n3,n4,n5⟩:=x.np
 obtain⟨⟨dx,L,h⟩,_⟩:=x
 exact⟨⟨dx,L,f.1 _ _ h n1 n2 n3 n4 n5⟩,y⟩
noncomputable def M5 (K:PySem.W.Frag)(CS CA CB:Addr):Sp:=fun vs H Q _=>∃(p a:Addr) (ad:AD) (s:AS) (wv:V),vs=[.ref p]/\SAt K CS CA CB H p a ad s wv/\Q wv H
def RI   (F:Fun K "wants" "SayAsker.wants" BC f fd)(T:Txt mg)
  (W:Own K mg C_j7 C_j9 C_ji C_ja C_j1 C_j4)
  (Z:Exs K mg C_j8 C_j5 C_j6 C_j3 C_j2 C_j0)
   (Ll:nofun 1 DJ OF ["self"] (ES_ K C_j1 C_j7)) (IJ:Fun K "wants" "Turns.wants" EJ DJ OF) (Lm:Au K OF ["self"] []) (Ln:Meth K C_j1 "wants" DJ)
  : nofun 2 f fd ["self"] (M5 K C_j4 C_j1 C_j7):=by
 delta Rj
 ·obtain⟨p,a,ad,s,wv,rfl,_⟩:=h;rfl
 ·obtain⟨p,a,ad,s,wv,rfl,⟨⟨dx,L,hp⟩,gv,rv,zs,ys,us,x⟩,k⟩:=h
  refine⟨_,(Af (An (AM (AY (pvD 0) rfl) W.cl_j1 Ln Ll (hr.mono (by decide)) Lm .nil AN))),?_⟩
  nofun
  exact⟨_,_,_,hp,W.cl_j4,W.n_SayAsker_hunt,_,M4 ..,a,rfl,_,_,x.ob,by kernel_rfl,a,ad,s,wv,rfl,⟨_,_,_,_,_,x⟩,k⟩
noncomputable def Gb (K:PySem.W.Frag)(CS CA CB:Addr)(f:AS->List (List Int)):Sp:=fun vs H Q _=>∃(p a:Addr) (ad:AD) (s:AS) (wv:V),vs=[.ref p]/\SAt K CS CA CB H p a ad s wv/\∀l ts H',Same H H'->H l=none->H' l=some (.lst ts)->Am K H' ts (f s)->Q (.ref l) H'
def Qa   (F:Fun K "access" "SayAsker.access" Bi f fd)(T:Txt mg)
  (W:Own K mg C_j7 C_j9 C_ji C_ja C_j1 C_j4)
  (Z:Exs K mg C_j8 C_j5 C_j6 C_j3 C_j2 C_j0)
   (Lo:nofun 1 DK OG ["self"] (P8 K C_j1 C_j7 AS.W)) (IK:Fun K "access" "Hunt.access" EI DK OG) (Lp:Au K OG ["self"] []) (Lq:Meth K C_j1 "access" DK)
  : nofun 2 f fd ["self"] (Gb K C_j4 C_j1 C_j7 AS.W):=by
 delta PX
 ·obtain⟨p,a,ad,s,wv,rfl,_⟩:=h;rfl
 ·obtain⟨p,a,ad,s,wv,rfl,⟨⟨dx,L,hp⟩,gv,rv,zs,ys,us,x⟩,k⟩:=h
  refine⟨_,(Af (An (AM (AY (pvD 0) rfl) W.cl_j1 Lq Lo (hr.mono (by decide)) Lp .nil AN))),?_⟩
  nofun
  exact⟨_,_,_,hp,W.cl_j4,W.n_SayAsker_hunt,_,M4 ..,a,rfl,_,_,x.ob,by kernel_rfl,a,ad,s,wv,rfl,⟨_,_,_,_,_,x⟩,k⟩
def O4   (F:Fun K "tellers" "SayAsker.tellers" A6 f fd)(T:Txt mg)
  (W:Own K mg C_j7 C_j9 C_ji C_ja C_j1 C_j4)
  (Z:Exs K mg C_j8 C_j5 C_j6 C_j3 C_j2 C_j0)
   (Kb:nofun 1 C1 M6 ["self"] (P8 K C_j1 C_j7 AS.E)) (HU:Fun K "tellers" "Hunt.tellers" DY C1 M6) (Kc:Au K M6 ["self"] []) (Kd:Meth K C_j1 "tellers" C1)
  : nofun 2 f fd ["self"] (Gb K C_j4 C_j1 C_j7 AS.E):=by
 delta ON
 ·obtain⟨p,a,ad,s,wv,rfl,_⟩:=h;rfl
 ·obtain⟨p,a,ad,s,wv,rfl,⟨⟨dx,L,hp⟩,gv,rv,zs,ys,us,x⟩,k⟩:=h
  refine⟨_,(Af (An (AM (AY (pvD 0) rfl) W.cl_j1 Kd Kb (hr.mono (by decide)) Kc .nil AN))),?_⟩
  nofun
  exact⟨_,_,_,hp,W.cl_j4,W.n_SayAsker_hunt,_,M4 ..,a,rfl,_,_,x.ob,by kernel_rfl,a,ad,s,wv,rfl,⟨_,_,_,_,_,x⟩,k⟩
noncomputable def M7 (K:PySem.W.Frag)(CS CA CB:Addr):Sp:=fun vs H Q _=>∃(p a:Addr) (ad:AD) (s:AS) (wv:V),vs=[.ref p]/\SAt K CS CA CB H p a ad s wv/\∀l rs H',Same H H'->H l=none->H' l=some (.lst rs)->Hr H' rs s.es->Q (.ref l) H'
def RJ   (F:Fun K "heard" "SayAsker.heard" BB f fd)(T:Txt mg)
  (W:Own K mg C_j7 C_j9 C_ji C_ja C_j1 C_j4)
  (Z:Exs K mg C_j8 C_j5 C_j6 C_j3 C_j2 C_j0)
   (M8:nofun 2 Ey Qb ["self"] (XU K C_j1 C_j7)) (JO:Fun K "heard" "Hunt.heard" Fc Ey Qb) (M9:Au K Qb ["self"] []) (Na:Meth K C_j1 "heard" Ey)
  : nofun 3 f fd ["self"] (M7 K C_j4 C_j1 C_j7):=by
 delta Ri
 ·obtain⟨p,a,ad,s,wv,rfl,_⟩:=h;rfl
 ·obtain⟨p,a,ad,s,wv,rfl,⟨⟨dx,L,hp⟩,gv,rv,zs,ys,us,x⟩,k⟩:=h
  refine⟨_,(Af (An (AM (AY (pvD 0) rfl) W.cl_j1 Na M8 (hr.mono (by decide)) M9 .nil AN))),?_⟩
  nofun
  exact⟨_,_,_,hp,W.cl_j4,W.n_SayAsker_hunt,_,M4 ..,a,rfl,_,_,x.ob,by kernel_rfl,a,ad,s,wv,rfl,⟨_,_,_,_,_,x⟩,k⟩
noncomputable def Ng_ (K:PySem.W.Frag)(CS CA CB:Addr)(H:Hp)(p a:Addr)(ad:AD)(s:AS)(Q:VK):Prop:=∀ad' H' s' x' wv',Goes s s' x'->SAt K CS CA CB H' p a ad' s' wv'->CM K H' s.L wv' x'->Frm H H' a ad->AdOk H ad ad'->Q .non H'
noncomputable def EY_ (K:PySem.W.Frag)(CS CA CB OT BM:Addr):Sp:=fun vs H Q E=>∃(p a:Addr) (ad:AD) (s:AS) (wv:V) (x:Wish) (B:Nat) (m:Int),vs=[.ref p,.int m]/\SAt K CS CA CB H p a ad s wv/\CM K H s.L wv x/\WOk B s x/\Bd B s/\s.es.length<=100000/\(x.tag ≠ "ask" -> E (.ref OT) none H)/\∀c,x=.ask c->(¬ (0<=m/\m<=1000000000)->∀H',Same H H'->E (.ref BM) none H')/\(0<=m->m<=1000000000->Ng_ K CS CA CB H p a ad {s with es:=s.es++[(c,m)]} Q)
def TN   (F:Fun K "hear" "SayAsker.hear" Di f fd)(T:Txt mg)
  (W:Own K mg C_j7 C_j9 C_ji C_ja C_j1 C_j4)
  (Z:Exs K mg C_j8 C_j5 C_j6 C_j3 C_j2 C_j0)
   (Nb:FnOk P w K mg base (CXe P w) 13 Ez Qc ["self","mark"] (YN K C_j1 C_j7 C_j3 C_j6)) (JQ:Fun K "hear" "Asker.hear" Fe Ez Qc) (Nd:Au K Qc ["self","mark"] []) (Nf:Meth K C_j1 "hear" Ez)
  : FnOk P w K mg base (CXe P w) 14 f fd ["self","mark"] (EY_ K C_j4 C_j1 C_j7 C_j3 C_j6):=by
 refine F.okE TF (fun vs H Q E h=>?_) (fun cdv A outer s H vs Q E hr h=>?_)
 ·obtain⟨p,a,ad,s,wv,x,B,m,rfl,_⟩:=h;rfl
 ·obtain⟨p,a,ad,s,wv,y,B,m,rfl,S,hw,ok,bd,hz,kE,k⟩:=h
  obtain⟨⟨dx,L,hp⟩,gv,rv,zs,ys,us,x⟩:=id S
  have hl:=Aq
  refine⟨_,(Af (Bc (DV (AY (pvD 0) rfl) W.cl_j1 Nf Nb (hr.mono (by decide)) Nd .nil (Km fun _ _ _ h=>h) (Aa (pvD 1) Ae)))),?_⟩
  nofun
  exact⟨_,_,_,hp,W.cl_j4,W.n_SayAsker_hunt,_,M4 ..,a,rfl,_,_,x.ob,by kernel_rfl,a,ad,s,wv,y,B,m,rfl,⟨_,_,_,_,_,x⟩,hw,ok,bd,hz,kE,fun c hc=>⟨(k c hc).1,fun h0 h9 ad' H' s' x' wv' go x3 hw3 f3 k3=>(k c hc).2 h0 h9 ad' H' s' x' wv' go (S.frm f3 x3) hw3 f3 k3⟩⟩
noncomputable def By_ (K:PySem.W.Frag)(CS CA CB OT:Addr):Sp:=fun vs H Q E=>∃(p a:Addr) (ad:AD) (s:AS) (wv:V) (x:Wish),vs=[.ref p]/\SAt K CS CA CB H p a ad s wv/\CM K H s.L wv x/\(x.tag ≠ "show" -> E (.ref OT) none H)/\∀mm ws,x=.shown mm ws->∀H' wv',SAt K CS CA CB H' p a ad s wv'->CM K H' s.L wv' (.done mm ws)->Frm H H' a ad->Q .non H'
def RK   (F:Fun K "agree" "SayAsker.agree" CK f fd)(T:Txt mg)
  (W:Own K mg C_j7 C_j9 C_ji C_ja C_j1 C_j4)
  (Z:Exs K mg C_j8 C_j5 C_j6 C_j3 C_j2 C_j0)
   (Ng:FnOk P w K mg base (CXe P w) 2 EA Qd ["self"] (EV_ K C_j1 C_j7 C_j3)) (JR:Fun K "agree" "Hunt.agree" Fg EA Qd) (Nh:Au K Qd ["self"] []) (Ni:Meth K C_j1 "agree" EA)
  : FnOk P w K mg base (CXe P w) 3 f fd ["self"] (By_ K C_j4 C_j1 C_j7 C_j3):=by
 refine F.okE Rm (fun vs H Q E h=>?_) (fun cdv A outer s H vs Q E hr h=>?_)
 ·obtain⟨p,a,ad,s,wv,x,rfl,_⟩:=h;rfl
 ·obtain⟨p,a,ad,s,wv,y,rfl,S,hw,kE,k⟩:=h
  obtain⟨⟨dx,L,hp⟩,gv,rv,zs,ys,us,x⟩:=id S
  have hl:=Aq
  refine⟨_,(Af (Bc (AM (AY (pvD 0) rfl) W.cl_j1 Ni Ng (hr.mono (by decide)) Nh .nil (Km fun _ _ _ h=>h)))),?_⟩
  nofun
  exact⟨_,_,_,hp,W.cl_j4,W.n_SayAsker_hunt,_,M4 ..,a,rfl,_,_,x.ob,by kernel_rfl,a,ad,s,wv,y,rfl,⟨_,_,_,_,_,x⟩,hw,kE,fun mm ws hy H' wv' x3 hw3 f3=>k mm ws hy H' wv' (S.frm f3 x3) hw3 f3⟩
noncomputable def EZ_ (K:PySem.W.Frag)(CS CA CB OT BW BM ND CO:Addr):Sp:=fun vs H Q E=>∃(p a t:Addr) (ad:AD) (s:AS) (wv:V) (x:Wish) (B:Nat) (w:List Int) (m:Int),vs=[.ref p,.ref t,.int m]/\SAt K CS CA CB H p a ad s wv/\CM K H s.L wv x/\WOk B s x/\Bd B s/\s.es.length<=100000/\H t=some (.tup (w.map V.int))/\w.length<=600/\(x.tag ≠ "show" -> E (.ref OT) none H)/\∀mm ws,x=.shown mm ws->(w=[]\/isW s.L w=false->∀H',Same H H'->E (.ref BW) none H')/\(w ≠ []->isW s.L w=true->¬ (0<=m/\m<=1000000000)->∀H',Same H H'->E (.ref BM) none H')/\(w ≠ []->isW s.L w=true->0<=m->m<=1000000000->(lsay mm ws w=m->∀H',Same H H'->E (.ref ND) none H')/\(lsay mm ws w≠m->w∈s.es.map (·.1)->∀H',Same H H'->E (.ref CO) none H')/\(lsay mm ws w≠m->w∉s.es.map (·.1)->w.length<=B+(s.most+1)*s.E.length/\Ng_ K CS CA CB H p a ad {s with es:=s.es++[(w,m)]} Q))
def Qe   (F:Fun K "differ" "SayAsker.differ" Cn f fd)(T:Txt mg)
  (W:Own K mg C_j7 C_j9 C_ji C_ja C_j1 C_j4)
  (Z:Exs K mg C_j8 C_j5 C_j6 C_j3 C_j2 C_j0)
   (C6:FnOk P w K mg base (CXe P w) 1 BF DE ["word"] (MK K C_j5)) (B1:Fun K "check_not_empty" "check_not_empty" BY BF DE) (C7:Au K DE ["word"] []) (C8:mg "check_not_empty"=some (.ref BF))
   (AO:FnOk P w K mg base (CXe P w) 1 Ap AU ["self","deed"] (MV K C_j1 C_j7 C_j3)) (Bb:Fun K "check_wants" "Turns.check_wants" Ba Ap AU) (AQ:Au K AU ["self","deed"] []) (AR:Meth K C_j1 "check_wants" Ap)
   (Ke:FnOk P w K mg base (CXe P w) 13 C2 Nj ["self","word","mark"] (EW_ K C_j1 C_j7 C_j3 C_j5 C_j6 C_j2 C_j0)) (HV:Fun K "differ" "Asker.differ" D0 C2 Nj) (Kf:Au K Nj ["self","word","mark"] []) (Kg:Meth K C_j1 "differ" C2)
  : FnOk P w K mg base (CXe P w) 14 f fd ["self","word","mark"] (EZ_ K C_j4 C_j1 C_j7 C_j3 C_j5 C_j6 C_j2 C_j0):=by
 refine F.okE PY (fun vs H Q E h=>?_) (fun cdv A outer s H vs Q E hr h=>?_)
 ·obtain⟨p,a,t,ad,s,wv,x,B,wd,m,rfl,_⟩:=h;rfl
 ·obtain⟨p,a,t,ad,s,wv,y,B,wd,m,rfl,S,hw,ok,bd,hz,ht,hz2,kE,k⟩:=h
  obtain⟨⟨dx,L,hp⟩,gv,rv,zs,ys,us,x⟩:=id S
  have hl:=Aq
  refine⟨_,(Ac (Bc (DV (AY (pvD 0) rfl) W.cl_j1 AR AO (hr.mono (by decide)) AQ .nil (Km fun _ _ _ h=>h) (Aa El Ae)))
   (Ac (Bc (Ay C6 (hr.mono (by decide)) rfl C8 B1.kp C7 .nil (Km fun _ _ _ h=>h) (Aa (pvD 1) Ae)))
   (Af (Bc (DV (AY (pvD 0) rfl) W.cl_j1 Kg Ke (hr.mono (by decide)) Kf .nil (Km fun _ _ _ h=>h) (Aa (pvD 1) (Aa (pvD 2) Ae))))))),?_⟩
  nofun
  refine⟨_,_,_,hp,W.cl_j4,W.n_SayAsker_hunt,_,M4 ..,a,rfl,_,_,x.ob,by kernel_rfl,a,ad,s,wv,y,"show",rfl,⟨_,_,_,_,_,x⟩,hw,fun htag=>?_,kE⟩
  cases y with
  |ask c=>exact absurd htag (show ¬ ("ask" : Str) = "show" by decide +kernel)
  |done mm ws=>exact absurd htag (show ¬ ("done" : Str) = "show" by decide +kernel)
  |spent c=>exact absurd htag (show ¬ ("spent" : Str) = "show" by decide +kernel)
  |shown mm ws=>
   obtain⟨kW,kM,kk⟩:=k mm ws rfl
   refine⟨t,wd,rfl,SqT.of ht,fun hne=>?_,fun z=>kW (.inl z) H (Same.refl _)⟩
   refine⟨_,_,_,hp,W.cl_j4,W.n_SayAsker_hunt,_,M4 ..,a,rfl,_,_,x.ob,by kernel_rfl,a,t,ad,s,wv,_,B,wd,m,rfl,⟨_,_,_,_,_,x⟩,hw,ok,bd,hz,ht,hne,hz2,kE,fun mm' ws' e=>?_⟩
   cases e
   refine⟨fun z=>kW (.inr z),kM hne,fun hc h0 h9=>?_⟩
   obtain⟨kN,kC,kG⟩:=kk hne hc h0 h9
   exact⟨kN,kC,fun h1 h2=>⟨(kG h1 h2).1,fun ad' H' s' x' wv' go x3 hw3 f3 k3=>(kG h1 h2).2 ad' H' s' x' wv' go (S.frm f3 x3) hw3 f3 k3⟩⟩
noncomputable def Fa_ (K:PySem.W.Frag)(CS CA CB:Addr):Sp:=fun vs H Q _=>∃(p dx:Addr) (L most:Nat),vs=[.ref p,.int L,.int most]/\H p=some (.ins CS dx [])/\1<=L/\L<=6/\1<=most/\most<=12/\∀a ad H' s x wv,Goes (s039 L most) s x->SAt K CS CA CB H' p a ad s wv->CM K H' L wv x->(∀y o,H y=some o->y≠p->H' y=some o)->(∀y,H' y=none->H y=none)->(H a=none/\H ad.d=none/\H ad.pw=none/\H ad.pe=none/\H ad.pg=none)->Q .non H'
def TQ   (F:Fun K "__init__" "SayAsker.__init__" Dh f fd)(T:Txt mg)
  (W:Own K mg C_j7 C_j9 C_ji C_ja C_j1 C_j4)
  (Z:Exs K mg C_j8 C_j5 C_j6 C_j3 C_j2 C_j0)
   (Nk:nofun 12 EB Qf ["self","letters","most"] (EX_ K C_j1 C_j7)) (JS:Fun K "__init__" "Asker.__init__" Fb EB Qf) (Nl:Au K Qf ["self","letters","most"] []) (Nm:Mk K C_j1 EB)
  : nofun 14 f fd ["self","letters","most"] (Fa_ K C_j4 C_j1 C_j7):=by
 delta TC
 ·obtain⟨p,dx,L,most,rfl,_⟩:=h;rfl
 ·obtain⟨p,dx,L,most,rfl,hp,l1,l6,m1,m12,k⟩:=h
  have hl:=Aq
  refine⟨_,(Ac (Gm (pvD 0) (pvD 1) rfl)
   (Af (Gm (pvD 0) (CY_ Nm Nk (hr.mono (by decide)) rfl W.m_j1 Nl .nil AN (Aa (pvD 1) (Aa (pvD 2) Ae))) rfl))),?_⟩
  nofun
  refine⟨_,_,_,hp,W.cl_j4,W.n_SayAsker_letters,by decide,fun a dxa haN hdN hne=>?_⟩
  have hpa:p≠a:=fun z=>by rw[<-z,Ab]at haN;cases haN
  have hpd:p≠dxa:=fun z=>by rw[<-z,Ab]at hdN;cases hdN
  rw[Ag hpa.symm]at haN
  rw[Ag hpd.symm]at hdN
  refine⟨a,dxa,L,most,rfl,Ab,l1,l6,m1,m12,fun ad H' s x wv go xA hw hf hn hfr=>⟨rfl,?_⟩⟩
  have hp2:H' p=some (.ins C_j4 dx [("letters",.int L)]):=hf _ _ (by rw[Ag hpa,Ag hpd,Ab];rfl) hpa
  obtain⟨gv,rv,zs,ys,us,xA⟩:=xA
  refine⟨_,_,_,hp2,W.cl_j4,W.n_SayAsker_hunt,(by show 1<1000;decide),?_⟩
  have tk:TK H' (upd H' p (.ins C_j4 dx (putF ("hunt" : Str) (.ref a) [("letters",.int L)]))):=fun t ts h=>by rw[Ag (fun z=>by rw[z,hp2]at h;cases h)];exact h
  have nz:∀y,upd (upd (upd H p (HO.ins C_j4 dx (putF ("letters" : Str) (V.int L) []))) dxa (HO.own a)) a (HO.ins C_j1 dxa []) y=none->H y=none:=fun y hy=>by
   by_cases z1:y=a
   ·rw[z1,Ab]at hy;cases hy
   ·by_cases z2:y=dxa
    ·rw[z2,Ag (by rw[<-z2];exact z1),Ab]at hy;cases hy
    ·by_cases z3:y=p
     ·rw[z3,Ag hpa,Ag hpd,Ab]at hy;cases hy
     ·rw[Ag z1,Ag z2,Ag z3]at hy;exact hy
  refine k a ad _ s x wv go ⟨⟨dx,L,Ab⟩,_,_,_,_,_,xA.keep (fun y o hy hc=>?_) tk⟩ (hw.mono tk) (fun y o hy hyp=>?_) (fun y hy=>?_) ⟨haN,nz _ hfr.1,nz _ hfr.2.1,nz _ hfr.2.2.1,nz _ hfr.2.2.2⟩
  ·rw[Ag (fun z=>?_)]
   ·exact hy
   ·obtain⟨dxb,hb⟩:=xA.bk.ob
    rcases hc with hc|hc|hc|hc|hc|hc
    ·exact hpa (z.symm.trans hc)
    ·rw[<-hc,z,hp2]at hb;cases hb
    ·have:=xA.bk.dc
     rw[<-hc,z,hp2]at this;cases this
    ·have:=xA.w
     rw[<-hc,z,hp2]at this;cases this
    ·have:=xA.e
     rw[<-hc,z,hp2]at this;cases this
    ·have:=xA.g
     rw[<-hc,z,hp2]at this;cases this
  ·rw[Ag hyp]
   have y1:y≠a:=fun z=>by rw[z,haN]at hy;cases hy
   have y2:y≠dxa:=fun z=>by rw[z,hdN]at hy;cases hy
   exact hf _ _ (by rw[Ag y1,Ag y2,Ag hyp];exact hy) y1
  ·by_cases z:y=p
   ·rw[z,Ab]at hy;cases hy
   ·rw[Ag z]at hy
    exact nz y (hn y hy)
noncomputable def cell (ns:List Int)(k:Nat):Int:=ns.getD k 0
noncomputable def VH (K:PySem.W.Frag):Sp:=fun vs H Q _=>∃(a:Addr) (ns:List Int) (k:Nat),vs=[.ref a,.int k]/\SqL K H a (ns.map V.int)/\Q (.int (cell ns k)) H
def Bz_   (F:Fun K "_law_cell" "_law_cell" DZ f fd)(T:Txt mg)
  (W:Own K mg C_j7 C_j9 C_ji C_ja C_j1 C_j4)
  (Z:Exs K mg C_j8 C_j5 C_j6 C_j3 C_j2 C_j0)
  : nofun 1 f fd ["script","k"] (VH K):=by
 delta Bk_
 ·obtain⟨a,ns,k,rfl,_⟩:=h;rfl
 ·obtain⟨a,ns,k,rfl,hs,q⟩:=h
  refine⟨_,(Ac (B7 (ptT (AF (opD0 Gy_) (pvD 1) (AG (lenD Aj) (by rfl) T.len PySem.boot_len (Aa (pvD 0) Ae)) (A0 _)))
   (Af (An (Ar (ixLD Cj) (pvD 0) (pvD 1))))
   AL)
   (Af (An Ah))),?_⟩
  nofun
  refine⟨_,.inl hs,?_⟩
  rw[List.length_map]
  refine ite2 (fun hk=>?_) (fun hk=>?_)
  ·have hk':k<ns.length:=by simpa using hk
   refine⟨_,hs,V.int (cell ns k),?_,q⟩
   refine Cr ?_
   rw[List.getElem?_map]
   unfold cell
   rw[List.getD_eq_getElem?_getD]
   simp[hk']
  ·have hk':¬ k<ns.length:=by simpa using hk
   have:cell ns k=0:=by
    unfold cell
    rw[List.getD_eq_getElem?_getD,List.getElem?_eq_none s!""];rfl
   rw[<-this]
   exact q
noncomputable def UZ:Sp:=fun vs H Q _=>∃n:Int,vs=[.int n]/\Q (.bl true) H
def YS   (F:Fun K "_law_whole" "_law_whole" DC f fd)(T:Txt mg)
  (W:Own K mg C_j7 C_j9 C_ji C_ja C_j1 C_j4)
  (Z:Exs K mg C_j8 C_j5 C_j6 C_j3 C_j2 C_j0)
  : nofun 1 f fd ["found"] (UZ):=by
 delta Yu
 ·obtain⟨n,rfl,_⟩:=h;rfl
 ·obtain⟨n,rfl,q⟩:=h
  refine⟨_,(Af (An (Eo_ (AG Em rfl T.isinstance PyProof.Rows.boot_isinstance (Aa (pvD 0) (Aa (Mm (v:=.ty "int") rfl T.int PyProof.Rows.boot_int rfl) Ae))) (XB (Jx_ (AG Em rfl T.isinstance PyProof.Rows.boot_isinstance (Aa (pvD 0) (Aa (Mm (v:=.ty "bool") rfl T.bool PyProof.Rows.boot_bool rfl) Ae)))))))),?_⟩
  nofun
  refine⟨_,_,.int _,Th,_,K4,?_⟩
  rw[if_pos rfl]
  refine⟨_,_,.int _,Th,_,Ba_,?_⟩
  exact q
noncomputable def Ly_ (K:PySem.W.Frag)(H:Hp)(zs:List V)(ws:List (List Int)):Prop:=zs.length=ws.length/\∀(i:Nat) (r:List Int),ws[i]?=some r->∃c,zs[i]?=some (.ref c)/\SqT K H c (r.map V.int)
def Rows.T {K:PySem.W.Frag}{H:Hp}{w:Addr}{ws:List (List Int)}(h:Rows K H w ws):∃zs,SqT K H w zs/\Ly_ K H zs ws:=by
 obtain⟨ts,a,b,c⟩:=h
 refine⟨_,a,by rw[List.length_map];exact b,fun i r hi=>?_⟩
 have hl:i<ts.length:=by rw[b];exact (List.getElem?_eq_some_iff.mp hi).1
 exact⟨ts[i],by simp[hl],c i _ r (by simp[hl]) hi⟩
noncomputable def Ia_ (K:PySem.W.Frag):Sp:=fun vs H Q _=>∃(a b:Addr) (us zs:List V) (ws:List (List Int)),vs=[.ref a,.ref b]/\SqT K H a us/\Ly_ K H us ws/\SqT K H b zs/\Ly_ K H zs ws/\ws.length<=900/\(∀r∈ws,r.length<=900)/\Q (.bl true) H
def TR   (F:Fun K "_law_rows_are" "_law_rows_are" Dk f fd)(T:Txt mg)
  (W:Own K mg C_j7 C_j9 C_ji C_ja C_j1 C_j4)
  (Z:Exs K mg C_j8 C_j5 C_j6 C_j3 C_j2 C_j0)
   (DL:nofun 1 Ce DM ["found"] (UZ)) (Cv:Fun K "_law_whole" "_law_whole" DC Ce DM) (DO:Au K DM ["found"] []) (DQ:mg "_law_whole"=some (.ref Ce))
  : nofun 2 f fd ["found","due"] (Ia_ K):=by
 delta Iq
 ·obtain⟨a,b,us,zs,ws,rfl,_⟩:=h;rfl
 ·obtain⟨a,b,us,zs,ws,rfl,ha,hU,hb,hZ,hz1,hz2,k⟩:=h
  have hl:=Aq
  refine⟨_,(Ac (B7 (PW.pt (JD (EU (ptB (ET (AG Em rfl T.isinstance PyProof.Rows.boot_isinstance (Aa (pvD 0) (Aa (Mm (v:=.ty "tuple") rfl T.tuple PyProof.Rows.boot_tuple rfl) Ae)))))) (GN (ptT (AF (opN Rb) (AG (lenD Aj) (by rfl) T.len PySem.boot_len (Aa (pvD 0) Ae)) (AG (lenD Aj) (by rfl) T.len PySem.boot_len (Aa (pvD 1) Ae)) (A0 _))))))
   (Af (An Ek))
   AL)
   (Ac (E7 PassesOwn.never rfl (EV rfl T.range (Aa (AG (lenD Aj) (by rfl) T.len PySem.boot_len (Aa (pvD 1) Ae)) Ae)) (Bm (i:=2) Iq.nd rfl (Or.inl rfl))
   (Ac (B7 (PW.pt (JD (EU (ptB (ET (AG Em rfl T.isinstance PyProof.Rows.boot_isinstance (Aa (Ar (ixTD AZ) (pvD 0) (pvD 2)) (Aa (Mm (v:=.ty "tuple") rfl T.tuple PyProof.Rows.boot_tuple rfl) Ae)))))) (GN (ptT (AF (opN Rb) (AG (lenD Aj) (by rfl) T.len PySem.boot_len (Aa (Ar (ixTD AZ) (pvD 0) (pvD 2)) Ae)) (AG (lenD Aj) (by rfl) T.len PySem.boot_len (Aa (Ar (ixTD AZ) (pvD 1) (pvD 2)) Ae)) (A0 _))))))
   (Af (An Ek))
   AL)
   (Af (E7 PassesOwn.never rfl (EV rfl T.range (Aa (AG (lenD Aj) (by rfl) T.len PySem.boot_len (Aa (Ar (ixTD AZ) (pvD 1) (pvD 2)) Ae)) Ae)) (Bm (i:=3) Iq.nd rfl (Or.inl rfl))
   (Af (B7 (PW.pt (JD (EU (ptB (ET (Ay DL (hr.mono (by decide)) rfl DQ Cv.kp DO .nil AN (Aa (Ar (ixTD AZ) (Ar (ixTD AZ) (pvD 0) (pvD 2)) (pvD 3)) Ae))))) (GN (ptT (AF (opN Rb) (Ar (ixTD AZ) (Ar (ixTD AZ) (pvD 0) (pvD 2)) (pvD 3)) (Ar (ixTD AZ) (Ar (ixTD AZ) (pvD 1) (pvD 2)) (pvD 3)) (A0 _))))))
   (Af (An Ek))
   AL))))))
   (Af (An Ek)))),?_⟩
  nofun
  refine⟨_,_,.tup ha,Th,_,K4,?_⟩
  rw[if_neg (by decide)]
  refine⟨_,.inr ha,_,.inr hb,?_⟩
  rw[hU.1,hZ.1,if_neg (by simp)]
  refine⟨_,.inr hb,by rw[hZ.1];lia,by rw[hZ.1];lia,?_⟩
  rw[Int.toNat_natCast,hZ.1]
  obtain⟨Pv,hPv⟩:∃Pv:Nat->St->Hp->Prop,∀i σ' H',Pv i σ' H'↔(H'=H/\∃o1 o2,σ'=[some (.ref a),some (.ref b),o1,o2]):=⟨_,fun _ _ _=>Iff.rfl⟩
  refine forR Pv ((hPv _ _ _).mpr ⟨rfl,none,none,rfl⟩) (fun i σ' H' hi h'=>?_) (fun σ' H' h'=>?_)
  ·obtain⟨rfl,o1,o2,rfl⟩:=(hPv _ _ _).mp h'
   rw[Int.zero_add]
   have hri:ws[i]?=some ws[i]:=by simp[hi]
   obtain⟨c,hc1,hc2⟩:=hU.2 i _ hri
   obtain⟨d,hd1,hd2⟩:=hZ.2 i _ hri
   have hzi:=hz2 _ (List.mem_of_getElem? hri)
   generalize ws[i]=r at hc2 hd2 hzi
   nofun
   refine⟨_,ha,_,Cr hc1,_,_,.tup hc2,Th,_,K4,?_⟩
   rw[if_neg (by decide)]
   refine⟨_,ha,_,Cr hc1,c,rfl,_,.inr hc2,_,hb,_,Cr hd1,d,rfl,_,.inr hd2,?_⟩
   rw[if_neg (by simp)]
   refine⟨_,hb,_,Cr hd1,d,rfl,_,.inr hd2,by rw[List.length_map];lia,by rw[List.length_map];lia,?_⟩
   rw[Int.toNat_natCast,List.length_map]
   obtain⟨Pw,hPw⟩:∃Pv:Nat->St->Hp->Prop,∀j σ2 H2,Pv j σ2 H2↔(H2=H'/\∃o2,σ2=[some (.ref a),some (.ref b),some (.int i),o2]):=⟨_,fun _ _ _=>Iff.rfl⟩
   refine forR Pw ((hPw _ _ _).mpr ⟨rfl,_,rfl⟩) (fun j σ2 H2 hj h2=>?_) (fun σ2 H2 h2=>?_)
   ·obtain⟨rfl,o2,rfl⟩:=(hPw _ _ _).mp h2
    rw[Int.zero_add]
    have hx:(r.map V.int)[j]?=some (V.int r[j]):=by simp[hj]
    nofun
    refine⟨_,ha,_,Cr hc1,c,rfl,_,hc2,_,Cr hx,r[j],rfl,_,rfl,?_⟩
    rw[if_neg (by decide)]
    refine⟨_,ha,_,Cr hc1,c,rfl,_,hc2,_,Cr hx,_,hb,_,Cr hd1,d,rfl,_,hd2,_,Cr hx,rfl,?_⟩
    rw[if_neg (by simp)]
    exact (hPw _ _ _).mpr ⟨rfl,_,rfl⟩
   ·obtain⟨rfl,o2,rfl⟩:=(hPw _ _ _).mp h2
    exact (hPv _ _ _).mpr ⟨rfl,_,_,rfl⟩
  ·obtain⟨rfl,o1,o2,rfl⟩:=(hPv _ _ _).mp h'
   exact k
noncomputable def KC_ (K:PySem.W.Frag):Sp:=fun vs H Q _=>∃(a b:Addr) (L:Int) (ss ws:List (List Int)),vs=[.ref a,.ref b]/\TJ K H a L ss ws/\TJ K H b L ss ws/\ss.length<=900/\ws.length<=900/\(∀r∈ss,r.length<=900)/\(∀r∈ws,r.length<=900)/\Q (.bl true) H
def TU   (F:Fun K "_law_house_is" "_law_house_is" Dm f fd)(T:Txt mg)
  (W:Own K mg C_j7 C_j9 C_ji C_ja C_j1 C_j4)
  (Z:Exs K mg C_j8 C_j5 C_j6 C_j3 C_j2 C_j0)
   (DL:nofun 1 Ce DM ["found"] (UZ)) (Cv:Fun K "_law_whole" "_law_whole" DC Ce DM) (DO:Au K DM ["found"] []) (DQ:mg "_law_whole"=some (.ref Ce))
   (G1:nofun 2 Ee Lz ["found","due"] (Ia_ K)) (Ef:Fun K "_law_rows_are" "_law_rows_are" Dk Ee Lz) (G2:Au K Lz ["found","due"] []) (G3:mg "_law_rows_are"=some (.ref Ee))
  : nofun 3 f fd ["found","due"] (KC_ K):=by
 delta TH
 ·obtain⟨a,b,L,ss,ws,rfl,_⟩:=h;rfl
 ·obtain⟨a,b,L,ss,ws,rfl,⟨m1,y1,h1,hm1,hy1⟩,⟨m2,y2,h2,hm2,hy2⟩,hz1,hz2,hz3,hz4,k⟩:=h
  obtain⟨us1,e1,t1⟩:=Rows.T hm1
  obtain⟨us2,e2,t2⟩:=Rows.T hm2
  obtain⟨vs1,e3,t3⟩:=Rows.T hy1
  obtain⟨vs2,e4,t4⟩:=Rows.T hy2
  refine⟨_,(Ac (B7 (PW.pt (JD (EU (ptB (ET (AG Em rfl T.isinstance PyProof.Rows.boot_isinstance (Aa (pvD 0) (Aa (Mm (v:=.ty "tuple") rfl T.tuple PyProof.Rows.boot_tuple rfl) Ae)))))) (GN (ptT (AF (opN Rb) (AG (lenD Aj) (by rfl) T.len PySem.boot_len (Aa (pvD 0) Ae)) Ah (A0 _))))))
   (Af (An Ek))
   AL)
   (Ac (B7 (PW.pt (JD (EU (ptB (ET (Ay DL (hr.mono (by decide)) rfl DQ Cv.kp DO .nil AN (Aa (Ar (ixTD AZ) (pvD 0) Ah) Ae))))) (GN (ptT (AF (opN Rb) (Ar (ixTD AZ) (pvD 0) Ah) (Ar (ixTD AZ) (pvD 1) Ah) (A0 _))))))
   (Af (An Ek))
   AL)
   (Af (An (Eo_ (Ay G1 (hr.mono (by decide)) rfl G3 Ef.kp G2 .nil AN (Aa (Ar (ixTD AZ) (pvD 0) Ah) (Aa (Ar (ixTD AZ) (pvD 1) Ah) Ae))) (XB (Ay G1 (hr.mono (by decide)) rfl G3 Ef.kp G2 .nil AN (Aa (Ar (ixTD AZ) (pvD 0) Ah) (Aa (Ar (ixTD AZ) (pvD 1) Ah) Ae))))))))),?_⟩
  nofun
  refine⟨_,_,.tup h1,Th,_,K4,?_⟩
  rw[if_neg (by decide)]
  refine⟨_,.inr h1,?_⟩
  rw[if_neg (by simp)]
  refine⟨_,h1,_,rfl,L,rfl,_,rfl,?_⟩
  rw[if_neg (by decide)]
  refine⟨_,h1,_,rfl,_,h2,_,rfl,rfl,?_⟩
  rw[if_neg (by simp)]
  refine⟨_,h1,_,rfl,_,h2,_,rfl,m1,m2,us1,us2,ss,rfl,e1,t1,e2,t2,hz1,hz3,?_⟩
  refine⟨true,rfl,?_⟩
  rw[if_pos rfl]
  exact⟨_,h1,_,rfl,_,h2,_,rfl,y1,y2,vs1,vs2,ws,rfl,e3,t3,e4,t4,hz2,hz4,k⟩
noncomputable def O5 (K:PySem.W.Frag):Sp:=fun vs H Q _=>∃(a:Addr) (L:Int) (ws:List Int),vs=[.ref a,.int L]/\SqT K H a (ws.map V.int)/\isW L ws=true/\Q (.bl true) H
def VI   (F:Fun K "_law_is_word" "_law_is_word" CW f fd)(T:Txt mg)
  (W:Own K mg C_j7 C_j9 C_ji C_ja C_j1 C_j4)
  (Z:Exs K mg C_j8 C_j5 C_j6 C_j3 C_j2 C_j0)
   (DL:nofun 1 Ce DM ["found"] (UZ)) (Cv:Fun K "_law_whole" "_law_whole" DC Ce DM) (DO:Au K DM ["found"] []) (DQ:mg "_law_whole"=some (.ref Ce))
  : nofun 2 f fd ["found","letters"] (O5 K):=by
 delta MA
 ·obtain⟨a,L,ws,rfl,_⟩:=h;rfl
 ·obtain⟨a,L,ws,rfl,ha,hw,k⟩:=h
  have hl:=Aq
  refine⟨_,(Ac (B7 (EU (ptB (ET (AG Em rfl T.isinstance PyProof.Rows.boot_isinstance (Aa (pvD 0) (Aa (Mm (v:=.ty "tuple") rfl T.tuple PyProof.Rows.boot_tuple rfl) Ae))))))
   (Af (An Ek))
   AL)
   (Ac (E7 PassesOwn.never rfl (Eq_ (pvD 0)) (Bm (i:=2) MA.nd rfl (Or.inl rfl))
   (Af (B7 (PW.pt (JD (EU (ptB (ET (Ay DL (hr.mono (by decide)) rfl DQ Cv.kp DO .nil AN (Aa (pvD 2) Ae))))) (JD (ptT (AF (opD0 Gy_) (pvD 2) Ah (A0 _))) (GN (ptT (AF (opD0 No_) (pvD 2) (pvD 1) (A0 _)))))))
   (Af (An Ek))
   AL)))
   (Af (An Ek)))),?_⟩
  nofun
  refine⟨_,_,.tup ha,Th,_,K4,?_⟩
  rw[if_neg (by decide)]
  refine⟨⟨_,ha⟩,?_⟩
  obtain⟨Pv,hPv⟩:∃Pv:Nat->St->Hp->Prop,∀m σ' H',Pv m σ' H'↔(H'=H/\∃o,σ'=[some (.ref a),some (.int L),o]):=⟨_,fun _ _ _=>Iff.rfl⟩
  refine forT (xs:=ws.map V.int) Pv ((hPv _ _ _).mpr ⟨rfl,none,rfl⟩) (fun i σ' H' _ h'=>by obtain⟨rfl,_⟩:=(hPv _ _ _).mp h';exact ha) (fun i x σ' H' hx h'=>?_) (fun σ' H' h'=>?_)
  ·obtain⟨rfl,o,rfl⟩:=(hPv _ _ _).mp h'
   obtain⟨g,hg,rfl⟩:=PR hx
   have hb:=CH.mp hw g (List.mem_of_getElem? hg)
   nofun
   refine⟨g,rfl,_,rfl,?_⟩
   rw[if_neg (by decide),if_neg s!"",if_neg s!""]
   exact (hPv _ _ _).mpr ⟨rfl,_,rfl⟩
  ·obtain⟨rfl,o,rfl⟩:=(hPv _ _ _).mp h'
   nofun
   exact k
def EqD.all43 {K:PySem.W.Frag}     (hq:(SqL K H a xs/\SqL K H c ys)\/(SqT K H a xs/\SqT K H c ys))(hl:xs.length=ys.length)(h:∀(i:Nat) (x y:V),xs[i]?=some x->ys[i]?=some y->EqD K H n x y true):EqD K H (n+1) (.ref a) (.ref c) true:=
 .inr ⟨a,c,xs,ys,rfl,rfl,hq,fun _=>true,h,by simp[hl]⟩
def EqD.int43 {K:PySem.W.Frag}  (n:Nat)(i:Int):EqD K H n (.int i) (.int i) true:=by
 cases n with
 |zero=>exact⟨rfl,rfl,by simp[eqV]⟩
 |succ n=>exact .inl ⟨rfl,rfl,by simp[eqV]⟩
def EqD.str43 {K:PySem.W.Frag}  (n:Nat)(i:Str):EqD K H n (.str i) (.str i) true:=by
 cases n with
 |zero=>exact⟨rfl,rfl,by simp[eqV]⟩
 |succ n=>exact .inl ⟨rfl,rfl,by simp[eqV]⟩
def EqD.word43 {K:PySem.W.Frag}{H:Hp}(n:Nat){a b:Addr}{w:List Int}(h:SqT K H a (w.map V.int))(g:SqT K H b (w.map V.int)):EqD K H (n+1) (.ref a) (.ref b) true:=by
 have:=EqD.ints (K:=K) (H:=H) (a:=a) (c:=b) (xs:=w) (ys:=w) (.inr ⟨h,g⟩) n
 rw[decide_eq_true rfl]at this
 exact this
def Nh_ {α:Type}{P:Nat->α->α->Prop}{a b c d:α}(h0:P 0 a c)(h1:P 1 b d):∀i x y,[a,b][i]?=some x->[c,d][i]?=some y->P i x y:=by
 intro i x y hx hy
 match i with
 |0=>simp at hx hy;subst hx hy;exact h0
 |1=>simp at hx hy;subst hx hy;exact h1
 |i+2=>simp at hx
def Ib_ {α:Type}{P:Nat->α->α->Prop}{a b e c d f:α}(h0:P 0 a c)(h1:P 1 b d)(h2:P 2 e f):∀i x y,[a,b,e][i]?=some x->[c,d,f][i]?=some y->P i x y:=by
 intro i x y hx hy
 match i with
 |0=>simp at hx hy;subst hx hy;exact h0
 |1=>simp at hx hy;subst hx hy;exact h1
 |2=>simp at hx hy;subst hx hy;exact h2
 |i+3=>simp at hx
def Am.eqT57 {K:PySem.W.Frag}     (h3:SqT K H a zs)(h4:Am K H zs ws)(g3:SqT K H b zs')(g4:Am K H zs' ws)(n:Nat):EqD K H (n+2) (.ref a) (.ref b) true:=by
 refine EqD.all43 (.inr ⟨h3,g3⟩) (by rw[h4.1,g4.1]) fun i x y hx hy=>?_
 obtain⟨t,w,e1,rfl,e2⟩:=h4.at hx
 obtain⟨u,w',f1,rfl,f2⟩:=g4.at hy
 rw[e1]at f1
 cases f1
 exact EqD.word43 _ (SqT.of e2) (SqT.of f2)
def HouT.eq57 {K:PySem.W.Frag}     (h:HouT K H a L m ws)(g:HouT K H b L m ws)(n:Nat):EqD K H (n+3) (.ref a) (.ref b) true:=by
 obtain⟨tm,tw,us,zs,h1,h2,h2',h3,h4⟩:=h
 obtain⟨tm',tw',us',zs',g1,g2,g2',g3,g4⟩:=g
 exact EqD.all43 (.inr ⟨SqT.of h1,SqT.of g1⟩) rfl (Ib_ (P:=fun _ x y=>EqD K H (n+2) x y true) (EqD.int43 _ _) (Am.eqT57 (SqT.of h2) h2' (SqT.of g2) g2' n) (Am.eqT57 (SqT.of h3) h4 (SqT.of g3) g4 n))
def CM.eq57 {K:PySem.W.Frag}     (h:CM K H L v x)(g:CM K H L v' x)(n:Nat):EqD K H (n+4) v v' true:=by
 obtain⟨t,u,rfl,h1,h2⟩:=h
 obtain⟨t',u',rfl,g1,g2⟩:=g
 refine EqD.all43 (.inr ⟨SqT.of h1,SqT.of g1⟩) rfl (Nh_ (P:=fun _ x y=>EqD K H (n+3) x y true) (EqD.str43 _ _) ?_)
 cases x with
 |ask c=>exact EqD.word43 _ (SqT.of h2) (SqT.of g2)
 |spent c=>exact EqD.word43 _ (SqT.of h2) (SqT.of g2)
 |shown m ws=>exact HouT.eq57 h2 g2 n
 |done m ws=>exact HouT.eq57 h2 g2 n
def Hr.eq43 {K:PySem.W.Frag}     (h:Hr H xs es)(g:Hr H ys es)(ha:H a=some (.lst xs))(hb:H b=some (.lst ys))(n:Nat):EqD K H (n+3) (.ref a) (.ref b) true:=by
 refine EqD.all43 (.inl ⟨SqL.of ha,SqL.of hb⟩) (by rw[h.1,g.1]) fun i x y hx hy=>?_
 have hi:i<es.length:=by rw[<-h.1];exact (List.getElem?_eq_some_iff.mp hx).1
 obtain⟨t,wt,e1,e2,e3⟩:=h.2 i es[i] (by simp[hi])
 obtain⟨u,wu,f1,f2,f3⟩:=g.2 i es[i] (by simp[hi])
 rw[hx]at e1
 cases e1
 rw[hy]at f1
 cases f1
 exact EqD.all43 (.inr ⟨SqT.of e2,SqT.of f2⟩) rfl (Nh_ (P:=fun _ x y=>EqD K H (n+1) x y true) (EqD.word43 _ (SqT.of e3) (SqT.of f3)) (EqD.int43 _ _))
noncomputable def DD_ (K:PySem.W.Frag):Sp:=fun vs H Q _=>∃(h a:Addr) (L:Int) (says ways:List (List Int)) (ws:List Int),vs=[.ref h,.ref a]/\TJ K H h L says ways/\WfS L says ways/\SqT K H a (ws.map V.int)/\ws.length<=600/\isW L ws=true/\∀p H',Same H H'->H' p=some (.lst ((sayW says ways ws).map V.int))->Q (.ref p) H'
def BA_   (F:Fun K "_law_talk" "_law_talk" Fh f fd)(T:Txt mg)
  (W:Own K mg C_j7 C_j9 C_ji C_ja C_j1 C_j4)
  (Z:Exs K mg C_j8 C_j5 C_j6 C_j3 C_j2 C_j0)
  : nofun 1 f fd ["house","word"] (DD_ K):=by
 delta HY
 ·obtain⟨h,a,L,says,ways,ws,rfl,_⟩:=h;rfl
 ·obtain⟨h,a,L,says,ways,ws,rfl,hh,wf,hw,hz,hv,k⟩:=h
  have hl:=Aq
  refine⟨_,(Ac (AX (i:=2) HY.nd Ah)
   (Ac (AX (i:=3) HY.nd (JG Ae))
   (Ac (E7 PassesOwn.never rfl (Eq_ (pvD 1)) (Bm (i:=4) HY.nd rfl (Or.inl rfl))
   (Ac (Bc (U5 PySem.F.plainAttrs_list PySem.F.slot_list_append PySem.F.type_list_append GO (pvD 3) (Aa (Ar (ixTD AZ) (Ar (ixTD AZ) (Ar (ixTD AZ) (pvD 0) Ah) (pvD 2)) (pvD 4)) Ae)))
   (Af (AX (i:=2) HY.nd (Ar (ixTD AZ) (Ar (ixTD AZ) (Ar (ixTD AZ) (pvD 0) Ah) (pvD 2)) (pvD 4))))))
   (Af (An (pvD 3)))))),?_⟩
  nofun
  refine⟨by lia,fun p hp=>?_⟩
  have s0:=Same.new hp (o:=.lst [])
  obtain⟨Pv,hPv⟩:∃Pv:Nat->St->Hp->Prop,∀i σ2 H2,Pv i σ2 H2↔(Same H H2/\H2 p=some (.lst (((List.range i).map fun j=>LL says (FO ways (ws.take j)) (ws.getD j 0)).map V.int))/\∃o,σ2=[some (.ref h),some (.ref a),some (.int (FO ways (ws.take i))),some (.ref p),o]):=⟨_,fun _ _ _=>Iff.rfl⟩
  refine⟨⟨_,s0.seqT hw⟩,forT (xs:=ws.map V.int) Pv ((hPv _ _ _).mpr ⟨s0,by rw[Ab];rfl,none,rfl⟩) (fun i σ2 H2 _ h=>((hPv _ _ _).mp h).1.seqT hw) (fun i x σ2 H2 hx h=>?_) (fun σ2 H2 h=>?_)⟩
  ·obtain⟨s3,hp3,o,rfl⟩:=(hPv _ _ _).mp h
   obtain⟨n,hn,rfl⟩:=PR hx
   have hi:=(List.getElem?_eq_some_iff.mp hn).1
   have hx:=CH.mp hv n (List.mem_of_getElem? hn)
   have hwk:=wf.walk hv i
   obtain⟨row,g,r1,r2,r3,r4,r5⟩:=wf.wf.step hwk.1 (by rw[List.length_replicate];exact hwk.2) hx.1 hx.2
   obtain⟨srow,s1,s2⟩:=wf.at hwk.1 hwk.2 hx.1 hx.2
   obtain⟨m,wv,h1,h2,h3⟩:=hh.mono s3
   obtain⟨xs,t,q1,q2,q3⟩:=h2.atZ hwk.1 s1
   nofun
   refine⟨.inl ⟨rfl,_,SqL.of hp3⟩,_,h1,_,rfl,?_⟩
   nofun
   refine⟨_,q1,_,q2,?_⟩
   nofun
   refine⟨_,q3,_,Va hx.1 s2,_,hp3,by simp;lia,?_⟩
   have s4:Same H (upd H2 p (.lst ((((List.range i).map fun j=>LL says (FO ways (ws.take j)) (ws.getD j 0)).map V.int)++[V.int (LL says (FO ways (ws.take i)) n)]))):=s3.over hp
   obtain⟨m,wv,h1,h2,h3⟩:=hh.mono s4
   obtain⟨xs,t,q1,q2,q3⟩:=h3.atZ hwk.1 r1
   refine⟨_,h1,_,rfl,?_⟩
   nofun
   refine⟨_,q1,_,q2,?_⟩
   nofun
   refine⟨_,q3,_,Va hx.1 r2,(hPv _ _ _).mpr ⟨s4,?_,some (.int n),?_⟩⟩
   ·rw[Ab,List.range_succ,List.map_append,List.map_append,List.map_singleton,List.map_singleton,show ws.getD i 0=n from by rw[List.getD_eq_getElem?_getD,hn];rfl]
   ·rw[<-r3,<-Of hn]
  ·obtain⟨s3,hp3,o,rfl⟩:=(hPv _ _ _).mp h
   nofun
   rw[List.length_map]at hp3
   exact k p H2 s3 hp3
def BB_ {α:Type}[DecidableEq α]{l k:List α}(h:l.Nodup)(hs:∀x∈l,x∈k):l.length<=k.length:=by
 induction l generalizing k with
 |nil=>exact Nat.zero_le _
 |cons a l ih=>
  obtain⟨h1,h2⟩:=List.nodup_cons.mp h
  have h3:=ih (k:=k.erase a) h2 fun x hx=>(List.mem_erase_of_ne (fun z=>h1 (by rw[<-z];exact hx))).mpr (hs x (List.mem_cons_of_mem _ hx))
  have h4:=hs a List.mem_cons_self
  rw[List.length_erase_of_mem h4]at h3
  have:=List.length_pos_of_mem h4
  rw[List.length_cons]
  lia
def Lz_ {v:List Int}{ks:List (List Int)}{n:Nat}(h:∀j,j<n->v++List.replicate j 0∈ks):n<=ks.length:=by
 have:=BB_ (l:=(List.range n).map fun j=>v++List.replicate j 0) (k:=ks) (by
  rw[List.nodup_iff_pairwise_ne,List.pairwise_map]
  refine (List.nodup_iff_pairwise_ne.mp List.nodup_range).imp fun hab z=>hab ?_
  have:=congrArg List.length z
  simpa using this) (fun x hx=>by
  obtain⟨j,hj,rfl⟩:=List.mem_map.mp hx
  exact h j (List.mem_range.mp hj))
 rwa [List.length_map,List.length_range]at this
noncomputable def bigF (ns:List Int)(k:Int):Int:=if k<ns.length then ns.getD k.toNat 0 else (cell ns (k%if (ns.length:Int) > 1 then (ns.length:Int) else 1).toNat%2147483647*48271+k*k*31+7*k)%2147483647
noncomputable def Fb_ (K:PySem.W.Frag):Sp:=fun vs H Q _=>∃(a:Addr) (ns:List Int) (k:Int),vs=[.ref a,.int k]/\SqL K H a (ns.map V.int)/\ns.length<=63/\0<=k/\k<=100000/\Q (.int (bigF ns k)) H
def DE_   (F:Fun K "_law_big" "_law_big" Hq f fd)(T:Txt mg)
  (W:Own K mg C_j7 C_j9 C_ji C_ja C_j1 C_j4)
  (Z:Exs K mg C_j8 C_j5 C_j6 C_j3 C_j2 C_j0)
   (BN:nofun 1 BX Cw ["script","k"] (VH K)) (Bw:Fun K "_law_cell" "_law_cell" DZ BX Cw) (BO:Au K Cw ["script","k"] []) (BP:mg "_law_cell"=some (.ref BX))
  : nofun 2 f fd ["script","k"] (Fb_ K):=by
 delta Vf
 ·obtain⟨a,ns,k,rfl,_⟩:=h;rfl
 ·obtain⟨a,ns,k,rfl,hs,hz,k0,k1,q⟩:=h
  refine⟨_,(Ac (B7 (ptT (AF (opD0 Gy_) (pvD 1) (AG (lenD Aj) (by rfl) T.len PySem.boot_len (Aa (pvD 0) Ae)) (A0 _)))
   (Af (An (Ar (ixLD Cj) (pvD 0) (pvD 1))))
   AL)
   (Ac (AX (i:=2) Vf.nd (AG (AO_ rfl) rfl T.max PyProof.Rows.boot_max (Aa Ah (Aa (AG (lenD Aj) (by rfl) T.len PySem.boot_len (Aa (pvD 0) Ae)) Ae))))
   (Af (An (BU (opD IW) (BU (opD0 Hb) (BU (opD0 Hb) (BU (opD OB) (BU (opD IW) (Ay BN (hr.mono (by decide)) rfl BP Bw.kp BO .nil AN (Aa (pvD 0) (Aa (BU (opD IW) (pvD 1) (pvD 2)) Ae))) Ah) Ah) (BU (opD OB) (BU (opD OB) (pvD 1) (pvD 1)) Ah)) (BU (opD OB) Ah (pvD 1))) Ah))))),?_⟩
  nofun
  refine⟨_,.inl hs,?_⟩
  rw[List.length_map]
  unfold bigF at q
  refine ite2 (fun hk=>?_) (fun hk=>?_)
  ·have hk2:k<(ns.length:Int):=by simpa using hk
   have hk':k.toNat<ns.length:=by lia
   rw[if_pos hk2]at q
   refine⟨_,hs,_,Va k0 (v:=ns[k.toNat]) (by simp[hk']),?_⟩
   rw[List.getD_eq_getElem?_getD,List.getElem?_eq_getElem hk']at q
   exact q
  ·have hk2:¬ k<(ns.length:Int):=by simpa using hk
   rw[if_neg hk2]at q
   have e0:((ns.map V.int).length:Int)=(ns.length:Int):=by rw[List.length_map]
   have hm:(0:Int)<if (ns.length:Int) > 1 then (ns.length:Int) else 1:=by split<;>lia
   have r0:=Int.emod_nonneg k (show (if (ns.length:Int) > 1 then (ns.length:Int) else 1)≠0 by lia)
   refine⟨_,.inl hs,?_⟩
   rw[List.length_map]
   exact⟨hm,a,ns,(k%if (ns.length:Int) > 1 then (ns.length:Int) else 1).toNat,by rw[Int.toNat_of_nonneg r0],hs,_,rfl,by decide,.inr ⟨by decide,by decide⟩,.inl ⟨by lia,by lia⟩,.inr ⟨by decide,by decide⟩,.inl ⟨by decide,by decide⟩,by decide,q⟩
noncomputable def DF_ (c:Int):Int:=if c%8=3 then 1000000000 else if c%4=0 then c / 4%1000000001 else c / 4%2
def Fc_ (c:Int):0<=DF_ c/\DF_ c<=1000000000:=by
 unfold DF_
 split
 ·lia
 ·split<;>lia
noncomputable def VJ:Sp:=fun vs H Q _=>∃c:Int,vs=[.int c]/\Q (.int (DF_ c)) H
def BC_   (F:Fun K "_law_mark" "_law_mark" Ff f fd)(T:Txt mg)
  (W:Own K mg C_j7 C_j9 C_ji C_ja C_j1 C_j4)
  (Z:Exs K mg C_j8 C_j5 C_j6 C_j3 C_j2 C_j0)
  : nofun 1 f fd ["cell"] (VJ):=by
 delta Bl_
 ·obtain⟨c,rfl,_⟩:=h;rfl
 ·obtain⟨c,rfl,k⟩:=h
  refine⟨_,(Ac (B7 (ptT (AF (opE KY) (BU (opD IW) (pvD 0) Ah) Ah (A0 _)))
   (Af (An Ah))
   AL)
   (Ac (B7 (ptT (AF (opE KY) (BU (opD IW) (pvD 0) Ah) Ah (A0 _)))
   (Af (An (BU (opD IW) (BU (opD OL) (pvD 0) Ah) Ah)))
   AL)
   (Af (An (BU (opD IW) (BU (opD OL) (pvD 0) Ah) Ah))))),?_⟩
  nofun
  unfold DF_ at k
  refine⟨by decide,ite2 (fun e=>?_) (fun e=>⟨by decide,ite2 (fun e2=>⟨⟨by decide,by decide⟩,by decide,?_⟩) (fun e2=>⟨⟨by decide,by decide⟩,by decide,?_⟩)⟩)⟩
  ·rw[if_pos (by simpa using e)]at k;exact k
  ·rw[if_neg (by simpa using e),if_pos (by simpa using e2)]at k;exact k
  ·rw[if_neg (by simpa using e),if_neg (by simpa using e2)]at k;exact k
def Nn {l:List (List Int)}{i:Nat}(hi:i<l.length)(nd:l.Nodup):l[i]∉l.take i:=fun z=>by
 obtain⟨j,hj,ej⟩:=List.getElem_of_mem z
 rw[List.length_take]at hj
 rw[List.getElem_take]at ej
 have:=(List.getElem_inj (h₀:=(show j<l.length by lia)) (h₁:=hi) nd).mp ej
 lia
def GH (xs:List V)(m:Nat):cutV xs none (some (m:Int))=xs.take m:=by
 unfold cutV
 rw[HT.sIx_nat,HT.sIx_none,List.drop_zero,Nat.sub_zero,List.take_eq_take_iff]
 lia
def Am.take17 {K:PySem.W.Frag}    (h:Am K H xs ws)(n:Nat):Am K H (xs.take n) (ws.take n):=⟨by rw[List.length_take,List.length_take,h.1],fun i w hi=>by
 rw[List.getElem?_take]at hi ⊢
 split at hi
 ·rename_i hk
  rw[if_pos hk];exact h.2 i w hi
 ·cases hi⟩
noncomputable def YT (K:PySem.W.Frag):Sp:=fun vs H Q _=>∃(pw:Addr) (L:Nat) (xs:List V) (words:List (List Int)),vs=[.ref pw,.int L]/\SqL K H pw xs/\Am K H xs words/\words.Nodup/\(∀v∈words,isW L v=true)/\words.length<=100/\∀H',Same H H'->Q (.bl true) H'
def Qg   (F:Fun K "_law_words_good" "_law_words_good" BZ f fd)(T:Txt mg)
  (W:Own K mg C_j7 C_j9 C_ji C_ja C_j1 C_j4)
  (Z:Exs K mg C_j8 C_j5 C_j6 C_j3 C_j2 C_j0)
   (D3:nofun 2 Cp FA ["found","letters"] (O5 K)) (Cq:Fun K "_law_is_word" "_law_is_word" CW Cp FA) (D4:Au K FA ["found","letters"] []) (D5:mg "_law_is_word"=some (.ref Cp))
  : nofun 3 f fd ["words","letters"] (YT K):=by
 delta JH
 ·obtain⟨pw,L,xs,words,rfl,_⟩:=h;rfl
 ·obtain⟨pw,L,xs,words,rfl,hp,hW,nd,ok,hwl,k⟩:=h
  have hl:=Aq
  refine⟨_,(Ac (B7 (EU (ptB (ET (AG Em rfl T.isinstance PyProof.Rows.boot_isinstance (Aa (pvD 0) (Aa (Mm (v:=.ty "list") rfl T.list PyProof.Rows.boot_list rfl) Ae))))))
   (Af (An Ek))
   AL)
   (Ac (E7 PassesOwn.never rfl (EV rfl T.range (Aa (AG (lenD Aj) (by rfl) T.len PySem.boot_len (Aa (pvD 0) Ae)) Ae)) (Bm (i:=2) JH.nd rfl (Or.inl rfl))
   (Af (B7 (PW.pt (JD (EU (ptB (ET (Ay D3 (hr.mono (by decide)) rfl D5 Cq.kp D4 .nil AN (Aa (Ar (ixLD Cj) (pvD 0) (pvD 2)) (Aa (pvD 1) Ae)))))) (GN (ptT (AF (Kg_ (hu9 hr)) (Ar (ixLD Cj) (pvD 0) (pvD 2)) (FK Mo (pvD 0) Hk (Hl (pvD 2))) rfl)))))
   (Af (An Ek))
   AL)))
   (Af (An Ek)))),?_⟩
  nofun
  refine⟨_,_,.lst hp,Th,_,K4,?_⟩
  rw[if_neg (by decide)]
  refine⟨_,.inl hp,by lia,by rw[hW.1];lia,?_⟩
  rw[hW.1,Int.toNat_natCast]
  obtain⟨Pv,hPv⟩:∃Pv:Nat->St->Hp->Prop,∀i σ' H',Pv i σ' H'↔(∃o:Option V,Same H H'/\σ'=[some (.ref pw),some (.int L),o]):=⟨_,fun _ _ _=>Iff.rfl⟩
  refine forR Pv ((hPv _ _ _).mpr ⟨none,Same.refl _,rfl⟩) (fun i σ' H' hi h'=>?_) (fun σ' H' h'=>?_)
  ·obtain⟨o,s',rfl⟩:=(hPv _ _ _).mp h'
   rw[Int.zero_add]
   have hwi:words[i]?=some words[i]:=by simp[hi]
   have hnot:=Nn hi nd
   generalize words[i]=w at hwi hnot
   obtain⟨t,hxi,ht⟩:=hW.2 i w hwi
   nofun
   refine⟨_,s'.seq hp,_,Cr hxi,t,L,w,rfl,SqT.of (s' _ _ ht),ok w (List.mem_of_getElem? hwi),_,rfl,?_⟩
   rw[if_neg (by decide)]
   refine⟨_,s'.seq hp,_,Cr hxi,_,s'.seq hp,fun p3 hp3=>?_⟩
   rw[GH]
   have s3:=s'.newT hp3 (o:=.lst (xs.take i))
   have hW3:=(Am.take17 hW i).mono (TK.of s3)
   refine⟨t,rfl,_,SqL.of Ab,w,words.take i,hW3,SqT.of (s3 _ _ ht),?_⟩
   rw[if_neg hnot]
   exact (hPv _ _ _).mpr ⟨_,s3,rfl⟩
  ·obtain⟨o,s',rfl⟩:=(hPv _ _ _).mp h'
   nofun
   exact k _ s'
def XW (u:List Int)(x:Int):cutV ((u++[x]).map V.int) none (some (-1))=u.map V.int:=by
 rw[EB_]
 unfold cutI
 rw[HT.sIx_none]
 have e:HT.sIx (u++[x]).length (u++[x]).length (some (-1))=u.length:=by
  show (if (-1:Int)<0 then ((-1:Int)+((u++[x]).length:Int)).toNat else min ((-1:Int)).toNat (u++[x]).length)=_
  rw[if_pos (by decide),List.length_append,List.length_singleton]
  lia
 rw[e,List.drop_zero,Nat.sub_zero,List.take_left]
noncomputable def YU (K:PySem.W.Frag):Sp:=fun vs H Q _=>∃(pw:Addr) (L:Nat) (xs:List V) (words:List (List Int)),vs=[.ref pw,.int L]/\SqL K H pw xs/\Am K H xs words/\words.Nodup/\(∀v∈words,isW L v=true)/\words.length<=100/\words[0]?=some []/\(∀(k:Nat) (v:List Int),words[k]?=some v->0<k->∃(j:Nat) (u:List Int) (x:Nat),j<k/\words[j]?=some u/\x<L/\v=u++[(x:Int)])/\∀H',Same H H'->Q (.bl true) H'
def O6   (F:Fun K "_law_access_good" "_law_access_good" BQ f fd)(T:Txt mg)
  (W:Own K mg C_j7 C_j9 C_ji C_ja C_j1 C_j4)
  (Z:Exs K mg C_j8 C_j5 C_j6 C_j3 C_j2 C_j0)
   (C9:nofun 3 BG DR ["words","letters"] (YT K)) (B2:Fun K "_law_words_good" "_law_words_good" BZ BG DR) (Dc:Au K DR ["words","letters"] []) (Dd:mg "_law_words_good"=some (.ref BG))
  : nofun 4 f fd ["access","letters"] (YU K):=by
 delta Je
 ·obtain⟨pw,L,xs,words,rfl,_⟩:=h;rfl
 ·obtain⟨pw,L,xs,words,rfl,hp,hW,nd,ok,hwl,w0,ac,k⟩:=h
  have hl:=Aq
  refine⟨_,(Ac (B7 (PW.pt (JD (EU (ptB (ET (Ay C9 (hr.mono (by decide)) rfl Dd B2.kp Dc .nil AN (Aa (pvD 0) (Aa (pvD 1) Ae)))))) (JD (ptT (AF (opE KY) (AG (lenD Aj) (by rfl) T.len PySem.boot_len (Aa (pvD 0) Ae)) Ah (A0 _))) (GN (ptT (AF (Bd_ 8 (hu9 hr)) (Ar (ixLD Cj) (pvD 0) Ah) (F3 Ae) (A0 _)))))))
   (Af (An Ek))
   AL)
   (Ac (E7 PassesOwn.never rfl (Gs_ rfl T.range (Aa Ah (Aa (AG (lenD Aj) (by rfl) T.len PySem.boot_len (Aa (pvD 0) Ae)) Ae))) (Bm (i:=2) Je.nd rfl (Or.inl rfl))
   (Af (B7 (ptT (AF (Vc (hu9 hr)) (FK DC_ (Ar (ixLD Cj) (pvD 0) (pvD 2)) Hk (Hl (Fl_ XC Ah))) (FK Mo (pvD 0) Hk (Hl (pvD 2))) rfl))
   (Af (An Ek))
   AL)))
   (Af (An Ek)))),?_⟩
  nofun
  refine⟨pw,L,xs,words,rfl,hp,hW,nd,ok,hwl,fun H1 s1=>⟨_,rfl,?_⟩⟩
  rw[if_neg (by decide)]
  obtain⟨t0,hx0,ht0⟩:=hW.2 0 _ w0
  have hl0:=(List.getElem?_eq_some_iff.mp w0).1
  refine⟨_,.inl (s1.seq hp),?_⟩
  rw[hW.1,if_neg s!""]
  refine⟨_,s1.seq hp,_,show atI xs ((0:Nat):Int)=_ from Cr hx0,by lia,fun p2 hp2=>⟨_,rfl,true,?_,?_⟩⟩
  ·exact EqD.word43 7 (w:=[]) (SqT.of ((s1.newT hp2) _ _ ht0)) (SqT.of Ab)
  rw[if_neg (by decide)]
  have s2:=s1.newT hp2 (o:=.tup [])
  generalize upd H1 p2 (.tup [])=H2 at s2 ⊢
  refine⟨_,.inl (s2.seq hp),by lia,by lia,by rw[hW.1];lia,by rw[hW.1];lia,?_⟩
  rw[hW.1]
  obtain⟨Pv,hPv⟩:∃Pv:Nat->St->Hp->Prop,∀i σ' H',Pv i σ' H'↔(∃o:Option V,Same H H'/\σ'=[some (.ref pw),some (.int L),o]):=⟨_,fun _ _ _=>Iff.rfl⟩
  refine forR Pv ((hPv _ _ _).mpr ⟨none,s2,rfl⟩) (fun i σ' H' hi h'=>?_) (fun σ' H' h'=>?_)
  ·obtain⟨o,s',rfl⟩:=(hPv _ _ _).mp h'
   have hi1:i+1<words.length:=by lia
   have hwi:words[i+1]?=some words[i+1]:=by simp[hi1]
   obtain⟨j,u,x,hj,hu,hx,e⟩:=ac (i+1) _ hwi s!""
   rw[e]at hwi
   obtain⟨t,hxi,ht⟩:=hW.2 (i+1) _ hwi
   rw[show (1:Int)+(i:Int)=((i+1:Nat):Int) by lia]
   nofun
   refine⟨_,s'.seq hp,_,Cr hxi,t,_,rfl,s' _ _ ht,fun p4 H5 s5 hp5=>?_⟩
   rw[XW]at hp5
   have s6:=s'.trans s5
   refine⟨_,s6.seq hp,fun p6 hp6=>?_⟩
   rw[GH]
   have s7:=s6.newT hp6 (o:=.lst (xs.take (i+1)))
   refine⟨p4,rfl,_,SqL.of Ab,u,words.take (i+1),(Am.take17 hW (i+1)).mono (TK.of s7),SqT.of ((Same.new hp6) _ _ hp5),?_⟩
   have hin:u∈words.take (i+1):=List.mem_of_getElem? (i:=j) (by rw[List.getElem?_take,if_pos hj];exact hu)
   rw[decide_eq_true hin,if_neg (by decide)]
   exact (hPv _ _ _).mpr ⟨_,s7,rfl⟩
  ·obtain⟨o,s',rfl⟩:=(hPv _ _ _).mp h'
   nofun
   exact k _ s'
def Am.eqL59 {K:PySem.W.Frag}     (h3:SqL K H a zs)(h4:Am K H zs ws)(g3:SqL K H b zs')(g4:Am K H zs' ws)(n:Nat):EqD K H (n+2) (.ref a) (.ref b) true:=by
 refine EqD.all43 (.inl ⟨h3,g3⟩) (h4.1.trans g4.1.symm) fun i x y hx hy=>?_
 have hi:=(List.getElem?_eq_some_iff.mp hx).1
 rw[h4.1]at hi
 obtain⟨t,a1,a2⟩:=h4.2 i ws[i] (by simp[hi])
 obtain⟨t',b1,b2⟩:=g4.2 i ws[i] (by simp[hi])
 rw[a1]at hx
 rw[b1]at hy
 cases hx
 cases hy
 exact EqD.word43 n (SqT.of a2) (SqT.of b2)
noncomputable def YV (K:PySem.W.Frag):Sp:=fun vs H Q _=>∃(pw:Addr) (L:Nat) (xs:List V) (words:List (List Int)),vs=[.ref pw,.int L]/\SqL K H pw xs/\Am K H xs words/\words.Nodup/\(∀v∈words,isW L v=true/\v ≠ [])/\words.length<=100/\L<=6/\words.take L=fE57 L/\∀H',Same H H'->Q (.bl true) H'
def RL   (F:Fun K "_law_ends_good" "_law_ends_good" Ca f fd)(T:Txt mg)
  (W:Own K mg C_j7 C_j9 C_ji C_ja C_j1 C_j4)
  (Z:Exs K mg C_j8 C_j5 C_j6 C_j3 C_j2 C_j0)
   (C9:nofun 3 BG DR ["words","letters"] (YT K)) (B2:Fun K "_law_words_good" "_law_words_good" BZ BG DR) (Dc:Au K DR ["words","letters"] []) (Dd:mg "_law_words_good"=some (.ref BG))
  : nofun 4 f fd ["ends","letters"] (YV K):=by
 delta Rl
 ·obtain⟨pw,L,xs,words,rfl,_⟩:=h;rfl
 ·obtain⟨pw,L,xs,words,rfl,hp,hW,nd,ok,hwl,hL,e0,k⟩:=h
  have hl:=Aq
  refine⟨_,(Ac (B7 (PW.pt (JD (EU (ptB (ET (Ay C9 (hr.mono (by decide)) rfl Dd B2.kp Dc .nil AN (Aa (pvD 0) (Aa (pvD 1) Ae)))))) (GN (ptT (AF (Kg_ (hu9 hr)) (F3 Ae) (pvD 0) rfl)))))
   (Af (An Ek))
   AL)
   (Af (An (J1 (Ey_ 8 (hu9 hr)) (FK Mo (pvD 0) Hk (Hl (pvD 1))) (K2 rfl (Kl rfl) (cp:=JI) True.intro (EV rfl T.range (Aa (pvD 1) Ae)) (fun _ _ _ _=>(Bm (i:=0) MB rfl (Or.inl rfl))) (fun _ _ _ _=>Ls) (fun _ _ _ _=>(F3 (Aa (pvD 0) Ae)))) (A0 _))))),?_⟩
  nofun
  refine⟨pw,L,xs,words,rfl,hp,hW,nd,fun v hv=>(ok v hv).1,hwl,fun H1 s1=>⟨_,rfl,?_⟩⟩
  rw[if_neg (by decide)]
  refine⟨by lia,fun p2 hp2=>?_⟩
  have s2:=s1.newT hp2 (o:=.tup [])
  have hp2':upd H1 p2 (.tup []) p2=some (.tup []):=Ab
  generalize upd H1 p2 (.tup [])=H2 at s2 hp2' ⊢
  refine⟨_,s2.seq hp,[],words,hW.mono (TK.of s2),SqT.of hp2',?_⟩
  rw[if_neg (fun z=>(ok _ z).2 rfl)]
  refine⟨_,s2.seq hp,fun p3 hp3=>?_⟩
  rw[GH,Int.toNat_natCast]
  have s3:=s2.newT hp3 (o:=.lst (xs.take L))
  have w3:=(Am.take17 hW L).mono (TK.of s3)
  rw[e0]at w3
  have hp3':upd H2 p3 (.lst (xs.take L)) p3=some (.lst (xs.take L)):=Ab
  generalize upd H2 p3 (.lst (xs.take L))=H3 at s3 w3 hp3' ⊢
  refine⟨by lia,by lia,?_⟩
  obtain⟨Pc,hPc⟩:∃Pc:Nat->List V->St->Hp->Prop,∀i us σ' H',Pc i us σ' H'↔(Same H3 H'/\Am K H' us (fE57 i)/\∃o,σ'=[o]):=⟨_,fun _ _ _ _=>Iff.rfl⟩
  refine II_ Pc ((hPc _ _ _ _).mpr ⟨Same.refl _,Am.nil,none,rfl⟩) s!"" (fun i us σ' H' hi h'=>?_) (fun i us σ' H' hi h'=>?_) (fun us σ' H4 h' D hD=>?_)
  ·obtain⟨_,hR,_⟩:=(hPc _ _ _ _).mp h'
   rw[hR.1];unfold fE57;rw[List.length_map,List.length_range];exact Nat.le_refl _
  ·obtain⟨s4,hR,o,rfl⟩:=(hPc _ _ _ _).mp h'
   rw[Int.zero_add]
   nofun
   refine⟨by lia,fun t ht=>(hPc _ _ _ _).mpr ⟨s4.newT ht,?_,_,rfl⟩⟩
   have e:fE57 (i+1)=fE57 i++[[(i:Int)]]:=by unfold fE57;rw[List.range_succ,List.map_append];rfl
   rw[e]
   exact (hR.mono (TK.new ht)).snoc Ab
  ·obtain⟨s4,hR,o,rfl⟩:=(hPc _ _ _ _).mp h'
   have s5:=s4.newT hD (o:=.lst us)
   exact⟨_,rfl,_,Am.eqL59 (SqL.of (s5 _ _ hp3')) (w3.mono (TK.of s5)) (SqL.of Ab) (hR.mono (TK.new hD)) 6,k _ (s3.trans s5)⟩
noncomputable def RM (K:PySem.W.Frag):Sp:=fun vs H Q _=>∃(d t pe:Addr) (es:Bk) (v:List Int) (ys:List V) (E:List (List Int)),vs=[.ref d,.ref t,.ref pe]/\H d=some (.dT (ents es))/\(es.map (·.1)).Nodup/\H t=some (.tup (v.map V.int))/\SqL K H pe ys/\Am K H ys E/\v.length<=600/\(∀e∈E,e.length<=600)/\E.length<=100/\(∀e∈E,∃m,mkO es (v++e)=some m)/\∀l H',Same H H'->H l=none->H' l=some (.lst ((gOf E es v).map V.int))->Q (.ref l) H'
def YW   (F:Fun K "_law_marks" "_law_marks" Et f fd)(T:Txt mg)
  (W:Own K mg C_j7 C_j9 C_ji C_ja C_j1 C_j4)
  (Z:Exs K mg C_j8 C_j5 C_j6 C_j3 C_j2 C_j0)
  : nofun 1 f fd ["told","word","ends"] (RM K):=by
 delta Yv
 ·obtain⟨d,t,pe,es,v,ys,E,rfl,_⟩:=h;rfl
 ·obtain⟨d,t,pe,es,v,ys,E,rfl,hd,nd,ht,hpe,hE,hvl,hel,hen,hall,k⟩:=h
  have hl:=Aq
  refine⟨_,(Af (An (K2 rfl (Kl rfl) (cp:=OC) ⟨⟨rfl,rfl⟩,⟨⟨rfl,rfl⟩,True.intro⟩⟩ (Ge (pvD 2)) (fun _ _ _ _=>(Bm (i:=0) Ro rfl (Or.inl rfl))) (fun _ _ _ _=>(Mk_ (Gn_ (GQ_ (IX hr) (BU (PU (K:=K) rfl) (pvD 2) (pvD 0)) (pvD 1))))) (fun _ _ _ _=>(Mq (IX hr) (pvD 1) (BU (PU (K:=K) rfl) (pvD 2) (pvD 0)) (fun _ _=>rfl)))))),?_⟩
  nofun
  refine⟨⟨_,hpe⟩,Dg_ (xs:=ys) (fun i us σ' H'=>Same H H'/\us=(gOf (E.take i) es v).map V.int/\∃o,σ'=[o,some (.ref d),some (.ref t)]) ⟨Same.refl _,rfl,none,rfl⟩ (by rw[hE.1];lia) (fun i us σ' H' hi h'=>⟨h'.1.seq hpe,by rw[h'.2.1,List.length_map];unfold gOf;rw[List.length_map,List.length_take];lia⟩) (fun i x us σ' H' hx h'=>?_) (fun us σ' H' h' D hD=>?_)⟩
  ·obtain⟨s1,rfl,o,rfl⟩:=h'
   obtain⟨te,e,hei,rfl,hte⟩:=hE.at hx
   have heE:=List.mem_of_getElem? hei
   have hel':=hel e heE
   obtain⟨m,hm⟩:=hall e heE
   have et:E.take (i+1)=E.take i++[e]:=by rw[List.take_add_one,hei];rfl
   have hval:valV (ents es) (wkey (v++e))=some (.int m):=F6 nd (YE hm)
   nofun
   refine Kn.ofS (s1 _ _ ht) (s1 _ _ hte) (by simp;lia) fun q H2 s2 hq=>?_
   have s12:=s1.trans s2
   rw[<-List.map_append,<-Ck]at hq
   refine⟨_,DGet.t (s12 _ _ hd) hq,?_⟩
   rw[hval,if_pos (show (some (V.int m)).isSome=true from rfl)]
   refine Kn.ofS (s12 _ _ ht) (s12 _ _ hte) (by simp;lia) fun q2 H3 s3 hq2=>?_
   have s13:=s12.trans s3
   rw[<-List.map_append,<-Ck]at hq2
   refine⟨_,by rw[<-hval];exact DGet.t (s13 _ _ hd) hq2,s13,?_,_,rfl⟩
   rw[et]
   unfold gOf
   rw[List.map_append,List.map_append,List.map_singleton,hm];rfl
  ·obtain⟨s1,rfl,o,rfl⟩:=h'
   rw[hE.1,List.take_length]
   exact k D _ (s1.newT hD) (s1.none hD) Ab
def DA.mono59 {K:PySem.W.Frag}    (h:DA K H xs ws)(s:Same H H'):DA K H' xs ws:=⟨h.1,fun i w hi=>by
 obtain⟨t,a,b⟩:=h.2 i w hi
 exact⟨t,a,s _ _ b⟩⟩
def DA.snoc59 {K:PySem.W.Frag}{H:Hp}{xs:List V}{ws:List (List Int)}{t:Addr}{w:List Int}(h:DA K H xs ws)(ht:H t=some (.lst (w.map V.int))):DA K H (xs++[.ref t]) (ws++[w]):=⟨by simp[h.1],fun i u hi=>by
 by_cases hl:i<ws.length
 ·rw[List.getElem?_append_left hl]at hi
  obtain⟨q,a,b⟩:=h.2 i u hi
  exact⟨q,by rw[List.getElem?_append_left (by rw[h.1];exact hl)];exact a,b⟩
 ·have hlt:=(List.getElem?_eq_some_iff.mp hi).1
  rw[List.length_append,List.length_singleton]at hlt
  rw[List.getElem?_append_right s!"",show i-ws.length=0 by lia]at hi
  cases hi
  exact⟨t,by rw[List.getElem?_append_right (by rw[h.1];lia),h.1,show i-ws.length=0 by lia];rfl,ht⟩⟩
def DA.take59 {K:PySem.W.Frag}    (h:DA K H xs ws)(n:Nat):DA K H (xs.take n) (ws.take n):=⟨by rw[List.length_take,List.length_take,h.1],fun i w hi=>by
 rw[List.getElem?_take]at hi ⊢
 split at hi
 ·rename_i hk
  rw[if_pos hk];exact h.2 i w hi
 ·cases hi⟩
def Ic_ (E:List (List Int))(es:Bk)(v:List Int):(gOf E es v).length=E.length:=by unfold gOf;rw[List.length_map]
noncomputable def Fd_ (K:PySem.W.Frag):Sp:=fun vs H Q _=>∃(pw pe d:Addr) (L most:Nat) (zs ys:List V) (W E:List (List Int)) (es:Bk),vs=[.int L,.ref pw,.ref pe,.ref d]/\H pw=some (.lst zs)/\Am K H zs W/\H pe=some (.lst ys)/\Am K H ys E/\H d=some (.dT (ents es))/\Tb L most W E es/\Full L W E es/\E5 L W E es=none/\(∀e∈E,e.length<=500)/\∀h H',Same H H'->HouT K H' h L (Cc L W E es) (EO L W E es)->Q (.ref h) H'
def RO   (F:Fun K "_law_due_guess" "_law_due_guess" CL f fd)(T:Txt mg)
  (W:Own K mg C_j7 C_j9 C_ji C_ja C_j1 C_j4)
  (Z:Exs K mg C_j8 C_j5 C_j6 C_j3 C_j2 C_j0)
   (FC:nofun 1 DS G4 ["told","word","ends"] (RM K)) (DT:Fun K "_law_marks" "_law_marks" Et DS G4) (FD:Au K G4 ["told","word","ends"] []) (FE:mg "_law_marks"=some (.ref DS))
  : nofun 2 f fd ["letters","access","ends","told"] (Fd_ K):=by
 delta B0
 ·obtain⟨pw,pe,d,L,most,zs,ys,W,E,es,rfl,_⟩:=h;rfl
 ·obtain⟨pw,pe,d,L,most,zs,ys,W,E,es,rfl,hpw,hW,hpe,hE,hd,tb,full,hst,hel,k⟩:=h
  have hl:=Aq
  have hwn:=tb.wn
  have hm12:=tb.m12
  have hen:=tb.en
  have hl6:=tb.l6
  obtain⟨np,cl⟩:=tb.none full hst
  have nd:=tb.nodup full
  have hwl:∀v∈W,v.length<=12:=fun v hv=>by have:=(tb.wW v hv).2;lia
  have hrow:∀v∈B8 L W,∀e∈E,∃m,mkO es (v++e)=some m:=fun v hv e he=>full _ (B6.mpr ⟨v,hv,e,he,rfl⟩)
  refine⟨_,(Ac (Yb (i:=4) B0.nd rfl rfl rfl (Kl rfl) (cp:=JJ) ⟨⟨rfl,rfl⟩,⟨⟨rfl,rfl⟩,True.intro⟩⟩ (Ge (pvD 1)) (fun _ _ _ _=>(Bm (i:=0) MC rfl (Or.inl rfl))) (fun _ _ _ _=>Ls) (fun _ _ _ _=>(Ay FC (hr.mono (by decide)) rfl FE DT.kp FD .nil AN (Aa (pvD 1) (Aa (pvD 0) (Aa (pvD 2) Ae))))))
   (Ac (AX (i:=5) B0.nd (JG Ae))
   (Ac (AX (i:=6) B0.nd (JG Ae))
   (Ac (E7 PassesOwn.never rfl (EV rfl T.range (Aa (AG (lenD Aj) (by rfl) T.len PySem.boot_len (Aa (pvD 1) Ae)) Ae)) (Bm (i:=7) B0.nd rfl (Or.inl rfl))
   (Ac (B7 (PW.pt (JD (ptT (AF (opN Rb) (AG (lenD Aj) (by rfl) T.len PySem.boot_len (Aa (Ar (ixLD Cj) (pvD 4) (pvD 7)) Ae)) (AG (lenD Aj) (by rfl) T.len PySem.boot_len (Aa (pvD 2) Ae)) (A0 _))) (GN (ptT (AF (Km_ (hu9 hr)) (Ar (ixLD Cj) (pvD 4) (pvD 7)) (FK Mo (pvD 4) Hk (Hl (pvD 7))) rfl)))))
   (Af (An Gk))
   AL)
   (Ac (Bc (U5 PySem.F.plainAttrs_list PySem.F.slot_list_append PySem.F.type_list_append GO (pvD 5) (Aa (Ci DB rfl T.tuple PyProof.Rows.boot_tuple (Aa (FK Mo (Ar (ixLD Cj) (pvD 4) (pvD 7)) Hk (Hl (pvD 0))) Ae)) Ae)))
   (Ac (AX (i:=8) B0.nd (JG Ae))
   (Ac (E7 PassesOwn.never rfl (EV rfl T.range (Aa (pvD 0) Ae)) (Bm (i:=9) B0.nd rfl (Or.inl rfl))
   (Ac (AX (i:=10) B0.nd (Ay FC (hr.mono (by decide)) rfl FE DT.kp FD .nil AN (Aa (pvD 3) (Aa (BU Oe (Ar (ixLD Cj) (pvD 1) (pvD 7)) (F3 (Aa (pvD 9) Ae))) (Aa (pvD 2) Ae)))))
   (Ac (B7 (ptT (AF (Hw_ (hu9 hr)) (pvD 10) (pvD 4) rfl))
   (Af (An Gk))
   AL)
   (Af (Bc (U5 PySem.F.plainAttrs_list PySem.F.slot_list_append PySem.F.type_list_append GO (pvD 8) (Aa (U5 PySem.F.plainAttrs_list PySem.F.slot_list_index PySem.F.type_list_index (FB_ (hu9 hr)) (pvD 4) (Aa (pvD 10) Ae)) Ae)))))))
   (Af (Bc (U5 PySem.F.plainAttrs_list PySem.F.slot_list_append PySem.F.type_list_append GO (pvD 6) (Aa (Ci DB rfl T.tuple PyProof.Rows.boot_tuple (Aa (pvD 8) Ae)) Ae)))))))))
   (Af (An (F3 (Aa (pvD 0) (Aa (Ci DB rfl T.tuple PyProof.Rows.boot_tuple (Aa (pvD 5) Ae)) (Aa (Ci DB rfl T.tuple PyProof.Rows.boot_tuple (Aa (pvD 6) Ae)) Ae)))))))))),?_⟩
  nofun
  refine⟨⟨_,SqL.of hpw⟩,Dg_ (xs:=zs) (fun i us σ' H'=>Same H H'/\DA K H' us ((W.take i).map (gOf E es))/\∃o,σ'=[o,some (.ref d),some (.ref pe)]) ⟨Same.refl _,⟨rfl,fun i w z=>by cases z⟩,none,rfl⟩ (by rw[hW.1];lia) (fun i us σ' H' hi h'=>⟨h'.1.seq (SqL.of hpw),by rw[h'.2.1.1,List.length_map,List.length_take];lia⟩) (fun i x us σ' H' hx h'=>?_) (fun us σ' H1 h' D hD=>?_)⟩
  ·obtain⟨s1,hR,o,rfl⟩:=h'
   obtain⟨t,v,hvi,rfl,ht⟩:=hW.at hx
   have hvW:=List.mem_of_getElem? hvi
   nofun
   refine⟨d,t,pe,es,v,ys,E,rfl,s1 _ _ hd,tb.nd,s1 _ _ ht,SqL.of (s1 _ _ hpe),hE.mono (TK.of s1),by have:=hwl v hvW;lia,fun e he=>by have:=hel e he;lia,by lia,hrow v (AW.mpr (.inl hvW)),fun l H2 s2 hl2 hl2'=>⟨s1.trans s2,?_,_,rfl⟩⟩
   rw[List.take_add_one,hvi,List.map_append]
   exact DA.snoc59 (DA.mono59 hR s2) hl2'
  obtain⟨s1,hR,o,rfl⟩:=h'
  rw[hW.1,List.take_length]at hR
  have s1':=s1.newT hD (o:=.lst us)
  have hR1:=DA.mono59 hR (Same.new hD (o:=.lst us))
  have hDs:upd H1 D (.lst us) D=some (.lst us):=Ab
  generalize upd H1 D (.lst us)=H2 at s1' hR1 hDs ⊢
  refine⟨by lia,fun p hp=>⟨by lia,fun q hq=>?_⟩⟩
  have hpq:p≠q:=fun z=>by rw[z,Ab]at hq;cases hq
  have hq2:H2 q=none:=by rwa [Ag (Ne.symm hpq)]at hq
  have s2:=(Same.new hp (o:=.lst [])).newT hq (o:=.lst [])
  have hp2:upd (upd H2 p (.lst [])) q (.lst []) p=some (.lst []):=by rw[Ag hpq,Ab]
  have hq2':upd (upd H2 p (.lst [])) q (.lst []) q=some (.lst []):=Ab
  generalize upd (upd H2 p (.lst [])) q (.lst [])=H3 at s2 hp2 hq2' ⊢
  refine⟨_,.inl (SqL.of (s2 _ _ (s1' _ _ hpw))),by lia,by rw[hW.1];lia,?_⟩
  rw[hW.1,Int.toNat_natCast]
  obtain⟨Pv,hPv⟩:∃Pv:Nat->St->Hp->Prop,∀i σ' H',Pv i σ' H'↔(∃(o1 o2 o3 o4:Option V) (us' vs':List V),Same H2 H'/\H' p=some (.lst us')/\Am K H' us' (Cc L (W.take i) E es)/\H' q=some (.lst vs')/\Am K H' vs' ((EO L W E es).take i)/\σ'=[some (.int L),some (.ref pw),some (.ref pe),some (.ref d),some (.ref D),some (.ref p),some (.ref q),o1,o2,o3,o4]):=⟨_,fun _ _ _=>Iff.rfl⟩
  refine forR Pv ((hPv _ _ _).mpr ⟨none,none,none,none,[],[],s2,hp2,Am.nil,hq2',Am.nil,rfl⟩) (fun i σ' H' hi h'=>?_) (fun σ' H' h'=>?_)
  ·obtain⟨o1,o2,o3,o4,us',vs',s3,hp3,hM,hq3,hY,rfl⟩:=(hPv _ _ _).mp h'
   rw[Int.zero_add]
   have hwi:W[i]?=some W[i]:=by simp[hi]
   have hri:(W.map (gOf E es))[i]?=some (gOf E es W[i]):=by rw[List.getElem?_map,hwi];rfl
   obtain⟨ti,hti,hgi⟩:=hR1.2 i _ hri
   have hnot:=Nn (l:=W.map (gOf E es)) (i:=i) (by rw[List.length_map];exact hi) nd
   rw[List.getElem_map]at hnot
   nofun
   refine⟨_,SqL.of (s3 _ _ hDs),_,Cr hti,ti,rfl,_,.inl (SqL.of (s3 _ _ hgi)),_,.inl (SqL.of (s3 _ _ (s1' _ _ hpe))),?_⟩
   rw[if_neg (by rw[List.length_map,Ic_,hE.1];simp)]
   refine⟨_,SqL.of (s3 _ _ hDs),_,Cr hti,_,SqL.of (s3 _ _ hDs),fun p1 hp1=>⟨ti,rfl,_,SqL.of Ab,gOf E es W[i],(W.map (gOf E es)).take i,?_,SqL.of ((Same.new hp1) _ _ (s3 _ _ hgi)),?_⟩⟩
   ·rw[GH]
    exact DA.take59 (DA.mono59 hR1 (s3.newT hp1)) i
   rw[if_neg hnot]
   have a4:=Same.new hp1 (o:=.lst (cutV us none (some (i:Int))))
   have s4:=s3.trans a4
   have hp4:=a4 _ _ hp3
   have hq4:=a4 _ _ hq3
   have hM4:=hM.mono (TK.of a4)
   have hY4:=hY.mono (TK.of a4)
   generalize upd H' p1 (.lst (cutV us none (some (i:Int))))=H4 at a4 s4 hp4 hq4 hM4 hY4 ⊢
   refine⟨.inl ⟨rfl,_,SqL.of hp4⟩,_,SqL.of (s4 _ _ hDs),_,Cr hti,ti,rfl,_,SqL.of (s4 _ _ hgi),fun p5 hp5=>⟨_,.inl ⟨SqL.of Ab,fun t5 ht5=>?_⟩⟩⟩
   rw[GH,<-List.map_take]at ht5 ⊢
   have a5:=(Same.new hp5 (o:=.lst (((gOf E es W[i]).take L).map V.int))).newT ht5 (o:=.tup (((gOf E es W[i]).take L).map V.int))
   have ht5':upd (upd H4 p5 (.lst (((gOf E es W[i]).take L).map V.int))) t5 (.tup (((gOf E es W[i]).take L).map V.int)) t5=some (.tup (((gOf E es W[i]).take L).map V.int)):=Ab
   have s5:=s4.trans a5
   have hp5':=a5 _ _ hp4
   have hq5:=a5 _ _ hq4
   have hM5:=hM4.mono (TK.of a5)
   have hY5:=hY4.mono (TK.of a5)
   generalize upd (upd H4 p5 (.lst (((gOf E es W[i]).take L).map V.int))) t5 (.tup (((gOf E es W[i]).take L).map V.int))=H5 at a5 s5 hp5' hq5 hM5 hY5 ht5' ⊢
   have hlu:us'.length=i:=by rw[hM.1];unfold Cc;rw[List.length_map,List.length_take];lia
   refine⟨_,hp5',by lia,by lia,fun r hr=>⟨by lia,by lia,?_⟩⟩
   rw[Int.toNat_natCast]
   have hM6:Am K (upd H5 p (.lst (us'++[V.ref t5]))) (us'++[V.ref t5]) (Cc L (W.take (i+1)) E es):=by
    have e:Cc L (W.take (i+1)) E es=Cc L (W.take i) E es++[(gOf E es W[i]).take L]:=by
     unfold Cc
     rw[List.take_add_one,hwi,List.map_append];rfl
    rw[e]
    exact (hM5.snoc ht5').mono (TK.lst hp5')
   have s6:Same H2 (upd H5 p (.lst (us'++[V.ref t5]))):=s5.over hp
   have hp6:upd H5 p (.lst (us'++[V.ref t5])) p=some (.lst (us'++[V.ref t5])):=Ab
   have hq6:upd H5 p (.lst (us'++[V.ref t5])) q=some (.lst vs'):=by rw[Ag (Ne.symm hpq)];exact hq5
   have hY6:=hY5.mono (TK.lst hp5' (o:=.lst (us'++[V.ref t5])))
   generalize upd H5 p (.lst (us'++[V.ref t5]))=H6 at hr hM6 s6 hp6 hq6 hY6 ⊢
   have a7:=Same.new hr (o:=.lst [])
   have hr7:upd H6 r (.lst []) r=some (.lst []):=Ab
   obtain⟨Pw,hPw⟩:∃Pw:Nat->St->Hp->Prop,∀j σ2 H',Pw j σ2 H'↔(∃(o3 o4:Option V),Same H6 H'/\H' r=some (.lst (((List.range j).map fun x:Nat=>(((W.map (gOf E es)).idxOf (gOf E es (W[i]++[(x:Int)])):Nat):Int)).map V.int))/\σ2=[some (.int L),some (.ref pw),some (.ref pe),some (.ref d),some (.ref D),some (.ref p),some (.ref q),some (.int i),some (.ref r),o3,o4]):=⟨_,fun _ _ _=>Iff.rfl⟩
   refine forR Pw ((hPw _ _ _).mpr ⟨o3,o4,a7,hr7,rfl⟩) (fun j σ2 H8 hj h8=>?_) (fun σ2 H8 h8=>?_)
   ·obtain⟨o3,o4,s8,hr8,rfl⟩:=(hPw _ _ _).mp h8
    rw[Int.zero_add]
    obtain⟨tw,htw,hti'⟩:=hW.2 i _ hwi
    have t8:=s6.trans s8
    have t18:=s1'.trans t8
    nofun
    refine⟨_,SqL.of (t18 _ _ hpw),_,Cr htw,by lia,fun p9 hp9=>?_⟩
    have a9:=Same.new hp9 (o:=.tup [V.int (j:Int)])
    refine Kn.ofS (a9 _ _ (t18 _ _ hti')) Ab (by have:=hwl _ (List.mem_of_getElem? hwi);simp;lia) fun t10 H10 s10 ht10=>?_
    have a10:=a9.trans s10
    have t10':=t18.trans a10
    rw[show [V.int (j:Int)]=[(j:Int)].map V.int from rfl,<-List.map_append]at ht10
    have hrw:W[i]++[(j:Int)]∈B8 L W:=AW.mpr (.inr ⟨_,List.mem_of_getElem? hwi,j,hj,rfl⟩)
    refine⟨d,t10,pe,es,W[i]++[(j:Int)],ys,E,rfl,t10' _ _ hd,tb.nd,ht10,SqL.of (t10' _ _ hpe),hE.mono (TK.of t10'),by have:=hwl _ (List.mem_of_getElem? hwi);simp;lia,fun e he=>by have:=hel e he;lia,by lia,hrow _ hrw,fun l H11 s11 hl11 hl11'=>?_⟩
    have a11:=a10.trans s11
    have t11:=t8.trans a11
    have hR11:=DA.mono59 hR1 t11
    have hin:=cl _ (List.mem_of_getElem? hwi) j hj
    refine⟨l,rfl,_,SqL.of (t11 _ _ hDs),_,_,hR11,SqL.of hl11',?_⟩
    rw[decide_eq_true hin,if_neg (by decide)]
    have hr11:=a11 _ _ hr8
    refine⟨.inl ⟨rfl,_,SqL.of hr11⟩,.inl ⟨rfl,_,SqL.of (t11 _ _ hDs)⟩,_,l,rfl,t11 _ _ hDs,_,_,hR11,SqL.of hl11',hin,by rw[hR1.1,List.length_map];lia,_,hr11,by simp;lia,(hPw _ _ _).mpr ⟨_,_,(s8.trans a11).over hr,?_,rfl⟩⟩
    rw[Ab,List.range_succ,List.map_append,List.map_append];rfl
   ·obtain⟨o3,o4,s8,hr8,rfl⟩:=(hPw _ _ _).mp h8
    have t8:=s6.trans s8
    have hq8:=s8 _ _ hq6
    nofun
    refine⟨.inl ⟨rfl,_,SqL.of hq8⟩,_,.inl ⟨SqL.of hr8,fun t9 ht9=>?_⟩⟩
    have a9:=Same.new ht9 (o:=.tup (((List.range L).map fun x:Nat=>(((W.map (gOf E es)).idxOf (gOf E es (W[i]++[(x:Int)])):Nat):Int)).map V.int))
    have ht9':upd H8 t9 (.tup (((List.range L).map fun x:Nat=>(((W.map (gOf E es)).idxOf (gOf E es (W[i]++[(x:Int)])):Nat):Int)).map V.int)) t9=some (.tup (((List.range L).map fun x:Nat=>(((W.map (gOf E es)).idxOf (gOf E es (W[i]++[(x:Int)])):Nat):Int)).map V.int)):=Ab
    generalize upd H8 t9 (.tup (((List.range L).map fun x:Nat=>(((W.map (gOf E es)).idxOf (gOf E es (W[i]++[(x:Int)])):Nat):Int)).map V.int))=H9 at a9 ht9' ⊢
    have hq9:=a9 _ _ hq8
    have s89:=s8.trans a9
    have hgl:(EO L W E es).length=W.length:=by unfold EO;rw[List.length_map]
    refine⟨_,hq9,by rw[hY6.1,List.length_take];lia,(hPv _ _ _).mpr ⟨_,_,_,_,us'++[V.ref t5],_,(t8.trans a9).over hq2,by rw[Ag hpq];exact s89 _ _ hp6,(hM6.mono (TK.of s89)).mono (TK.lst hq9),Ab,?_,rfl⟩⟩
    have e:(EO L W E es).take (i+1)=(EO L W E es).take i++[(List.range L).map fun x:Nat=>(((W.map (gOf E es)).idxOf (gOf E es (W[i]++[(x:Int)])):Nat):Int)]:=by
     rw[List.take_add_one]
     congr 1
     unfold EO
     rw[List.getElem?_map,hwi];rfl
    rw[e]
    exact ((hY6.mono (TK.of s89)).snoc ht9').mono (TK.lst hq9)
  ·obtain⟨o1,o2,o3,o4,us',vs',s3,hp3,hM,hq3,hY,rfl⟩:=(hPv _ _ _).mp h'
   rw[List.take_length]at hM
   rw[List.take_of_length_le (by unfold EO;rw[List.length_map];exact Nat.le_refl _)]at hY
   nofun
   refine⟨_,.inl ⟨SqL.of hp3,fun l1 h1=>⟨_,.inl ⟨SqL.of ((Same.new h1) _ _ hq3),fun l2 h2=>⟨by lia,fun l3 h3=>?_⟩⟩⟩⟩⟩
   have a1:=Same.new h1 (o:=.tup us')
   have a2:=Same.new h2 (o:=.tup vs')
   have a3:=Same.new h3 (o:=.tup [V.int (L:Int),V.ref l1,V.ref l2])
   have a:=(a1.trans a2).trans a3
   exact k l3 _ ((s1'.trans s3).trans a) ⟨l1,l2,us',vs',Ab,a3 _ _ (a2 _ _ Ab),hM.mono (TK.of a),a3 _ _ Ab,hY.mono (TK.of a)⟩
def Tb.wnd    (t:Tb L most W E es):W.Nodup:=by
 rw[List.nodup_iff_pairwise_ne,List.pairwise_iff_getElem]
 intro i j hi hj hij z
 obtain⟨e,he,m,n,h1,h2,h3⟩:=t.dist i j _ _ (List.getElem?_eq_getElem hi) (List.getElem?_eq_getElem hj) s!""
 rw[z,h2]at h1
 exact h3 (Option.some.inj h1).symm
def KD_   (h:v ≠ []):atI ((sayW mm ws v).map V.int) (-1)=some (V.int (lsay mm ws v)):=by
 have hv0:0<v.length:=List.length_pos_iff.mpr h
 have hl:((sayW mm ws v).map V.int).length=v.length:=by rw[List.length_map,Jf]
 have hlt:v.length-1<(sayW mm ws v).length:=by rw[Jf];lia
 unfold lsay
 rw[List.getD_eq_getElem?_getD,List.getElem?_eq_getElem hlt]
 refine Dh_ ?_
 rw[List.length_map,Jf,List.getElem?_map,List.getElem?_eq_getElem hlt];rfl
structure G59 (s:AS):Prop where
 tb:Tb s.L s.most s.W s.E s.es
 ac:∀(k:Nat) (v:List Int),s.W[k]?=some v->0<k->∃(j:Nat) (u:List Int) (x:Nat),j<k/\s.W[j]?=some u/\x<s.L/\v=u++[(x:Int)]
 en:s.E.Nodup
 el:∀e∈s.E,e.length<=500
 bl:∀p∈s.es,p.1 ≠ []/\p.1.length<=600
 bn:s.es.length<=100000
noncomputable def Id_ (K:PySem.W.Frag)(CS CA CB:Addr):Sp:=fun vs H Q _=>∃(h p d a:Addr) (ad:AD) (s:AS) (wv:V),vs=[.ref h,.int s.L,.ref p,.ref d]/\SAt K CS CA CB H p a ad s wv/\HouT K H h s.L (Cc s.L s.W s.E s.es) (EO s.L s.W s.E s.es)/\G59 s/\Full s.L s.W s.E s.es/\E5 s.L s.W s.E s.es=none/\(∀p∈s.es,lsay (Cc s.L s.W s.E s.es) (EO s.L s.W s.E s.es) p.1=p.2)/\H d=some (.dT (ents s.es))/\∀H',Same H H'->Q (.bl true) H'
def Qh   (F:Fun K "_law_guess_good" "_law_guess_good" Cm f fd)(T:Txt mg)
  (W:Own K mg C_j7 C_j9 C_ji C_ja C_j1 C_j4)
  (Z:Exs K mg C_j8 C_j5 C_j6 C_j3 C_j2 C_j0)
   (AA:nofun 2 Ao AK ["self"] (Gb K C_j4 C_j1 C_j7 AS.W)) (A1:Fun K "access" "SayAsker.access" Bi Ao AK) (AB:Au K AK ["self"] []) (AE:Meth K C_j4 "access" Ao)
   (Av:nofun 2 Al Az ["self"] (Gb K C_j4 C_j1 C_j7 AS.E)) (AV:Fun K "tellers" "SayAsker.tellers" A6 Al Az) (Aw:Au K Az ["self"] []) (Ax:Meth K C_j4 "tellers" Al)
   (Bf:nofun 3 AH Bj ["self"] (M7 K C_j4 C_j1 C_j7)) (BD:Fun K "heard" "SayAsker.heard" BB AH Bj) (Bg:Au K Bj ["self"] []) (Bh:Meth K C_j4 "heard" AH)
   (CD:nofun 4 By Dn ["access","letters"] (YU K)) (BS:Fun K "_law_access_good" "_law_access_good" BQ By Dn) (CF:Au K Dn ["access","letters"] []) (CG:mg "_law_access_good"=some (.ref By))
   (Du:nofun 4 BV Eg ["ends","letters"] (YV K)) (Cf:Fun K "_law_ends_good" "_law_ends_good" Ca BV Eg) (Dv:Au K Eg ["ends","letters"] []) (Dx:mg "_law_ends_good"=some (.ref BV))
   (Jm:nofun 3 Eh LA ["found","due"] (KC_ K)) (FF:Fun K "_law_house_is" "_law_house_is" Dm Eh LA) (Jn:Au K LA ["found","due"] []) (Jo:mg "_law_house_is"=some (.ref Eh))
   (Hs:nofun 1 ER Ih ["house","word"] (DD_ K)) (FG:Fun K "_law_talk" "_law_talk" Fh ER Ih) (Ht:Au K Ih ["house","word"] []) (Hu:mg "_law_talk"=some (.ref ER))
   (Iu:nofun 2 Dy KG ["letters","access","ends","told"] (Fd_ K)) (EX:Fun K "_law_due_guess" "_law_due_guess" CL Dy KG) (Iv:Au K KG ["letters","access","ends","told"] []) (Iw:mg "_law_due_guess"=some (.ref Dy))
  : nofun 5 f fd ["house","letters","asker","told"] (Id_ K C_j4 C_j1 C_j7):=by
 delta CC
 ·obtain⟨h,p,d,a,ad,s,wv,rfl,_⟩:=h;rfl
 ·obtain⟨h,p,d,a,ad,s,wv,rfl,S,hh,g,full,hst,hall,hd,k⟩:=h
  obtain⟨⟨dx,L',hp⟩,_⟩:=id S
  have hl:=Aq
  have tb:=g.tb
  have hwn:=tb.wn
  have hm12:=tb.m12
  have hen:=tb.en
  have hl6:=tb.l6
  obtain⟨np,cl⟩:=tb.none full hst
  have gu:GuessOk s.L s.W s.E s.es (Cc s.L s.W s.E s.es) (EO s.L s.W s.E s.es):=tb.guess full cl
  have wf:=tb.wf gu
  refine⟨_,(Ac (AX (i:=4) CC.nd (AM (pvD 2) W.cl_j4 AE AA (hr.mono (by decide)) AB .nil AN))
   (Ac (AX (i:=5) CC.nd (AM (pvD 2) W.cl_j4 Ax Av (hr.mono (by decide)) Aw .nil AN))
   (Ac (B7 (PW.pt (JD (EU (ptB (ET (Ay CD (hr.mono (by decide)) rfl CG BS.kp CF .nil AN (Aa (pvD 4) (Aa (pvD 1) Ae)))))) (GN (EU (ptB (ET (Ay Du (hr.mono (by decide)) rfl Dx Cf.kp Dv .nil AN (Aa (pvD 5) (Aa (pvD 1) Ae)))))))))
   (Af (An Ek))
   AL)
   (Ac (AX (i:=6) CC.nd (Ay Iu (hr.mono (by decide)) rfl Iw EX.kp Iv .nil AN (Aa (pvD 1) (Aa (pvD 4) (Aa (pvD 5) (Aa (pvD 3) Ae))))))
   (Ac (B7 (PW.pt (JD (ptT (AF XD (pvD 6) Gk (A0 _))) (GN (EU (ptB (ET (Ay Jm (hr.mono (by decide)) rfl Jo FF.kp Jn .nil AN (Aa (pvD 0) (Aa (pvD 6) Ae)))))))))
   (Af (An Ek))
   AL)
   (Ac (IU_ (E7 PassesOwn.never rfl (HD_ (pvD 3)) (Ep_ rfl (JF (Bm (i:=7) CC.nd rfl (Or.inl rfl)) (JF (Bm (i:=8) CC.nd rfl (Or.inl rfl)) X1)))
   (Af (B7 (ptT (AF (opN Rb) (Ar (ixLD Cj) (Ay Hs (hr.mono (by decide)) rfl Hu FG.kp Ht .nil AN (Aa (pvD 0) (Aa (pvD 7) Ae))) (Fl_ XC Ah)) (pvD 8) (A0 _)))
   (Af (An Ek))
   AL))))
   (Af (An (J1 (Ey_ 8 (hu9 hr)) (AM (pvD 2) W.cl_j4 Bh Bf (hr.mono (by decide)) Bg .nil AN) (Ci (IZ rfl) rfl T.list PyProof.Rows.boot_list (Aa (Yj (pvD 3)) Ae)) (A0 _)))))))))),?_⟩
  nofun
  refine⟨_,_,hp,by kernel_rfl,p,a,ad,s,wv,rfl,S,fun l1 ts1 H1 s1 hn1 hl1 hW1=>?_⟩
  refine⟨_,_,s1 _ _ hp,by kernel_rfl,p,a,ad,s,wv,rfl,S.same s1,fun l2 ts2 H2 s2 hn2 hl2 hE2=>?_⟩
  have s12:=s1.trans s2
  have hl1':=s2 _ _ hl1
  have hW2:=hW1.mono (TK.of s2)
  refine⟨l1,s.L,ts1,s.W,rfl,SqL.of hl1',hW2,tb.wnd,fun v hv=>(tb.wW v hv).1,by lia,tb.w0,g.ac,fun H3 s3=>⟨_,rfl,?_⟩⟩
  rw[if_neg (by decide)]
  refine⟨l2,s.L,ts2,s.E,rfl,SqL.of (s3 _ _ hl2),hE2.mono (TK.of s3),g.en,tb.eW,by lia,hl6,tb.e0,fun H4 s4=>⟨_,rfl,?_⟩⟩
  rw[if_neg (by decide)]
  have s24:=s3.trans s4
  have s14:=s12.trans s24
  refine⟨l1,l2,d,s.L,s.most,ts1,ts2,s.W,s.E,s.es,rfl,s24 _ _ hl1',hW2.mono (TK.of s24),s24 _ _ hl2,hE2.mono (TK.of s24),s14 _ _ hd,tb,full,hst,g.el,fun h5 H5 s5 hh5=>?_⟩
  have ml:(Cc s.L s.W s.E s.es).length<=12:=by rw[gu.ml];lia
  have wl:(EO s.L s.W s.E s.es).length<=12:=by rw[gu.wl];lia
  show (if V.ref h5=V.non then _ else _)
  rw[if_neg (by simp)]
  have s15:=s14.trans s5
  refine⟨h,h5,s.L,_,_,rfl,(hh.mono (TK.of s15)).house,hh5.house,by lia,by lia,fun r hr=>by rw[gu.sl r hr];lia,fun r hr=>by rw[gu.rl r hr];lia,_,rfl,?_⟩
  rw[if_neg (by decide)]
  refine⟨_,s15 _ _ hd,fun o=>?_⟩
  have hd5:=s15 _ _ hd
  have tk5:TK H5 (upd H5 d (.frz o (.dT (ents s.es)))):=fun t ts h=>by rw[Ag (fun z=>by rw[z,hd5]at h;cases h)];exact h
  have hh6:=(hh.mono (TK.of s15)).mono tk5
  obtain⟨Pv,hPv⟩:∃Pv:Nat->St->Hp->Prop,∀i σ' H',Pv i σ' H'↔(Same (upd H5 d (.frz o (.dT (ents s.es)))) H'/\∃o1 o2,σ'=[some (.ref h),some (.int s.L),some (.ref p),some (.ref d),some (.ref l1),some (.ref l2),some (.ref h5),o1,o2]):=⟨_,fun _ _ _=>Iff.rfl⟩
  refine Nz_ Pv ((hPv _ _ _).mpr ⟨Same.refl _,none,none,rfl⟩) (fun i σ' H' _ h'=>((hPv _ _ _).mp h').1 _ _ Ab) (fun i kk v t b σ' H' hi h' ht hb=>?_) (fun σ' H' h'=>?_)
  ·obtain⟨s6,o1,o2,rfl⟩:=(hPv _ _ _).mp h'
   obtain⟨e,hei,e1,e2⟩:∃e,s.es[i]?=some e/\kk=wkey e.1/\v=V.int e.2:=by
    unfold ents at hi
    rw[List.getElem?_map]at hi
    cases he:s.es[i]? with
    |none=>rw[he]at hi;cases hi
    |some e=>rw[he]at hi;cases hi;exact⟨e,rfl,rfl,rfl⟩
   subst e1 e2
   have hee:=List.mem_of_getElem? hei
   have hbl:=g.bl e hee
   have a7:=Same.new ht (o:=.tup [.ref b,.int e.2])
   have hb7:=a7 _ _ hb
   rw[Ck]at hb7
   have s7:=s6.trans a7
   nofun
   refine⟨_,SqT.of Ab,rfl,_,_,rfl,_,_,rfl,rfl,h,b,s.L,_,_,e.1,rfl,(hh6.mono (TK.of s7)).house,wf,SqT.of hb7,hbl.2,(tb.bW e hee).1,fun p8 H8 s8 hp8=>?_⟩
   refine⟨p8,rfl,_,SqL.of hp8,_,KD_ hbl.1,?_⟩
   rw[hall e hee,if_neg (by simp)]
   exact⟨rfl,(hPv _ _ _).mpr ⟨s7.trans s8,_,_,rfl⟩⟩
  ·obtain⟨s6,o1,o2,rfl⟩:=(hPv _ _ _).mp h'
   refine .inr ⟨d,o,ents s.es,s6 _ _ Ab,ents s.es,hd,?_⟩
   have s7:Same H5 (upd H' d (.dT (ents s.es))):=fun x u hx=>by
    by_cases hxd:x=d
    ·subst hxd
     rw[Ab,<-hx,hd5]
    ·rw[Ag hxd]
     exact s6 _ _ (by rw[Ag hxd];exact hx)
   have s8:=s15.trans s7
   generalize upd H' d (.dT (ents s.es))=H8 at s7 s8 ⊢
   nofun
   refine⟨_,_,s8 _ _ hp,by kernel_rfl,p,a,ad,s,wv,rfl,S.same s8,fun l9 rs9 H9 s9 hn9 hl9 htr9=>?_⟩
   have hd9:=(s8.trans s9) _ _ hd
   refine⟨_,.inl hd9,fun vw hvw=>?_⟩
   have sv:=Same.new (o:=Yi vw d) hvw
   refine⟨d,Ab,_,.inl (sv _ _ hd9),fun l rs H10 s10 hl10 hlen hr=>?_⟩
   have s11:=sv.trans (s10.newT (o:=.lst rs) hl10)
   refine⟨l9,rfl,true,?_,k _ (s8.trans (s9.trans s11))⟩
   refine Hr.eq43 (n:=5) (htr9.mono fun b xs hb=>s11 _ _ hb) ⟨by rw[hlen];unfold ents;rw[List.length_map],fun i tr hi=>?_⟩ (s11 _ _ hl9) Ab
   obtain⟨t,e1,b,e2,e3⟩:=hr i (wkey tr.1) (.int tr.2) (by unfold ents;rw[List.getElem?_map,hi];rfl)
   rw[Ck]at e3
   exact⟨t,b,e1,(Same.new hl10) _ _ e2,(s10.newT hl10) _ _ e3⟩
noncomputable def Qi (K:PySem.W.Frag)(H:Hp)(t:Addr)(W E:List (List Int)):Prop:=∃p q zs ys,H t=some (.tup [.ref p,.ref q])/\H p=some (.lst zs)/\Am K H zs W/\H q=some (.lst ys)/\Am K H ys E
noncomputable def YX (K:PySem.W.Frag)(CS CA CB:Addr):Sp:=fun vs H Q _=>∃(t p a:Addr) (ad:AD) (s:AS) (wv:V) (W0 E0:List (List Int)) (b:Bool),vs=[.ref t,.ref p,.bl b]/\SAt K CS CA CB H p a ad s wv/\Qi K H t W0 E0/\W0 <+: s.W/\E0 <+: s.E/\(b=true->W0.length<s.W.length)/\s.W.length<=100/\s.E.length<=100/\∀H',Same H H'->Q (.bl true) H'
def YY   (F:Fun K "_law_grows" "_law_grows" Es f fd)(T:Txt mg)
  (W:Own K mg C_j7 C_j9 C_ji C_ja C_j1 C_j4)
  (Z:Exs K mg C_j8 C_j5 C_j6 C_j3 C_j2 C_j0)
   (AA:nofun 2 Ao AK ["self"] (Gb K C_j4 C_j1 C_j7 AS.W)) (A1:Fun K "access" "SayAsker.access" Bi Ao AK) (AB:Au K AK ["self"] []) (AE:Meth K C_j4 "access" Ao)
   (Av:nofun 2 Al Az ["self"] (Gb K C_j4 C_j1 C_j7 AS.E)) (AV:Fun K "tellers" "SayAsker.tellers" A6 Al Az) (Aw:Au K Az ["self"] []) (Ax:Meth K C_j4 "tellers" Al)
  : nofun 3 f fd ["kept","asker","strictly"] (YX K C_j4 C_j1 C_j7):=by
 delta K7
 ·obtain⟨t,p,a,ad,s,wv,W0,E0,b,rfl,_⟩:=h;rfl
 ·obtain⟨t,p,a,ad,s,wv,W0,E0,b,rfl,S,⟨pw,pe,zs,ys,ht,hpw,hW0,hpe,hE0⟩,hw,he,hb,hwl,hel,k⟩:=h
  obtain⟨⟨dx,L',hp⟩,_⟩:=id S
  have hl:=Aq
  refine⟨_,(Ac (AX (i:=3) K7.nd (AM (pvD 1) W.cl_j4 AE AA (hr.mono (by decide)) AB .nil AN))
   (Ac (AX (i:=4) K7.nd (AM (pvD 1) W.cl_j4 Ax Av (hr.mono (by decide)) Aw .nil AN))
   (Ac (B7 (ptT (AF (Bd_ 8 (hu9 hr)) (FK Mo (pvD 3) Hk (Hl (AG (lenD Aj) (by rfl) T.len PySem.boot_len (Aa (Ar (ixTD AZ) (pvD 0) Ah) Ae)))) (Ar (ixTD AZ) (pvD 0) Ah) (A0 _)))
   (Af (An Ek))
   AL)
   (Ac (B7 (ptT (AF (Bd_ 8 (hu9 hr)) (FK Mo (pvD 4) Hk (Hl (AG (lenD Aj) (by rfl) T.len PySem.boot_len (Aa (Ar (ixTD AZ) (pvD 0) Ah) Ae)))) (Ar (ixTD AZ) (pvD 0) Ah) (A0 _)))
   (Af (An Ek))
   AL)
   (Af (An (LQ_ (Jx_ (pvD 2)) (XB (J1 (opD0 Gz_) (AG (lenD Aj) (by rfl) T.len PySem.boot_len (Aa (pvD 3) Ae)) (AG (lenD Aj) (by rfl) T.len PySem.boot_len (Aa (Ar (ixTD AZ) (pvD 0) Ah) Ae)) (A0 _)))))))))),?_⟩
  nofun
  refine⟨_,_,hp,by kernel_rfl,p,a,ad,s,wv,rfl,S,fun l1 ts1 H1 s1 hn1 hl1 hW1=>?_⟩
  refine⟨_,_,s1 _ _ hp,by kernel_rfl,p,a,ad,s,wv,rfl,S.same s1,fun l2 ts2 H2 s2 hn2 hl2 hE2=>?_⟩
  have s12:=s1.trans s2
  have hl1':=s2 _ _ hl1
  have hW2:=hW1.mono (TK.of s2)
  have eW:s.W.take W0.length=W0:=by obtain⟨r,e⟩:=hw;rw[<-e,List.take_left]
  have eE:s.E.take E0.length=E0:=by obtain⟨r,e⟩:=he;rw[<-e,List.take_left]
  refine⟨_,SqT.of (s12 _ _ ht),_,rfl,pw,rfl,_,.inl (SqL.of (s12 _ _ hpw)),l1,rfl,_,SqL.of hl1',fun p3 hp3=>?_⟩
  rw[GH,hW0.1]
  have a3:=Same.new hp3 (o:=.lst (ts1.take W0.length))
  have s13:=s12.trans a3
  have hW3:=(Am.take17 hW2 W0.length).mono (TK.of a3)
  rw[eW]at hW3
  refine⟨_,SqT.of (s13 _ _ ht),_,rfl,pw,rfl,true,Am.eqL59 (SqL.of Ab) hW3 (SqL.of (s13 _ _ hpw)) (hW0.mono (TK.of s13)) 6,?_⟩
  rw[if_neg (by decide)]
  have hl13:=a3 _ _ hl1'
  have hl23:=a3 _ _ hl2
  have hE3:=hE2.mono (TK.of a3)
  generalize upd H2 p3 (.lst (ts1.take W0.length))=H3 at a3 s13 hl13 hl23 hE3 ⊢
  refine⟨_,SqT.of (s13 _ _ ht),_,rfl,pe,rfl,_,.inl (SqL.of (s13 _ _ hpe)),l2,rfl,_,SqL.of hl23,fun p4 hp4=>?_⟩
  rw[GH,hE0.1]
  have a4:=Same.new hp4 (o:=.lst (ts2.take E0.length))
  have s14:=s13.trans a4
  have hE4:=(Am.take17 hE3 E0.length).mono (TK.of a4)
  rw[eE]at hE4
  refine⟨_,SqT.of (s14 _ _ ht),_,rfl,pe,rfl,true,Am.eqL59 (SqL.of Ab) hE4 (SqL.of (s14 _ _ hpe)) (hE0.mono (TK.of s14)) 6,?_⟩
  rw[if_neg (by decide)]
  have hl14:=a4 _ _ hl13
  generalize upd H3 p4 (.lst (ts2.take E0.length))=H4 at a4 s14 hl14 ⊢
  cases b with
  |false=>rw[if_pos (by decide)];exact k _ s14
  |true=>
   rw[if_neg (by decide)]
   refine⟨l1,rfl,_,.inl (SqL.of hl14),_,SqT.of (s14 _ _ ht),_,rfl,pw,rfl,_,.inl (SqL.of (s14 _ _ hpw)),?_⟩
   have h1:=hb rfl
   rw[hW0.1,hW1.1,decide_eq_true (show (W0.length:Int)<(s.W.length:Int) by lia)]
   exact k _ s14
noncomputable def BD_ (K:PySem.W.Frag):Sp:=fun vs H Q _=>∃(t d:Addr) (L:Nat) (es:Bk) (x:Wish),vs=[.ref t,.int L,.ref d]/\CM K H L (.ref t) x/\H d=some (.dT (ents es))/\(∀c,x=.ask c->isW L c=true/\c∉es.map (·.1)/\c ≠ []/\c.length<=600)/\(∀c,x=.spent c->isW L c=true)/\Q (.bl true) H
def RP   (F:Fun K "_law_wish_good" "_law_wish_good" CJ f fd)(T:Txt mg)
  (W:Own K mg C_j7 C_j9 C_ji C_ja C_j1 C_j4)
  (Z:Exs K mg C_j8 C_j5 C_j6 C_j3 C_j2 C_j0)
   (D3:nofun 2 Cp FA ["found","letters"] (O5 K)) (Cq:Fun K "_law_is_word" "_law_is_word" CW Cp FA) (D4:Au K FA ["found","letters"] []) (D5:mg "_law_is_word"=some (.ref Cp))
  : nofun 3 f fd ["wish","letters","told"] (BD_ K):=by
 delta Rk
 ·obtain⟨t,d,L,es,x,rfl,_⟩:=h;rfl
 ·obtain⟨t,d,L,es,x,rfl,hw,hd,ha,hs,k⟩:=h
  obtain⟨t',u,e,ht,hu⟩:=id hw
  cases e
  have hl:=Aq
  refine⟨_,(Ac (B7 (PW.pt (JD (EU (ptB (ET (AG Em rfl T.isinstance PyProof.Rows.boot_isinstance (Aa (pvD 0) (Aa (Mm (v:=.ty "tuple") rfl T.tuple PyProof.Rows.boot_tuple rfl) Ae)))))) (GN (ptT (AF (opN Rb) (AG (lenD Aj) (by rfl) T.len PySem.boot_len (Aa (pvD 0) Ae)) Ah (A0 _))))))
   (Af (An Ek))
   AL)
   (Ac (B7 (ptT (AF (opE KY) (Ar (ixTD AZ) (pvD 0) Ah) El (A0 _)))
   (Ac (B7 (PW.pt (JD (EU (ptB (ET (Ay D3 (hr.mono (by decide)) rfl D5 Cq.kp D4 .nil AN (Aa (Ar (ixTD AZ) (pvD 0) Ah) (Aa (pvD 1) Ae)))))) (GN (Gn_ (GQ_ (IX hr) (Ar (ixTD AZ) (pvD 0) Ah) (pvD 2))))))
   (Af (An Ek))
   AL)
   (Af (An (Eo_ (J1 (opD0 Gy_) Ah (AG (lenD Aj) (by rfl) T.len PySem.boot_len (Aa (Ar (ixTD AZ) (pvD 0) Ah) Ae)) (A0 _)) (XB (J1 (opD0 Iu_) (AG (lenD Aj) (by rfl) T.len PySem.boot_len (Aa (Ar (ixTD AZ) (pvD 0) Ah) Ae)) Ah (A0 _)))))))
   AL)
   (Ac (B7 (ptT (AF (opE KY) (Ar (ixTD AZ) (pvD 0) Ah) El (A0 _)))
   (Af (An (Ay D3 (hr.mono (by decide)) rfl D5 Cq.kp D4 .nil AN (Aa (Ar (ixTD AZ) (pvD 0) Ah) (Aa (pvD 1) Ae)))))
   AL)
   (Af (An (LQ_ (J1 (opE KY) (Ar (ixTD AZ) (pvD 0) Ah) El (A0 _)) (XB (J1 (opE KY) (Ar (ixTD AZ) (pvD 0) Ah) El (A0 _))))))))),?_⟩
  nofun
  refine⟨_,_,.tup (SqT.of ht),Th,_,K4,?_⟩
  rw[if_neg (by decide)]
  refine⟨_,.inr (SqT.of ht),?_⟩
  rw[if_neg (by simp)]
  cases x with
  |ask c=>
   obtain⟨a1,a2,a3,a4⟩:=ha c rfl
   have ht:H t=some (.tup [.str ("ask" : Str),.ref u]):=ht
   have hu:H u=some (.tup (c.map V.int)):=hu
   refine⟨_,SqT.of ht,_,rfl,rfl,?_⟩
   rw[if_pos rfl]
   refine⟨_,SqT.of ht,_,rfl,u,L,c,rfl,SqT.of hu,a1,_,rfl,?_⟩
   rw[if_neg (by decide)]
   refine⟨_,SqT.of ht,_,rfl,_,DGet.t hd (k:=wkey c) (by rw[Ck];exact hu),?_⟩
   rw[Mu a2,if_neg (by simp)]
   refine⟨_,SqT.of ht,_,rfl,u,rfl,_,.inr (SqT.of hu),?_⟩
   rw[List.length_map,if_pos (by have:=List.length_pos_iff.mpr a3;lia)]
   refine⟨_,SqT.of ht,_,rfl,u,rfl,_,.inr (SqT.of hu),?_⟩
   rw[List.length_map,decide_eq_true s!""]
   exact k
  |shown m ws=>
   have ht:H t=some (.tup [.str ("show" : Str),.ref u]):=ht
   refine⟨_,SqT.of ht,_,rfl,rfl,?_⟩
   rw[if_neg (fun z=>absurd (V.str.inj z) (by decide +kernel))]
   refine⟨_,SqT.of ht,_,rfl,rfl,?_⟩
   rw[if_neg (fun z=>absurd (V.str.inj z) (by decide +kernel))]
   refine⟨_,SqT.of ht,_,rfl,rfl,?_⟩
   rw[if_pos rfl]
   exact k
  |done m ws=>
   have ht:H t=some (.tup [.str ("done" : Str),.ref u]):=ht
   refine⟨_,SqT.of ht,_,rfl,rfl,?_⟩
   rw[if_neg (fun z=>absurd (V.str.inj z) (by decide +kernel))]
   refine⟨_,SqT.of ht,_,rfl,rfl,?_⟩
   rw[if_neg (fun z=>absurd (V.str.inj z) (by decide +kernel))]
   refine⟨_,SqT.of ht,_,rfl,rfl,?_⟩
   rw[if_neg (fun z=>absurd (V.str.inj z) (by decide +kernel))]
   refine⟨_,SqT.of ht,_,rfl,rfl,?_⟩
   rw[decide_eq_true rfl]
   exact k
  |spent c=>
   have a1:=hs c rfl
   have ht:H t=some (.tup [.str ("spent" : Str),.ref u]):=ht
   have hu:H u=some (.tup (c.map V.int)):=hu
   refine⟨_,SqT.of ht,_,rfl,rfl,?_⟩
   rw[if_neg (fun z=>absurd (V.str.inj z) (by decide +kernel))]
   refine⟨_,SqT.of ht,_,rfl,rfl,?_⟩
   rw[if_pos rfl]
   exact⟨_,SqT.of ht,_,rfl,u,L,c,rfl,SqT.of hu,a1,k⟩
noncomputable def accX (s:AS):Wish->List (List Int)
 |.spent c=>s.W++[c]
 |_=>s.W
structure End59 (s:AS)(x:Wish)(n:Nat):Prop where
 g:G59 s
 fu:Full s.L s.W s.E s.es
 nd:((accX s x).map (gOf s.E s.es)).Nodup
 ro:∀v∈accX s x,v∈B8 s.L s.W/\v.length<=13
 xs:∀c,x=.spent c->s.W.length=s.most/\∃a∈s.W,∃y:Nat,c=a++[(y:Int)]
 na:∀c,x ≠ .ask c
 ns:∀m ws,x ≠ .shown m ws
 n:n<=(1+(accX s x).length*s.L)*((accX s x).length+s.L)+10*((accX s x).length-1)
noncomputable def Ie_ (K:PySem.W.Frag)(CS CA CB:Addr):Sp:=fun vs H Q _=>∃(p d a:Addr) (ad:AD) (s:AS) (wv:V) (x:Wish) (n:Nat),vs=[.ref p,.int s.L,.int s.most,.int n,.ref d]/\SAt K CS CA CB H p a ad s wv/\CM K H s.L wv x/\End59 s x n/\H d=some (.dT (ents s.es))/\∀H',Same H H'->Q (.bl true) H'
def TV   (F:Fun K "_law_end_good" "_law_end_good" Dj f fd)(T:Txt mg)
  (W:Own K mg C_j7 C_j9 C_ji C_ja C_j1 C_j4)
  (Z:Exs K mg C_j8 C_j5 C_j6 C_j3 C_j2 C_j0)
   (AA:nofun 2 Ao AK ["self"] (Gb K C_j4 C_j1 C_j7 AS.W)) (A1:Fun K "access" "SayAsker.access" Bi Ao AK) (AB:Au K AK ["self"] []) (AE:Meth K C_j4 "access" Ao)
   (Av:nofun 2 Al Az ["self"] (Gb K C_j4 C_j1 C_j7 AS.E)) (AV:Fun K "tellers" "SayAsker.tellers" A6 Al Az) (Aw:Au K Az ["self"] []) (Ax:Meth K C_j4 "tellers" Al)
   (Bf:nofun 3 AH Bj ["self"] (M7 K C_j4 C_j1 C_j7)) (BD:Fun K "heard" "SayAsker.heard" BB AH Bj) (Bg:Au K Bj ["self"] []) (Bh:Meth K C_j4 "heard" AH)
   (A2:nofun 2 AI Bl ["self"] (M5 K C_j4 C_j1 C_j7)) (BE:Fun K "wants" "SayAsker.wants" BC AI Bl) (A3:Au K Bl ["self"] []) (A4:Meth K C_j4 "wants" AI)
   (CD:nofun 4 By Dn ["access","letters"] (YU K)) (BS:Fun K "_law_access_good" "_law_access_good" BQ By Dn) (CF:Au K Dn ["access","letters"] []) (CG:mg "_law_access_good"=some (.ref By))
   (Du:nofun 4 BV Eg ["ends","letters"] (YV K)) (Cf:Fun K "_law_ends_good" "_law_ends_good" Ca BV Eg) (Dv:Au K Eg ["ends","letters"] []) (Dx:mg "_law_ends_good"=some (.ref BV))
   (FC:nofun 1 DS G4 ["told","word","ends"] (RM K)) (DT:Fun K "_law_marks" "_law_marks" Et DS G4) (FD:Au K G4 ["told","word","ends"] []) (FE:mg "_law_marks"=some (.ref DS))
  : nofun 5 f fd ["asker","letters","most","asked","told"] (Ie_ K C_j4 C_j1 C_j7):=by
 delta Cb
 ·obtain⟨p,d,a,ad,s,wv,x,n,rfl,_⟩:=h;rfl
 ·obtain⟨p,d,a,ad,s,wv,x,n,rfl,S,hw,en,hd,k⟩:=h
  obtain⟨⟨dx,L',hp⟩,_⟩:=id S
  have hl:=Aq
  have g:=en.g
  have tb:=g.tb
  have hwn:=tb.wn
  have hm12:=tb.m12
  have hen:=tb.en
  have hl6:=tb.l6
  have hL1:=tb.l1
  have full:=en.fu
  obtain⟨t,u,rfl,ht,hu⟩:=id hw
  refine⟨_,(Ac (AX (i:=5) Cb.nd (AM (pvD 0) W.cl_j4 AE AA (hr.mono (by decide)) AB .nil AN))
   (Ac (Kk (i:=6) Cb.nd rfl (Or.inr rfl) (AM (pvD 0) W.cl_j4 Ax Av (hr.mono (by decide)) Aw .nil AN))
   (Ac (AX (i:=7) Cb.nd (AM (pvD 0) W.cl_j4 A4 A2 (hr.mono (by decide)) A3 .nil AN))
   (Ac (B7 (PW.pt (JD (EU (ptB (ET (Ay CD (hr.mono (by decide)) rfl CG BS.kp CF .nil AN (Aa (pvD 5) (Aa (pvD 1) Ae)))))) (GN (EU (ptB (ET (Ay Du (hr.mono (by decide)) rfl Dx Cf.kp Dv .nil AN (Aa (pvD 6) (Aa (pvD 1) Ae)))))))))
   (Af (An Ek))
   AL)
   (GZ_ (B7 (ptT (AF (opE KY) (Ar (ixTD AZ) (pvD 7) Ah) El (A0 _)))
   (Ac (B7 (PW.pt (JD (ptT (AF (opN Rb) (AG (lenD Aj) (by rfl) T.len PySem.boot_len (Aa (pvD 5) Ae)) (pvD 2) (A0 _))) (JD (ptT (AF (opE KY) (AG (lenD Aj) (by rfl) T.len PySem.boot_len (Aa (Ar (ixTD AZ) (pvD 7) Ah) Ae)) Ah (A0 _))) (GN (ptT (AF (Vc (hu9 hr)) (FK DC_ (Ar (ixTD AZ) (pvD 7) Ah) Hk (Hl (Fl_ XC Ah))) (pvD 5) rfl))))))
   (Af (An Ek))
   AL)
   (Af (AX (i:=5) Cb.nd (BU Md_ (pvD 5) (JG (Aa (Ar (ixTD AZ) (pvD 7) Ah) Ae))))))
   AL)
   (Ac (Yb (i:=8) Cb.nd rfl rfl rfl (Kl rfl) (cp:=Kr) ⟨⟨rfl,rfl⟩,⟨⟨rfl,rfl⟩,True.intro⟩⟩ (Ge (pvD 5)) (fun _ _ _ _=>(Bm (i:=0) Oo rfl (Or.inl rfl))) (fun _ _ _ _=>Ls) (fun _ _ _ _=>(Ay FC (hr.mono (by decide)) rfl FE DT.kp FD .nil AN (Aa (pvD 1) (Aa (pvD 0) (Aa (pvD 2) Ae))))))
   (Ac (E7 PassesOwn.never rfl (EV rfl T.range (Aa (AG (lenD Aj) (by rfl) T.len PySem.boot_len (Aa (pvD 8) Ae)) Ae)) (Bm (i:=9) Cb.nd rfl (Or.inl rfl))
   (Af (B7 (PW.pt (JD (ptT (AF (opN Rb) (AG (lenD Aj) (by rfl) T.len PySem.boot_len (Aa (Ar (ixLD Cj) (pvD 8) (pvD 9)) Ae)) (AG (lenD Aj) (by rfl) T.len PySem.boot_len (Aa (pvD 6) Ae)) (A0 _))) (GN (ptT (AF (Km_ (hu9 hr)) (Ar (ixLD Cj) (pvD 8) (pvD 9)) (FK Mo (pvD 8) Hk (Hl (pvD 9))) rfl)))))
   (Af (An Ek))
   AL)))
   (Ac (AX (i:=10) Cb.nd (AG (lenD Aj) (by rfl) T.len PySem.boot_len (Aa (pvD 5) Ae)))
   (Ac (B7 (ptT (AF (opD0 Gz_) (pvD 3) (BU (opD0 Hb) (BU (opD OB) (BU (opD0 Hb) Ah (BU (opD OB) (pvD 10) (pvD 1))) (BU (opD0 Hb) (pvD 10) (pvD 1))) (BU (opD OB) Ah (BU (opD0 AN_) (pvD 10) Ah))) (A0 _)))
   (Af (An Ek))
   AL)
   (Af (An (J1 (Ey_ 8 (hu9 hr)) (AM (pvD 0) W.cl_j4 Bh Bf (hr.mono (by decide)) Bg .nil AN) (Ci (IZ rfl) rfl T.list PyProof.Rows.boot_list (Aa (Yj (pvD 4)) Ae)) (A0 _))))))))))))),?_⟩
  nofun
  refine⟨_,_,hp,by kernel_rfl,p,a,ad,s,_,rfl,S,fun l1 ts1 H1 s1 hn1 hl1 hW1=>?_⟩
  refine⟨_,_,s1 _ _ hp,by kernel_rfl,p,a,ad,s,_,rfl,S.same s1,fun l2 ts2 H2 s2 hn2 hl2 hE2=>?_⟩
  have s12:=s1.trans s2
  have hl1':=s2 _ _ hl1
  have hW2:=hW1.mono (TK.of s2)
  refine⟨_,_,s12 _ _ hp,by kernel_rfl,p,a,ad,s,_,rfl,S.same s12,?_⟩
  refine⟨l1,s.L,ts1,s.W,rfl,SqL.of hl1',hW2,tb.wnd,fun v hv=>(tb.wW v hv).1,by lia,tb.w0,g.ac,fun H3 s3=>⟨_,rfl,?_⟩⟩
  rw[if_neg (by decide)]
  refine⟨l2,s.L,ts2,s.E,rfl,SqL.of (s3 _ _ hl2),hE2.mono (TK.of s3),g.en,tb.eW,by lia,hl6,tb.e0,fun H4 s4=>⟨_,rfl,?_⟩⟩
  rw[if_neg (by decide)]
  have s24:=s3.trans s4
  have s14:=s12.trans s24
  have hl14:=s24 _ _ hl1'
  have hl24:=s24 _ _ hl2
  have hW4:=hW2.mono (TK.of s24)
  have hE4:=hE2.mono (TK.of s24)
  have ht4:=s14 _ _ ht
  refine⟨fun σ' H'=>∃(l:Addr) (zs:List V),Same H4 H'/\H' l=some (.lst zs)/\Am K H' zs (accX s x)/\σ'=[some (.ref p),some (.int s.L),some (.int s.most),some (.int n),some (.ref d),some (.ref l),some (.ref l2),some (.ref t),none,none,none],?_,fun σ' H' hh=>?_⟩
  ·cases x with
   |ask c=>exact absurd rfl (en.na c)
   |shown m ws=>exact absurd rfl (en.ns m ws)
   |done m ws=>
    have ht4:H4 t=some (.tup [.str ("done" : Str),.ref u]):=ht4
    nofun
    refine⟨_,SqT.of ht4,_,rfl,rfl,?_⟩
    rw[if_neg (fun z=>absurd (V.str.inj z) (by decide +kernel))]
    exact⟨Same.refl _,l1,ts1,hl14,hW4,rfl⟩
   |spent c=>
    obtain⟨hWm,b,hb,y,ec⟩:=en.xs c rfl
    have hu4:H4 u=some (.tup (c.map V.int)):=s14 _ _ hu
    have ht4:H4 t=some (.tup [.str ("spent" : Str),.ref u]):=ht4
    nofun
    refine⟨_,SqT.of ht4,_,rfl,rfl,?_⟩
    rw[if_pos rfl]
    refine⟨_,.inl (SqL.of hl14),?_⟩
    rw[if_neg (by rw[hW1.1,hWm];simp)]
    refine⟨_,SqT.of ht4,_,rfl,u,rfl,_,.inr (SqT.of hu4),?_⟩
    rw[if_neg (by rw[ec];simp;lia)]
    refine⟨_,SqT.of ht4,_,rfl,u,_,rfl,hu4,fun p5 H5 s5 hp5=>?_⟩
    rw[ec,XW]at hp5
    refine⟨p5,rfl,_,SqL.of (s5 _ _ hl14),b,s.W,hW4.mono (TK.of s5),SqT.of hp5,?_⟩
    rw[decide_eq_true hb,if_neg (by decide)]
    refine⟨_,SqT.of (s5 _ _ ht4),_,rfl,by lia,fun p6 hp6=>?_⟩
    have a6:=Same.new hp6 (o:=.lst [V.ref u])
    have s6:=s5.trans a6
    refine⟨_,s6 _ _ hl14,_,Ab,by rw[hW1.1];simp;lia,fun p7 hp7=>?_⟩
    have s7:=s6.newT hp7 (o:=.lst (ts1++[V.ref u]))
    exact⟨s7,p7,_,Ab,(hW4.mono (TK.of s7)).snoc (s7 _ _ hu4),rfl⟩
  ·obtain⟨l,zs,s5,hl5,hZ,rfl⟩:=hh
   have s15:=s14.trans s5
   have hl25:=s5 _ _ hl24
   have hE5:=hE4.mono (TK.of s5)
   have hro:=en.ro
   have hxl:(accX s x).length<=13:=by
    cases x with
    |spent c=>show (s.W++[c]).length<=13;rw[List.length_append,List.length_singleton];lia
    |ask c=>show s.W.length<=13;lia
    |done c=>show s.W.length<=13;lia
    |shown c=>show s.W.length<=13;lia
   have hx0:1<=(accX s x).length:=by
    have h0:=(List.getElem?_eq_some_iff.mp tb.w0).1
    cases x with
    |spent c=>show 1<=(s.W++[c]).length;rw[List.length_append,List.length_singleton];lia
    |ask c=>show 1<=s.W.length;lia
    |done c=>show 1<=s.W.length;lia
    |shown c=>show 1<=s.W.length;lia
   have hnn:=en.n
   have hnd:=en.nd
   generalize accX s x=Wx at hZ hro hxl hx0 hnn hnd
   nofun
   refine⟨⟨_,SqL.of hl5⟩,Dg_ (xs:=zs) (fun i us σ' H6=>Same H' H6/\DA K H6 us ((Wx.take i).map (gOf s.E s.es))/\∃o,σ'=[o,some (.ref d),some (.ref l2)]) ⟨Same.refl _,⟨rfl,fun i w z=>by cases z⟩,none,rfl⟩ (by rw[hZ.1];lia) (fun i us σ' H6 hi h'=>⟨h'.1.seq (SqL.of hl5),by rw[h'.2.1.1,List.length_map,List.length_take];lia⟩) (fun i xv us σ' H6 hx h'=>?_) (fun us σ' H6 h' D hD=>?_)⟩
   ·obtain⟨s6,hR,o,rfl⟩:=h'
    obtain⟨tv,v,hvi,rfl,htv⟩:=hZ.at hx
    have hvW:=List.mem_of_getElem? hvi
    have hv:=hro v hvW
    have s16:=s15.trans s6
    nofun
    refine⟨d,tv,l2,s.es,v,ts2,s.E,rfl,s16 _ _ hd,tb.nd,s6 _ _ htv,SqL.of (s6 _ _ hl25),hE5.mono (TK.of s6),by lia,fun e he=>by have:=g.el e he;lia,by lia,fun e he=>full _ (B6.mpr ⟨v,hv.1,e,he,rfl⟩),fun l7 H7 s7 hl7 hl7'=>⟨s6.trans s7,?_,_,rfl⟩⟩
    rw[List.take_add_one,hvi,List.map_append]
    exact DA.snoc59 (DA.mono59 hR s7) hl7'
   obtain⟨s6,hR,o,rfl⟩:=h'
   rw[hZ.1,List.take_length]at hR
   have s6':=s6.newT hD (o:=.lst us)
   have hR1:=DA.mono59 hR (Same.new hD (o:=.lst us))
   have hDs:upd H6 D (.lst us) D=some (.lst us):=Ab
   generalize upd H6 D (.lst us)=H7 at s6' hR1 hDs ⊢
   have hul:us.length=Wx.length:=by rw[hR1.1,List.length_map]
   refine⟨D,rfl,_,.inl (SqL.of hDs),by lia,by lia,?_⟩
   rw[hul,Int.toNat_natCast]
   obtain⟨Pv,hPv⟩:∃Pv:Nat->St->Hp->Prop,∀i σ' H8,Pv i σ' H8↔(∃(o1:Option V),Same H7 H8/\σ'=[some (.ref p),some (.int s.L),some (.int s.most),some (.int n),some (.ref d),some (.ref l),some (.ref l2),some (.ref t),some (.ref D),o1,none]):=⟨_,fun _ _ _=>Iff.rfl⟩
   refine forR Pv ((hPv _ _ _).mpr ⟨none,Same.refl _,rfl⟩) (fun i σ' H8 hi h'=>?_) (fun σ' H8 h'=>?_)
   ·obtain⟨o1,s8,rfl⟩:=(hPv _ _ _).mp h'
    rw[Int.zero_add]
    have hwi:Wx[i]?=some Wx[i]:=by simp[hi]
    have hri:(Wx.map (gOf s.E s.es))[i]?=some (gOf s.E s.es Wx[i]):=by rw[List.getElem?_map,hwi];rfl
    obtain⟨ti,hti,hgi⟩:=hR1.2 i _ hri
    have hnot:=Nn (l:=Wx.map (gOf s.E s.es)) (i:=i) (by rw[List.length_map];exact hi) hnd
    rw[List.getElem_map]at hnot
    nofun
    refine⟨_,SqL.of (s8 _ _ hDs),_,Cr hti,ti,rfl,_,.inl (SqL.of (s8 _ _ hgi)),_,.inl (SqL.of (s8 _ _ (s6' _ _ hl25))),?_⟩
    rw[if_neg (by rw[List.length_map,Ic_,hE2.1];simp)]
    refine⟨_,SqL.of (s8 _ _ hDs),_,Cr hti,_,SqL.of (s8 _ _ hDs),fun p1 hp1=>⟨ti,rfl,_,SqL.of Ab,gOf s.E s.es Wx[i],(Wx.map (gOf s.E s.es)).take i,?_,SqL.of ((Same.new hp1) _ _ (s8 _ _ hgi)),?_⟩⟩
    ·rw[GH]
     exact DA.take59 (DA.mono59 hR1 (s8.newT hp1)) i
    rw[if_neg hnot]
    exact (hPv _ _ _).mpr ⟨_,s8.newT hp1,rfl⟩
   ·obtain⟨o1,s8,rfl⟩:=(hPv _ _ _).mp h'
    have s18:=s15.trans (s6'.trans s8)
    have hl8:=s8 _ _ (s6' _ _ hl5)
    nofun
    have m1:Wx.length*s.L<=13*6:=Nat.mul_le_mul hxl hl6
    have m2:(1+Wx.length*s.L)*(Wx.length+s.L)<=79*19:=Nat.mul_le_mul s!"" s!""
    refine⟨_,.inl (SqL.of hl8),?_⟩
    rw[hZ.1]
    have c1:CMul (Wx.length:Int) (s.L:Int):=.inl ⟨by lia,by lia⟩
    have c2:CMul (1+(Wx.length:Int)*(s.L:Int)) ((Wx.length:Int)+(s.L:Int)):=by
     rw[show (Wx.length:Int)*(s.L:Int)=((Wx.length*s.L:Nat):Int) by push_cast;rfl]
     exact .inl ⟨by lia,by lia⟩
    refine⟨c1,c2,.inl ⟨by lia,by lia⟩,?_⟩
    have e3:(1+(Wx.length:Int)*(s.L:Int))*((Wx.length:Int)+(s.L:Int))+10*((Wx.length:Int)-1)=(((1+Wx.length*s.L)*(Wx.length+s.L)+10*(Wx.length-1):Nat):Int):=by
     rw[show ((Wx.length:Int)-1)=((Wx.length-1:Nat):Int) by lia]
     push_cast
     rfl
    rw[if_neg (by rw[e3];lia)]
    refine⟨_,_,s18 _ _ hp,by kernel_rfl,p,a,ad,s,_,rfl,S.same s18,fun l9 rs9 H9 s9 hn9 hl9 htr9=>?_⟩
    have hd9:=(s18.trans s9) _ _ hd
    refine⟨_,.inl hd9,fun vw hvw=>?_⟩
    have sv:=Same.new (o:=Yi vw d) hvw
    refine⟨d,Ab,_,.inl (sv _ _ hd9),fun l rs H10 s10 hl10 hlen hr=>?_⟩
    have s11:=sv.trans (s10.newT (o:=.lst rs) hl10)
    refine⟨l9,rfl,true,?_,k _ (s18.trans (s9.trans s11))⟩
    refine Hr.eq43 (n:=5) (htr9.mono fun b xs hb=>s11 _ _ hb) ⟨by rw[hlen];unfold ents;rw[List.length_map],fun i tr hi=>?_⟩ (s11 _ _ hl9) Ab
    obtain⟨t,e1,b,e2,e3⟩:=hr i (wkey tr.1) (.int tr.2) (by unfold ents;rw[List.getElem?_map,hi];rfl)
    rw[Ck]at e3
    exact⟨t,b,e1,(Same.new hl10) _ _ e2,(s10.newT hl10) _ _ e3⟩
noncomputable def Fps (a:Addr)(ad:AD)(y:Addr):Prop:=y=a\/y=ad.d\/y=ad.pw\/y=ad.pe\/y=ad.pg
def Fps.next   {ad ad':AD}(n:¬ Fps a ad q)(o:AdOk H ad ad')(h:H q≠none):¬ Fps a ad' q:=by
 obtain⟨_,_,q3,q4,q5,q6⟩:=o
 rintro (z|z|z|z|z)
 ·exact n (.inl z)
 ·exact n (.inr (.inl (z.trans q3)))
 ·exact n (.inr (.inr (.inl (z.trans q4))))
 ·exact n (.inr (.inr (.inr (.inl (z.trans q5)))))
 ·rcases q6 with q6|q6
  ·exact n (.inr (.inr (.inr (.inr (z.trans q6)))))
  ·rw[z]at h;exact h q6
noncomputable def Fr2 (H H':Hp)(a:Addr)(ad:AD)(d st:Addr):Prop:=(∀x o,H x=some o->¬ Fps a ad x->x≠d->x≠st->H' x=some o)/\∀x,H' x=none->H x=none
def Fr2.frm   {ad:AD}(f:Frm H H' a ad)(d st:Addr):Fr2 H H' a ad d st:=⟨fun x o h n _ _=>f.1 x o h (fun z=>n (.inl z)) (fun z=>n (.inr (.inl z))) (fun z=>n (.inr (.inr (.inl z)))) (fun z=>n (.inr (.inr (.inr (.inl z))))) (fun z=>n (.inr (.inr (.inr (.inr z))))),f.2⟩
def Fr2.of  (s:Same H H')(a:Addr)(ad:AD)(d st:Addr):Fr2 H H' a ad d st:=⟨fun x o h _ _ _=>s _ _ h,fun x h=>s.none h⟩
def Fr2.seq {H H1 H2:Hp}  {ad ad1:AD}{d st:Addr}(f:Fr2 H H1 a ad d st)(k:AdOk H ad ad1)(g:Fr2 H1 H2 a ad1 d st):Fr2 H H2 a ad d st:=
 ⟨fun x o h n nd ns=>g.1 x o (f.1 x o h n nd ns) (Fps.next n k (by rw[h];simp)) nd ns,fun x h=>f.2 x (g.2 x h)⟩
def Fr2.put   {ad:AD}{d st y:Addr}  (h:y=d\/y=st)(hy:H y=some o):Fr2 H (upd H y o') a ad d st:=⟨fun x u hx _ nd ns=>by
 rw[Ag (fun z=>by rcases h with h|h;exact nd (z.trans h);exact ns (z.trans h))];exact hx,fun x hx=>by
 by_cases z:x=y
 ·rw[z,Ab]at hx;cases hx
 ·rwa [Ag z]at hx⟩
def AdOk.mono {H H1:Hp}{ad ad1:AD}(k:AdOk H1 ad ad1)(h:∀x,H1 x=none->H x=none):AdOk H ad ad1:=by
 obtain⟨k1,k2,k3,k4,k5,k6⟩:=k
 exact⟨k1,k2,k3,k4,k5,k6.imp id (h _)⟩
def AdOk.seq {H H1:Hp}{ad ad1 ad2:AD}(f:∀x,H1 x=none->H x=none)(k:AdOk H ad ad1)(g:AdOk H1 ad1 ad2):AdOk H ad ad2:=by
 obtain⟨k1,k2,k3,k4,k5,k6⟩:=k
 obtain⟨g1,g2,g3,g4,g5,g6⟩:=g
 refine⟨g1.trans k1,g2.trans k2,g3.trans k3,g4.trans k4,g5.trans k5,?_⟩
 rcases g6 with g6|g6
 ·rw[g6];exact k6
 ·exact .inr (f _ g6)
noncomputable def KP2 (P:Hp->Prop)(H:Hp)(a:Addr)(ad:AD)(d st:Addr):Prop:=∀H',Fr2 H H' a ad d st->P H'
def KP2.now {P:Hp->Prop}{H:Hp}{a:Addr}{ad:AD}{d st:Addr}(k:KP2 P H a ad d st):P H:=k H (Fr2.of (Same.refl _) a ad d st)
def KP2.next {P:Hp->Prop}{H H':Hp}{a:Addr}{ad ad':AD}{d st:Addr}(k:KP2 P H a ad d st)(f:Fr2 H H' a ad d st)(o:AdOk H ad ad'):KP2 P H' a ad' d st:=fun H2 f2=>k H2 (f.seq o f2)
def SAt.put59 {K:PySem.W.Frag}    {ad:AD}  {wv:V}  (x:SAt K CS CA CB H p a ad s wv)(hd:H d=some (.dT kvs))(n:d≠ad.d):SAt K CS CA CB (upd H d (.dT kvs')) p a ad s wv:=by
 obtain⟨⟨dx,L,hp⟩,gv,rv,zs,ys,us,y⟩:=x
 have tk:TK H (upd H d (.dT kvs')):=fun t ts h=>by rw[Ag (fun z=>by rw[z,hd]at h;cases h)];exact h
 refine⟨⟨dx,L,by rw[Ag (fun z=>by rw[z,hd]at hp;cases hp)];exact hp⟩,gv,rv,zs,ys,us,y.keep (fun z o hz h=>?_) tk⟩
 rw[Ag fun e=>?_]
 ·exact hz
 ·subst e
  obtain⟨dx',hb⟩:=y.bk.ob
  rcases h with h|h|h|h|h|h
  ·have:=y.ob;rw[<-h,hd]at this;cases this
  ·rw[<-h,hd]at hb;cases hb
  ·exact n h
  ·have:=y.w;rw[<-h,hd]at this;cases this
  ·have:=y.e;rw[<-h,hd]at this;cases this
  ·have:=y.g;rw[<-h,hd]at this;cases this
def If_ {B:Nat}  (o:OkX none B s)  (g:GuessOk s.L s.W s.E s.es m ws)  (hv:isW s.L v=true)(hne:v ≠ []):0<=lsay m ws v/\lsay m ws v<=1000000000:=by
 have tb:=o.tb
 have hv0:0<v.length:=List.length_pos_iff.mpr hne
 obtain⟨k,k1,k2⟩:=P6 tb g hv (v.length-1)
 have hlt:v.length-1<v.length:=by lia
 have hx:=CH.mp hv _ (List.getElem_mem hlt)
 obtain⟨x,hxe⟩:∃x:Nat,v[v.length-1]=(x:Int):=⟨(v[v.length-1]).toNat,by lia⟩
 obtain⟨row,y,y1,y2,y3⟩:=g.m k _ x k2 s!""
 have e:lsay m ws v=LL m (FO ws (v.take (v.length-1))) (v.getD (v.length-1) 0):=by
  unfold lsay sayW
  rw[List.getD_eq_getElem?_getD,List.getElem?_map,List.getElem?_range hlt];rfl
 have e2:lsay m ws v=y:=by
  rw[e,k1,List.getD_eq_getElem?_getD,List.getElem?_eq_getElem hlt]
  show LL m (k:Int) v[v.length-1]=y
  rw[hxe,UP (by rw[show ((k:Int)).toNat=k by lia];exact y1) (by rw[show ((x:Int)).toNat=x by lia];exact y2)]
 rw[e2]
 exact (tb.bW _ (YE y3)).2
noncomputable def objF (c st:Int)(L n:Nat):List Int:=(List.range n).map fun k:Nat=>(c / 5+(k:Int)*st)%(L:Int)
def Fe_ (c st:Int)(L n:Nat):(objF c st L n).length=n:=by unfold objF;rw[List.length_map,List.length_range]
def Je_ (c st:Int)(n m:Nat){L:Nat}(l1:1<=L):isW (L:Int) (objF c st L n++List.replicate m 0)=true:=by
 refine CH.mpr fun x hx=>?_
 rcases List.mem_append.mp hx with hx|hx
 ·unfold objF at hx
  obtain⟨k,_,rfl⟩:=List.mem_map.mp hx
  exact⟨Int.emod_nonneg _ s!"",Int.emod_lt_of_pos _ s!""⟩
 ·rw[(List.mem_replicate.mp hx).2];lia
structure Ob59 (s:AS)(mm ws:List (List Int))(w:List Int)(n:Int):Prop where
 wW:isW s.L w=true
 ne:w ≠ []
 wl:w.length<=6+s.es.length
 nw:w∉s.es.map (·.1)
 n0:0<=n
 n9:n<=1000000000
 un:lsay mm ws w≠n
noncomputable def Ff_ (K:PySem.W.Frag)(CS CA CB:Addr):Sp:=fun vs H Q _=>∃(p q d a:Addr) (at_:Nat) (ns:List Int) (ad:AD) (s:AS) (wv:V) (mm ws:List (List Int)),vs=[.ref p,.ref q,.int at_,.ref d]/\SAt K CS CA CB H p a ad s wv/\CM K H s.L wv (.shown mm ws)/\WOk 200 s (.shown mm ws)/\Bd 200 s/\s.es.length<=190/\SqL K H q (ns.map V.int)/\H d=some (.dT (ents s.es))/\d≠ad.d/\∀ad' H' s' x' wv' w n,Ob59 s mm ws w n->Goes {s with es:=s.es++[(w,n)]} s' x'->SAt K CS CA CB H' p a ad' s' wv'->CM K H' s.L wv' x'->(∀st,Fr2 H H' a ad d st)->AdOk H ad ad'->H' d=some (.dT (ents (s.es++[(w,n)])))->Q .non H'
def VL   (F:Fun K "_law_objects" "_law_objects" D1 f fd)(T:Txt mg)
  (W:Own K mg C_j7 C_j9 C_ji C_ja C_j1 C_j4)
  (Z:Exs K mg C_j8 C_j5 C_j6 C_j3 C_j2 C_j0)
   (BN:nofun 1 BX Cw ["script","k"] (VH K)) (Bw:Fun K "_law_cell" "_law_cell" DZ BX Cw) (BO:Au K Cw ["script","k"] []) (BP:mg "_law_cell"=some (.ref BX))
   (A2:nofun 2 AI Bl ["self"] (M5 K C_j4 C_j1 C_j7)) (BE:Fun K "wants" "SayAsker.wants" BC AI Bl) (A3:Au K Bl ["self"] []) (A4:Meth K C_j4 "wants" AI)
   (Hv:nofun 1 ES Ii ["cell"] (VJ)) (FH:Fun K "_law_mark" "_law_mark" Ff ES Ii) (Hw:Au K Ii ["cell"] []) (Hx:mg "_law_mark"=some (.ref ES))
   (Hs:nofun 1 ER Ih ["house","word"] (DD_ K)) (FG:Fun K "_law_talk" "_law_talk" Fh ER Ih) (Ht:Au K Ih ["house","word"] []) (Hu:mg "_law_talk"=some (.ref ER))
   (Hy:FnOk P w K mg base (CXe P w) 14 B3 JT ["self","word","mark"] (EZ_ K C_j4 C_j1 C_j7 C_j3 C_j5 C_j6 C_j2 C_j0)) (FL:Fun K "differ" "SayAsker.differ" Cn B3 JT) (Hz:Au K JT ["self","word","mark"] []) (HD:Meth K C_j4 "differ" B3)
  : nofun 15 f fd ["asker","script","at","told"] (Ff_ K C_j4 C_j1 C_j7):=by
 delta Cs
 ·obtain⟨p,q,d,a,at_,ns,ad,s,wv,mm,ws,rfl,_⟩:=h;rfl
 ·obtain⟨p,q,d,a,at_,ns,ad,s,wv,mm,ws,rfl,S,hw,ok,bd,hel,hq,hd,hdd,k⟩:=h
  obtain⟨⟨dx,L',hp⟩,_⟩:=id S
  have hl:=Aq
  obtain⟨ok0,hG,hwr,hgs,gu,hall⟩:=id ok
  have tb:=ok0.tb
  have wf:=tb.wf gu
  have hL1:=tb.l1
  have hL6:=tb.l6
  obtain⟨t,u,rfl,ht,hu⟩:=id hw
  have ht:H t=some (.tup [.str ("show" : Str),.ref u]):=ht
  have hu:HouT K H u s.L mm ws:=hu
  obtain⟨tm,tw,us,zs,hu1,hu2⟩:=id hu
  refine⟨_,(Ac (Kk (i:=4) Cs.nd rfl (Or.inr rfl) (Ar (ixTD AZ) (AM (pvD 0) W.cl_j4 A4 A2 (hr.mono (by decide)) A3 .nil AN) Ah))
   (Ac (Kk (i:=5) Cs.nd rfl (Or.inr rfl) (Ay BN (hr.mono (by decide)) rfl BP Bw.kp BO .nil AN (Aa (pvD 1) (Aa (pvD 2) Ae))))
   (Ac (Kk (i:=6) Cs.nd rfl (Or.inr rfl) (Ay BN (hr.mono (by decide)) rfl BP Bw.kp BO .nil AN (Aa (pvD 1) (Aa (BU (opD0 Hb) (pvD 2) Ah) Ae))))
   (Ac (AX (i:=7) Cs.nd (Ci DB rfl T.tuple PyProof.Rows.boot_tuple (Aa (K2 rfl (Kl rfl) (cp:=Lv) ⟨⟨rfl,rfl⟩,⟨⟨rfl,rfl⟩,⟨⟨rfl,rfl⟩,True.intro⟩⟩⟩ (EV rfl T.range (Aa (BU (opD0 Hb) Ah (BU (opD IW) (BU (opD OL) (pvD 5) Ah) Ah)) Ae)) (fun _ _ _ _=>(Bm (i:=0) OP rfl (Or.inl rfl))) (fun _ _ _ _=>Ls) (fun _ _ _ _=>(BU (opD IW) (BU (opD0 Hb) (BU (opD OL) (pvD 2) Ah) (BU (opD OB) (pvD 0) (pvD 3))) (Ar (ixTD (Ye (K:=K) rfl)) (pvD 1) Ah)))) Ae)))
   (Ac (X2 PassesOwn.never (Gn_ (GQ_ (IX hr) (pvD 7) (pvD 3)))
   (Af (AX (i:=7) Cs.nd (BU Oe (pvD 7) (F3 (Aa Ah Ae))))))
   (Ac (AX (i:=8) Cs.nd (Ar (ixLD Cj) (Ay Hs (hr.mono (by decide)) rfl Hu FG.kp Ht .nil AN (Aa (pvD 4) (Aa (pvD 7) Ae))) (Fl_ XC Ah)))
   (Ac (AX (i:=9) Cs.nd (Ay Hv (hr.mono (by decide)) rfl Hx FH.kp Hw .nil AN (Aa (Ay BN (hr.mono (by decide)) rfl BP Bw.kp BO .nil AN (Aa (pvD 1) (Aa (BU (opD0 Hb) (pvD 2) Ah) Ae))) Ae)))
   (Ac (K0 (IX hr) (pvD 3) (pvD 7) (BU (opD IW) (BU (opD0 Hb) (BU (opD0 Hb) (pvD 8) Ah) (BU (opD IW) (pvD 9) Ah)) Ah) rfl)
   (Af (Bc (DV (pvD 0) W.cl_j4 HD Hy (hr.mono (by decide)) Hz .nil (Rc (P:=P) (w:=w)) (Aa (pvD 7) (Aa (Mq (IX hr) (pvD 3) (pvD 7) (fun _ _=>rfl)) Ae))))))))))))),?_⟩
  nofun
  refine⟨_,_,hp,by kernel_rfl,p,a,ad,s,_,rfl,S,?_⟩
  have c0:=Int.emod_nonneg (cell ns at_ / 7) (show (6:Int)≠0 by decide)
  have c1:=Int.emod_lt_of_pos (cell ns at_ / 7) (show (0:Int)<6 by decide)
  obtain⟨n0,hn0⟩:∃n0:Nat,1+cell ns at_ / 7%6=(n0:Int):=⟨(1+cell ns at_ / 7%6).toNat,by lia⟩
  refine⟨t,rfl,_,SqT.of ht,_,rfl,q,ns,at_,rfl,hq,q,ns,at_+1,by push_cast;rfl,hq,_,rfl,by show CDiv _ _;unfold CDiv;lia,by decide,by lia,by lia,?_⟩
  rw[hn0,Int.toNat_natCast]
  obtain⟨Pc,hPc⟩:∃Pc:Nat->List V->St->Hp->Prop,∀j us σ4 H4,Pc j us σ4 H4↔(H4=H/\us=(objF (cell ns at_) (cell ns (at_+1)) s.L j).map V.int/\∃o,σ4=[o,some (.ref u),some (.int (cell ns at_)),some (.int (cell ns (at_+1)))]):=⟨_,fun _ _ _ _=>Iff.rfl⟩
  refine II_ Pc ((hPc _ _ _ _).mpr ⟨rfl,rfl,none,rfl⟩) s!"" (fun j us σ4 H4 _ h4=>?_) (fun j us σ4 H4 hj h4=>?_) (fun us σ4 H4 h4 D hD=>?_)
  ·obtain⟨_,rfl,_⟩:=(hPc _ _ _ _).mp h4
   rw[List.length_map,Fe_];exact Nat.le_refl _
  ·obtain⟨rfl,rfl,o4,rfl⟩:=(hPc _ _ _ _).mp h4
   rw[Int.zero_add]
   nofun
   refine⟨by show CDiv _ _;unfold CDiv;lia,.inl ⟨by lia,by lia⟩,_,SqT.of hu1,_,rfl,_,rfl,by lia,(hPc _ _ _ _).mpr ⟨rfl,?_,_,rfl⟩⟩
   unfold objF
   rw[List.range_succ,List.map_append,List.map_append]
   rfl
  obtain⟨rfl,rfl,o4,rfl⟩:=(hPc _ _ _ _).mp h4
  have hwl:=Fe_ (cell ns at_) (cell ns (at_+1)) s.L n0
  have hwW:=fun m=>Je_ (cell ns at_) (cell ns (at_+1)) n0 m hL1
  generalize objF (cell ns at_) (cell ns (at_+1)) s.L n0=v at hwl hwW hD ⊢
  refine⟨D,rfl,_,.inl ⟨SqL.of Ab,fun t1 ht1=>?_⟩⟩
  have s1:=(Same.new hD (o:=.lst (v.map V.int))).newT ht1 (o:=.tup (v.map V.int))
  have ht1':upd (upd H4 D (.lst (v.map V.int))) t1 (.tup (v.map V.int)) t1=some (.tup (v.map V.int)):=Ab
  generalize upd (upd H4 D (.lst (v.map V.int))) t1 (.tup (v.map V.int))=H1 at s1 ht1' ⊢
  obtain⟨Pv,hPv⟩:∃Pv:Nat->St->Hp->Prop,∀m σ' H',Pv m σ' H'↔(∃(n:Nat) (t2:Addr),Same H4 H'/\m=s.es.length+1-n/\n<=s.es.length/\(∀j,j<n->v++List.replicate j 0∈s.es.map (·.1))/\H' t2=some (.tup ((v++List.replicate n 0).map V.int))/\σ'=[some (.ref p),some (.ref q),some (.int at_),some (.ref d),some (.ref u),some (.int (cell ns at_)),some (.int (cell ns (at_+1))),some (.ref t2),none,none]):=⟨_,fun _ _ _=>Iff.rfl⟩
  refine Hd_ Pv ⟨_,(hPv _ _ _).mpr ⟨0,t1,s1,rfl,by lia,fun j hj=>absurd hj (Nat.not_lt_zero _),by simpa using ht1',rfl⟩⟩ fun m σ' H' h'=>?_
  obtain⟨n,t2,s2,hm,hn,hal,ht2,rfl⟩:=(hPv _ _ _).mp h'
  nofun
  have ht2k:H' t2=some (.tup ((wkey (v++List.replicate n 0)).map kV)):=by rw[Ck];exact ht2
  refine⟨_,DGet.t (s2 _ _ hd) ht2k,?_⟩
  by_cases hin:v++List.replicate n 0∈s.es.map (·.1)
  ·have hsm:(valV (ents s.es) (wkey (v++List.replicate n 0))).isSome=true:=by
    obtain⟨e,he,ee⟩:=List.mem_map.mp hin
    rw[<-ee,F6 tb.nd (show (e.1,e.2)∈s.es from he)];rfl
   rw[if_pos hsm]
   refine⟨fun σ2 H2=>∃m',m'<m/\Pv m' σ2 H2,fun _ _ z=>z,by lia,fun q3 hq3=>?_⟩
   have sq:=Same.new hq3 (o:=.tup [V.int 0])
   refine Kn.ofS (sq _ _ ht2) Ab (by simp;lia) fun t3 H3 s3 ht3=>?_
   have hall':∀j,j<n+1->v++List.replicate j 0∈s.es.map (·.1):=fun j hj=>by
    by_cases z:j<n
    ·exact hal j z
    ·rw[show j=n by lia];exact hin
   have hle:=Lz_ hall'
   rw[List.length_map]at hle
   refine⟨s.es.length+1-(n+1),by lia,(hPv _ _ _).mpr ⟨n+1,t3,s2.trans (sq.trans s3),rfl,hle,hall',?_,rfl⟩⟩
   rw[ht3,List.replicate_succ',<-List.append_assoc]
   simp only[List.map_append,List.map_cons,List.map_nil]
  ·rw[Mu hin,if_neg (by simp)]
   have hwv:=hwW n
   have hwl2:(v++List.replicate n 0).length=n0+n:=by rw[List.length_append,hwl,List.length_replicate]
   have hne:v++List.replicate n 0 ≠ []:=fun z=>by rw[z]at hwl2;simp at hwl2;lia
   generalize v++List.replicate n 0=w9 at hin hwv hwl2 hne ht2 ht2k
   have lr:=If_ ok0 gu hwv hne
   refine⟨u,t2,s.L,mm,ws,w9,rfl,(hu.mono (TK.of s2)).house,wf,SqT.of ht2,by lia,hwv,fun p5 H5 s5 hp5=>?_⟩
   have s25:=s2.trans s5
   refine⟨p5,rfl,_,SqL.of hp5,_,KD_ hne,q,ns,at_+2,by push_cast;rfl,s25.seq hq,cell ns (at_+2),rfl,_,rfl,_,rfl,by decide,by decide,?_⟩
   have mk:=Fc_ (cell ns (at_+2))
   obtain⟨n9,hn9,r0,r9,rne⟩:∃n9:Int,(lsay mm ws w9+1+DF_ (cell ns (at_+2))%1000000000)%1000000001=n9/\0<=n9/\n9<=1000000000/\lsay mm ws w9≠n9:=⟨_,rfl,by lia,by lia,by lia⟩
   rw[hn9]
   have hd5:=s25 _ _ hd
   have ht5:=s5 _ _ ht2
   have hlen:(ents s.es).length=s.es.length:=by unfold ents;rw[List.length_map]
   have S6:=(S.same s25).put59 hd5 hdd (kvs':=ents (s.es++[(w9,n9)]))
   have tk6:TK H5 (upd H5 d (.dT (ents (s.es++[(w9,n9)])))):=fun t ts h=>by rw[Ag (fun z=>by rw[z,hd5]at h;cases h)];exact h
   have hd6:upd H5 d (.dT (ents (s.es++[(w9,n9)]))) d=some (.dT (ents (s.es++[(w9,n9)]))):=Ab
   have ht6:=tk6 _ _ ht5
   have hw6:=(hw.mono (TK.of s25)).mono tk6
   have f6:∀st,Fr2 H4 (upd H5 d (.dT (ents (s.es++[(w9,n9)])))) a ad d st:=fun st=>(Fr2.of s25 a ad d st).seq (AdOk.refl _ _) (Fr2.put (.inl rfl) hd5)
   refine⟨_,DPut.t hd5 (s5 _ _ ht2k) s!"",?_⟩
   rw[UR hin]
   generalize upd H5 d (.dT (ents (s.es++[(w9,n9)])))=H6 at S6 tk6 hd6 ht6 hw6 f6 ⊢
   obtain⟨⟨dx6,L6,hp6⟩,_⟩:=id S6
   have nd6:((s.es++[(w9,n9)]).map (·.1)).Nodup:=by
    rw[List.map_append,List.nodup_append]
    exact⟨tb.nd,by simp,fun a ha b hb=>by rw[List.mem_singleton.mp hb];intro z;subst z;exact hin ha⟩
   have hval:valV (ents (s.es++[(w9,n9)])) (wkey w9)=some (.int n9):=F6 nd6 (by simp)
   refine⟨_,_,hp6,by kernel_rfl,_,by rw[<-hval];exact DGet.t hd6 (by rw[Ck];exact ht6),?_⟩
   refine⟨p,a,t2,ad,s,_,.shown mm ws,200,w9,n9,rfl,S6,hw6,ok,bd,by lia,ht6,by lia,fun z=>absurd rfl z,fun m' ws' e=>?_⟩
   cases e
   refine⟨fun z=>(by rcases z with z|z;exact absurd z hne;rw[hwv]at z;cases z),fun _ _ z=>absurd ⟨r0,r9⟩ z,fun _ _ _ _=>⟨fun z=>absurd z rne,fun _ z=>absurd z hin,fun _ _=>⟨by lia,fun ad' H' s' x' wv' go S' hw' f o=>?_⟩⟩⟩
   have hd':H' d=some (.dT (ents (s.es++[(w9,n9)]))):=by
    obtain⟨gv,rv,zs,ys,us,y⟩:=S6.2
    exact f.1 d _ hd6 (fun z=>by have:=y.ob;rw[<-z,hd6]at this;cases this) hdd (fun z=>by have:=y.w;rw[<-z,hd6]at this;cases this) (fun z=>by have:=y.e;rw[<-z,hd6]at this;cases this) (fun z=>by have:=y.g;rw[<-z,hd6]at this;cases this)
   exact k ad' H' s' x' wv' w9 n9 ⟨hwv,hne,by lia,hin,r0,r9,rne⟩ go S' hw' (fun st=>(f6 st).seq (AdOk.refl _ _) (Fr2.frm f d st)) (AdOk.mono o (f6 d).2) hd'
def WOk.okx {B:Nat}   (o:WOk B s x):∃y,OkX y B s:=by
 cases x with
 |ask c=>exact⟨_,o.1⟩
 |shown m ws=>exact⟨_,o.1⟩
 |done m ws=>exact⟨_,o.1⟩
 |spent c=>exact⟨_,o.1⟩
def J59.mono {A W0 E0:List (List Int)}{st st':Prop}  (j:J59 A W0 E0 st s)(h:st'->st):J59 A W0 E0 st' s:=⟨j.gc,j.n0,j.n1,j.ac,j.en,j.gw,j.ge,fun z=>j.gs (h z)⟩
structure Led59 (A W0 E0:List (List Int))(n:Nat)(s:AS)(x:Wish):Prop where
 ok:WOk 200 s x
 j:J59 A W0 E0 (0<n/\∀m ws,x ≠ .done m ws) s
 jx:JX59 s x
 an:A.Nodup
 asub:∀c∈A,c∈s.es.map (·.1)
 el:s.es.length<=A.length+n
 nw:n<=W0.length
 sm:(s.L<=3/\s.most<=4)\/(s.L<=6/\s.most<=2)
section
variable {A W0 E0:List (List Int)} {n:Nat} {s:AS} {x:Wish}
def Led59.bd (l:Led59 A W0 E0 n s x):Bd 200 s:=by
 unfold Bd
 rcases l.sm with ⟨h1,h2⟩|⟨h1,h2⟩
 ·have:(s.most+1)*(s.most+s.L)<=5*7:=Nat.mul_le_mul s!"" s!""
  lia
 ·have:(s.most+1)*(s.most+s.L)<=3*8:=Nat.mul_le_mul s!"" s!""
  lia
def Led59.non (l:Led59 A W0 E0 n s x):nonA A s+10*s.L<=10*s.E.length+(if s.wr.isSome then 10 else 0):=by
 obtain⟨y,o⟩:=WOk.okx l.ok
 cases hw:s.wr with
 |none=>have:=l.j.n0 hw;simp;lia
 |some v=>
  obtain⟨_,_,_,_,m,ws,t,e1,_⟩:=o.wr v hw
  have:=l.j.n1 v m ws hw e1
  simp;lia
def Led59.few (l:Led59 A W0 E0 n s x):s.es.length<=190:=by
 obtain⟨y,o⟩:=WOk.okx l.ok
 have h1:=l.j.few o.tb.w0 l.an
 have h2:=l.non
 have h3:=o.tb.en
 have h4:=o.tb.wn
 have h5:=l.j.gw.length_le
 have h6:=l.nw
 have h7:=l.el
 have h8:(if s.wr.isSome then 10 else 0)<=10:=by split<;>lia
 rcases l.sm with ⟨h9,h10⟩|⟨h9,h10⟩
 ·have a1:s.W.length*s.L<=4*3:=Nat.mul_le_mul s!"" h9
  have a2:(1+s.W.length*s.L)*s.E.length<=13*7:=Nat.mul_le_mul s!"" s!""
  lia
 ·have a1:s.W.length*s.L<=2*6:=Nat.mul_le_mul s!"" h9
  have a2:(1+s.W.length*s.L)*s.E.length<=13*8:=Nat.mul_le_mul s!"" s!""
  lia
def Led59.g (l:Led59 A W0 E0 n s x):G59 s:=by
 obtain⟨y,o⟩:=WOk.okx l.ok
 have sz:=o.sz l.bd
 have:=l.few
 exact⟨o.tb,l.j.ac,l.j.en,sz.e.2,fun p hp=>⟨o.ne p hp,sz.b p hp⟩,by lia⟩
def Led59.ask     (l:Led59 A W0 E0 n s (.ask c))(h0:0<=m)(h9:m<=1000000000)(g:Goes {s with es:=s.es++[(c,m)]} s' y):Led59 (A++[c]) W0 E0 n s' y/\s'.es=s.es++[(c,m)]/\s'.L=s.L/\s'.most=s.most:=by
 obtain⟨okc,hn,hc,hlen,hg⟩:=id l.ok
 have hnk:c∉s.es.map (·.1):=fun z=>by
  obtain⟨q,hq⟩:=Vv.mp z
  rw[hn]at hq;cases hq
 have ok1:=okc.told (m:=m) (fun b hb=>(Option.some.inj hb).symm) hnk hc h0 h9 hlen hg
 have hbd:=l.bd
 unfold Bd at hbd
 have j1:=J59.told (m:=m) okc s!"" l.j l.jx hnk
 obtain⟨ok2,kp⟩:=g.ok ok1
 obtain⟨j2,jx2⟩:=g.J59 ok1 j1
 have e:s'.es=s.es++[(c,m)]:=kp.e
 have eL:s'.L=s.L:=kp.l
 have em:s'.most=s.most:=kp.m
 refine⟨⟨ok2,j2.mono fun z=>⟨z.1,fun _ _ w=>by cases w⟩,jx2,?_,fun b hb=>?_,?_,l.nw,by rw[eL,em];exact l.sm⟩,e,eL,em⟩
 ·rw[List.nodup_append]
  exact⟨l.an,by simp,fun a ha b hb=>by rw[List.mem_singleton.mp hb];intro z;subst z;exact hnk (l.asub a ha)⟩
 ·rw[e,List.map_append]
  rcases List.mem_append.mp hb with hb|hb
  ·exact List.mem_append_left _ (l.asub b hb)
  ·exact List.mem_append_right _ hb
 ·have:=l.el
  rw[e,List.length_append,List.length_append,List.length_singleton,List.length_singleton];lia
def Led59.show  (l:Led59 A W0 E0 n s (.shown mm ws)):Full s.L s.W s.E s.es/\E5 s.L s.W s.E s.es=none/\mm=Cc s.L s.W s.E s.es/\ws=EO s.L s.W s.E s.es/\(0<n->W0.length<s.W.length):=by
 obtain⟨ok0,hG,hwr,hgs,gu,hall⟩:=id l.ok
 obtain⟨hst,h1,h2⟩:=l.jx
 refine⟨ok0.full hG,hst,h1,h2,fun hn=>?_⟩
 obtain⟨np,_⟩:=ok0.tb.none (ok0.full hG) hst
 rcases l.j.gs ⟨hn,fun _ _ w=>by cases w⟩ with h|h|h
 ·exact h
 ·rw[hwr]at h;cases h
 ·exact absurd h np
def Led59.obj {mm ws:List (List Int)}{w:List Int}{m:Int}{s':AS}{y:Wish}(l:Led59 A W0 E0 n s (.shown mm ws))(o:Ob59 s mm ws w m)(g:Goes {s with es:=s.es++[(w,m)]} s' y):Led59 A s.W s.E (n+1) s' y/\s'.es=s.es++[(w,m)]/\s'.L=s.L/\s'.most=s.most:=by
 obtain⟨ok0,hG,hwr,hgs,gu,hall⟩:=id l.ok
 have hf:=l.few
 have hwl:=o.wl
 have ok1:=ok0.told (m:=m) (fun b hb=>(by cases hb)) o.nw ⟨o.wW,o.ne⟩ o.n0 o.n9 s!"" (by rw[hG];simp)
 obtain⟨s2,g2,j2,e2⟩:=NB_ ok0 hG hwr l.j l.jx o.un g
 obtain⟨ok2,kp2,_⟩:=(OR ok1).1 _ e2
 obtain⟨ok3,kp⟩:=g2.ok ok2
 have j2':J59 A s.W s.E (0<n+1/\∀m ws,y ≠ .done m ws) s2:=j2.mono fun _=>trivial
 obtain⟨j3,jx3⟩:=g2.J59 ok2 j2'
 have e:s'.es=s.es++[(w,m)]:=kp.e.trans kp2.e
 have eL:s'.L=s.L:=kp.l.trans kp2.l
 have em:s'.most=s.most:=kp.m.trans kp2.m
 obtain⟨_,_,_,_,hgr⟩:=l.show
 have hle:=l.j.gw.length_le
 have hnw:=l.nw
 have h0:=(List.getElem?_eq_some_iff.mp ok0.tb.w0).1
 refine⟨⟨ok3,j3,jx3,l.an,fun b hb=>?_,?_,?_,by rw[eL,em];exact l.sm⟩,e,eL,em⟩
 ·rw[e,List.map_append]
  exact List.mem_append_left _ (l.asub b hb)
 ·have:=l.el
  rw[e,List.length_append,List.length_singleton];lia
 ·by_cases hn:0<n
  ·have:=hgr hn;lia
  ·lia
def Led59.agree  (l:Led59 A W0 E0 n s (.shown mm ws)):Led59 A s.W s.E (n+1) s (.done mm ws):=by
 obtain⟨ok0,hG,hwr,hgs,gu,hall⟩:=id l.ok
 obtain⟨_,_,_,_,hgr⟩:=l.show
 have hle:=l.j.gw.length_le
 have hnw:=l.nw
 have hel:=l.el
 have h0:=(List.getElem?_eq_some_iff.mp ok0.tb.w0).1
 refine⟨l.ok,⟨l.j.gc,l.j.n0,l.j.n1,l.j.ac,l.j.en,List.prefix_refl _,List.prefix_refl _,fun z=>absurd rfl (z.2 mm ws)⟩,l.jx.1,l.an,l.asub,by lia,?_,l.sm⟩
 by_cases hn:0<n
 ·have:=hgr hn;lia
 ·lia
end
def Fr2.tk {K:PySem.W.Frag}   {p a d st:Addr}{ad:AD}  {wv:V}   (f:Fr2 H H' a ad d st)(S:SAt K CS CA CB H p a ad s wv)(hd:H d=some (.dT kvs))(hs:H st=some (.lst xs)):TK H H':=fun t ts h=>by
 obtain⟨_,gv,rv,zs,ys,us,y⟩:=S
 refine f.1 t _ h (fun z=>?_) (fun z=>by rw[z,hd]at h;cases h) (fun z=>by rw[z,hs]at h;cases h)
 rcases z with z|z|z|z|z
 ·rw[z,y.ob]at h;cases h
 ·rw[z,y.bk.dc]at h;cases h
 ·rw[z,y.w]at h;cases h
 ·rw[z,y.e]at h;cases h
 ·rw[z,y.g]at h;cases h
def Qi.kp {K:PySem.W.Frag}   {p a d st:Addr}{ad:AD}  {wv:V}   (S:SAt K CS CA CB H p a ad s wv)(hd:H d=some (.dT kvs))(hs:H st=some (.lst xs))    (ht:H t=some (.tup [.ref l1,.ref l2]))(h1:H l1=some (.lst zs))(hW:Am K H zs W)(h2:H l2=some (.lst ys))(hE:Am K H ys E)(n1:¬ Fps a ad l1)(n2:¬ Fps a ad l2)(s1:l1≠st)(s2:l2≠st):KP2 (fun H'=>Qi K H' t W E) H a ad d st:=fun H' f=>by
 have tk:=f.tk S hd hs
 exact⟨l1,l2,zs,ys,tk _ _ ht,f.1 _ _ h1 n1 (fun z=>by rw[z,hd]at h1;cases h1) s1,hW.mono tk,f.1 _ _ h2 n2 (fun z=>by rw[z,hd]at h2;cases h2) s2,hE.mono tk⟩
def SAt.out {K:PySem.W.Frag}    {ad:AD}  {wv:V}(S:SAt K CS CA CB H p a ad s wv)(h:H l=none):¬ Fps a ad l:=by
 obtain⟨_,gv,rv,zs,ys,us,y⟩:=S
 rintro (z|z|z|z|z)
 ·rw[z,y.ob]at h;cases h
 ·rw[z,y.bk.dc]at h;cases h
 ·rw[z,y.w]at h;cases h
 ·rw[z,y.e]at h;cases h
 ·rw[z,y.g]at h;cases h
def SAt.outD {K:PySem.W.Frag}    {ad:AD}  {wv:V}  (S:SAt K CS CA CB H p a ad s wv)(h:H d=some (.dT kvs))(n:d≠ad.d):¬ Fps a ad d:=by
 obtain⟨_,gv,rv,zs,ys,us,y⟩:=S
 rintro (z|z|z|z|z)
 ·rw[z,y.ob]at h;cases h
 ·exact n z
 ·rw[z,y.w]at h;cases h
 ·rw[z,y.e]at h;cases h
 ·rw[z,y.g]at h;cases h
def SAt.putL59 {K:PySem.W.Frag}    {ad:AD}  {wv:V}  (x:SAt K CS CA CB H p a ad s wv)(hl:H l=some (.lst xs))(n:¬ Fps a ad l):SAt K CS CA CB (upd H l (.lst xs')) p a ad s wv:=by
 obtain⟨⟨dx,L,hp⟩,gv,rv,zs,ys,us,y⟩:=x
 have tk:TK H (upd H l (.lst xs')):=TK.lst hl
 refine⟨⟨dx,L,by rw[Ag (fun z=>by rw[z,hl]at hp;cases hp)];exact hp⟩,gv,rv,zs,ys,us,y.keep (fun z o hz h=>?_) tk⟩
 rw[Ag fun e=>?_]
 ·exact hz
 ·subst e
  obtain⟨dx',hb⟩:=y.bk.ob
  rcases h with h|h|h|h|h|h
  ·exact n (.inl h)
  ·rw[<-h,hl]at hb;cases hb
  ·exact n (.inr (.inl h))
  ·exact n (.inr (.inr (.inl h)))
  ·exact n (.inr (.inr (.inr (.inl h))))
  ·exact n (.inr (.inr (.inr (.inr h))))
noncomputable def XX (K:PySem.W.Frag)(CS CA CB:Addr):Sp:=fun vs H Q _=>∃(p q st d a t0:Addr) (ns:List Int) (hv:V) (ad:AD) (s:AS) (wv:V) (mm ws A W0 E0:List (List Int)) (n:Nat),vs=[.ref p,.int s.L,.ref q,.ref st,.ref d]/\SAt K CS CA CB H p a ad s wv/\CM K H s.L wv (.shown mm ws)/\Led59 A W0 E0 n s (.shown mm ws)/\KP2 (fun H'=>SqL K H' q (ns.map V.int)) H a ad d st/\ns.length<=63/\H st=some (.lst [.ref t0,.int n,hv])/\¬ Fps a ad st/\Qi K H t0 W0 E0/\H d=some (.dT (ents s.es))/\d≠ad.d /\
 (∀H' wv' t1 u,SAt K CS CA CB H' p a ad s wv'->CM K H' s.L wv' (.done mm ws)->HouT K H' u s.L mm ws->H' st=some (.lst [.ref t1,.int (n+1),.ref u])->KP2 (fun H'=>Qi K H' t1 s.W s.E) H' a ad d st->H' d=some (.dT (ents s.es))->Fr2 H H' a ad d st->Q (.bl true) H') /\
 (∀ad' H' s' x' wv' t1 w m,Ob59 s mm ws w m->Goes {s with es:=s.es++[(w,m)]} s' x'->SAt K CS CA CB H' p a ad' s' wv'->CM K H' s.L wv' x'->H' st=some (.lst [.ref t1,.int (n+1),hv])->KP2 (fun H'=>Qi K H' t1 s.W s.E) H' a ad' d st->H' d=some (.dT (ents (s.es++[(w,m)])))->Fr2 H H' a ad d st->AdOk H ad ad'->Q (.bl true) H')
def YZ   (F:Fun K "_law_shown" "_law_shown" Fi f fd)(T:Txt mg)
  (W:Own K mg C_j7 C_j9 C_ji C_ja C_j1 C_j4)
  (Z:Exs K mg C_j8 C_j5 C_j6 C_j3 C_j2 C_j0)
   (AA:nofun 2 Ao AK ["self"] (Gb K C_j4 C_j1 C_j7 AS.W)) (A1:Fun K "access" "SayAsker.access" Bi Ao AK) (AB:Au K AK ["self"] []) (AE:Meth K C_j4 "access" Ao)
   (Av:nofun 2 Al Az ["self"] (Gb K C_j4 C_j1 C_j7 AS.E)) (AV:Fun K "tellers" "SayAsker.tellers" A6 Al Az) (Aw:Au K Az ["self"] []) (Ax:Meth K C_j4 "tellers" Al)
   (Bf:nofun 3 AH Bj ["self"] (M7 K C_j4 C_j1 C_j7)) (BD:Fun K "heard" "SayAsker.heard" BB AH Bj) (Bg:Au K Bj ["self"] []) (Bh:Meth K C_j4 "heard" AH)
   (BN:nofun 1 BX Cw ["script","k"] (VH K)) (Bw:Fun K "_law_cell" "_law_cell" DZ BX Cw) (BO:Au K Cw ["script","k"] []) (BP:mg "_law_cell"=some (.ref BX))
   (A2:nofun 2 AI Bl ["self"] (M5 K C_j4 C_j1 C_j7)) (BE:Fun K "wants" "SayAsker.wants" BC AI Bl) (A3:Au K Bl ["self"] []) (A4:Meth K C_j4 "wants" AI)
   (GI:nofun 3 DU G8 ["kept","asker","strictly"] (YX K C_j4 C_j1 C_j7)) (EC:Fun K "_law_grows" "_law_grows" Es DU G8) (GJ:Au K G8 ["kept","asker","strictly"] []) (GK:mg "_law_grows"=some (.ref DU))
   (Iy:FnOk P w K mg base (CXe P w) 3 Cg KH ["self"] (By_ K C_j4 C_j1 C_j7 C_j3)) (Gd:Fun K "agree" "SayAsker.agree" CK Cg KH) (Iz:Au K KH ["self"] []) (IA:Meth K C_j4 "agree" Cg)
   (HE:nofun 5 De JU ["house","letters","asker","told"] (Id_ K C_j4 C_j1 C_j7)) (Ei:Fun K "_law_guess_good" "_law_guess_good" Cm De JU) (HH:Au K JU ["house","letters","asker","told"] []) (HI:mg "_law_guess_good"=some (.ref De))
   (Kh:nofun 15 E4 Np ["asker","script","at","told"] (Ff_ K C_j4 C_j1 C_j7)) (F5:Fun K "_law_objects" "_law_objects" D1 E4 Np) (Ki:Au K Np ["asker","script","at","told"] []) (Kj:mg "_law_objects"=some (.ref E4))
  : nofun 16 f fd ["asker","letters","script","state","told"] (XX K C_j4 C_j1 C_j7):=by
 delta K8
 ·obtain⟨p,q,st,d,a,t0,ns,hv,ad,s,wv,mm,ws,A,W0,E0,n,rfl,_⟩:=h;rfl
 ·obtain⟨p,q,st,d,a,t0,ns,hv,ad,s,wv,mm,ws,A,W0,E0,n,rfl,S,hw,led,kq,hz,hst,nst,hk0,hd,hdd,kA,kO⟩:=h
  obtain⟨⟨dx,L',hp⟩,_⟩:=id S
  have hl:=Aq
  obtain⟨full,hstr,em,ew,hgr⟩:=led.show
  obtain⟨ok0,hG,hwr,hgs,gu,hall⟩:=id led.ok
  have tb:=ok0.tb
  have hwn:=tb.wn
  have hm12:=tb.m12
  have hen:=tb.en
  have hl6:=tb.l6
  have few:=led.few
  obtain⟨t,u,rfl,ht,hu⟩:=id hw
  have ht:H t=some (.tup [.str ("show" : Str),.ref u]):=ht
  have hu:HouT K H u s.L mm ws:=hu
  refine⟨_,(Ac (AX (i:=5) K8.nd (Ar (ixTD AZ) (AM (pvD 0) W.cl_j4 A4 A2 (hr.mono (by decide)) A3 .nil AN) Ah))
   (Ac (Bc (U5 PySem.F.plainAttrs_list PySem.F.slot_list_append PySem.F.type_list_append GO (AM (pvD 0) W.cl_j4 AE AA (hr.mono (by decide)) AB .nil AN) (Aa (F3 (Aa Ah Ae)) Ae)))
   (Ac (Bc (JD_ PySem.F.plainAttrs_list PySem.F.slot_list_clear PySem.F.type_list_clear Ev_ (AM (pvD 0) W.cl_j4 Ax Av (hr.mono (by decide)) Aw .nil AN)))
   (Ac (Bc (JD_ PySem.F.plainAttrs_list PySem.F.slot_list_clear PySem.F.type_list_clear Ev_ (AM (pvD 0) W.cl_j4 Bh Bf (hr.mono (by decide)) Bg .nil AN)))
   (Ac (B7 (PW.pt (JD (EU (ptB (ET (Ay HE (hr.mono (by decide)) rfl HI Ei.kp HH .nil AN (Aa (pvD 5) (Aa (pvD 1) (Aa (pvD 0) (Aa (pvD 4) Ae)))))))) (GN (EU (ptB (ET (Ay GI (hr.mono (by decide)) rfl GK EC.kp GJ .nil AN (Aa (Ar (ixLD Cj) (pvD 3) Ah) (Aa (pvD 0) (Aa (J1 (opD0 Gz_) (Ar (ixLD Cj) (pvD 3) Ah) Ah (A0 _)) Ae))))))))))
   (Af (An Ek))
   AL)
   (Ac (Gq_ (F3 (Aa (AM (pvD 0) W.cl_j4 AE AA (hr.mono (by decide)) AB .nil AN) (Aa (AM (pvD 0) W.cl_j4 Ax Av (hr.mono (by decide)) Aw .nil AN) Ae))) (Gp_ (pvD 3) Ah set_list))
   (Ac (Gq_ (BU (opD0 Hb) (Ar (ixLD Cj) (pvD 3) Ah) Ah) (Gp_ (pvD 3) Ah set_list))
   (Ac (AX (i:=6) K8.nd (AG (AO_ rfl) rfl T.max PyProof.Rows.boot_max (Aa Ah (Aa (BU (opD0 AN_) (AG (lenD Aj) (by rfl) T.len PySem.boot_len (Aa (pvD 2) Ae)) (BU (opD OB) Ah (Ar (ixLD Cj) (pvD 3) Ah))) Ae))))
   (GZ_ (B7 (ptT (AF (opE KY) (BU (opD IW) (Ay BN (hr.mono (by decide)) rfl BP Bw.kp BO .nil AN (Aa (pvD 2) (Aa (pvD 6) Ae))) Ah) Ah (A0 _)))
   (Ac (Gq_ (pvD 5) (Gp_ (pvD 3) Ah set_list))
   (Af (Bc (AM (pvD 0) W.cl_j4 IA Iy (hr.mono (by decide)) Iz .nil (Rc (P:=P) (w:=w))))))
   (Af (Bc (Ay Kh (hr.mono (by decide)) rfl Kj F5.kp Ki .nil AN (Aa (pvD 0) (Aa (pvD 2) (Aa (pvD 6) (Aa (pvD 4) Ae))))))))
   (Af (An Ek))))))))))),?_⟩
  nofun
  refine⟨_,_,hp,by kernel_rfl,p,a,ad,s,_,rfl,S,t,rfl,_,SqT.of ht,_,rfl,?_⟩
  refine⟨_,_,hp,by kernel_rfl,p,a,ad,s,_,rfl,S,fun l1 ts1 H1 s1 hn1 hl1 hW1=>?_⟩
  refine⟨.inl ⟨rfl,_,SqL.of hl1⟩,by lia,fun p2 hp2=>⟨l1,rfl,_,(Same.new hp2) _ _ hl1,by rw[hW1.1];lia,?_⟩⟩
  have s2:Same H (upd (upd H1 p2 (.tup [V.int 0])) l1 (.lst (ts1++[V.ref p2]))):=(s1.newT hp2).over hn1
  generalize upd (upd H1 p2 (.tup [V.int 0])) l1 (.lst (ts1++[V.ref p2]))=H2 at s2 ⊢
  clear hl1 hW1 hp2 s1 hn1
  refine⟨_,_,s2 _ _ hp,by kernel_rfl,p,a,ad,s,_,rfl,S.same s2,fun l3 ts3 H3 s3 hn3 hl3 _=>⟨.inl ⟨rfl,_,SqL.of hl3⟩,l3,rfl,_,hl3,?_⟩⟩
  have s4:Same H (upd H3 l3 (.lst [])):=(s2.trans s3).over (s2.none hn3)
  generalize upd H3 l3 (.lst [])=H4 at s4 ⊢
  clear hl3 hn3 s3 s2
  refine⟨_,_,s4 _ _ hp,by kernel_rfl,p,a,ad,s,_,rfl,S.same s4,fun l5 ts5 H5 s5 hn5 hl5 _=>⟨.inl ⟨rfl,_,SqL.of hl5⟩,l5,rfl,_,hl5,?_⟩⟩
  have s6:Same H (upd H5 l5 (.lst [])):=(s4.trans s5).over (s4.none hn5)
  generalize upd H5 l5 (.lst [])=H6 at s6 ⊢
  clear hl5 hn5 s5 s4
  have hu':HouT K H u s.L (Cc s.L s.W s.E s.es) (EO s.L s.W s.E s.es):=by rw[<-em,<-ew];exact hu
  refine⟨u,p,d,a,ad,s,_,rfl,S.same s6,hu'.mono (TK.of s6),led.g,full,hstr,fun e he=>by rw[<-em,<-ew];exact hall e he,s6 _ _ hd,fun H7 s7=>⟨_,rfl,?_⟩⟩
  rw[if_neg (by decide)]
  have s17:=s6.trans s7
  obtain⟨kp,kq',zs0,ys0,k1,k2,k3,k4,k5⟩:=hk0
  refine⟨_,SqL.of (s17 _ _ hst),_,rfl,_,SqL.of (s17 _ _ hst),_,rfl,_,rfl,?_⟩
  refine⟨t0,p,a,ad,s,_,W0,E0,_,rfl,S.same s17,⟨kp,kq',zs0,ys0,s17 _ _ k1,s17 _ _ k2,k3.mono (TK.of s17),s17 _ _ k4,k5.mono (TK.of s17)⟩,led.j.gw,led.j.ge,fun z=>hgr (by have:=of_decide_eq_true z;lia),by lia,by lia,fun H8 s8=>⟨_,rfl,?_⟩⟩
  rw[if_neg (by decide)]
  have s18:=s17.trans s8
  refine⟨_,_,s18 _ _ hp,by kernel_rfl,p,a,ad,s,_,rfl,S.same s18,fun l9 ts9 H9 s9 hn9 hl9 hW9=>?_⟩
  have s19:=s18.trans s9
  refine⟨_,_,s19 _ _ hp,by kernel_rfl,p,a,ad,s,_,rfl,S.same s19,fun l10 ts10 H10 s10 hn10 hl10 hE10=>⟨by lia,fun t1 ht1=>?_⟩⟩
  have a10:=s10.newT ht1 (o:=.tup [V.ref l9,V.ref l10])
  have s110:=s19.trans a10
  have hst10:=s110 _ _ hst
  have hd10:=s110 _ _ hd
  have S10:=S.same s110
  have hl9':=a10 _ _ hl9
  have hl10':=(Same.new ht1 (o:=.tup [V.ref l9,V.ref l10])) _ _ hl10
  have hW10:=hW9.mono (TK.of a10)
  have hE10':=hE10.mono (TK.new ht1 (o:=.tup [V.ref l9,V.ref l10]))
  have ht1':upd H10 t1 (.tup [V.ref l9,V.ref l10]) t1=some (.tup [V.ref l9,V.ref l10]):=Ab
  have o9:=S.out (s18.none hn9)
  have o10:=S.out (s19.none hn10)
  have ns9:l9≠st:=fun z=>by have:=s18.none hn9;rw[z,hst]at this;cases this
  have ns10:l10≠st:=fun z=>by have:=s19.none hn10;rw[z,hst]at this;cases this
  generalize upd H10 t1 (.tup [V.ref l9,V.ref l10])=H11 at a10 s110 hst10 hd10 S10 hl9' hl10' hW10 hE10' ht1' ⊢
  refine⟨_,hst10,0,rfl,?_⟩
  refine⟨_,SqL.of Ab,_,rfl,_,rfl,_,Ab,1,rfl,?_⟩
  have eupd:∀(xs ys:List V),upd (upd H11 st (.lst xs)) st (.lst ys)=upd H11 st (.lst ys):=fun xs ys=>by
   funext x
   by_cases z:x=st
   ·rw[z,Ab,Ab]
   ·rw[Ag z,Ag z,Ag z]
  rw[eupd]
  have f12:Fr2 H (upd H11 st (.lst [V.ref t1,V.int ((n:Int)+1),hv])) a ad d st:=(Fr2.of s110 a ad d st).seq (AdOk.refl _ _) (Fr2.put (.inr rfl) hst10)
  have S12:=S10.putL59 hst10 nst (xs':=[V.ref t1,V.int ((n:Int)+1),hv])
  have tk12:TK H11 (upd H11 st (.lst [V.ref t1,V.int ((n:Int)+1),hv])):=TK.lst hst10
  have hst12:upd H11 st (.lst [V.ref t1,V.int ((n:Int)+1),hv]) st=some (.lst [V.ref t1,V.int ((n:Int)+1),hv]):=Ab
  have hd12:upd H11 st (.lst [V.ref t1,V.int ((n:Int)+1),hv]) d=some (.dT (ents s.es)):=by rw[Ag (fun z=>by rw[z,hst10]at hd10;cases hd10)];exact hd10
  have kk12:=Qi.kp S12 hd12 hst12 (tk12 _ _ ht1') (by rw[Ag ns9];exact hl9') (hW10.mono tk12) (by rw[Ag ns10];exact hl10') (hE10'.mono tk12) o9 o10 ns9 ns10
  have hw12:=(hw.mono (TK.of s110)).mono tk12
  have hu12:=(hu.mono (TK.of s110)).mono tk12
  have kq12:=kq.next f12 (AdOk.refl _ _)
  rw[show ([V.ref t0,V.int (n:Int),hv].set 0 (V.ref t1)).set 1 (V.int ((n:Int)+1))=[V.ref t1,V.int ((n:Int)+1),hv] from rfl]
  generalize upd H11 st (.lst [V.ref t1,V.int ((n:Int)+1),hv])=H12 at f12 S12 tk12 hst12 hd12 kk12 hw12 hu12 kq12 ⊢
  refine⟨_,.inl kq12.now,_,SqL.of hst12,_,rfl,_,rfl,.inl ⟨by lia,by lia⟩,?_⟩
  rw[List.length_map]
  obtain⟨at_,hat,hat6⟩:∃at_:Nat,(if (ns.length:Int)-3*((n:Int)+1) > 0 then (ns.length:Int)-3*((n:Int)+1) else 0)=(at_:Int)/\at_<=63:=⟨((if (ns.length:Int)-3*((n:Int)+1) > 0 then (ns.length:Int)-3*((n:Int)+1) else 0)).toNat,by split<;>lia,by split<;>lia⟩
  rw[hat]
  refine⟨fun σ' H'=>Q (.bl true) H',?_,fun σ' H' hh=>hh⟩
  obtain⟨⟨dx12,L12,hp12⟩,_⟩:=id S12
  nofun
  refine⟨q,ns,at_,rfl,kq12.now,_,rfl,by decide,?_⟩
  by_cases hc:cell ns at_%5=4
  ·rw[if_pos hc]
   have S13:=S12.putL59 hst12 nst (xs':=[V.ref t1,V.int ((n:Int)+1),V.ref u])
   have tk13:TK H12 (upd H12 st (.lst [V.ref t1,V.int ((n:Int)+1),V.ref u])):=TK.lst hst12
   have hst13:upd H12 st (.lst [V.ref t1,V.int ((n:Int)+1),V.ref u]) st=some (.lst [V.ref t1,V.int ((n:Int)+1),V.ref u]):=Ab
   have hd13:upd H12 st (.lst [V.ref t1,V.int ((n:Int)+1),V.ref u]) d=some (.dT (ents s.es)):=by rw[Ag (fun z=>by rw[z,hst12]at hd12;cases hd12)];exact hd12
   have f13:Fr2 H12 (upd H12 st (.lst [V.ref t1,V.int ((n:Int)+1),V.ref u])) a ad d st:=Fr2.put (.inr rfl) hst12
   have kk13:=kk12.next f13 (AdOk.refl _ _)
   refine⟨_,hst12,2,rfl,?_⟩
   rw[show [V.ref t1,V.int ((n:Int)+1),hv].set 2 (V.ref u)=[V.ref t1,V.int ((n:Int)+1),V.ref u] from rfl]
   have hw13:=hw12.mono tk13
   have hu13:=hu12.mono tk13
   generalize upd H12 st (.lst [V.ref t1,V.int ((n:Int)+1),V.ref u])=H13 at S13 tk13 hst13 hd13 f13 kk13 hw13 hu13 ⊢
   obtain⟨⟨dx13,L13,hp13⟩,_⟩:=id S13
   refine⟨_,_,hp13,by kernel_rfl,p,a,ad,s,_,_,rfl,S13,hw13,fun z=>absurd rfl z,fun mm' ws' e H' wv' S' hw' f=>?_⟩
   cases e
   have f2:=Fr2.frm f d st
   have tkf:=f2.tk S13 hd13 hst13
   have hf:∀x o,H13 x=some o->¬ Fps a ad x->H' x=some o:=fun x o hx nx=>f.1 x o hx (fun z=>nx (.inl z)) (fun z=>nx (.inr (.inl z))) (fun z=>nx (.inr (.inr (.inl z)))) (fun z=>nx (.inr (.inr (.inr (.inl z))))) (fun z=>nx (.inr (.inr (.inr (.inr z)))))
   exact kA H' wv' t1 u S' hw' (hu13.mono tkf) (hf _ _ hst13 nst) (kk13.next f2 (AdOk.refl _ _)) (hf _ _ hd13 (S13.outD hd13 hdd)) ((f12.seq (AdOk.refl _ _) f13).seq (AdOk.refl _ _) f2)
  ·rw[if_neg hc]
   refine⟨p,q,d,a,at_,ns,ad,s,_,mm,ws,rfl,S12,hw12,led.ok,led.bd,few,kq12.now,hd12,hdd,fun ad' H' s' x' wv' w m ob go S' hw' f o hd'=>?_⟩
   have nn:d≠st:=fun z=>by rw[z,hst12]at hd12;cases hd12
   exact kO ad' H' s' x' wv' t1 w m ob go S' hw' ((f d).1 _ _ hst12 nst (Ne.symm nn) (Ne.symm nn)) (kk12.next (f st) o) hd' (f12.seq (AdOk.refl _ _) (f st)) (AdOk.mono o f12.2)
def BE_   (h:EW s=(s',some (.done m ws))):False:=by
 unfold EW P5 Jg at h
 repeat' split at h
 all_goals cases h
def Goes.notDone   (g:Goes s s' (.done m ws)):False:=by
 generalize hx:Wish.done m ws=x at g
 induction g with
 |stop h=>subst hx;exact BE_ h
 |more h _ ih=>exact ih hx
def Led59.end {A W0 E0:List (List Int)}    (l:Led59 A W0 E0 n s x)(na:∀c,x ≠ .ask c)(ns:∀m ws,x ≠ .shown m ws):End59 s x A.length:=by
 have g:=l.g
 have tb:=g.tb
 have few:=l.j.few tb.w0 l.an
 have non:=l.non
 have h0:=(List.getElem?_eq_some_iff.mp tb.w0).1
 have hwn:=tb.wn
 have hm:=tb.m12
 cases x with
 |ask c=>exact absurd rfl (na c)
 |shown m ws=>exact absurd rfl (ns m ws)
 |done m ws=>
  obtain⟨ok0,hG,hwr,_⟩:=id l.ok
  have full:=ok0.full hG
  obtain⟨np,_⟩:=tb.none full l.jx
  have hE:s.E.length+1<=s.W.length+s.L:=by
   rcases tb.jj with h|h
   ·exact h
   ·exact absurd h.2 np
  rw[hwr]at non
  simp at non
  refine⟨g,full,tb.nodup full,fun v hv=>⟨AW.mpr (.inl hv),by have:=(tb.wW v hv).2;lia⟩,fun c z=>(by cases z),na,ns,?_⟩
  show A.length<=(1+s.W.length*s.L)*(s.W.length+s.L)+10*(s.W.length-1)
  have m1:(1+s.W.length*s.L)*s.E.length<=(1+s.W.length*s.L)*(s.W.length+s.L):=Nat.mul_le_mul_left _ s!""
  lia
 |spent c=>
  obtain⟨ok0,hG,hwr,hWm,hcr,hcW,hcw,hcl,hap⟩:=id l.ok
  have full:=ok0.full hG
  have hE:s.E.length<=s.W.length+s.L:=by
   rcases tb.jj with h|h
   ·lia
   ·lia
  rw[hwr]at non
  simp at non
  refine⟨g,full,?_,fun v hv=>?_,fun c' z=>?_,na,ns,?_⟩
  ·show ((s.W++[c]).map (gOf s.E s.es)).Nodup
   rw[List.map_append,List.nodup_append]
   refine⟨tb.nodup full,by simp,fun a ha b hb z=>?_⟩
   rw[List.map_singleton,List.mem_singleton]at hb
   obtain⟨u,hu,rfl⟩:=List.mem_map.mp ha
   exact (MQ full hcr (AW.mpr (.inl hu))).mpr (hap u hu) (z.trans hb).symm
  ·have hv:v∈s.W++[c]:=hv
   rcases List.mem_append.mp hv with hv|hv
   ·exact⟨AW.mpr (.inl hv),by have:=(tb.wW v hv).2;lia⟩
   ·rw[List.mem_singleton.mp hv];exact⟨hcr,by lia⟩
  ·cases z
   refine⟨hWm,?_⟩
   rcases AW.mp hcr with h|⟨a,ha,y,hy,e⟩
   ·exact absurd h hcW
   ·exact⟨a,ha,y,e⟩
  ·show A.length<=(1+(s.W++[c]).length*s.L)*((s.W++[c]).length+s.L)+10*((s.W++[c]).length-1)
   rw[List.length_append,List.length_singleton]
   have m0:s.W.length*s.L<=(s.W.length+1)*s.L:=Nat.mul_le_mul_right _ s!""
   have m1:(1+s.W.length*s.L)*s.E.length<=(1+(s.W.length+1)*s.L)*(s.W.length+1+s.L):=Nat.mul_le_mul s!"" s!""
   lia
noncomputable def BF_ (K:PySem.W.Frag)(CS CA CB:Addr):Sp:=fun vs H Q _=>∃(p q st a t0:Addr) (ns:List Int) (ad:AD) (s:AS) (wv:V) (x:Wish),vs=[.ref p,.int s.L,.int s.most,.ref q,.ref st]/\SAt K CS CA CB H p a ad s wv/\CM K H s.L wv x/\Led59 [] [[]] [] 0 s x/\s.es=[]/\(∀m ws,x ≠ .done m ws)/\(∀d,H d=none->KP2 (fun H'=>SqL K H' q (ns.map V.int)) H a ad d st)/\ns.length<=63/\H st=some (.lst [.ref t0,.int 0,.non])/\¬ Fps a ad st/\(∀d,H d=none->KP2 (fun H'=>Qi K H' t0 [[]] []) H a ad d st)/\∀H',(∀x o,H x=some o->¬ Fps a ad x->x≠st->H' x=some o)->Q (.bl true) H'
def BG_   (F:Fun K "_law_hunt" "_law_hunt" Gi f fd)(T:Txt mg)
  (W:Own K mg C_j7 C_j9 C_ji C_ja C_j1 C_j4)
  (Z:Exs K mg C_j8 C_j5 C_j6 C_j3 C_j2 C_j0)
   (A2:nofun 2 AI Bl ["self"] (M5 K C_j4 C_j1 C_j7)) (BE:Fun K "wants" "SayAsker.wants" BC AI Bl) (A3:Au K Bl ["self"] []) (A4:Meth K C_j4 "wants" AI)
   (Jp:FnOk P w K mg base (CXe P w) 14 Cy LB ["self","mark"] (EY_ K C_j4 C_j1 C_j7 C_j3 C_j6)) (G9:Fun K "hear" "SayAsker.hear" Di Cy LB) (Jq:Au K LB ["self","mark"] []) (Jr:Meth K C_j4 "hear" Cy)
   (RQ:nofun 2 IV VM ["script","k"] (Fb_ K)) (KI:Fun K "_law_big" "_law_big" Hq IV VM) (RS:Au K VM ["script","k"] []) (RT:mg "_law_big"=some (.ref IV))
   (Hv:nofun 1 ES Ii ["cell"] (VJ)) (FH:Fun K "_law_mark" "_law_mark" Ff ES Ii) (Hw:Au K Ii ["cell"] []) (Hx:mg "_law_mark"=some (.ref ES))
   (GI:nofun 3 DU G8 ["kept","asker","strictly"] (YX K C_j4 C_j1 C_j7)) (EC:Fun K "_law_grows" "_law_grows" Es DU G8) (GJ:Au K G8 ["kept","asker","strictly"] []) (GK:mg "_law_grows"=some (.ref DU))
   (IB:nofun 3 Dz KJ ["wish","letters","told"] (BD_ K)) (EY:Fun K "_law_wish_good" "_law_wish_good" CJ Dz KJ) (IC:Au K KJ ["wish","letters","told"] []) (ID:mg "_law_wish_good"=some (.ref Dz))
   (Js:nofun 5 Ej LC ["asker","letters","most","asked","told"] (Ie_ K C_j4 C_j1 C_j7)) (FJ:Fun K "_law_end_good" "_law_end_good" Dj Ej LC) (Jt:Au K LC ["asker","letters","most","asked","told"] []) (Ju:mg "_law_end_good"=some (.ref Ej))
   (Nq:nofun 16 GL Qj ["asker","letters","script","state","told"] (XX K C_j4 C_j1 C_j7)) (Ij:Fun K "_law_shown" "_law_shown" Fi GL Qj) (Nr:Au K Qj ["asker","letters","script","state","told"] []) (Nt:mg "_law_shown"=some (.ref GL))
  : nofun 17 f fd ["asker","letters","most","script","state"] (BF_ K C_j4 C_j1 C_j7):=by
 delta Gq
 ·obtain⟨p,q,st,a,t0,ns,ad,s,wv,x,rfl,_⟩:=h;rfl
 ·obtain⟨p,q,st,a,t0,ns,ad,s,wv,x,rfl,S,hw,led,hes,hnd,kq,hz,hst,nst,kk,k⟩:=h
  have hl:=Aq
  refine⟨_,(Ac (Kk (i:=5) Gq.nd rfl (Or.inl rfl) K1)
   (Ac (AX (i:=6) Gq.nd Ah)
   (Ac (E7 PassesOwn.never rfl (EV rfl T.range (Aa Ah Ae)) (Bm (i:=7) Gq.nd rfl (Or.inl rfl))
   (Ac (AX (i:=8) Gq.nd (AM (pvD 0) W.cl_j4 A4 A2 (hr.mono (by decide)) A3 .nil AN))
   (Ac (B7 (PW.pt (JD (EU (ptB (ET (Ay IB (hr.mono (by decide)) rfl ID EY.kp IC .nil AN (Aa (pvD 8) (Aa (pvD 1) (Aa (pvD 5) Ae))))))) (GN (ptT (AF (Bd_ 8 (hu9 hr)) (AM (pvD 0) W.cl_j4 A4 A2 (hr.mono (by decide)) A3 .nil AN) (pvD 8) (A0 _))))))
   (Af (An Ek))
   AL)
   (Af (B7 (ptT (AF (opE KY) (Ar (ixTD AZ) (pvD 8) Ah) El (A0 _)))
   (Ac (K0 (IX hr) (pvD 5) (Ar (ixTD AZ) (pvD 8) Ah) (Ay Hv (hr.mono (by decide)) rfl Hx FH.kp Hw .nil AN (Aa (Ay RQ (hr.mono (by decide)) rfl RT KI.kp RS .nil AN (Aa (pvD 3) (Aa (BU (opD0 Hb) Ah (pvD 6)) Ae))) Ae)) rfl)
   (Ac (AX (i:=6) Gq.nd (BU (opD0 Hb) (pvD 6) Ah))
   (Af (Bc (DV (pvD 0) W.cl_j4 Jr Jp (hr.mono (by decide)) Jq .nil (Rc (P:=P) (w:=w)) (Aa (Mq (IX hr) (pvD 5) (Ar (ixTD AZ) (pvD 8) Ah) (fun _ _=>rfl)) Ae))))))
   (Af (B7 (ptT (AF (opE KY) (Ar (ixTD AZ) (pvD 8) Ah) El (A0 _)))
   (Af (B7 (EU (ptB (ET (Ay Nq (hr.mono (by decide)) rfl Nt Ij.kp Nr .nil AN (Aa (pvD 0) (Aa (pvD 1) (Aa (pvD 3) (Aa (pvD 4) (Aa (pvD 5) Ae)))))))))
   (Af (An Ek))
   AL))
   (Ac (B7 (PW.pt (Jw_ (ptT (AF (opE KY) (Ar (ixTD AZ) (pvD 8) Ah) El (A0 _))) (Go_ (ptT (AF (Bd_ 8 (hu9 hr)) (Ar (ixTD AZ) (pvD 8) Ah) (Ar (ixLD Cj) (pvD 4) Ah) (A0 _))))))
   (Af (An Ek))
   AL)
   (Ac (B7 (PW.pt (Jw_ (ptT (AF (opE KY) (Ar (ixTD AZ) (pvD 8) Ah) El (A0 _))) (Go_ (ptT (AF GA_ (Ar (ixLD Cj) (pvD 4) Ah) Gk (A0 _))))))
   (Af (An Ek))
   AL)
   (Af (An (Eo_ (Ay GI (hr.mono (by decide)) rfl GK EC.kp GJ .nil AN (Aa (Ar (ixLD Cj) (pvD 4) Ah) (Aa (pvD 0) (Aa Ek Ae)))) (XB (Ay Js (hr.mono (by decide)) rfl Ju FJ.kp Jt .nil AN (Aa (pvD 0) (Aa (pvD 1) (Aa (pvD 2) (Aa (pvD 6) (Aa (pvD 5) Ae)))))))))))))))))))
   (Af (An Ek))))),?_⟩
  nofun
  refine fun d hd0=>⟨by lia,by lia,?_⟩
  have s0:=Same.new hd0 (o:=.dT [])
  have hd1:upd H d (.dT []) d=some (.dT (ents s.es)):=by rw[hes];exact Ab
  have nd:¬ Fps a ad d:=S.out hd0
  have kq1:=(kq d hd0).next (Fr2.of s0 a ad d st) (AdOk.refl _ _)
  have kk1:=(kk d hd0).next (Fr2.of s0 a ad d st) (AdOk.refl _ _)
  have fin:∀H',Fr2 (upd H d (.dT [])) H' a ad d st->Q (.bl true) H':=fun H' f=>k H' fun y o hy n1 n2=>f.1 y o (s0 _ _ hy) n1 (fun z=>by rw[z,hd0]at hy;cases hy) n2
  have S1:=S.same s0
  have hw1:=hw.mono (TK.of s0)
  have hst1:=s0 _ _ hst
  generalize upd H d (.dT [])=H1 at s0 hd1 kq1 kk1 fin S1 hw1 hst1 ⊢
  obtain⟨Pv,hPv⟩:∃Pv:Nat->St->Hp->Prop,∀i σ' H',Pv i σ' H'↔(∃(ad1:AD) (s1:AS) (wv1:V) (x1:Wish) (A W0 E0:List (List Int)) (n:Nat) (t1:Addr) (hv:V) (o1 o2:Option V),SAt K C_j4 C_j1 C_j7 H' p a ad1 s1 wv1/\CM K H' s1.L wv1 x1/\Led59 A W0 E0 n s1 x1/\s1.L=s.L/\s1.most=s.most/\Fr2 H1 H' a ad d st/\AdOk H1 ad ad1/\H' st=some (.lst [.ref t1,.int n,hv])/\KP2 (fun H'=>Qi K H' t1 W0 E0) H' a ad1 d st/\H' d=some (.dT (ents s1.es))/\(∀m ws,x1=.done m ws->∃u,hv=.ref u/\HouT K H' u s1.L m ws)/\((∀m ws,x1 ≠ .done m ws)->hv=.non)/\(i=s1.es.length\/(∃m ws,x1=.done m ws)/\i=s1.es.length+1)/\σ'=[some (.ref p),some (.int s.L),some (.int s.most),some (.ref q),some (.ref st),some (.ref d),some (.int A.length),o1,o2]):=⟨_,fun _ _ _=>Iff.rfl⟩
  refine forR Pv ((hPv _ _ _).mpr ⟨ad,s,wv,x,[],[[]],[],0,t0,.non,none,none,S1,hw1,led,rfl,rfl,Fr2.of (Same.refl _) a ad d st,AdOk.refl _ _,hst1,kk1,hd1,fun m ws z=>absurd z (hnd m ws),fun _=>rfl,.inl (by rw[hes];rfl),rfl⟩) (fun i σ2 H2 hi h2=>?_) (fun σ2 H2 h2=>?_)
  ·obtain⟨ad1,s1,wv1,x1,A,W0,E0,n,t1,hv,o1,o2,S2,hw2,led2,eL,em,f2,ao2,hst2,kk2,hd2,hdn,hvn,hlen,rfl⟩:=(hPv _ _ _).mp h2
   obtain⟨⟨dx2,L2',hp2⟩,_⟩:=id S2
   have few:=led2.few
   have hdd:d≠ad1.d:=fun z=>nd (.inr (.inl (z.trans ao2.2.2.1)))
   have nst2:¬ Fps a ad1 st:=Fps.next nst ao2 (by rw[hst1];simp)
   have kq2:=kq1.next f2 ao2
   obtain⟨y0,okx⟩:=WOk.okx led2.ok
   have sz:=okx.sz led2.bd
   have tb:=okx.tb
   have g2:=led2.g
   have hwn:=tb.wn
   have hm12:=tb.m12
   have hen:=tb.en
   have hl6:=tb.l6
   obtain⟨t,u,rfl,ht,hu⟩:=id hw2
   nofun
   refine⟨_,_,hp2,by kernel_rfl,p,a,ad1,s1,_,rfl,S2,?_⟩
   have bd:=led2.bd
   unfold Bd at bd
   have lens:=okx.lens
   refine⟨t,d,s.L,s1.es,x1,rfl,by rw[<-eL];exact hw2,hd2,fun c z=>?_,fun c z=>?_,_,rfl,?_⟩
   ·subst z
    obtain⟨_,hn,hc,hcl,_⟩:=id led2.ok
    refine⟨by rw[<-eL];exact hc.1,fun w=>?_,hc.2,?_⟩
    ·obtain⟨m,hm⟩:=Vv.mp w
     rw[hn]at hm;cases hm
    ·split at hcl<;>lia
   ·subst z
    obtain⟨_,_,_,_,_,_,hcw,_⟩:=id led2.ok
    rw[<-eL];exact hcw
   rw[if_neg (by decide)]
   refine⟨_,_,hp2,by kernel_rfl,p,a,ad1,s1,_,rfl,S2,t,rfl,t,rfl,true,CM.eq57 hw2 hw2 4,?_⟩
   rw[if_neg (by decide)]
   have nn:d≠st:=fun z=>by rw[z,hst2]at hd2;cases hd2
   cases x1 with
   |ask c=>
    have ht:H2 t=some (.tup [.str ("ask" : Str),.ref u]):=ht
    have hu:H2 u=some (.tup (c.map V.int)):=hu
    have hli:i=s1.es.length:=by
     rcases hlen with z|⟨⟨m,ws,z⟩,_⟩
     ·exact z
     ·cases z
    obtain⟨okc,hn,hc,hcl,hg⟩:=id led2.ok
    have hnk:c∉s1.es.map (·.1):=fun z=>by
     obtain⟨m,hm⟩:=Vv.mp z
     rw[hn]at hm;cases hm
    refine⟨t,rfl,_,SqT.of ht,_,rfl,rfl,?_⟩
    rw[if_pos rfl]
    have hal:A.length<=s1.es.length:=by
     have:=OU led2.an led2.asub
     rwa [List.length_map]at this
    refine⟨q,ns,2+(A.length:Int),rfl,kq2.now,hz,by lia,by lia,_,rfl,?_⟩
    have mk:=Fc_ (bigF ns (2+(A.length:Int)))
    generalize DF_ (bigF ns (2+(A.length:Int)))=m9 at mk ⊢
    have huk:H2 u=some (.tup ((wkey c).map kV)):=by rw[Ck];exact hu
    have hle:(ents s1.es).length=s1.es.length:=by unfold ents;rw[List.length_map]
    refine⟨t,rfl,_,SqT.of ht,_,rfl,_,DPut.t hd2 huk s!"",?_⟩
    rw[UR hnk]
    have S3:=S2.put59 hd2 hdd (kvs':=ents (s1.es++[(c,m9)]))
    have tk3:TK H2 (upd H2 d (.dT (ents (s1.es++[(c,m9)])))):=fun t ts h=>by rw[Ag (fun z=>by rw[z,hd2]at h;cases h)];exact h
    have hd3:upd H2 d (.dT (ents (s1.es++[(c,m9)]))) d=some (.dT (ents (s1.es++[(c,m9)]))):=Ab
    have f3:Fr2 H2 (upd H2 d (.dT (ents (s1.es++[(c,m9)])))) a ad1 d st:=Fr2.put (.inl rfl) hd2
    have hst3:upd H2 d (.dT (ents (s1.es++[(c,m9)]))) st=some (.lst [.ref t1,.int n,hv]):=by rw[Ag (Ne.symm nn)];exact hst2
    have ht3:=tk3 _ _ ht
    have hu3:=tk3 _ _ hu
    have hw3:=hw2.mono tk3
    generalize upd H2 d (.dT (ents (s1.es++[(c,m9)])))=H3 at S3 tk3 hd3 f3 hst3 ht3 hu3 hw3 ⊢
    obtain⟨⟨dx3,L3,hp3⟩,_⟩:=id S3
    have nd3:((s1.es++[(c,m9)]).map (·.1)).Nodup:=by
     rw[List.map_append,List.nodup_append]
     exact⟨tb.nd,by simp,fun a ha b hb=>by rw[List.mem_singleton.mp hb];intro z;subst z;exact hnk ha⟩
    have hval:valV (ents (s1.es++[(c,m9)])) (wkey c)=some (.int m9):=F6 nd3 (by simp)
    refine⟨_,_,hp3,by kernel_rfl,t,rfl,_,SqT.of ht3,_,rfl,_,by rw[<-hval];exact DGet.t hd3 (by rw[Ck];exact hu3),?_⟩
    refine⟨p,a,ad1,s1,_,.ask c,200,m9,rfl,S3,hw3,led2.ok,led2.bd,by lia,fun z=>absurd rfl z,fun c' e=>?_⟩
    cases e
    refine⟨fun z=>absurd mk z,fun h0 h9 ad' H' s' x' wv' go S' hw' f o=>?_⟩
    obtain⟨led',es',eL',em'⟩:=led2.ask h0 h9 go
    have f4:=Fr2.frm f d st
    have f24:=f3.seq (AdOk.refl _ _) f4
    have o24:=AdOk.mono o f3.2
    have hf:∀x o,H3 x=some o->¬ Fps a ad1 x->H' x=some o:=fun x o hx nx=>f.1 x o hx (fun z=>nx (.inl z)) (fun z=>nx (.inr (.inl z))) (fun z=>nx (.inr (.inr (.inl z)))) (fun z=>nx (.inr (.inr (.inr (.inl z))))) (fun z=>nx (.inr (.inr (.inr (.inr z)))))
    have ex':∀m ws,x' ≠ .done m ws:=fun m ws z=>by subst z;exact go.notDone
    refine (hPv _ _ _).mpr ⟨ad',s',wv',x',A++[c],W0,E0,n,t1,hv,some (V.int (0+(i:Int))),some (V.ref t),S',by rw[eL'];exact hw',led',eL'.trans eL,em'.trans em,f2.seq ao2 f24,AdOk.seq f2.2 ao2 o24,hf _ _ hst3 nst2,kk2.next f24 o24,by rw[es'];exact hf _ _ hd3 (S3.outD hd3 hdd),fun m ws z=>absurd z (ex' m ws),fun _=>hvn fun m ws z=>(by cases z),.inl ?_,?_⟩
    ·rw[es',List.length_append,List.length_singleton,hli]
    ·rw[List.length_append,List.length_singleton];push_cast;rfl
   |shown mm ws=>
    have ht:H2 t=some (.tup [.str ("show" : Str),.ref u]):=ht
    have hli:i=s1.es.length:=by
     rcases hlen with z|⟨⟨m,ws,z⟩,_⟩
     ·exact z
     ·cases z
    refine⟨t,rfl,_,SqT.of ht,_,rfl,rfl,?_⟩
    rw[if_neg (fun z=>absurd (V.str.inj z) (by decide +kernel))]
    refine⟨t,rfl,_,SqT.of ht,_,rfl,rfl,?_⟩
    rw[if_pos rfl]
    refine⟨p,q,st,d,a,t1,ns,hv,ad1,s1,_,mm,ws,A,W0,E0,n,by rw[eL],S2,hw2,led2,kq2,hz,hst2,nst2,kk2.now,hd2,hdd,fun H' wv' t2 u2 S' hw' hu' hst' kk' hd' f'=>⟨_,rfl,?_⟩,fun ad' H' s' x' wv' t2 w m ob go S' hw' hst' kk' hd' f' o'=>⟨_,rfl,?_⟩⟩
    ·rw[if_neg (by decide)]
     exact (hPv _ _ _).mpr ⟨ad1,s1,wv',.done mm ws,A,s1.W,s1.E,n+1,t2,.ref u2,_,_,S',hw',led2.agree,eL,em,f2.seq ao2 f',ao2,by push_cast;exact hst',kk',hd',fun m ws' z=>(by cases z;exact⟨u2,rfl,hu'⟩),fun z=>absurd rfl (z mm ws),.inr ⟨⟨mm,ws,rfl⟩,by lia⟩,rfl⟩
    ·rw[if_neg (by decide)]
     obtain⟨led',es',eL',em'⟩:=led2.obj ob go
     have ex':∀m ws,x' ≠ .done m ws:=fun m ws z=>by subst z;exact go.notDone
     refine (hPv _ _ _).mpr ⟨ad',s',wv',x',A,s1.W,s1.E,n+1,t2,hv,_,_,S',by rw[eL'];exact hw',led',eL'.trans eL,em'.trans em,f2.seq ao2 f',AdOk.seq f2.2 ao2 o',by push_cast;exact hst',kk',by rw[es'];exact hd',fun m ws z=>absurd z (ex' m ws),fun _=>hvn fun m ws z=>(by cases z),.inl ?_,rfl⟩
     rw[es',List.length_append,List.length_singleton,hli]
   |done mm ws=>
    have ht:H2 t=some (.tup [.str ("done" : Str),.ref u]):=ht
    have hu:HouT K H2 u s1.L mm ws:=hu
    obtain⟨u2,hv2,hu2⟩:=hdn mm ws rfl
    subst hv2
    refine⟨t,rfl,_,SqT.of ht,_,rfl,rfl,?_⟩
    rw[if_neg (fun z=>absurd (V.str.inj z) (by decide +kernel))]
    refine⟨t,rfl,_,SqT.of ht,_,rfl,rfl,?_⟩
    rw[if_neg (fun z=>absurd (V.str.inj z) (by decide +kernel))]
    refine⟨t,rfl,_,SqT.of ht,_,rfl,rfl,?_⟩
    rw[if_pos rfl]
    refine⟨t,rfl,_,SqT.of ht,_,rfl,_,SqL.of hst2,_,rfl,u,rfl,u2,rfl,true,HouT.eq57 hu hu2 5,?_⟩
    rw[if_neg (by decide)]
    refine⟨t,rfl,_,SqT.of ht,_,rfl,rfl,?_⟩
    rw[if_neg (fun z=>absurd (V.str.inj z) (by decide +kernel))]
    refine⟨_,SqL.of hst2,_,rfl,t1,p,a,ad1,s1,_,W0,E0,false,rfl,S2,kk2.now,led2.j.gw,led2.j.ge,fun z=>(by cases z),by lia,by lia,fun H3 s3=>⟨_,rfl,?_⟩⟩
    rw[if_pos rfl]
    exact⟨p,d,a,ad1,s1,_,_,A.length,by rw[eL,em],S2.same s3,hw2.mono (TK.of s3),led2.end (fun _ z=>by cases z) (fun _ _ z=>by cases z),s3 _ _ hd2,fun H4 s4=>fin H4 (f2.seq ao2 (Fr2.of (s3.trans s4) a ad1 d st))⟩
   |spent c=>
    have ht:H2 t=some (.tup [.str ("spent" : Str),.ref u]):=ht
    refine⟨t,rfl,_,SqT.of ht,_,rfl,rfl,?_⟩
    rw[if_neg (fun z=>absurd (V.str.inj z) (by decide +kernel))]
    refine⟨t,rfl,_,SqT.of ht,_,rfl,rfl,?_⟩
    rw[if_neg (fun z=>absurd (V.str.inj z) (by decide +kernel))]
    refine⟨t,rfl,_,SqT.of ht,_,rfl,rfl,?_⟩
    rw[if_neg (fun z=>absurd (V.str.inj z) (by decide +kernel))]
    refine⟨t,rfl,_,SqT.of ht,_,rfl,rfl,?_⟩
    rw[if_pos rfl]
    refine⟨_,SqL.of hst2,_,rfl,?_⟩
    rw[hvn fun m ws z=>(by cases z),if_neg (by simp)]
    rw[hvn fun m ws z=>(by cases z)]at hst2
    refine⟨_,SqL.of hst2,_,rfl,t1,p,a,ad1,s1,_,W0,E0,false,rfl,S2,kk2.now,led2.j.gw,led2.j.ge,fun z=>(by cases z),by lia,by lia,fun H3 s3=>⟨_,rfl,?_⟩⟩
    rw[if_pos rfl]
    exact⟨p,d,a,ad1,s1,_,_,A.length,by rw[eL,em],S2.same s3,hw2.mono (TK.of s3),led2.end (fun _ z=>by cases z) (fun _ _ z=>by cases z),s3 _ _ hd2,fun H4 s4=>fin H4 (f2.seq ao2 (Fr2.of (s3.trans s4) a ad1 d st))⟩
  ·exfalso
   obtain⟨ad1,s1,wv1,x1,A,W0,E0,n,t1,hv,o1,o2,S2,hw2,led2,eL,em,f2,ao2,hst2,kk2,hd2,hdn,hvn,hlen,rfl⟩:=(hPv _ _ _).mp h2
   have few:=led2.few
   have h9:Int.toNat 900=900:=rfl
   rcases hlen with h|h
   ·lia
   ·lia
def NC_ {K:PySem.W.Frag}  {q a d st:Addr}  {ad:AD}(h:SqL K H0 q xs)(s:Same H0 H)(n:∀o,H0 q=some o->¬ Fps a ad q/\q≠st)(hd:H d=none):KP2 (fun H'=>SqL K H' q xs) H a ad d st:=fun H' f=>by
 rcases h with h|h
 ·have g:∀o,H0 q=some o->H' q=some o:=fun o ho=>f.1 q o (s _ _ ho) (n o ho).1 (fun z=>by have:=s _ _ ho;rw[z,hd]at this;cases this) (n o ho).2
  rcases h with h|⟨o,h⟩
  ·exact .inl (.inl (g _ h))
  ·exact .inl (.inr ⟨o,g _ h⟩)
 ·exact .inr h
noncomputable def BH_ (H0 H:Hp)(us:List V)(its:List (List V)):Prop:=us.length=its.length/\∀(j:Nat) (xs:List V),its[j]?=some xs->∃m,us[j]?=some (.ref m)/\H0 m=none/\H m=some (.lst xs)
def BH_.snoc   {its:List (List V)}(h:BH_ H0 H us its)(s:Same H H')   (h0:H0 m=none)(hm:H' m=some (.lst xs)):BH_ H0 H' (us++[.ref m]) (its++[xs]):=⟨by simp[h.1],fun j ys hj=>by
 by_cases hl:j<its.length
 ·rw[List.getElem?_append_left hl]at hj
  obtain⟨q,a,b,c⟩:=h.2 j ys hj
  exact⟨q,by rw[List.getElem?_append_left (by rw[h.1];exact hl)];exact a,b,s _ _ c⟩
 ·have hlt:=(List.getElem?_eq_some_iff.mp hj).1
  rw[List.length_append,List.length_singleton]at hlt
  rw[List.getElem?_append_right s!"",show j-its.length=0 by lia]at hj
  cases hj
  exact⟨m,by rw[List.getElem?_append_right (by rw[h.1];lia),h.1,show j-its.length=0 by lia];rfl,h0,hm⟩⟩
noncomputable def Jf_ (K:PySem.W.Frag):Sp:=fun vs H Q _=>∃(a:Addr) (ns:List Int),vs=[.ref a]/\SqL K H a (ns.map V.int)/\ns.length<=63/\∀H',Q (.bl true) H'
def Ni_   (F:Fun K "law" "law" Yx f fd)(T:Txt mg)
  (W:Own K mg C_j7 C_j9 C_ji C_ja C_j1 C_j4)
  (Z:Exs K mg C_j8 C_j5 C_j6 C_j3 C_j2 C_j0)
   (Jv:nofun 14 Cz LD ["self","letters","most"] (Fa_ K C_j4 C_j1 C_j7)) (Ha:Fun K "__init__" "SayAsker.__init__" Dh Cz LD) (Jw:Au K LD ["self","letters","most"] []) (Jx:Mk K C_j4 Cz)
   (AA:nofun 2 Ao AK ["self"] (Gb K C_j4 C_j1 C_j7 AS.W)) (A1:Fun K "access" "SayAsker.access" Bi Ao AK) (AB:Au K AK ["self"] []) (AE:Meth K C_j4 "access" Ao)
   (Av:nofun 2 Al Az ["self"] (Gb K C_j4 C_j1 C_j7 AS.E)) (AV:Fun K "tellers" "SayAsker.tellers" A6 Al Az) (Aw:Au K Az ["self"] []) (Ax:Meth K C_j4 "tellers" Al)
   (Bf:nofun 3 AH Bj ["self"] (M7 K C_j4 C_j1 C_j7)) (BD:Fun K "heard" "SayAsker.heard" BB AH Bj) (Bg:Au K Bj ["self"] []) (Bh:Meth K C_j4 "heard" AH)
   (BN:nofun 1 BX Cw ["script","k"] (VH K)) (Bw:Fun K "_law_cell" "_law_cell" DZ BX Cw) (BO:Au K Cw ["script","k"] []) (BP:mg "_law_cell"=some (.ref BX))
   (O7:nofun 17 HJ Tq ["asker","letters","most","script","state"] (BF_ K C_j4 C_j1 C_j7)) (Jy:Fun K "_law_hunt" "_law_hunt" Gi HJ Tq) (O8:Au K Tq ["asker","letters","most","script","state"] []) (O9:mg "_law_hunt"=some (.ref HJ))
  : nofun 18 f fd ["script"] (Jf_ K):=by
 delta XI
 ·obtain⟨a,ns,rfl,_⟩:=h;rfl
 ·obtain⟨q,ns,rfl,hq,hz,k⟩:=h
  have hl:=Aq
  have a0:=Int.emod_nonneg (cell ns 0) (show (3:Int)≠0 by decide)
  have a1:=Int.emod_lt_of_pos (cell ns 0) (show (0:Int)<3 by decide)
  obtain⟨L,hL,l1,l6⟩:∃L:Nat,1+cell ns 0%3+cell ns 0 / 3%4 / 3*3=(L:Int)/\1<=L/\L<=6:=⟨(1+cell ns 0%3+cell ns 0 / 3%4 / 3*3).toNat,by lia,by lia,by lia⟩
  refine⟨_,(Ac (AX (i:=1) XI.nd (BU (opD0 Hb) (BU (opD0 Hb) Ah (BU (opD IW) (Ay BN (hr.mono (by decide)) rfl BP Bw.kp BO .nil AN (Aa (pvD 0) (Aa Ah Ae))) Ah)) (BU (opD OB) (BU (opD OL) (BU (opD IW) (BU (opD OL) (Ay BN (hr.mono (by decide)) rfl BP Bw.kp BO .nil AN (Aa (pvD 0) (Aa Ah Ae))) Ah) Ah) Ah) Ah)))
   (Ac (AX (i:=2) XI.nd (BU (opD0 Hb) Ah (BU (opD IW) (Ay BN (hr.mono (by decide)) rfl BP Bw.kp BO .nil AN (Aa (pvD 0) (Aa Ah Ae))) (Ar (ixLD Cj) (JG (Aa Ah (Aa Ah (Aa Ah (Aa Ah (Aa Ah (Aa Ah Ae))))))) (BU (opD0 AN_) (pvD 1) Ah)))))
   (Ac (AX (i:=3) XI.nd (CY_ Jx Jv (hr.mono (by decide)) rfl W.m_j4 Jw .nil AN (Aa (pvD 1) (Aa (pvD 2) Ae))))
   (Ac (AX (i:=4) XI.nd (JG (Aa (AM (pvD 3) W.cl_j4 AE AA (hr.mono (by decide)) AB .nil AN) (Aa (AM (pvD 3) W.cl_j4 Ax Av (hr.mono (by decide)) Aw .nil AN) (Aa (AM (pvD 3) W.cl_j4 Bh Bf (hr.mono (by decide)) Bg .nil AN) Ae)))))
   (Ac (Yb (i:=5) XI.nd rfl rfl rfl (Kl rfl) (cp:=HF_) True.intro (Ge (pvD 4)) (fun _ _ _ _=>(Bm (i:=0) FE_ rfl (Or.inl rfl))) (fun _ _ _ _=>Ls) (fun _ _ _ _=>(Ci (Yf (K:=K) rfl) rfl T.list PyProof.Rows.boot_list (Aa (pvD 0) Ae))))
   (Ac (B7 (EU (ptB (ET (Ay O7 (hr.mono (by decide)) rfl O9 Jy.kp O8 .nil AN (Aa (pvD 3) (Aa (pvD 1) (Aa (pvD 2) (Aa (pvD 0) (Aa (JG (Aa (F3 (Aa (JG (Aa (F3 Ae) Ae)) (Aa (JG Ae) Ae))) (Aa Ah (Aa Gk Ae)))) Ae)))))))))
   (Af (An Ek))
   AL)
   (Af (An (J1 (Ey_ 8 (hu9 hr)) (pvD 4) (pvD 5) (A0 _)))))))))),?_⟩
  nofun
  refine⟨q,ns,0,rfl,hq,_,rfl,by decide,q,ns,0,rfl,hq,_,rfl,⟨by decide,by decide⟩,by decide,⟨by decide,by decide⟩,.inr ⟨by decide,by decide⟩,?_⟩
  rw[hL]
  obtain⟨y,hy,hy4,hyL⟩:∃y:Int,atI [V.int 4,V.int 4,V.int 4,V.int 2,V.int 2,V.int 2] ((L:Int)-1)=some (V.int y)/\(y=4\/y=2)/\(3<L->y=2):=by
   have:L=1\/L=2\/L=3\/L=4\/L=5\/L=6:=by lia
   rcases this with e|e|e|e|e|e<;>subst e
   ·exact⟨4,rfl,.inl rfl,fun z=>by lia⟩
   ·exact⟨4,rfl,.inl rfl,fun z=>by lia⟩
   ·exact⟨4,rfl,.inl rfl,fun z=>by lia⟩
   ·exact⟨2,rfl,.inr rfl,fun z=>rfl⟩
   ·exact⟨2,rfl,.inr rfl,fun z=>rfl⟩
   ·exact⟨2,rfl,.inr rfl,fun z=>rfl⟩
  have b0:=Int.emod_nonneg (cell ns 1) (show y≠0 by lia)
  have b1:=Int.emod_lt_of_pos (cell ns 1) (show 0<y by lia)
  obtain⟨most,hm⟩:∃most:Nat,1+cell ns 1%y=(most:Int):=⟨(1+cell ns 1%y).toNat,by lia⟩
  have m1:1<=most:=by lia
  have m4:most<=4:=by lia
  have m2:3<L->most<=2:=fun z=>by have:=hyL z;lia
  refine⟨q,ns,1,rfl,hq,by lia,fun pl hpl=>⟨_,SqL.of Ab,_,hy,_,rfl,_,rfl,by lia,?_⟩⟩
  rw[hm]
  have sl:=Same.new hpl (o:=.lst [V.int 4,V.int 4,V.int 4,V.int 2,V.int 2,V.int 2])
  have hq0:=sl.seq hq
  generalize upd H pl (.lst [V.int 4,V.int 4,V.int 4,V.int 2,V.int 2,V.int 2])=H0 at sl hq0 ⊢
  intro p dx hpN hdN hne
  refine⟨p,dx,L,most,rfl,Ab,l1,l6,m1,by lia,fun a ad H1 s x wv go S hw hf hno hfr=>⟨rfl,?_⟩⟩
  have nz:∀y,upd (upd H0 dx (HO.own p)) p (HO.ins C_j4 dx []) y=none->H0 y=none:=fun y hy=>by
   by_cases z1:y=p
   ·rw[z1,Ab]at hy;cases hy
   ·by_cases z2:y=dx
    ·rw[z2,Ag (by rw[<-z2];exact z1),Ab]at hy;cases hy
    ·rw[Ag z1,Ag z2]at hy;exact hy
  have hfr':H0 a=none/\H0 ad.d=none/\H0 ad.pw=none/\H0 ad.pe=none/\H0 ad.pg=none:=⟨nz _ hfr.1,nz _ hfr.2.1,nz _ hfr.2.2.1,nz _ hfr.2.2.2.1,nz _ hfr.2.2.2.2⟩
  have s1:Same H0 H1:=fun y o hy=>by
   have y1:y≠p:=fun z=>by rw[z,hpN]at hy;cases hy
   have y2:y≠dx:=fun z=>by rw[z,hdN]at hy;cases hy
   exact hf _ _ (by rw[Ag y1,Ag y2];exact hy) y1
  have ok0:=HU_ (L:=L) (most:=most) 200 s!"" l1 l6 m1 s!""
  obtain⟨ok1,kp⟩:=go.ok ok0
  obtain⟨j1,jx1⟩:=go.J59 ok0 (J59.start L most)
  have es0:s.es=[]:=kp.e
  have eL:s.L=L:=kp.l
  have em:s.most=most:=kp.m
  have led:Led59 [] [[]] [] 0 s x:=⟨ok1,j1.mono fun z=>absurd z.1 (Nat.lt_irrefl 0),jx1,List.nodup_nil,fun c z=>(by cases z),by rw[es0];exact Nat.le_refl _,Nat.zero_le _,by rw[eL,em];by_cases z:3<L;exact .inr ⟨l6,m2 z⟩;exact .inl ⟨by lia,m4⟩⟩
  have hndn:∀m ws,x ≠ .done m ws:=fun m ws z=>by subst z;exact go.notDone
  have tb:=led.g.tb
  obtain⟨⟨dx1,L1,hp1⟩,_⟩:=id S
  refine⟨_,_,hp1,by kernel_rfl,p,a,ad,s,wv,rfl,S,fun e1 ts1 H2 s2 n2 h2 hW2=>?_⟩
  refine⟨_,_,s2 _ _ hp1,by kernel_rfl,p,a,ad,s,wv,rfl,S.same s2,fun e2 ts2 H3 s3 n3 h3 hE3=>?_⟩
  have s13:=s2.trans s3
  refine⟨_,_,s13 _ _ hp1,by kernel_rfl,p,a,ad,s,wv,rfl,S.same s13,fun e3 rs3 H4 s4 n4 h4 hT4=>⟨by lia,fun ph hph=>?_⟩⟩
  have s14:=s13.trans s4
  have a5:=Same.new hph (o:=.lst [V.ref e1,V.ref e2,V.ref e3])
  have s15:=s14.trans a5
  have hph5:upd H4 ph (.lst [V.ref e1,V.ref e2,V.ref e3]) ph=some (.lst [V.ref e1,V.ref e2,V.ref e3]):=Ab
  have h25:=(s3.trans (s4.trans a5)) _ _ h2
  have h35:=(s4.trans a5) _ _ h3
  have h45:=a5 _ _ h4
  have hW5:=hW2.mono (TK.of (s3.trans (s4.trans a5)))
  have hE5:=hE3.mono (TK.of (s4.trans a5))
  have hT5:=hT4.mono fun b xs hb=>a5 _ _ hb
  have o1:=S.out n2
  have o2:=S.out (s2.none n3)
  have o3:=S.out (s13.none n4)
  have oh:=S.out (s14.none hph)
  generalize upd H4 ph (.lst [V.ref e1,V.ref e2,V.ref e3])=H5 at a5 s15 hph5 h25 h35 h45 hW5 hE5 hT5 ⊢
  refine⟨⟨_,SqL.of hph5⟩,Dg_ (xs:=[V.ref e1,V.ref e2,V.ref e3]) (fun i us σ' H'=>Same H5 H'/\BH_ H5 H' us ([ts1,ts2,rs3].take i)/\∃o,σ'=[o]) ⟨Same.refl _,⟨rfl,fun j xs z=>by simp at z⟩,none,rfl⟩ (by show 3<sizeLine;lia) (fun i us σ' H' hi h'=>⟨h'.1.seq (SqL.of hph5),by rw[h'.2.1.1,List.length_take];lia⟩) (fun i x us σ' H' hx h'=>?_) (fun us σ' H6 h' D hD=>?_)⟩
  ·obtain⟨s6,hC,o,rfl⟩:=h'
   obtain⟨e,xs,he,hxs,hex⟩:∃e xs,x=.ref e/\[ts1,ts2,rs3][i]?=some xs/\H5 e=some (.lst xs):=by
    match i,hx with
    |0,hx=>cases hx;exact⟨_,_,rfl,rfl,h25⟩
    |1,hx=>cases hx;exact⟨_,_,rfl,rfl,h35⟩
    |2,hx=>cases hx;exact⟨_,_,rfl,rfl,h45⟩
    |i+3,hx=>simp at hx
   subst he
   nofun
   refine⟨_,.inl (SqL.of (s6 _ _ hex)),fun l hl=>⟨s6.newT hl,?_,_,rfl⟩⟩
   rw[List.take_add_one,hxs]
   exact hC.snoc (Same.new hl) (s6.none hl) Ab
  obtain⟨s6,hC,o,rfl⟩:=h'
  have hC:BH_ H5 H6 us [ts1,ts2,rs3]:=hC
  obtain⟨c1,u1,f1,g1⟩:=hC.2 0 ts1 rfl
  obtain⟨c2,u2,f2,g2⟩:=hC.2 1 ts2 rfl
  obtain⟨c3,u3,f3,g3⟩:=hC.2 2 rs3 rfl
  have hus:us=[V.ref c1,V.ref c2,V.ref c3]:=by
   have hl3:us.length=3:=hC.1
   match us,hl3,u1,u2,u3 with
   |[x1,x2,x3],_,u1,u2,u3=>simp at u1 u2 u3;subst u1 u2 u3;rfl
  subst hus
  have a7:=Same.new hD (o:=.lst [V.ref c1,V.ref c2,V.ref c3])
  have hD7:upd H6 D (.lst [V.ref c1,V.ref c2,V.ref c3]) D=some (.lst [V.ref c1,V.ref c2,V.ref c3]):=Ab
  have s57:=s6.trans a7
  have g17:=a7 _ _ g1
  have g27:=a7 _ _ g2
  have g37:=a7 _ _ g3
  have oD:=S.out (s15.none (s6.none hD))
  have oc1:=S.out (s15.none f1)
  have oc2:=S.out (s15.none f2)
  have oc3:=S.out (s15.none f3)
  generalize upd H6 D (.lst [V.ref c1,V.ref c2,V.ref c3])=H7 at a7 hD7 s57 g17 g27 g37 ⊢
  have s17:=s15.trans s57
  refine⟨by lia,fun p1 r1=>⟨by lia,fun p2 r2=>⟨by lia,fun p3 r3=>⟨by lia,fun p4 r4=>⟨by lia,fun st r5=>?_⟩⟩⟩⟩⟩
  have a8:=Same.new r1 (o:=.tup [])
  have b1:upd H7 p1 (.tup []) p1=some (.tup []):=Ab
  have n1:=S.out (s17.none r1)
  generalize upd H7 p1 (.tup [])=H8 at a8 b1 r2 r3 r4 r5 ⊢
  have s18:=s17.trans a8
  have a9:=Same.new r2 (o:=.lst [V.ref p1])
  have b2:upd H8 p2 (.lst [V.ref p1]) p2=some (.lst [V.ref p1]):=Ab
  have n2':=S.out (s18.none r2)
  generalize upd H8 p2 (.lst [V.ref p1])=H9 at a9 b2 r3 r4 r5 ⊢
  have s19:=s18.trans a9
  have a10:=Same.new r3 (o:=.lst [])
  have b3:upd H9 p3 (.lst []) p3=some (.lst []):=Ab
  have n3':=S.out (s19.none r3)
  generalize upd H9 p3 (.lst [])=H10 at a10 b3 r4 r5 ⊢
  have s110:=s19.trans a10
  have a11:=Same.new r4 (o:=.tup [V.ref p2,V.ref p3])
  have b4:upd H10 p4 (.tup [V.ref p2,V.ref p3]) p4=some (.tup [V.ref p2,V.ref p3]):=Ab
  have n4':=S.out (s110.none r4)
  generalize upd H10 p4 (.tup [V.ref p2,V.ref p3])=H11 at a11 b4 r5 ⊢
  have s111:=s110.trans a11
  have a12:=Same.new r5 (o:=.lst [V.ref p4,V.int 0,V.non])
  have b5:upd H11 st (.lst [V.ref p4,V.int 0,V.non]) st=some (.lst [V.ref p4,V.int 0,V.non]):=Ab
  have n5':=S.out (s111.none r5)
  have ne:∀x o,H11 x=some o->x≠st:=fun x o hx z=>by rw[z,r5]at hx;cases hx
  generalize upd H11 st (.lst [V.ref p4,V.int 0,V.non])=H12 at a12 b5 ⊢
  have s112:=s111.trans a12
  have t1:=(a9.trans (a10.trans a11)) _ _ b1
  have t2:=(a10.trans a11) _ _ b2
  have t3:=a11 _ _ b3
  have S12:=S.same s112
  refine⟨p,q,st,a,p4,ns,ad,s,wv,x,by rw[eL,em],S12,by rw[eL];exact hw.mono (TK.of s112),led,es0,hndn,fun d hd=>?_,hz,b5,n5',fun d hd H' f=>?_,fun H' f=>⟨_,rfl,?_⟩⟩
  ·refine NC_ hq0 (s1.trans s112) (fun o ho=>⟨?_,ne _ _ ((s1.trans s111) _ _ ho)⟩) hd
   rintro (z|z|z|z|z)
   ·rw[z,hfr'.1]at ho;cases ho
   ·rw[z,hfr'.2.1]at ho;cases ho
   ·rw[z,hfr'.2.2.1]at ho;cases ho
   ·rw[z,hfr'.2.2.2.1]at ho;cases ho
   ·rw[z,hfr'.2.2.2.2]at ho;cases ho
  ·have go:∀x o,H11 x=some o->¬ Fps a ad x->H' x=some o:=fun x o hx nx=>f.1 x o (a12 _ _ hx) nx (fun z=>by have:=a12 _ _ hx;rw[z,hd]at this;cases this) (ne _ _ hx)
   refine⟨p2,p3,[V.ref p1],[],go _ _ b4 n4',go _ _ t2 n2',⟨rfl,fun i w hi=>?_⟩,go _ _ t3 n3',Am.nil⟩
   match i,hi with
   |0,hi=>cases hi;exact⟨p1,rfl,go _ _ t1 n1⟩
  ·rw[if_neg (by decide)]
   have go:∀x o,H7 x=some o->¬ Fps a ad x->H' x=some o:=fun x o hx nx=>by
    have h11:=(a8.trans (a9.trans (a10.trans a11))) _ _ hx
    exact f x o (a12 _ _ h11) nx (ne _ _ h11)
   have tk:TK H7 H':=fun t ts ht=>go _ _ ht fun z=>by
    obtain⟨_,gv,rv,zs,ys,us,y⟩:=S.same s17
    rcases z with z|z|z|z|z
    ·rw[z,y.ob]at ht;cases ht
    ·rw[z,y.bk.dc]at ht;cases ht
    ·rw[z,y.w]at ht;cases ht
    ·rw[z,y.e]at ht;cases ht
    ·rw[z,y.g]at ht;cases ht
   have hW':=(hW5.mono (TK.of s57)).mono tk
   have hE':=(hE5.mono (TK.of s57)).mono tk
   have hT':=(hT5.mono fun b xs hb=>s57 _ _ hb).mono tk
   refine⟨D,rfl,true,EqD.all43 (.inl ⟨SqL.of (go _ _ (s57 _ _ hph5) oh),SqL.of (go _ _ hD7 oD)⟩) rfl (Ib_ (P:=fun _ x y=>EqD K H' 7 x y true) ?_ ?_ ?_),k _⟩
   ·exact Am.eqL59 (SqL.of (go _ _ (s57 _ _ h25) o1)) hW' (SqL.of (go _ _ g17 oc1)) hW' 5
   ·exact Am.eqL59 (SqL.of (go _ _ (s57 _ _ h35) o2)) hE' (SqL.of (go _ _ g27 oc2)) hE' 5
   ·exact Hr.eq43 (n:=4) hT' hT' (go _ _ (s57 _ _ h45) o3) (go _ _ g37 oc3)
end
def all_mk {l:PySem.W.OpenLaw}{w:World}{K:PySem.W.Frag}{h:Heap}{mg:Str->Option Value}{fa Fz Kt DD K9 B5 Oi CZ GU RC As BF XQ BL Bq DF IL Co Eb Br Cu E3 Bs Bt IP Bo Cd Bx Fq Gj Bu EB Cz DK Ao C1 Al Ey AH BX DJ AI Ku Gv Ct Ed Ap BR Ez Cy IV ES DU Ce Cp Dz BG By BV DS Ej EA Cg Ee Eh ER Dy De Bp C2 B3 E4 GL HJ LA_:Addr}(X:K.In h)(G:h.Ns mainGlobals mg)(hfa:mg "law"=some (.ref fa))
  {C_j8 C_j5 C_j6 C_j3 C_j2 C_j0 C_j7 C_j9 C_ji C_ja C_j1 C_j4:Addr}
  {BI_ BJ_:Option Addr} {BK_:Array (Option Value)} {BL_ BM_ BN_ BO_ Tr BP_:Value}
  {FL_ FM_:Option Addr} {FN_:Array (Option Value)} {FO_ FP_ FQ_ FR_ XY FS_:Value}
  {Y0 Y1:Option Addr} {Y2:Array (Option Value)} {Y3 Y4 Y5 Y6 Qk Y7:Value}
  {Jg_ Jh_:Option Addr} {Ji_:Array (Option Value)} {Jj_ Jk_ Jl_ Jm_ Fg_ Jn_:Value}
  {BQ_ BR_:Option Addr} {BS_:Array (Option Value)} {BT_ BU_ BV_ BW_ Ts BX_:Value}
  {Ig_ Ih_:Option Addr} {Ii_:Array (Option Value)} {Ij_ Ik_ Il_ Im_ BY_ In_:Value}
  {VN VO:Option Addr} {VP:Array (Option Value)} {VQ VR VS VT Nu VU:Value}
  {FT_ FU_:Option Addr} {FV_:Array (Option Value)} {FW_ FX_ FY_ FZ_ XZ Ga_:Value}
  {Jo_ Jp_:Option Addr} {Jq_:Array (Option Value)} {Jr_ Js_ Jt_ Ju_ Fh_ Jv_:Value}
  {LR LS:Option Addr} {LU:Array (Option Value)} {LV LW LX LY Hh LZ:Value}
  {Ql Qm:Option Addr} {Qn:Array (Option Value)} {Qo Qp Qq Qr JV Qs:Value}
  {LB_ LC_:Option Addr} {LD_:Array (Option Value)} {LE_ LF_ LG_ LH_ Io_ LI_:Value}
  {BZ_ Ca_:Option Addr} {Cb_:Array (Option Value)} {Cc_ Cd_ Ce_ Cf_ Tt Cg_:Value}
  {RU RW:Option Addr} {RX:Array (Option Value)} {RY RZ R0 R1 KL R3:Value}
  {W5 W6:Option Addr} {W7:Array (Option Value)} {W8 W9 Xa Xb OH Xc:Value}
  {DG_ DH_:Option Addr} {DI_:Array (Option Value)} {DJ_ DK_ DL_ DM_ VW DN_:Value}
  {VX VY:Option Addr} {VZ:Array (Option Value)} {V0 V1 V2 V3 Nv V4:Value}
  {TX TY:Option Addr} {TZ:Array (Option Value)} {T1 T2 T3 T4 LF T5:Value}
  {Nw Nx:Option Addr} {Ny:Array (Option Value)} {Nz NA NB NC Ik NF:Value}
  {Y8 Y9:Option Addr} {Za:Array (Option Value)} {Zb Zc Zd Ze Qt Zf:Value}
  {V5 V6:Option Addr} {V7:Array (Option Value)} {V8 V9 Wa Wb NG Wc:Value}
  {NH NJ:Option Addr} {NL:Array (Option Value)} {NM NN NO NQ Il NR:Value}
  {NS NT:Option Addr} {NU:Array (Option Value)} {NV NW NX NY Im NZ:Value}
  {DO_ DP_:Option Addr} {DQ_:Array (Option Value)} {DR_ DS_ DT_ DU_ We DV_:Value}
  {L4 L5:Option Addr} {L7:Array (Option Value)} {L8 L9 Ma Mb Hi Mc:Value}
  {R4 R5:Option Addr} {R6:Array (Option Value)} {R7 R8 R9 Sa KN Sb:Value}
  {Xd Xe:Option Addr} {Xf:Array (Option Value)} {Xg Xh Xi Xj OI Xk:Value}
  {Zg Zh:Option Addr} {Zi:Array (Option Value)} {Zj Zk Zl Zm Qu Zn:Value}
  {Ch_ Ci_:Option Addr} {Cj_:Array (Option Value)} {Ck_ Cl_ Cm_ Cn_ Tu Co_:Value}
  {N0 N1:Option Addr} {N2:Array (Option Value)} {N3 N4 N5 N6 Io N7:Value}
  {Zo Zp:Option Addr} {Zq:Array (Option Value)} {Zr Zs Zt Zu Qv Zv:Value}
  {T6 T7:Option Addr} {T8:Array (Option Value)} {T9 Ua Ub Uc LG Ud:Value}
  {Xl Xm:Option Addr} {Xn:Array (Option Value)} {Xo Xp Xq Xr OJ Xs:Value}
  {Qw Qx:Option Addr} {Qy:Array (Option Value)} {Qz QA QB QC JW QD:Value}
  {Wg Wi:Option Addr} {Wj:Array (Option Value)} {Wk Wl Wm Wn N8 Wo:Value}
  {Pb Pd:Option Addr} {Pe:Array (Option Value)} {Pf Pg Ph Pj Jz Pk:Value}
  {Zw Zx:Option Addr} {Zy:Array (Option Value)} {Zz ZA ZC ZD QE ZE:Value}
  {Sd Se:Option Addr} {Sf:Array (Option Value)} {Sg Sh Si Sj KO Sk:Value}
  {Cp_ Cq_:Option Addr} {Cr_:Array (Option Value)} {Cs_ Ct_ Cu_ Cv_ Tv Cw_:Value}
  {Xt Xu:Option Addr} {Xv:Array (Option Value)} {Xw Xx Xy Xz OK XA:Value}
  {Sl Sm:Option Addr} {Sn:Array (Option Value)} {So Sq Sr Ss KQ Su:Value}
  {Gb_ Gc_:Option Addr} {Gd_:Array (Option Value)} {Ge_ Gf_ Gg_ Gh_ X0 Gi_:Value}
  {ZF ZG:Option Addr} {ZH:Array (Option Value)} {ZI ZJ ZK ZL QF ZM:Value}
  {ZN ZO:Option Addr} {ZP:Array (Option Value)} {ZQ ZR ZS ZT QG ZU:Value}
  {DW_ DX_:Option Addr} {DY_:Array (Option Value)} {DZ_ Ea_ Eb_ Ec_ Wq Ed_:Value}
  {Ot Ou:Option Addr} {Ov:Array (Option Value)} {Ow Ox Oy Oz IG OA:Value}
  {Pl Pm:Option Addr} {Pn:Array (Option Value)} {Po Pp Pq Pt JA Pu:Value}
  {ZV ZW:Option Addr} {ZX:Array (Option Value)} {ZY ZZ Z0 Z5 QH Z6:Value}
  {Ue Ug:Option Addr} {Uh:Array (Option Value)} {Ui Uj Uk Ul LH Um:Value}
  {Ee_ Ef_:Option Addr} {Eg_:Array (Option Value)} {Eh_ Ei_ Ej_ Ek_ Wr El_:Value}
  {Cx_ Cy_:Option Addr} {Cz_:Array (Option Value)} {CA_ CB_ CC_ CD_ Tw CE_:Value}
  {Z7 Z8:Option Addr} {Z9:Array (Option Value)} {Aa_ Ab_ Ac_ Ad_ QI Ae_:Value}
  {Af_ Ag_:Option Addr} {Ah_:Array (Option Value)} {Ai_ Aj_ Ak_ Al_ QJ Am_:Value}
  {Ws Wt:Option Addr} {Wu:Array (Option Value)} {Wv Ww Wy Wz N9 WA:Value}
  {Sv Sw:Option Addr} {Sx:Array (Option Value)} {Sy SA SD SE KR SF:Value}
  {QK QL:Option Addr} {QM:Array (Option Value)} {QN QO QP QQ JX QR:Value}
  {Px Pz:Option Addr} {PD:Array (Option Value)} {PH PJ PL PM JC PN:Value}
  {SH SI:Option Addr} {SJ:Array (Option Value)} {SK SM SN SR KS SS:Value}
  {An_ Ao_:Option Addr} {Ap_:Array (Option Value)} {Aq_ Ar_ As_ At_ QS Au_:Value}
  {Uo Uq:Option Addr} {Ur:Array (Option Value)} {Us Ut Uu Uv LI Uw:Value}
  {Av_ Aw_:Option Addr} {Ax_:Array (Option Value)} {Ay_ Az_ AA_ AB_ QT AC_:Value}
  {SU SV:Option Addr} {SW:Array (Option Value)} {SX SY S0 S4 KU S5:Value}
  {Ux Uy:Option Addr} {Uz:Array (Option Value)} {UA UB UC UD LJ UE:Value}
  {UG UH:Option Addr} {UI:Array (Option Value)} {UJ UK UL UM LK UN:Value}
  {CF_ CG_:Option Addr} {CH_:Array (Option Value)} {CI_ CJ_ CK_ CL_ Tx CM_:Value}
  {S7 S8:Option Addr} {S9:Array (Option Value)} {Ta Tc Td Te KW Tf:Value}
  {QU QV:Option Addr} {QW:Array (Option Value)} {QX QY QZ Q0 JY Q1:Value}
  {Md Me:Option Addr} {Mf:Array (Option Value)} {Mg Mh Mi Mj Hj Ml:Value}
  {WB WD:Option Addr} {WE:Array (Option Value)} {WG WH WI WJ Oa WK:Value}
  {Q2 Q3:Option Addr} {Q4:Array (Option Value)} {Q5 Q6 Q7 Q8 JZ Q9:Value}
  {WL WM:Option Addr} {WN:Array (Option Value)} {WO WQ WR WT Ob WU:Value}
  {AD_ AE_:Option Addr} {AF_:Array (Option Value)} {AG_ AH_ AI_ AJ_ Ra AK_:Value}
  {CN_ CO_:Option Addr} {CP_:Array (Option Value)} {CQ_ CR_ CS_ CT_ Tz CU_:Value}
  {Nj_ KE_:Option Addr} {Nk_:Array (Option Value)} {Nl_ KF_ KG_ KH_ Ip_ KI_:Value}
  (aC_j7:PySem.W.nsIn K mainGlobals "Book"=some (some (.ref C_j7)))
  (pg_j7:PySem.W.plainGet K C_j7 Str.empty=true)
  (hd_j7:PySem.W.hasDictIn K C_j7=true)
  (po_j7:PySem.W.plainOver K C_j7=true)
  (sa_j7:PySem.W.findIn K (.ref C_j7) "__setattr__"=some (some (.builtin "object.__setattr__")))
  (mk_j7:PySem.W.makesIn K C_j7=true)
  (kc_j7:PySem.W.keepIn K (.ref C_j7)=true)
  (n_letters_Book:PySem.W.findIn K (.ref C_j7) "letters"=some none)
  (n_marks_Book:PySem.W.findIn K (.ref C_j7) "marks"=some none)
  (aC_j9:PySem.W.nsIn K mainGlobals "Turns"=some (some (.ref C_j9)))
  (aC_ji:PySem.W.nsIn K mainGlobals "Hunt"=some (some (.ref C_ji)))
  (aC_ja:PySem.W.nsIn K mainGlobals "Asker"=some (some (.ref C_ja)))
  (aC_j1:PySem.W.nsIn K mainGlobals "SayHunt"=some (some (.ref C_j1)))
  (pg_j1:PySem.W.plainGet K C_j1 Str.empty=true)
  (hd_j1:PySem.W.hasDictIn K C_j1=true)
  (po_j1:PySem.W.plainOver K C_j1=true)
  (sa_j1:PySem.W.findIn K (.ref C_j1) "__setattr__"=some (some (.builtin "object.__setattr__")))
  (mk_j1:PySem.W.makesIn K C_j1=true)
  (kc_j1:PySem.W.keepIn K (.ref C_j1)=true)
  (n_book_SayHunt:PySem.W.findIn K (.ref C_j1) "book"=some none)
  (n_ends_SayHunt:PySem.W.findIn K (.ref C_j1) "ends"=some none)
  (n_gaps_SayHunt:PySem.W.findIn K (.ref C_j1) "gaps"=some none)
  (n_guess_SayHunt:PySem.W.findIn K (.ref C_j1) "guess"=some none)
  (n_letters_SayHunt:PySem.W.findIn K (.ref C_j1) "letters"=some none)
  (n_most_SayHunt:PySem.W.findIn K (.ref C_j1) "most"=some none)
  (n_ways_SayHunt:PySem.W.findIn K (.ref C_j1) "ways"=some none)
  (n_wish_SayHunt:PySem.W.findIn K (.ref C_j1) "wish"=some none)
  (n_wrong_SayHunt:PySem.W.findIn K (.ref C_j1) "wrong"=some none)
  (aC_j4:PySem.W.nsIn K mainGlobals "SayAsker"=some (some (.ref C_j4)))
  (pg_j4:PySem.W.plainGet K C_j4 Str.empty=true)
  (hd_j4:PySem.W.hasDictIn K C_j4=true)
  (po_j4:PySem.W.plainOver K C_j4=true)
  (sa_j4:PySem.W.findIn K (.ref C_j4) "__setattr__"=some (some (.builtin "object.__setattr__")))
  (mk_j4:PySem.W.makesIn K C_j4=true)
  (kc_j4:PySem.W.keepIn K (.ref C_j4)=true)
  (n_hunt_SayAsker:PySem.W.findIn K (.ref C_j4) "hunt"=some none)
  (n_letters_SayAsker:PySem.W.findIn K (.ref C_j4) "letters"=some none)
  {tk_j2d:Tok} (q_j2d:PySem.W.nsIn K mainGlobals "MOST_MARK"=some (some (.int 1000000000 tk_j2d)))
  (a_j1q:PySem.W.findIn K (.ref C_j7) "__init__"=some (some (.ref Fz)))
  (i_j1q:PySem.W.isFn K (.ref Fz)=true)
  (l_j1q:K.lookup Fz=some ⟨BL_,BI_,.func (PySem.W.fnOf "__init__" "Book.__init__" (Ak Gg) (Ai Gg) (Ad Gg) .none BM_ BN_ BO_ BJ_ Tr BP_),BK_⟩)
  (c_j1q:PySem.W.codeIn K Tr "Book.__init__"=true)
  (k_j1q:PySem.W.keepIn K (.ref Fz)=true)
  (a_j26:PySem.W.nsIn K mainGlobals "is_word"=some (some (.ref Kt)))
  (l_j26:K.lookup Kt=some ⟨FO_,FL_,.func (PySem.W.fnOf "is_word" "is_word" (Ak I0) (Ai I0) (Ad I0) .none FP_ FQ_ FR_ FM_ XY FS_),FN_⟩)
  (c_j26:PySem.W.codeIn K XY "is_word"=true)
  (k_j26:PySem.W.keepIn K (.ref Kt)=true)
  (a_j1s:PySem.W.nsIn K mainGlobals "check_word"=some (some (.ref DD)))
  (l_j1s:K.lookup DD=some ⟨Y3,Y0,.func (PySem.W.fnOf "check_word" "check_word" (Ak Eo) (Ai Eo) (Ad Eo) .none Y4 Y5 Y6 Y1 Qk Y7),Y2⟩)
  (c_j1s:PySem.W.codeIn K Qk "check_word"=true)
  (k_j1s:PySem.W.keepIn K (.ref DD)=true)
  (a_j2a:PySem.W.nsIn K mainGlobals "trail"=some (some (.ref K9)))
  (l_j2a:K.lookup K9=some ⟨Jj_,Jg_,.func (PySem.W.fnOf "trail" "trail" (Ak Mv) (Ai Mv) (Ad Mv) .none Jk_ Jl_ Jm_ Jh_ Fg_ Jn_),Ji_⟩)
  (c_j2a:PySem.W.codeIn K Fg_ "trail"=true)
  (k_j2a:PySem.W.keepIn K (.ref K9)=true)
  (a_j1p:PySem.W.findIn K (.ref C_j7) "told"=some (some (.ref B5)))
  (i_j1p:PySem.W.isFn K (.ref B5)=true)
  (l_j1p:K.lookup B5=some ⟨BT_,BQ_,.func (PySem.W.fnOf "told" "Book.told" (Ak EF) (Ai EF) (Ad EF) .none BU_ BV_ BW_ BR_ Ts BX_),BS_⟩)
  (c_j1p:PySem.W.codeIn K Ts "Book.told"=true)
  (k_j1p:PySem.W.keepIn K (.ref B5)=true)
  (a_j29:PySem.W.nsIn K mainGlobals "halved"=some (some (.ref Oi)))
  (l_j29:K.lookup Oi=some ⟨Ij_,Ig_,.func (PySem.W.fnOf "halved" "halved" (Ak K5) (Ai K5) (Ad K5) .none Ik_ Il_ Im_ Ih_ BY_ In_),Ii_⟩)
  (c_j29:PySem.W.codeIn K BY_ "halved"=true)
  (k_j29:PySem.W.keepIn K (.ref Oi)=true)
  (a_jx:PySem.W.findIn K (.ref C_j1) "ask_for"=some (some (.ref CZ)))
  (i_jx:PySem.W.isFn K (.ref CZ)=true)
  (l_jx:K.lookup CZ=some ⟨VQ,VN,.func (PySem.W.fnOf "ask_for" "Hunt.ask_for" (Ak DW) (Ai DW) (Ad DW) .none VR VS VT VO Nu VU),VP⟩)
  (c_jx:PySem.W.codeIn K Nu "Hunt.ask_for"=true)
  (k_jx:PySem.W.keepIn K (.ref CZ)=true)
  (a_j28:PySem.W.nsIn K mainGlobals "rows_of"=some (some (.ref GU)))
  (l_j28:K.lookup GU=some ⟨FW_,FT_,.func (PySem.W.fnOf "rows_of" "rows_of" (Ak HX) (Ai HX) (Ad HX) .none FX_ FY_ FZ_ FU_ XZ Ga_),FV_⟩)
  (c_j28:PySem.W.codeIn K XZ "rows_of"=true)
  (k_j28:PySem.W.keepIn K (.ref GU)=true)
  (a_j2b:PySem.W.nsIn K mainGlobals "cells"=some (some (.ref RC)))
  (l_j2b:K.lookup RC=some ⟨Jr_,Jo_,.func (PySem.W.fnOf "cells" "cells" (Ak OM) (Ai OM) (Ad OM) .none Js_ Jt_ Ju_ Jp_ Fh_ Jv_),Jq_⟩)
  (c_j2b:PySem.W.codeIn K Fh_ "cells"=true)
  (k_j2b:PySem.W.keepIn K (.ref RC)=true)
  (a_jc:PySem.W.findIn K (.ref C_j1) "look_for_gaps"=some (some (.ref As)))
  (i_jc:PySem.W.isFn K (.ref As)=true)
  (l_jc:K.lookup As=some ⟨LV,LR,.func (PySem.W.fnOf "look_for_gaps" "Asker.look_for_gaps" (Ak A5) (Ai A5) (Ad A5) .none LW LX LY LS Hh LZ),LU⟩)
  (c_jc:PySem.W.codeIn K Hh "Asker.look_for_gaps"=true)
  (k_jc:PySem.W.keepIn K (.ref As)=true)
  (a_j10:PySem.W.nsIn K mainGlobals "check_not_empty"=some (some (.ref BF)))
  (l_j10:K.lookup BF=some ⟨Qo,Ql,.func (PySem.W.fnOf "check_not_empty" "check_not_empty" (Ak BY) (Ai BY) (Ad BY) .none Qp Qq Qr Qm JV Qs),Qn⟩)
  (c_j10:PySem.W.codeIn K JV "check_not_empty"=true)
  (k_j10:PySem.W.keepIn K (.ref BF)=true)
  (a_j2c:PySem.W.nsIn K mainGlobals "said"=some (some (.ref XQ)))
  (l_j2c:K.lookup XQ=some ⟨LE_,LB_,.func (PySem.W.fnOf "said" "said" (Ak Vd) (Ai Vd) (Ad Vd) .none LF_ LG_ LH_ LC_ Io_ LI_),LD_⟩)
  (c_j2c:PySem.W.codeIn K Io_ "said"=true)
  (k_j2c:PySem.W.keepIn K (.ref XQ)=true)
  (a_j1y:PySem.W.nsIn K mainGlobals "last_said"=some (some (.ref BL)))
  (l_j1y:K.lookup BL=some ⟨Cc_,BZ_,.func (PySem.W.fnOf "last_said" "last_said" (Ak EG) (Ai EG) (Ad EG) .none Cd_ Ce_ Cf_ Ca_ Tt Cg_),Cb_⟩)
  (c_j1y:PySem.W.codeIn K Tt "last_said"=true)
  (k_j1y:PySem.W.keepIn K (.ref BL)=true)
  (a_jp:PySem.W.findIn K (.ref C_j1) "answer"=some (some (.ref Bq)))
  (i_jp:PySem.W.isFn K (.ref Bq)=true)
  (l_jp:K.lookup Bq=some ⟨RY,RU,.func (PySem.W.fnOf "answer" "SayHunt.answer" (Ak B9) (Ai B9) (Ad B9) .none RZ R0 R1 RW KL R3),RX⟩)
  (c_jp:PySem.W.codeIn K KL "SayHunt.answer"=true)
  (k_jp:PySem.W.keepIn K (.ref Bq)=true)
  (a_j16:PySem.W.findIn K (.ref C_j1) "halve"=some (some (.ref DF)))
  (i_j16:PySem.W.isFn K (.ref DF)=true)
  (l_j16:K.lookup DF=some ⟨W8,W5,.func (PySem.W.fnOf "halve" "Asker.halve" (Ak EH) (Ai EH) (Ad EH) .none W9 Xa Xb W6 OH Xc),W7⟩)
  (c_j16:PySem.W.codeIn K OH "Asker.halve"=true)
  (k_j16:PySem.W.keepIn K (.ref DF)=true)
  (a_j23:PySem.W.nsIn K mainGlobals "marks_of"=some (some (.ref IL)))
  (l_j23:K.lookup IL=some ⟨DJ_,DG_,.func (PySem.W.fnOf "marks_of" "marks_of" (Ak Hn) (Ai Hn) (Ad Hn) .none DK_ DL_ DM_ DH_ VW DN_),DI_⟩)
  (c_j23:PySem.W.codeIn K VW "marks_of"=true)
  (k_j23:PySem.W.keepIn K (.ref IL)=true)
  (a_j1l:PySem.W.nsIn K mainGlobals "marks_by_row"=some (some (.ref Co)))
  (l_j1l:K.lookup Co=some ⟨V0,VX,.func (PySem.W.fnOf "marks_by_row" "marks_by_row" (Ak CV) (Ai CV) (Ad CV) .none V1 V2 V3 VY Nv V4),VZ⟩)
  (c_j1l:PySem.W.codeIn K Nv "marks_by_row"=true)
  (k_j1l:PySem.W.keepIn K (.ref Co)=true)
  (a_j1g:PySem.W.nsIn K mainGlobals "ways_by_marks"=some (some (.ref Eb)))
  (l_j1g:K.lookup Eb=some ⟨T1,TX,.func (PySem.W.fnOf "ways_by_marks" "ways_by_marks" (Ak Df) (Ai Df) (Ad Df) .none T2 T3 T4 TY LF T5),TZ⟩)
  (c_j1g:PySem.W.codeIn K LF "ways_by_marks"=true)
  (k_j1g:PySem.W.keepIn K (.ref Eb)=true)
  (a_jg:PySem.W.findIn K (.ref C_j1) "make_guess"=some (some (.ref Br)))
  (i_jg:PySem.W.isFn K (.ref Br)=true)
  (l_jg:K.lookup Br=some ⟨Nz,Nw,.func (PySem.W.fnOf "make_guess" "SayHunt.make_guess" (Ak BH) (Ai BH) (Ad BH) .none NA NB NC Nx Ik NF),Ny⟩)
  (c_jg:PySem.W.codeIn K Ik "SayHunt.make_guess"=true)
  (k_jg:PySem.W.keepIn K (.ref Br)=true)
  (a_j1c:PySem.W.findIn K (.ref C_j7) "heard"=some (some (.ref Cu)))
  (i_j1c:PySem.W.isFn K (.ref Cu)=true)
  (l_j1c:K.lookup Cu=some ⟨Zb,Y8,.func (PySem.W.fnOf "heard" "Book.heard" (Ak Ep) (Ai Ep) (Ad Ep) .none Zc Zd Ze Y9 Qt Zf),Za⟩)
  (c_j1c:PySem.W.codeIn K Qt "Book.heard"=true)
  (k_j1c:PySem.W.keepIn K (.ref Cu)=true)
  (a_j1m:PySem.W.nsIn K mainGlobals "first_unlike"=some (some (.ref E3)))
  (l_j1m:K.lookup E3=some ⟨V8,V5,.func (PySem.W.fnOf "first_unlike" "first_unlike" (Ak DX) (Ai DX) (Ad DX) .none V9 Wa Wb V6 NG Wc),V7⟩)
  (c_j1m:PySem.W.codeIn K NG "first_unlike"=true)
  (k_j1m:PySem.W.keepIn K (.ref E3)=true)
  (a_jh:PySem.W.findIn K (.ref C_j1) "wrong_word"=some (some (.ref Bs)))
  (i_jh:PySem.W.isFn K (.ref Bs)=true)
  (l_jh:K.lookup Bs=some ⟨NM,NH,.func (PySem.W.fnOf "wrong_word" "SayHunt.wrong_word" (Ak BI) (Ai BI) (Ad BI) .none NN NO NQ NJ Il NR),NL⟩)
  (c_jh:PySem.W.codeIn K Il "SayHunt.wrong_word"=true)
  (k_jh:PySem.W.keepIn K (.ref Bs)=true)
  (a_je:PySem.W.findIn K (.ref C_j1) "look_at_guess"=some (some (.ref Bt)))
  (i_je:PySem.W.isFn K (.ref Bt)=true)
  (l_je:K.lookup Bt=some ⟨NV,NS,.func (PySem.W.fnOf "look_at_guess" "Hunt.look_at_guess" (Ak BJ) (Ai BJ) (Ad BJ) .none NW NX NY NT Im NZ),NU⟩)
  (c_je:PySem.W.codeIn K Im "Hunt.look_at_guess"=true)
  (k_je:PySem.W.keepIn K (.ref Bt)=true)
  (a_j24:PySem.W.nsIn K mainGlobals "stranger"=some (some (.ref IP)))
  (l_j24:K.lookup IP=some ⟨DR_,DO_,.func (PySem.W.fnOf "stranger" "stranger" (Ak Ho) (Ai Ho) (Ad Ho) .none DS_ DT_ DU_ DP_ We DV_),DQ_⟩)
  (c_j24:PySem.W.codeIn K We "stranger"=true)
  (k_j24:PySem.W.keepIn K (.ref IP)=true)
  (a_jd:PySem.W.findIn K (.ref C_j1) "look_at_words"=some (some (.ref Bo)))
  (i_jd:PySem.W.isFn K (.ref Bo)=true)
  (l_jd:K.lookup Bo=some ⟨L8,L4,.func (PySem.W.fnOf "look_at_words" "Asker.look_at_words" (Ak Bz) (Ai Bz) (Ad Bz) .none L9 Ma Mb L5 Hi Mc),L7⟩)
  (c_jd:PySem.W.codeIn K Hi "Asker.look_at_words"=true)
  (k_jd:PySem.W.keepIn K (.ref Bo)=true)
  (a_jo:PySem.W.findIn K (.ref C_j1) "next_wish"=some (some (.ref Cd)))
  (i_jo:PySem.W.isFn K (.ref Cd)=true)
  (l_jo:K.lookup Cd=some ⟨R7,R4,.func (PySem.W.fnOf "next_wish" "Hunt.next_wish" (Ak CI) (Ai CI) (Ad CI) .none R8 R9 Sa R5 KN Sb),R6⟩)
  (c_jo:PySem.W.codeIn K KN "Hunt.next_wish"=true)
  (k_jo:PySem.W.keepIn K (.ref Cd)=true)
  (a_j14:PySem.W.findIn K (.ref C_j1) "go_on"=some (some (.ref Bx)))
  (i_j14:PySem.W.isFn K (.ref Bx)=true)
  (l_j14:K.lookup Bx=some ⟨Xg,Xd,.func (PySem.W.fnOf "go_on" "Turns.go_on" (Ak CN) (Ai CN) (Ad CN) .none Xh Xi Xj Xe OI Xk),Xf⟩)
  (c_j14:PySem.W.codeIn K OI "Turns.go_on"=true)
  (k_j14:PySem.W.keepIn K (.ref Bx)=true)
  (sg_jz:PySem.W.specialIn K (.ref C_j9) "__getattribute__"=some (some (.builtin "type.__getattribute__")))
  (rd_jz:PySem.W.readsIn K C_j9 (.type "type")=true)
  (a_jz:PySem.W.findCls K (.ref C_j9) (.type "type") "__init__"=some (.val (.ref Fq)))
  (l_jz:K.lookup Fq=some ⟨Zj,Zg,.func (PySem.W.fnOf "__init__" "Turns.__init__" (Ak E9) (Ai E9) (Ad E9) .none Zk Zl Zm Zh Qu Zn),Zi⟩)
  (c_jz:PySem.W.codeIn K Qu "Turns.__init__"=true)
  (k_jz:PySem.W.keepIn K (.ref Fq)=true)
  (sg_j17:PySem.W.specialIn K (.ref C_ji) "__getattribute__"=some (some (.builtin "type.__getattribute__")))
  (rd_j17:PySem.W.readsIn K C_ji (.type "type")=true)
  (a_j17:PySem.W.findCls K (.ref C_ji) (.type "type") "__init__"=some (.val (.ref Gj)))
  (l_j17:K.lookup Gj=some ⟨Ck_,Ch_,.func (PySem.W.fnOf "__init__" "Hunt.__init__" (Ak Gh) (Ai Gh) (Ad Gh) .none Cl_ Cm_ Cn_ Ci_ Tu Co_),Cj_⟩)
  (c_j17:PySem.W.codeIn K Tu "Hunt.__init__"=true)
  (k_j17:PySem.W.keepIn K (.ref Gj)=true)
  (a_jf:PySem.W.findIn K (.ref C_j1) "first_ends"=some (some (.ref Bu)))
  (i_jf:PySem.W.isFn K (.ref Bu)=true)
  (l_jf:K.lookup Bu=some ⟨N3,N0,.func (PySem.W.fnOf "first_ends" "SayHunt.first_ends" (Ak BK) (Ai BK) (Ad BK) .none N4 N5 N6 N1 Io N7),N2⟩)
  (c_jf:PySem.W.codeIn K Io "SayHunt.first_ends"=true)
  (k_jf:PySem.W.keepIn K (.ref Bu)=true)
  (a_j1k:PySem.W.findIn K (.ref C_j1) "__init__"=some (some (.ref EB)))
  (i_j1k:PySem.W.isFn K (.ref EB)=true)
  (l_j1k:K.lookup EB=some ⟨Zr,Zo,.func (PySem.W.fnOf "__init__" "Asker.__init__" (Ak Fb) (Ai Fb) (Ad Fb) .none Zs Zt Zu Zp Qv Zv),Zq⟩)
  (c_j1k:PySem.W.codeIn K Qv "Asker.__init__"=true)
  (k_j1k:PySem.W.keepIn K (.ref EB)=true)
  (a_ju:PySem.W.findIn K (.ref C_j4) "__init__"=some (some (.ref Cz)))
  (i_ju:PySem.W.isFn K (.ref Cz)=true)
  (l_ju:K.lookup Cz=some ⟨T9,T6,.func (PySem.W.fnOf "__init__" "SayAsker.__init__" (Ak Dh) (Ai Dh) (Ad Dh) .none Ua Ub Uc T7 LG Ud),T8⟩)
  (c_ju:PySem.W.codeIn K LG "SayAsker.__init__"=true)
  (k_ju:PySem.W.keepIn K (.ref Cz)=true)
  (a_j15:PySem.W.findIn K (.ref C_j1) "access"=some (some (.ref DK)))
  (i_j15:PySem.W.isFn K (.ref DK)=true)
  (l_j15:K.lookup DK=some ⟨Xo,Xl,.func (PySem.W.fnOf "access" "Hunt.access" (Ak EI) (Ai EI) (Ad EI) .none Xp Xq Xr Xm OJ Xs),Xn⟩)
  (c_j15:PySem.W.codeIn K OJ "Hunt.access"=true)
  (k_j15:PySem.W.keepIn K (.ref DK)=true)
  (a_jn:PySem.W.findIn K (.ref C_j4) "access"=some (some (.ref Ao)))
  (i_jn:PySem.W.isFn K (.ref Ao)=true)
  (l_jn:K.lookup Ao=some ⟨Qz,Qw,.func (PySem.W.fnOf "access" "SayAsker.access" (Ak Bi) (Ai Bi) (Ad Bi) .none QA QB QC Qx JW QD),Qy⟩)
  (c_jn:PySem.W.codeIn K JW "SayAsker.access"=true)
  (k_jn:PySem.W.keepIn K (.ref Ao)=true)
  (a_jw:PySem.W.findIn K (.ref C_j1) "tellers"=some (some (.ref C1)))
  (i_jw:PySem.W.isFn K (.ref C1)=true)
  (l_jw:K.lookup C1=some ⟨Wk,Wg,.func (PySem.W.fnOf "tellers" "Hunt.tellers" (Ak DY) (Ai DY) (Ad DY) .none Wl Wm Wn Wi N8 Wo),Wj⟩)
  (c_jw:PySem.W.codeIn K N8 "Hunt.tellers"=true)
  (k_jw:PySem.W.keepIn K (.ref C1)=true)
  (a_jl:PySem.W.findIn K (.ref C_j4) "tellers"=some (some (.ref Al)))
  (i_jl:PySem.W.isFn K (.ref Al)=true)
  (l_jl:K.lookup Al=some ⟨Pf,Pb,.func (PySem.W.fnOf "tellers" "SayAsker.tellers" (Ak A6) (Ai A6) (Ad A6) .none Pg Ph Pj Pd Jz Pk),Pe⟩)
  (c_jl:PySem.W.codeIn K Jz "SayAsker.tellers"=true)
  (k_jl:PySem.W.keepIn K (.ref Al)=true)
  (a_j1e:PySem.W.findIn K (.ref C_j1) "heard"=some (some (.ref Ey)))
  (i_j1e:PySem.W.isFn K (.ref Ey)=true)
  (l_j1e:K.lookup Ey=some ⟨Zz,Zw,.func (PySem.W.fnOf "heard" "Hunt.heard" (Ak Fc) (Ai Fc) (Ad Fc) .none ZA ZC ZD Zx QE ZE),Zy⟩)
  (c_j1e:PySem.W.codeIn K QE "Hunt.heard"=true)
  (k_j1e:PySem.W.keepIn K (.ref Ey)=true)
  (a_js:PySem.W.findIn K (.ref C_j4) "heard"=some (some (.ref AH)))
  (i_js:PySem.W.isFn K (.ref AH)=true)
  (l_js:K.lookup AH=some ⟨Sg,Sd,.func (PySem.W.fnOf "heard" "SayAsker.heard" (Ak BB) (Ai BB) (Ad BB) .none Sh Si Sj Se KO Sk),Sf⟩)
  (c_js:PySem.W.codeIn K KO "SayAsker.heard"=true)
  (k_js:PySem.W.keepIn K (.ref AH)=true)
  (a_j1z:PySem.W.nsIn K mainGlobals "_law_cell"=some (some (.ref BX)))
  (l_j1z:K.lookup BX=some ⟨Cs_,Cp_,.func (PySem.W.fnOf "_law_cell" "_law_cell" (Ak DZ) (Ai DZ) (Ad DZ) .none Ct_ Cu_ Cv_ Cq_ Tv Cw_),Cr_⟩)
  (c_j1z:PySem.W.codeIn K Tv "_law_cell"=true)
  (k_j1z:PySem.W.keepIn K (.ref BX)=true)
  (a_j13:PySem.W.findIn K (.ref C_j1) "wants"=some (some (.ref DJ)))
  (i_j13:PySem.W.isFn K (.ref DJ)=true)
  (l_j13:K.lookup DJ=some ⟨Xw,Xt,.func (PySem.W.fnOf "wants" "Turns.wants" (Ak EJ) (Ai EJ) (Ad EJ) .none Xx Xy Xz Xu OK XA),Xv⟩)
  (c_j13:PySem.W.codeIn K OK "Turns.wants"=true)
  (k_j13:PySem.W.keepIn K (.ref DJ)=true)
  (a_jq:PySem.W.findIn K (.ref C_j4) "wants"=some (some (.ref AI)))
  (i_jq:PySem.W.isFn K (.ref AI)=true)
  (l_jq:K.lookup AI=some ⟨So,Sl,.func (PySem.W.fnOf "wants" "SayAsker.wants" (Ak BC) (Ai BC) (Ad BC) .none Sq Sr Ss Sm KQ Su),Sn⟩)
  (c_jq:PySem.W.codeIn K KQ "SayAsker.wants"=true)
  (k_jq:PySem.W.keepIn K (.ref AI)=true)
  (a_j27:PySem.W.nsIn K mainGlobals "is_mark"=some (some (.ref Ku)))
  (l_j27:K.lookup Ku=some ⟨Ge_,Gb_,.func (PySem.W.fnOf "is_mark" "is_mark" (Ak Jd) (Ai Jd) (Ad Jd) .none Gf_ Gg_ Gh_ Gc_ X0 Gi_),Gd_⟩)
  (c_j27:PySem.W.codeIn K X0 "is_mark"=true)
  (k_j27:PySem.W.keepIn K (.ref Ku)=true)
  (a_j1t:PySem.W.nsIn K mainGlobals "check_mark"=some (some (.ref Gv)))
  (l_j1t:K.lookup Gv=some ⟨ZI,ZF,.func (PySem.W.fnOf "check_mark" "check_mark" (Ak Fd) (Ai Fd) (Ad Fd) .none ZJ ZK ZL ZG QF ZM),ZH⟩)
  (c_j1t:PySem.W.codeIn K QF "check_mark"=true)
  (k_j1t:PySem.W.keepIn K (.ref Gv)=true)
  (a_j1b:PySem.W.findIn K (.ref C_j7) "check"=some (some (.ref Ct)))
  (i_j1b:PySem.W.isFn K (.ref Ct)=true)
  (l_j1b:K.lookup Ct=some ⟨ZQ,ZN,.func (PySem.W.fnOf "check" "Book.check" (Ak Er) (Ai Er) (Ad Er) .none ZR ZS ZT ZO QG ZU),ZP⟩)
  (c_j1b:PySem.W.codeIn K QG "Book.check"=true)
  (k_j1b:PySem.W.keepIn K (.ref Ct)=true)
  (a_j1r:PySem.W.findIn K (.ref C_j7) "put"=some (some (.ref Ed)))
  (i_j1r:PySem.W.isFn K (.ref Ed)=true)
  (l_j1r:K.lookup Ed=some ⟨DZ_,DW_,.func (PySem.W.fnOf "put" "Book.put" (Ak Gp) (Ai Gp) (Ad Gp) .none Ea_ Eb_ Ec_ DX_ Wq Ed_),DY_⟩)
  (c_j1r:PySem.W.codeIn K Wq "Book.put"=true)
  (k_j1r:PySem.W.keepIn K (.ref Ed)=true)
  (a_jj:PySem.W.findIn K (.ref C_j1) "check_wants"=some (some (.ref Ap)))
  (i_jj:PySem.W.isFn K (.ref Ap)=true)
  (l_jj:K.lookup Ap=some ⟨Ow,Ot,.func (PySem.W.fnOf "check_wants" "Turns.check_wants" (Ak Ba) (Ai Ba) (Ad Ba) .none Ox Oy Oz Ou IG OA),Ov⟩)
  (c_jj:PySem.W.codeIn K IG "Turns.check_wants"=true)
  (k_jj:PySem.W.keepIn K (.ref Ap)=true)
  (a_jk:PySem.W.findIn K (.ref C_j1) "keep_answer"=some (some (.ref BR)))
  (i_jk:PySem.W.isFn K (.ref BR)=true)
  (l_jk:K.lookup BR=some ⟨Po,Pl,.func (PySem.W.fnOf "keep_answer" "Hunt.keep_answer" (Ak B4) (Ai B4) (Ad B4) .none Pp Pq Pt Pm JA Pu),Pn⟩)
  (c_jk:PySem.W.codeIn K JA "Hunt.keep_answer"=true)
  (k_jk:PySem.W.keepIn K (.ref BR)=true)
  (a_j1f:PySem.W.findIn K (.ref C_j1) "hear"=some (some (.ref Ez)))
  (i_j1f:PySem.W.isFn K (.ref Ez)=true)
  (l_j1f:K.lookup Ez=some ⟨ZY,ZV,.func (PySem.W.fnOf "hear" "Asker.hear" (Ak Fe) (Ai Fe) (Ad Fe) .none ZZ Z0 Z5 ZW QH Z6),ZX⟩)
  (c_j1f:PySem.W.codeIn K QH "Asker.hear"=true)
  (k_j1f:PySem.W.keepIn K (.ref Ez)=true)
  (a_jt:PySem.W.findIn K (.ref C_j4) "hear"=some (some (.ref Cy)))
  (i_jt:PySem.W.isFn K (.ref Cy)=true)
  (l_jt:K.lookup Cy=some ⟨Ui,Ue,.func (PySem.W.fnOf "hear" "SayAsker.hear" (Ak Di) (Ai Di) (Ad Di) .none Uj Uk Ul Ug LH Um),Uh⟩)
  (c_jt:PySem.W.codeIn K LH "SayAsker.hear"=true)
  (k_jt:PySem.W.keepIn K (.ref Cy)=true)
  (a_j25:PySem.W.nsIn K mainGlobals "_law_big"=some (some (.ref IV)))
  (l_j25:K.lookup IV=some ⟨Eh_,Ee_,.func (PySem.W.fnOf "_law_big" "_law_big" (Ak Hq) (Ai Hq) (Ad Hq) .none Ei_ Ej_ Ek_ Ef_ Wr El_),Eg_⟩)
  (c_j25:PySem.W.codeIn K Wr "_law_big"=true)
  (k_j25:PySem.W.keepIn K (.ref IV)=true)
  (a_j20:PySem.W.nsIn K mainGlobals "_law_mark"=some (some (.ref ES)))
  (l_j20:K.lookup ES=some ⟨CA_,Cx_,.func (PySem.W.fnOf "_law_mark" "_law_mark" (Ak Ff) (Ai Ff) (Ad Ff) .none CB_ CC_ CD_ Cy_ Tw CE_),Cz_⟩)
  (c_j20:PySem.W.codeIn K Tw "_law_mark"=true)
  (k_j20:PySem.W.keepIn K (.ref ES)=true)
  (a_j1w:PySem.W.nsIn K mainGlobals "_law_grows"=some (some (.ref DU)))
  (l_j1w:K.lookup DU=some ⟨Aa_,Z7,.func (PySem.W.fnOf "_law_grows" "_law_grows" (Ak Es) (Ai Es) (Ad Es) .none Ab_ Ac_ Ad_ Z8 QI Ae_),Z9⟩)
  (c_j1w:PySem.W.codeIn K QI "_law_grows"=true)
  (k_j1w:PySem.W.keepIn K (.ref DU)=true)
  (a_j1u:PySem.W.nsIn K mainGlobals "_law_whole"=some (some (.ref Ce)))
  (l_j1u:K.lookup Ce=some ⟨Ai_,Af_,.func (PySem.W.fnOf "_law_whole" "_law_whole" (Ak DC) (Ai DC) (Ad DC) .none Aj_ Ak_ Al_ Ag_ QJ Am_),Ah_⟩)
  (c_j1u:PySem.W.codeIn K QJ "_law_whole"=true)
  (k_j1u:PySem.W.keepIn K (.ref Ce)=true)
  (a_j1n:PySem.W.nsIn K mainGlobals "_law_is_word"=some (some (.ref Cp)))
  (l_j1n:K.lookup Cp=some ⟨Wv,Ws,.func (PySem.W.fnOf "_law_is_word" "_law_is_word" (Ak CW) (Ai CW) (Ad CW) .none Ww Wy Wz Wt N9 WA),Wu⟩)
  (c_j1n:PySem.W.codeIn K N9 "_law_is_word"=true)
  (k_j1n:PySem.W.keepIn K (.ref Cp)=true)
  (a_j1a:PySem.W.nsIn K mainGlobals "_law_wish_good"=some (some (.ref Dz)))
  (l_j1a:K.lookup Dz=some ⟨Sy,Sv,.func (PySem.W.fnOf "_law_wish_good" "_law_wish_good" (Ak CJ) (Ai CJ) (Ad CJ) .none SA SD SE Sw KR SF),Sx⟩)
  (c_j1a:PySem.W.codeIn K KR "_law_wish_good"=true)
  (k_j1a:PySem.W.keepIn K (.ref Dz)=true)
  (a_j11:PySem.W.nsIn K mainGlobals "_law_words_good"=some (some (.ref BG)))
  (l_j11:K.lookup BG=some ⟨QN,QK,.func (PySem.W.fnOf "_law_words_good" "_law_words_good" (Ak BZ) (Ai BZ) (Ad BZ) .none QO QP QQ QL JX QR),QM⟩)
  (c_j11:PySem.W.codeIn K JX "_law_words_good"=true)
  (k_j11:PySem.W.keepIn K (.ref BG)=true)
  (a_jv:PySem.W.nsIn K mainGlobals "_law_access_good"=some (some (.ref By)))
  (l_jv:K.lookup By=some ⟨PH,Px,.func (PySem.W.fnOf "_law_access_good" "_law_access_good" (Ak BQ) (Ai BQ) (Ad BQ) .none PJ PL PM Pz JC PN),PD⟩)
  (c_jv:PySem.W.codeIn K JC "_law_access_good"=true)
  (k_jv:PySem.W.keepIn K (.ref By)=true)
  (a_j18:PySem.W.nsIn K mainGlobals "_law_ends_good"=some (some (.ref BV)))
  (l_j18:K.lookup BV=some ⟨SK,SH,.func (PySem.W.fnOf "_law_ends_good" "_law_ends_good" (Ak Ca) (Ai Ca) (Ad Ca) .none SM SN SR SI KS SS),SJ⟩)
  (c_j18:PySem.W.codeIn K KS "_law_ends_good"=true)
  (k_j18:PySem.W.keepIn K (.ref BV)=true)
  (a_j1v:PySem.W.nsIn K mainGlobals "_law_marks"=some (some (.ref DS)))
  (l_j1v:K.lookup DS=some ⟨Aq_,An_,.func (PySem.W.fnOf "_law_marks" "_law_marks" (Ak Et) (Ai Et) (Ad Et) .none Ar_ As_ At_ Ao_ QS Au_),Ap_⟩)
  (c_j1v:PySem.W.codeIn K QS "_law_marks"=true)
  (k_j1v:PySem.W.keepIn K (.ref DS)=true)
  (a_j1j:PySem.W.nsIn K mainGlobals "_law_end_good"=some (some (.ref Ej)))
  (l_j1j:K.lookup Ej=some ⟨Us,Uo,.func (PySem.W.fnOf "_law_end_good" "_law_end_good" (Ak Dj) (Ai Dj) (Ad Dj) .none Ut Uu Uv Uq LI Uw),Ur⟩)
  (c_j1j:PySem.W.codeIn K LI "_law_end_good"=true)
  (k_j1j:PySem.W.keepIn K (.ref Ej)=true)
  (a_j1d:PySem.W.findIn K (.ref C_j1) "agree"=some (some (.ref EA)))
  (i_j1d:PySem.W.isFn K (.ref EA)=true)
  (l_j1d:K.lookup EA=some ⟨Ay_,Av_,.func (PySem.W.fnOf "agree" "Hunt.agree" (Ak Fg) (Ai Fg) (Ad Fg) .none Az_ AA_ AB_ Aw_ QT AC_),Ax_⟩)
  (c_j1d:PySem.W.codeIn K QT "Hunt.agree"=true)
  (k_j1d:PySem.W.keepIn K (.ref EA)=true)
  (a_jr:PySem.W.findIn K (.ref C_j4) "agree"=some (some (.ref Cg)))
  (i_jr:PySem.W.isFn K (.ref Cg)=true)
  (l_jr:K.lookup Cg=some ⟨SX,SU,.func (PySem.W.fnOf "agree" "SayAsker.agree" (Ak CK) (Ai CK) (Ad CK) .none SY S0 S4 SV KU S5),SW⟩)
  (c_jr:PySem.W.codeIn K KU "SayAsker.agree"=true)
  (k_jr:PySem.W.keepIn K (.ref Cg)=true)
  (a_j1h:PySem.W.nsIn K mainGlobals "_law_rows_are"=some (some (.ref Ee)))
  (l_j1h:K.lookup Ee=some ⟨UA,Ux,.func (PySem.W.fnOf "_law_rows_are" "_law_rows_are" (Ak Dk) (Ai Dk) (Ad Dk) .none UB UC UD Uy LJ UE),Uz⟩)
  (c_j1h:PySem.W.codeIn K LJ "_law_rows_are"=true)
  (k_j1h:PySem.W.keepIn K (.ref Ee)=true)
  (a_j1i:PySem.W.nsIn K mainGlobals "_law_house_is"=some (some (.ref Eh)))
  (l_j1i:K.lookup Eh=some ⟨UJ,UG,.func (PySem.W.fnOf "_law_house_is" "_law_house_is" (Ak Dm) (Ai Dm) (Ad Dm) .none UK UL UM UH LK UN),UI⟩)
  (c_j1i:PySem.W.codeIn K LK "_law_house_is"=true)
  (k_j1i:PySem.W.keepIn K (.ref Eh)=true)
  (a_j21:PySem.W.nsIn K mainGlobals "_law_talk"=some (some (.ref ER)))
  (l_j21:K.lookup ER=some ⟨CI_,CF_,.func (PySem.W.fnOf "_law_talk" "_law_talk" (Ak Fh) (Ai Fh) (Ad Fh) .none CJ_ CK_ CL_ CG_ Tx CM_),CH_⟩)
  (c_j21:PySem.W.codeIn K Tx "_law_talk"=true)
  (k_j21:PySem.W.keepIn K (.ref ER)=true)
  (a_j19:PySem.W.nsIn K mainGlobals "_law_due_guess"=some (some (.ref Dy)))
  (l_j19:K.lookup Dy=some ⟨Ta,S7,.func (PySem.W.fnOf "_law_due_guess" "_law_due_guess" (Ak CL) (Ai CL) (Ad CL) .none Tc Td Te S8 KW Tf),S9⟩)
  (c_j19:PySem.W.codeIn K KW "_law_due_guess"=true)
  (k_j19:PySem.W.keepIn K (.ref Dy)=true)
  (a_j12:PySem.W.nsIn K mainGlobals "_law_guess_good"=some (some (.ref De)))
  (l_j12:K.lookup De=some ⟨QX,QU,.func (PySem.W.fnOf "_law_guess_good" "_law_guess_good" (Ak Cm) (Ai Cm) (Ad Cm) .none QY QZ Q0 QV JY Q1),QW⟩)
  (c_j12:PySem.W.codeIn K JY "_law_guess_good"=true)
  (k_j12:PySem.W.keepIn K (.ref De)=true)
  (a_jb:PySem.W.findIn K (.ref C_j1) "keep_objection"=some (some (.ref Bp)))
  (i_jb:PySem.W.isFn K (.ref Bp)=true)
  (l_jb:K.lookup Bp=some ⟨Mg,Md,.func (PySem.W.fnOf "keep_objection" "Hunt.keep_objection" (Ak BA) (Ai BA) (Ad BA) .none Mh Mi Mj Me Hj Ml),Mf⟩)
  (c_jb:PySem.W.codeIn K Hj "Hunt.keep_objection"=true)
  (k_jb:PySem.W.keepIn K (.ref Bp)=true)
  (a_jy:PySem.W.findIn K (.ref C_j1) "differ"=some (some (.ref C2)))
  (i_jy:PySem.W.isFn K (.ref C2)=true)
  (l_jy:K.lookup C2=some ⟨WG,WB,.func (PySem.W.fnOf "differ" "Asker.differ" (Ak D0) (Ai D0) (Ad D0) .none WH WI WJ WD Oa WK),WE⟩)
  (c_jy:PySem.W.codeIn K Oa "Asker.differ"=true)
  (k_jy:PySem.W.keepIn K (.ref C2)=true)
  (a_jm:PySem.W.findIn K (.ref C_j4) "differ"=some (some (.ref B3)))
  (i_jm:PySem.W.isFn K (.ref B3)=true)
  (l_jm:K.lookup B3=some ⟨Q5,Q2,.func (PySem.W.fnOf "differ" "SayAsker.differ" (Ak Cn) (Ai Cn) (Ad Cn) .none Q6 Q7 Q8 Q3 JZ Q9),Q4⟩)
  (c_jm:PySem.W.codeIn K JZ "SayAsker.differ"=true)
  (k_jm:PySem.W.keepIn K (.ref B3)=true)
  (a_j1o:PySem.W.nsIn K mainGlobals "_law_objects"=some (some (.ref E4)))
  (l_j1o:K.lookup E4=some ⟨WO,WL,.func (PySem.W.fnOf "_law_objects" "_law_objects" (Ak D1) (Ai D1) (Ad D1) .none WQ WR WT WM Ob WU),WN⟩)
  (c_j1o:PySem.W.codeIn K Ob "_law_objects"=true)
  (k_j1o:PySem.W.keepIn K (.ref E4)=true)
  (a_j1x:PySem.W.nsIn K mainGlobals "_law_shown"=some (some (.ref GL)))
  (l_j1x:K.lookup GL=some ⟨AG_,AD_,.func (PySem.W.fnOf "_law_shown" "_law_shown" (Ak Fi) (Ai Fi) (Ad Fi) .none AH_ AI_ AJ_ AE_ Ra AK_),AF_⟩)
  (c_j1x:PySem.W.codeIn K Ra "_law_shown"=true)
  (k_j1x:PySem.W.keepIn K (.ref GL)=true)
  (a_j22:PySem.W.nsIn K mainGlobals "_law_hunt"=some (some (.ref HJ)))
  (l_j22:K.lookup HJ=some ⟨CQ_,CN_,.func (PySem.W.fnOf "_law_hunt" "_law_hunt" (Ak Gi) (Ai Gi) (Ad Gi) .none CR_ CS_ CT_ CO_ Tz CU_),CP_⟩)
  (c_j22:PySem.W.codeIn K Tz "_law_hunt"=true)
  (k_j22:PySem.W.keepIn K (.ref HJ)=true)
  (a_j2e:PySem.W.nsIn K mainGlobals "law"=some (some (.ref LA_)))
  (l_j2e:K.lookup LA_=some ⟨Nl_,Nj_,.func (PySem.W.fnOf "law" "law" (Ak Yx) (Ai Yx) (Ad Yx) .none KF_ KG_ KH_ KE_ Ip_ KI_),Nk_⟩)
  (c_j2e:PySem.W.codeIn K Ip_ "law"=true)
  (k_j2e:PySem.W.keepIn K (.ref LA_)=true)
  (z_all:PySem.W.nsIn K mainGlobals "all"=some none)
  (z_bool:PySem.W.nsIn K mainGlobals "bool"=some none)
  (z_enumerate:PySem.W.nsIn K mainGlobals "enumerate"=some none)
  (z_int:PySem.W.nsIn K mainGlobals "int"=some none)
  (z_isinstance:PySem.W.nsIn K mainGlobals "isinstance"=some none)
  (z_len:PySem.W.nsIn K mainGlobals "len"=some none)
  (z_list:PySem.W.nsIn K mainGlobals "list"=some none)
  (z_max:PySem.W.nsIn K mainGlobals "max"=some none)
  (z_range:PySem.W.nsIn K mainGlobals "range"=some none)
  (z_tuple:PySem.W.nsIn K mainGlobals "tuple"=some none)
  (z_zip:PySem.W.nsIn K mainGlobals "zip"=some none)
  (m_j8:PySem.W.nsIn K mainGlobals "AskError"=some (some (.ref C_j8)))
  (m_j5:PySem.W.nsIn K mainGlobals "BadWord"=some (some (.ref C_j5)))
  (m_j6:PySem.W.nsIn K mainGlobals "BadMark"=some (some (.ref C_j6)))
  (m_j3:PySem.W.nsIn K mainGlobals "OutOfTurn"=some (some (.ref C_j3)))
  (m_j2:PySem.W.nsIn K mainGlobals "NoDifference"=some (some (.ref C_j2)))
  (m_j0:PySem.W.nsIn K mainGlobals "Contradiction"=some (some (.ref C_j0)))
  (x_j5:PySem.W.excIn K C_j5 bmV "ValueError.__new__"=true)
  (ga_j5:PySem.W.findIn K (.ref C_j5) "__getattribute__"=some (some (.builtin "BaseException.__getattribute__")))
  (hk_j5:PySem.W.findIn K (.ref C_j5) "__getattr__"=some none)
  {cd_j5:ClassData}
  (cl_j5:PySem.W.clsIn K C_j5=some cd_j5)
  (ca_j5:PySem.W.findIn K (.ref C_j5) "__class__"=some (some (.builtin "object.__class__")))
  (mo_j5:PySem.W.mroIn K C_j5 (.type "object")=some true)
  (mb_j5:PySem.W.mroIn K C_j5 (.type "BaseException")=some true)
  (e_j5:PySem.W.exmOne K (.ref C_j5) (.ref C_j8)=some true)
  (v_j5:PySem.W.kitOne K (.ref C_j5) (.type "ValueError")=some true)
  (ee_j5:PySem.W.exmOne K (.ref C_j5) (.ref C_j5)=some true)
  (k_j5_j8:PySem.W.kitOne K (.ref C_j5) (.ref C_j8)=some true)
  (k_j5_j5:PySem.W.kitOne K (.ref C_j5) (.ref C_j5)=some true)
  (k_j5_j6:PySem.W.kitOne K (.ref C_j5) (.ref C_j6)=some false)
  (k_j5_j3:PySem.W.kitOne K (.ref C_j5) (.ref C_j3)=some false)
  (k_j5_j2:PySem.W.kitOne K (.ref C_j5) (.ref C_j2)=some false)
  (k_j5_j0:PySem.W.kitOne K (.ref C_j5) (.ref C_j0)=some false)
  (x_j6:PySem.W.excIn K C_j6 bmV "ValueError.__new__"=true)
  (ga_j6:PySem.W.findIn K (.ref C_j6) "__getattribute__"=some (some (.builtin "BaseException.__getattribute__")))
  (hk_j6:PySem.W.findIn K (.ref C_j6) "__getattr__"=some none)
  {cd_j6:ClassData}
  (cl_j6:PySem.W.clsIn K C_j6=some cd_j6)
  (ca_j6:PySem.W.findIn K (.ref C_j6) "__class__"=some (some (.builtin "object.__class__")))
  (mo_j6:PySem.W.mroIn K C_j6 (.type "object")=some true)
  (mb_j6:PySem.W.mroIn K C_j6 (.type "BaseException")=some true)
  (e_j6:PySem.W.exmOne K (.ref C_j6) (.ref C_j8)=some true)
  (v_j6:PySem.W.kitOne K (.ref C_j6) (.type "ValueError")=some true)
  (ee_j6:PySem.W.exmOne K (.ref C_j6) (.ref C_j6)=some true)
  (k_j6_j8:PySem.W.kitOne K (.ref C_j6) (.ref C_j8)=some true)
  (k_j6_j5:PySem.W.kitOne K (.ref C_j6) (.ref C_j5)=some false)
  (k_j6_j6:PySem.W.kitOne K (.ref C_j6) (.ref C_j6)=some true)
  (k_j6_j3:PySem.W.kitOne K (.ref C_j6) (.ref C_j3)=some false)
  (k_j6_j2:PySem.W.kitOne K (.ref C_j6) (.ref C_j2)=some false)
  (k_j6_j0:PySem.W.kitOne K (.ref C_j6) (.ref C_j0)=some false)
  (x_j3:PySem.W.excIn K C_j3 bmV "ValueError.__new__"=true)
  (ga_j3:PySem.W.findIn K (.ref C_j3) "__getattribute__"=some (some (.builtin "BaseException.__getattribute__")))
  (hk_j3:PySem.W.findIn K (.ref C_j3) "__getattr__"=some none)
  {cd_j3:ClassData}
  (cl_j3:PySem.W.clsIn K C_j3=some cd_j3)
  (ca_j3:PySem.W.findIn K (.ref C_j3) "__class__"=some (some (.builtin "object.__class__")))
  (mo_j3:PySem.W.mroIn K C_j3 (.type "object")=some true)
  (mb_j3:PySem.W.mroIn K C_j3 (.type "BaseException")=some true)
  (e_j3:PySem.W.exmOne K (.ref C_j3) (.ref C_j8)=some true)
  (v_j3:PySem.W.kitOne K (.ref C_j3) (.type "ValueError")=some true)
  (ee_j3:PySem.W.exmOne K (.ref C_j3) (.ref C_j3)=some true)
  (k_j3_j8:PySem.W.kitOne K (.ref C_j3) (.ref C_j8)=some true)
  (k_j3_j5:PySem.W.kitOne K (.ref C_j3) (.ref C_j5)=some false)
  (k_j3_j6:PySem.W.kitOne K (.ref C_j3) (.ref C_j6)=some false)
  (k_j3_j3:PySem.W.kitOne K (.ref C_j3) (.ref C_j3)=some true)
  (k_j3_j2:PySem.W.kitOne K (.ref C_j3) (.ref C_j2)=some false)
  (k_j3_j0:PySem.W.kitOne K (.ref C_j3) (.ref C_j0)=some false)
  (x_j2:PySem.W.excIn K C_j2 bmV "ValueError.__new__"=true)
  (ga_j2:PySem.W.findIn K (.ref C_j2) "__getattribute__"=some (some (.builtin "BaseException.__getattribute__")))
  (hk_j2:PySem.W.findIn K (.ref C_j2) "__getattr__"=some none)
  {cd_j2:ClassData}
  (cl_j2:PySem.W.clsIn K C_j2=some cd_j2)
  (ca_j2:PySem.W.findIn K (.ref C_j2) "__class__"=some (some (.builtin "object.__class__")))
  (mo_j2:PySem.W.mroIn K C_j2 (.type "object")=some true)
  (mb_j2:PySem.W.mroIn K C_j2 (.type "BaseException")=some true)
  (e_j2:PySem.W.exmOne K (.ref C_j2) (.ref C_j8)=some true)
  (v_j2:PySem.W.kitOne K (.ref C_j2) (.type "ValueError")=some true)
  (ee_j2:PySem.W.exmOne K (.ref C_j2) (.ref C_j2)=some true)
  (k_j2_j8:PySem.W.kitOne K (.ref C_j2) (.ref C_j8)=some true)
  (k_j2_j5:PySem.W.kitOne K (.ref C_j2) (.ref C_j5)=some false)
  (k_j2_j6:PySem.W.kitOne K (.ref C_j2) (.ref C_j6)=some false)
  (k_j2_j3:PySem.W.kitOne K (.ref C_j2) (.ref C_j3)=some false)
  (k_j2_j2:PySem.W.kitOne K (.ref C_j2) (.ref C_j2)=some true)
  (k_j2_j0:PySem.W.kitOne K (.ref C_j2) (.ref C_j0)=some false)
  (x_j0:PySem.W.excIn K C_j0 bmV "ValueError.__new__"=true)
  (ga_j0:PySem.W.findIn K (.ref C_j0) "__getattribute__"=some (some (.builtin "BaseException.__getattribute__")))
  (hk_j0:PySem.W.findIn K (.ref C_j0) "__getattr__"=some none)
  {cd_j0:ClassData}
  (cl_j0:PySem.W.clsIn K C_j0=some cd_j0)
  (ca_j0:PySem.W.findIn K (.ref C_j0) "__class__"=some (some (.builtin "object.__class__")))
  (mo_j0:PySem.W.mroIn K C_j0 (.type "object")=some true)
  (mb_j0:PySem.W.mroIn K C_j0 (.type "BaseException")=some true)
  (e_j0:PySem.W.exmOne K (.ref C_j0) (.ref C_j8)=some true)
  (v_j0:PySem.W.kitOne K (.ref C_j0) (.type "ValueError")=some true)
  (ee_j0:PySem.W.exmOne K (.ref C_j0) (.ref C_j0)=some true)
  (k_j0_j8:PySem.W.kitOne K (.ref C_j0) (.ref C_j8)=some true)
  (k_j0_j5:PySem.W.kitOne K (.ref C_j0) (.ref C_j5)=some false)
  (k_j0_j6:PySem.W.kitOne K (.ref C_j0) (.ref C_j6)=some false)
  (k_j0_j3:PySem.W.kitOne K (.ref C_j0) (.ref C_j3)=some false)
  (k_j0_j2:PySem.W.kitOne K (.ref C_j0) (.ref C_j2)=some false)
  (k_j0_j0:PySem.W.kitOne K (.ref C_j0) (.ref C_j0)=some true)
  (gs:PySem.W.specialIn K (.builtin "object.__class__") "__get__"=some (some (.builtin "getset_descriptor.__get__")))
  (tk:PySem.W.takesIn K (.builtin "object.__class__")=some true)
  : ∃fd:FuncData,(∀(s:Shared) (v:Value),BindsTo s fd ⟨[v],[]⟩ [("script",v)])/\∀base:Heap,K.In base->base.Ns mainGlobals mg->FnOk l.prog w K mg base CX0 18 fa fd ["script"] (Jf_ K):=by
 have e:=hfa.symm.trans (PySem.W.mg_of X G a_j2e)
 cases e
 have T:Txt mg:=⟨PySem.W.mg_none_of X G z_all,PySem.W.mg_none_of X G z_bool,PySem.W.mg_none_of X G z_enumerate,PySem.W.mg_none_of X G z_int,PySem.W.mg_none_of X G z_isinstance,PySem.W.mg_none_of X G z_len,PySem.W.mg_none_of X G z_list,PySem.W.mg_none_of X G z_max,PySem.W.mg_none_of X G z_range,PySem.W.mg_none_of X G z_tuple,PySem.W.mg_none_of X G z_zip⟩
 have Z:Exs K mg C_j8 C_j5 C_j6 C_j3 C_j2 C_j0:=⟨PySem.W.mg_of X G m_j8,PySem.W.mg_of X G m_j5,PySem.W.mg_of X G m_j6,PySem.W.mg_of X G m_j3,PySem.W.mg_of X G m_j2,PySem.W.mg_of X G m_j0,x_j5,⟨ga_j5,hk_j5,by rw[cl_j5];rfl,ca_j5,gs,tk,mo_j5,mb_j5⟩,e_j5,v_j5,ee_j5,k_j5_j8,k_j5_j5,k_j5_j6,k_j5_j3,k_j5_j2,k_j5_j0,x_j6,⟨ga_j6,hk_j6,by rw[cl_j6];rfl,ca_j6,gs,tk,mo_j6,mb_j6⟩,e_j6,v_j6,ee_j6,k_j6_j8,k_j6_j5,k_j6_j6,k_j6_j3,k_j6_j2,k_j6_j0,x_j3,⟨ga_j3,hk_j3,by rw[cl_j3];rfl,ca_j3,gs,tk,mo_j3,mb_j3⟩,e_j3,v_j3,ee_j3,k_j3_j8,k_j3_j5,k_j3_j6,k_j3_j3,k_j3_j2,k_j3_j0,x_j2,⟨ga_j2,hk_j2,by rw[cl_j2];rfl,ca_j2,gs,tk,mo_j2,mb_j2⟩,e_j2,v_j2,ee_j2,k_j2_j8,k_j2_j5,k_j2_j6,k_j2_j3,k_j2_j2,k_j2_j0,x_j0,⟨ga_j0,hk_j0,by rw[cl_j0];rfl,ca_j0,gs,tk,mo_j0,mb_j0⟩,e_j0,v_j0,ee_j0,k_j0_j8,k_j0_j5,k_j0_j6,k_j0_j3,k_j0_j2,k_j0_j0⟩
 have W:Own K mg C_j7 C_j9 C_ji C_ja C_j1 C_j4:=⟨PySem.W.mg_of X G aC_j7,⟨pg_j7,hd_j7,po_j7,sa_j7⟩,n_letters_Book,n_marks_Book,PySem.W.mg_of X G aC_j9,PySem.W.mg_of X G aC_ji,PySem.W.mg_of X G aC_ja,PySem.W.mg_of X G aC_j1,⟨pg_j1,hd_j1,po_j1,sa_j1⟩,n_book_SayHunt,n_ends_SayHunt,n_gaps_SayHunt,n_guess_SayHunt,n_letters_SayHunt,n_most_SayHunt,n_ways_SayHunt,n_wish_SayHunt,n_wrong_SayHunt,PySem.W.mg_of X G aC_j4,⟨pg_j4,hd_j4,po_j4,sa_j4⟩,n_hunt_SayAsker,n_letters_SayAsker,⟨_,PySem.W.mg_of X G q_j2d⟩⟩
 have Lj:=AJ (st:=Gg) l_j1q c_j1q k_j1q
 have OZ:=Lj.binds (ps:=["self","letters"]) fun _ _ _ _ _ _ us hl=>(by obtain⟨y0,y1,rfl⟩:=len2 hl;rfl)
 have O0:Mk K C_j7 Fz:=⟨mk_j7,a_j1q,i_j1q,kc_j7⟩
 have ME:=AJ (st:=I0) l_j26 c_j26 k_j26
 have Vm:=ME.binds (ps:=["letters","word"]) fun _ _ _ _ _ _ us hl=>(by obtain⟨y0,y1,rfl⟩:=len2 hl;rfl)
 have Vn:=PySem.W.mg_of X G a_j26
 have Eu:=AJ (st:=Eo) l_j1s c_j1s k_j1s
 have Gs:=Eu.binds (ps:=["letters","word"]) fun _ _ _ _ _ _ us hl=>(by obtain⟨y0,y1,rfl⟩:=len2 hl;rfl)
 have Gu:=PySem.W.mg_of X G a_j1s
 have MG:=AJ (st:=Mv) l_j2a c_j2a k_j2a
 have Rq:=MG.binds (ps:=["house","word"]) fun _ _ _ _ _ _ us hl=>(by obtain⟨y0,y1,rfl⟩:=len2 hl;rfl)
 have Rr:=PySem.W.mg_of X G a_j2a
 have Fj:=AJ (st:=EF) l_j1p c_j1p k_j1p
 have EL:=Fj.binds (ps:=["self","word"]) fun _ _ _ _ _ _ us hl=>(by obtain⟨y0,y1,rfl⟩:=len2 hl;rfl)
 have EM:Meth K C_j7 "told" B5:=⟨a_j1p,i_j1p,k_j1p⟩
 have P9:=AJ (st:=K5) l_j29 c_j29 k_j29
 have YK:=P9.binds (ps:=["book","access","guess","word","mark","last"]) fun _ _ _ _ _ _ us hl=>(by obtain⟨y0,y1,y2,y3,y4,y5,rfl⟩:=len6 hl;rfl)
 have YL:=PySem.W.mg_of X G a_j29
 have HS:=AJ (st:=DW) l_jx c_jx k_jx
 have J6:=HS.binds (ps:=["self","words"]) fun _ _ _ _ _ _ us hl=>(by obtain⟨y0,y1,rfl⟩:=len2 hl;rfl)
 have J7:Meth K C_j1 "ask_for" CZ:=⟨a_jx,i_jx,k_jx⟩
 have Ia:=AJ (st:=HX) l_j28 c_j28 k_j28
 have Kx:=Ia.binds (ps:=["letters","access"]) fun _ _ _ _ _ _ us hl=>(by obtain⟨y0,y1,rfl⟩:=len2 hl;rfl)
 have Ky:=PySem.W.mg_of X G a_j28
 have VE:=AJ (st:=OM) l_j2b c_j2b k_j2b
 have DA_:=VE.binds (ps:=["letters","access","ends"]) fun _ _ _ _ _ _ us hl=>(by obtain⟨y0,y1,y2,rfl⟩:=len3 hl;rfl)
 have DB_:=PySem.W.mg_of X G a_j2b
 have Bn:=AJ (st:=A5) l_jc c_jc k_jc
 have A8:=Bn.binds (ps:=["self"]) fun _ _ _ _ _ _ us hl=>(by obtain⟨y0,rfl⟩:=len1 hl;rfl)
 have A9:Meth K C_j1 "look_for_gaps" As:=⟨a_jc,i_jc,k_jc⟩
 have B1:=AJ (st:=BY) l_j10 c_j10 k_j10
 have C7:=B1.binds (ps:=["word"]) fun _ _ _ _ _ _ us hl=>(by obtain⟨y0,rfl⟩:=len1 hl;rfl)
 have C8:=PySem.W.mg_of X G a_j10
 have Bn_:=AJ (st:=Vd) l_j2c c_j2c k_j2c
 have HJ_:=Bn_.binds (ps:=["house","word"]) fun _ _ _ _ _ _ us hl=>(by obtain⟨y0,y1,rfl⟩:=len2 hl;rfl)
 have HK_:=PySem.W.mg_of X G a_j2c
 have D2:=AJ (st:=EG) l_j1y c_j1y k_j1y
 have Fo:=D2.binds (ps:=["house","word"]) fun _ _ _ _ _ _ us hl=>(by obtain⟨y0,y1,rfl⟩:=len2 hl;rfl)
 have Fp:=PySem.W.mg_of X G a_j1y
 have Dr:=AJ (st:=B9) l_jp c_jp k_jp
 have Ds:=Dr.binds (ps:=["self","house","word"]) fun _ _ _ _ _ _ us hl=>(by obtain⟨y0,y1,y2,rfl⟩:=len3 hl;rfl)
 have Dt:Meth K C_j1 "answer" Bq:=⟨a_jp,i_jp,k_jp⟩
 have II:=AJ (st:=EH) l_j16 c_j16 k_j16
 have Lh:=II.binds (ps:=["self"]) fun _ _ _ _ _ _ us hl=>(by obtain⟨y0,rfl⟩:=len1 hl;rfl)
 have Li:Meth K C_j1 "halve" DF:=⟨a_j16,i_j16,k_j16⟩
 have Kz:=AJ (st:=Hn) l_j23 c_j23 k_j23
 have Ru:=Kz.binds (ps:=["book","word","ends"]) fun _ _ _ _ _ _ us hl=>(by obtain⟨y0,y1,y2,rfl⟩:=len3 hl;rfl)
 have Rv:=PySem.W.mg_of X G a_j23
 have CY:=AJ (st:=CV) l_j1l c_j1l k_j1l
 have E1:=CY.binds (ps:=["book","letters","access","ends"]) fun _ _ _ _ _ _ us hl=>(by obtain⟨y0,y1,y2,y3,rfl⟩:=len4 hl;rfl)
 have E2:=PySem.W.mg_of X G a_j1l
 have Fs:=AJ (st:=Df) l_j1g c_j1g k_j1g
 have Ji:=Fs.binds (ps:=["letters","access","marks"]) fun _ _ _ _ _ _ us hl=>(by obtain⟨y0,y1,y2,rfl⟩:=len3 hl;rfl)
 have Jj:=PySem.W.mg_of X G a_j1g
 have D6:=AJ (st:=BH) l_jg c_jg k_jg
 have FQ:=D6.binds (ps:=["self"]) fun _ _ _ _ _ _ us hl=>(by obtain⟨y0,rfl⟩:=len1 hl;rfl)
 have FT:Meth K C_j1 "make_guess" Br:=⟨a_jg,i_jg,k_jg⟩
 have GD:=AJ (st:=Ep) l_j1c c_j1c k_j1c
 have GF:=GD.binds (ps:=["self"]) fun _ _ _ _ _ _ us hl=>(by obtain⟨y0,rfl⟩:=len1 hl;rfl)
 have GG:Meth K C_j7 "heard" Cu:=⟨a_j1c,i_j1c,k_j1c⟩
 have F4:=AJ (st:=DX) l_j1m c_j1m k_j1m
 have J9:=F4.binds (ps:=["heard","answer","house"]) fun _ _ _ _ _ _ us hl=>(by obtain⟨y0,y1,y2,rfl⟩:=len3 hl;rfl)
 have Ka:=PySem.W.mg_of X G a_j1m
 have D7:=AJ (st:=BI) l_jh c_jh k_jh
 have FV:=D7.binds (ps:=["self"]) fun _ _ _ _ _ _ us hl=>(by obtain⟨y0,rfl⟩:=len1 hl;rfl)
 have FW:Meth K C_j1 "wrong_word" Bs:=⟨a_jh,i_jh,k_jh⟩
 have D8:=AJ (st:=BJ) l_je c_je k_je
 have FY:=D8.binds (ps:=["self"]) fun _ _ _ _ _ _ us hl=>(by obtain⟨y0,rfl⟩:=len1 hl;rfl)
 have FZ:Meth K C_j1 "look_at_guess" Bt:=⟨a_je,i_je,k_je⟩
 have KC:=AJ (st:=Ho) l_j24 c_j24 k_j24
 have RF:=KC.binds (ps:=["book","letters","access","ends"]) fun _ _ _ _ _ _ us hl=>(by obtain⟨y0,y1,y2,y3,rfl⟩:=len4 hl;rfl)
 have RG:=PySem.W.mg_of X G a_j24
 have DG:=AJ (st:=Bz) l_jd c_jd k_jd
 have Fu:=DG.binds (ps:=["self"]) fun _ _ _ _ _ _ us hl=>(by obtain⟨y0,rfl⟩:=len1 hl;rfl)
 have Fv:Meth K C_j1 "look_at_words" Bo:=⟨a_jd,i_jd,k_jd⟩
 have F8:=AJ (st:=CI) l_jo c_jo k_jo
 have F9:=F8.binds (ps:=["self"]) fun _ _ _ _ _ _ us hl=>(by obtain⟨y0,rfl⟩:=len1 hl;rfl)
 have Ga:Meth K C_j1 "next_wish" Cd:=⟨a_jo,i_jo,k_jo⟩
 have DH:=AJ (st:=CN) l_j14 c_j14 k_j14
 have CQ:=DH.binds (ps:=["self"]) fun _ _ _ _ _ _ us hl=>(by obtain⟨y0,rfl⟩:=len1 hl;rfl)
 have CT:Meth K C_j1 "go_on" Bx:=⟨a_j14,i_j14,k_j14⟩
 have JN:=AJ (st:=E9) l_jz c_jz k_jz
 have MT:=JN.binds (ps:=["self"]) fun _ _ _ _ _ _ us hl=>(by obtain⟨y0,rfl⟩:=len1 hl;rfl)
 have MU:CMeth K C_j9 "__init__" Fq:=⟨sg_jz,rd_jz,a_jz,k_jz⟩
 have Lk:=AJ (st:=Gh) l_j17 c_j17 k_j17
 have O2:=Lk.binds (ps:=["self","letters","most","book","ways","ends"]) fun _ _ _ _ _ _ us hl=>(by obtain⟨y0,y1,y2,y3,y4,y5,rfl⟩:=len6 hl;rfl)
 have O3:CMeth K C_ji "__init__" Gj:=⟨sg_j17,rd_j17,a_j17,k_j17⟩
 have D9:=AJ (st:=BK) l_jf c_jf k_jf
 have F1:=D9.binds (ps:=["self","letters"]) fun _ _ _ _ _ _ us hl=>(by obtain⟨y0,y1,rfl⟩:=len2 hl;rfl)
 have F2:Meth K C_j1 "first_ends" Bu:=⟨a_jf,i_jf,k_jf⟩
 have JS:=AJ (st:=Fb) l_j1k c_j1k k_j1k
 have Nl:=JS.binds (ps:=["self","letters","most"]) fun _ _ _ _ _ _ us hl=>(by obtain⟨y0,y1,y2,rfl⟩:=len3 hl;rfl)
 have Nm:Mk K C_j1 EB:=⟨mk_j1,a_j1k,i_j1k,kc_j1⟩
 have Ha:=AJ (st:=Dh) l_ju c_ju k_ju
 have Jw:=Ha.binds (ps:=["self","letters","most"]) fun _ _ _ _ _ _ us hl=>(by obtain⟨y0,y1,y2,rfl⟩:=len3 hl;rfl)
 have Jx:Mk K C_j4 Cz:=⟨mk_j4,a_ju,i_ju,kc_j4⟩
 have IK:=AJ (st:=EI) l_j15 c_j15 k_j15
 have Lp:=IK.binds (ps:=["self"]) fun _ _ _ _ _ _ us hl=>(by obtain⟨y0,rfl⟩:=len1 hl;rfl)
 have Lq:Meth K C_j1 "access" DK:=⟨a_j15,i_j15,k_j15⟩
 have A1:=AJ (st:=Bi) l_jn c_jn k_jn
 have AB:=A1.binds (ps:=["self"]) fun _ _ _ _ _ _ us hl=>(by obtain⟨y0,rfl⟩:=len1 hl;rfl)
 have AE:Meth K C_j4 "access" Ao:=⟨a_jn,i_jn,k_jn⟩
 have HU:=AJ (st:=DY) l_jw c_jw k_jw
 have Kc:=HU.binds (ps:=["self"]) fun _ _ _ _ _ _ us hl=>(by obtain⟨y0,rfl⟩:=len1 hl;rfl)
 have Kd:Meth K C_j1 "tellers" C1:=⟨a_jw,i_jw,k_jw⟩
 have AV:=AJ (st:=A6) l_jl c_jl k_jl
 have Aw:=AV.binds (ps:=["self"]) fun _ _ _ _ _ _ us hl=>(by obtain⟨y0,rfl⟩:=len1 hl;rfl)
 have Ax:Meth K C_j4 "tellers" Al:=⟨a_jl,i_jl,k_jl⟩
 have JO:=AJ (st:=Fc) l_j1e c_j1e k_j1e
 have M9:=JO.binds (ps:=["self"]) fun _ _ _ _ _ _ us hl=>(by obtain⟨y0,rfl⟩:=len1 hl;rfl)
 have Na:Meth K C_j1 "heard" Ey:=⟨a_j1e,i_j1e,k_j1e⟩
 have BD:=AJ (st:=BB) l_js c_js k_js
 have Bg:=BD.binds (ps:=["self"]) fun _ _ _ _ _ _ us hl=>(by obtain⟨y0,rfl⟩:=len1 hl;rfl)
 have Bh:Meth K C_j4 "heard" AH:=⟨a_js,i_js,k_js⟩
 have Bw:=AJ (st:=DZ) l_j1z c_j1z k_j1z
 have BO:=Bw.binds (ps:=["script","k"]) fun _ _ _ _ _ _ us hl=>(by obtain⟨y0,y1,rfl⟩:=len2 hl;rfl)
 have BP:=PySem.W.mg_of X G a_j1z
 have IJ:=AJ (st:=EJ) l_j13 c_j13 k_j13
 have Lm:=IJ.binds (ps:=["self"]) fun _ _ _ _ _ _ us hl=>(by obtain⟨y0,rfl⟩:=len1 hl;rfl)
 have Ln:Meth K C_j1 "wants" DJ:=⟨a_j13,i_j13,k_j13⟩
 have BE:=AJ (st:=BC) l_jq c_jq k_jq
 have A3:=BE.binds (ps:=["self"]) fun _ _ _ _ _ _ us hl=>(by obtain⟨y0,rfl⟩:=len1 hl;rfl)
 have A4:Meth K C_j4 "wants" AI:=⟨a_jq,i_jq,k_jq⟩
 have MF:=AJ (st:=Jd) l_j27 c_j27 k_j27
 have Vp:=MF.binds (ps:=["number"]) fun _ _ _ _ _ _ us hl=>(by obtain⟨y0,rfl⟩:=len1 hl;rfl)
 have Vq:=PySem.W.mg_of X G a_j27
 have HZ:=AJ (st:=Fd) l_j1t c_j1t k_j1t
 have MM:=HZ.binds (ps:=["mark"]) fun _ _ _ _ _ _ us hl=>(by obtain⟨y0,rfl⟩:=len1 hl;rfl)
 have MN:=PySem.W.mg_of X G a_j1t
 have Gx:=AJ (st:=Er) l_j1b c_j1b k_j1b
 have Gy:=Gx.binds (ps:=["self","word","mark"]) fun _ _ _ _ _ _ us hl=>(by obtain⟨y0,y1,y2,rfl⟩:=len3 hl;rfl)
 have Gz:Meth K C_j7 "check" Ct:=⟨a_j1b,i_j1b,k_j1b⟩
 have IS:=AJ (st:=Gp) l_j1r c_j1r k_j1r
 have IT:=IS.binds (ps:=["self","word","mark"]) fun _ _ _ _ _ _ us hl=>(by obtain⟨y0,y1,y2,rfl⟩:=len3 hl;rfl)
 have IU:Meth K C_j7 "put" Ed:=⟨a_j1r,i_j1r,k_j1r⟩
 have Bb:=AJ (st:=Ba) l_jj c_jj k_jj
 have AQ:=Bb.binds (ps:=["self","deed"]) fun _ _ _ _ _ _ us hl=>(by obtain⟨y0,y1,rfl⟩:=len2 hl;rfl)
 have AR:Meth K C_j1 "check_wants" Ap:=⟨a_jj,i_jj,k_jj⟩
 have E6:=AJ (st:=B4) l_jk c_jk k_jk
 have GZ:=E6.binds (ps:=["self","number"]) fun _ _ _ _ _ _ us hl=>(by obtain⟨y0,y1,rfl⟩:=len2 hl;rfl)
 have G0:Meth K C_j1 "keep_answer" BR:=⟨a_jk,i_jk,k_jk⟩
 have JQ:=AJ (st:=Fe) l_j1f c_j1f k_j1f
 have Nd:=JQ.binds (ps:=["self","mark"]) fun _ _ _ _ _ _ us hl=>(by obtain⟨y0,y1,rfl⟩:=len2 hl;rfl)
 have Nf:Meth K C_j1 "hear" Ez:=⟨a_j1f,i_j1f,k_j1f⟩
 have G9:=AJ (st:=Di) l_jt c_jt k_jt
 have Jq:=G9.binds (ps:=["self","mark"]) fun _ _ _ _ _ _ us hl=>(by obtain⟨y0,y1,rfl⟩:=len2 hl;rfl)
 have Jr:Meth K C_j4 "hear" Cy:=⟨a_jt,i_jt,k_jt⟩
 have KI:=AJ (st:=Hq) l_j25 c_j25 k_j25
 have RS:=KI.binds (ps:=["script","k"]) fun _ _ _ _ _ _ us hl=>(by obtain⟨y0,y1,rfl⟩:=len2 hl;rfl)
 have RT:=PySem.W.mg_of X G a_j25
 have FH:=AJ (st:=Ff) l_j20 c_j20 k_j20
 have Hw:=FH.binds (ps:=["cell"]) fun _ _ _ _ _ _ us hl=>(by obtain⟨y0,rfl⟩:=len1 hl;rfl)
 have Hx:=PySem.W.mg_of X G a_j20
 have EC:=AJ (st:=Es) l_j1w c_j1w k_j1w
 have GJ:=EC.binds (ps:=["kept","asker","strictly"]) fun _ _ _ _ _ _ us hl=>(by obtain⟨y0,y1,y2,rfl⟩:=len3 hl;rfl)
 have GK:=PySem.W.mg_of X G a_j1w
 have Cv:=AJ (st:=DC) l_j1u c_j1u k_j1u
 have DO:=Cv.binds (ps:=["found"]) fun _ _ _ _ _ _ us hl=>(by obtain⟨y0,rfl⟩:=len1 hl;rfl)
 have DQ:=PySem.W.mg_of X G a_j1u
 have Cq:=AJ (st:=CW) l_j1n c_j1n k_j1n
 have D4:=Cq.binds (ps:=["found","letters"]) fun _ _ _ _ _ _ us hl=>(by obtain⟨y0,y1,rfl⟩:=len2 hl;rfl)
 have D5:=PySem.W.mg_of X G a_j1n
 have EY:=AJ (st:=CJ) l_j1a c_j1a k_j1a
 have IC:=EY.binds (ps:=["wish","letters","told"]) fun _ _ _ _ _ _ us hl=>(by obtain⟨y0,y1,y2,rfl⟩:=len3 hl;rfl)
 have ID:=PySem.W.mg_of X G a_j1a
 have B2:=AJ (st:=BZ) l_j11 c_j11 k_j11
 have Dc:=B2.binds (ps:=["words","letters"]) fun _ _ _ _ _ _ us hl=>(by obtain⟨y0,y1,rfl⟩:=len2 hl;rfl)
 have Dd:=PySem.W.mg_of X G a_j11
 have BS:=AJ (st:=BQ) l_jv c_jv k_jv
 have CF:=BS.binds (ps:=["access","letters"]) fun _ _ _ _ _ _ us hl=>(by obtain⟨y0,y1,rfl⟩:=len2 hl;rfl)
 have CG:=PySem.W.mg_of X G a_jv
 have Cf:=AJ (st:=Ca) l_j18 c_j18 k_j18
 have Dv:=Cf.binds (ps:=["ends","letters"]) fun _ _ _ _ _ _ us hl=>(by obtain⟨y0,y1,rfl⟩:=len2 hl;rfl)
 have Dx:=PySem.W.mg_of X G a_j18
 have DT:=AJ (st:=Et) l_j1v c_j1v k_j1v
 have FD:=DT.binds (ps:=["told","word","ends"]) fun _ _ _ _ _ _ us hl=>(by obtain⟨y0,y1,y2,rfl⟩:=len3 hl;rfl)
 have FE:=PySem.W.mg_of X G a_j1v
 have FJ:=AJ (st:=Dj) l_j1j c_j1j k_j1j
 have Jt:=FJ.binds (ps:=["asker","letters","most","asked","told"]) fun _ _ _ _ _ _ us hl=>(by obtain⟨y0,y1,y2,y3,y4,rfl⟩:=len5 hl;rfl)
 have Ju:=PySem.W.mg_of X G a_j1j
 have JR:=AJ (st:=Fg) l_j1d c_j1d k_j1d
 have Nh:=JR.binds (ps:=["self"]) fun _ _ _ _ _ _ us hl=>(by obtain⟨y0,rfl⟩:=len1 hl;rfl)
 have Ni:Meth K C_j1 "agree" EA:=⟨a_j1d,i_j1d,k_j1d⟩
 have Gd:=AJ (st:=CK) l_jr c_jr k_jr
 have Iz:=Gd.binds (ps:=["self"]) fun _ _ _ _ _ _ us hl=>(by obtain⟨y0,rfl⟩:=len1 hl;rfl)
 have IA:Meth K C_j4 "agree" Cg:=⟨a_jr,i_jr,k_jr⟩
 have Ef:=AJ (st:=Dk) l_j1h c_j1h k_j1h
 have G2:=Ef.binds (ps:=["found","due"]) fun _ _ _ _ _ _ us hl=>(by obtain⟨y0,y1,rfl⟩:=len2 hl;rfl)
 have G3:=PySem.W.mg_of X G a_j1h
 have FF:=AJ (st:=Dm) l_j1i c_j1i k_j1i
 have Jn:=FF.binds (ps:=["found","due"]) fun _ _ _ _ _ _ us hl=>(by obtain⟨y0,y1,rfl⟩:=len2 hl;rfl)
 have Jo:=PySem.W.mg_of X G a_j1i
 have FG:=AJ (st:=Fh) l_j21 c_j21 k_j21
 have Ht:=FG.binds (ps:=["house","word"]) fun _ _ _ _ _ _ us hl=>(by obtain⟨y0,y1,rfl⟩:=len2 hl;rfl)
 have Hu:=PySem.W.mg_of X G a_j21
 have EX:=AJ (st:=CL) l_j19 c_j19 k_j19
 have Iv:=EX.binds (ps:=["letters","access","ends","told"]) fun _ _ _ _ _ _ us hl=>(by obtain⟨y0,y1,y2,y3,rfl⟩:=len4 hl;rfl)
 have Iw:=PySem.W.mg_of X G a_j19
 have Ei:=AJ (st:=Cm) l_j12 c_j12 k_j12
 have HH:=Ei.binds (ps:=["house","letters","asker","told"]) fun _ _ _ _ _ _ us hl=>(by obtain⟨y0,y1,y2,y3,rfl⟩:=len4 hl;rfl)
 have HI:=PySem.W.mg_of X G a_j12
 have DI:=AJ (st:=BA) l_jb c_jb k_jb
 have Fx:=DI.binds (ps:=["self","word","number"]) fun _ _ _ _ _ _ us hl=>(by obtain⟨y0,y1,y2,rfl⟩:=len3 hl;rfl)
 have Fy:Meth K C_j1 "keep_objection" Bp:=⟨a_jb,i_jb,k_jb⟩
 have HV:=AJ (st:=D0) l_jy c_jy k_jy
 have Kf:=HV.binds (ps:=["self","word","mark"]) fun _ _ _ _ _ _ us hl=>(by obtain⟨y0,y1,y2,rfl⟩:=len3 hl;rfl)
 have Kg:Meth K C_j1 "differ" C2:=⟨a_jy,i_jy,k_jy⟩
 have FL:=AJ (st:=Cn) l_jm c_jm k_jm
 have Hz:=FL.binds (ps:=["self","word","mark"]) fun _ _ _ _ _ _ us hl=>(by obtain⟨y0,y1,y2,rfl⟩:=len3 hl;rfl)
 have HD:Meth K C_j4 "differ" B3:=⟨a_jm,i_jm,k_jm⟩
 have F5:=AJ (st:=D1) l_j1o c_j1o k_j1o
 have Ki:=F5.binds (ps:=["asker","script","at","told"]) fun _ _ _ _ _ _ us hl=>(by obtain⟨y0,y1,y2,y3,rfl⟩:=len4 hl;rfl)
 have Kj:=PySem.W.mg_of X G a_j1o
 have Ij:=AJ (st:=Fi) l_j1x c_j1x k_j1x
 have Nr:=Ij.binds (ps:=["asker","letters","script","state","told"]) fun _ _ _ _ _ _ us hl=>(by obtain⟨y0,y1,y2,y3,y4,rfl⟩:=len5 hl;rfl)
 have Nt:=PySem.W.mg_of X G a_j1x
 have Jy:=AJ (st:=Gi) l_j22 c_j22 k_j22
 have O8:=Jy.binds (ps:=["asker","letters","most","script","state"]) fun _ _ _ _ _ _ us hl=>(by obtain⟨y0,y1,y2,y3,y4,rfl⟩:=len5 hl;rfl)
 have O9:=PySem.W.mg_of X G a_j22
 have Nm_:=AJ (st:=Yx) l_j2e c_j2e k_j2e
 have NE_:=Nm_.binds (ps:=["script"]) fun _ _ _ _ _ _ us hl=>(by obtain⟨y0,rfl⟩:=len1 hl;rfl)
 have NF_:=PySem.W.mg_of X G a_j2e
 refine⟨PySem.W.fnOf "law" "law" (Ak Yx) (Ai Yx) (Ad Yx) .none KF_ KG_ KH_ KE_ Ip_ KI_,fun s v=>.of_eq rfl,fun base _ _=>?_⟩
 have OY:=Bo_ (P:=l.prog) (w:=w) (base:=base) Lj T W Z
 have Vl:=FF_ (P:=l.prog) (w:=w) (base:=base) ME T W Z
 have Gr:=Yz (P:=l.prog) (w:=w) (base:=base) Eu T W Z Vl ME Vm Vn
 have Rp:=IV_ (P:=l.prog) (w:=w) (base:=base) MG T W Z Gr Eu Gs Gu
 have EK:=Bp_ (P:=l.prog) (w:=w) (base:=base) Fj T W Z
 have YJ:=HZ_ (P:=l.prog) (w:=w) (base:=base) P9 T W Z Rp MG Rq Rr EK Fj EL EM
 have J5:=VD (P:=l.prog) (w:=w) (base:=base) HS T W Z EK Fj EL EM
 have Kv:=FI_ (P:=l.prog) (w:=w) (base:=base) Ia T W Z
 have Dz_:=IW_ (P:=l.prog) (w:=w) (base:=base) VE T W Z Kv Ia Kx Ky
 have A7:=LO (P:=l.prog) (w:=w) (base:=base) Bn T W Z J5 HS J6 J7 Dz_ VE DA_ DB_
 have C6:=P0 (P:=l.prog) (w:=w) (base:=base) B1 T W Z
 have HH_:=Ls_ (P:=l.prog) (w:=w) (base:=base) Bn_ T W Z Rp MG Rq Rr
 have Fm:=Bm_ (P:=l.prog) (w:=w) (base:=base) D2 T W Z C6 B1 C7 C8 HH_ Bn_ HJ_ HK_
 have Dq:=RD (P:=l.prog) (w:=w) (base:=base) Dr T W Z Fm D2 Fo Fp
 have Lg:=W3 (P:=l.prog) (w:=w) (base:=base) II T W Z YJ P9 YK YL A7 Bn A8 A9 Dq Dr Ds Dt
 have Rt:=Ds_ (P:=l.prog) (w:=w) (base:=base) Kz T W Z EK Fj EL EM
 have EZ:=Vt (P:=l.prog) (w:=w) (base:=base) CY T W Z Kv Ia Kx Ky Rt Kz Ru Rv
 have Jh:=TL (P:=l.prog) (w:=w) (base:=base) Fs T W Z
 have FP:=MY (P:=l.prog) (w:=w) (base:=base) D6 T W Z EZ CY E1 E2 Jh Fs Ji Jj
 have GC:=YC (P:=l.prog) (w:=w) (base:=base) GD T W Z
 have J8:=VB (P:=l.prog) (w:=w) (base:=base) F4 T W Z Fm D2 Fo Fp
 have FU:=MZ (P:=l.prog) (w:=w) (base:=base) D7 T W Z Fm D2 Fo Fp GC GD GF GG J8 F4 J9 Ka
 have FX:=M3 (P:=l.prog) (w:=w) (base:=base) D8 T W Z FP D6 FQ FT FU D7 FV FW
 have RE:=Du_ (P:=l.prog) (w:=w) (base:=base) KC T W Z EZ CY E1 E2
 have Ft:=LP (P:=l.prog) (w:=w) (base:=base) DG T W Z A7 Bn A8 A9 FX D8 FY FZ RE KC RF RG
 have F7:=RH (P:=l.prog) (w:=w) (base:=base) F8 T W Z Lg II Lh Li Ft DG Fu Fv
 have CP:=W4 (P:=l.prog) (w:=w) (base:=base) DH T W Z F7 F8 F9 Ga
 have MS:=YH (P:=l.prog) (w:=w) (base:=base) JN T W Z
 have O1:=Bt_ (P:=l.prog) (w:=w) (base:=base) Lk T W Z MS JN MT MU
 have F0:=MX (P:=l.prog) (w:=w) (base:=base) D9 T W Z
 have Nk:=YR (P:=l.prog) (w:=w) (base:=base) JS T W Z OY Lj OZ O0 A7 Bn A8 A9 CP DH CQ CT O1 Lk O2 O3 F0 D9 F1 F2
 have Jv:=TQ (P:=l.prog) (w:=w) (base:=base) Ha T W Z Nk JS Nl Nm
 have Lo:=W2 (P:=l.prog) (w:=w) (base:=base) IK T W Z
 have AA:=Qa (P:=l.prog) (w:=w) (base:=base) A1 T W Z Lo IK Lp Lq
 have Kb:=VC (P:=l.prog) (w:=w) (base:=base) HU T W Z
 have Av:=O4 (P:=l.prog) (w:=w) (base:=base) AV T W Z Kb HU Kc Kd
 have M8:=YI (P:=l.prog) (w:=w) (base:=base) JO T W Z GC GD GF GG
 have Bf:=RJ (P:=l.prog) (w:=w) (base:=base) BD T W Z M8 JO M9 Na
 have BN:=Bz_ (P:=l.prog) (w:=w) (base:=base) Bw T W Z
 have Ll:=WZ (P:=l.prog) (w:=w) (base:=base) IJ T W Z
 have A2:=RI (P:=l.prog) (w:=w) (base:=base) BE T W Z Ll IJ Lm Ln
 have Vo:=FG_ (P:=l.prog) (w:=w) (base:=base) MF T W Z
 have ML:=YA (P:=l.prog) (w:=w) (base:=base) HZ T W Z Vo MF Vp Vq
 have Gw:=YB (P:=l.prog) (w:=w) (base:=base) Gx T W Z Gr Eu Gs Gu ML HZ MM MN
 have IQ:=Dq_ (P:=l.prog) (w:=w) (base:=base) IS T W Z Gw Gx Gy Gz
 have AO:=Oq (P:=l.prog) (w:=w) (base:=base) Bb T W Z
 have GY:=OX (P:=l.prog) (w:=w) (base:=base) E6 T W Z CP DH CQ CT IQ IS IT IU AO Bb AQ AR
 have Nb:=YQ (P:=l.prog) (w:=w) (base:=base) JQ T W Z GY E6 GZ G0
 have Jp:=TN (P:=l.prog) (w:=w) (base:=base) G9 T W Z Nb JQ Nd Nf
 have RQ:=DE_ (P:=l.prog) (w:=w) (base:=base) KI T W Z BN Bw BO BP
 have Hv:=BC_ (P:=l.prog) (w:=w) (base:=base) FH T W Z
 have GI:=YY (P:=l.prog) (w:=w) (base:=base) EC T W Z AA A1 AB AE Av AV Aw Ax
 have DL:=YS (P:=l.prog) (w:=w) (base:=base) Cv T W Z
 have D3:=VI (P:=l.prog) (w:=w) (base:=base) Cq T W Z DL Cv DO DQ
 have IB:=RP (P:=l.prog) (w:=w) (base:=base) EY T W Z D3 Cq D4 D5
 have C9:=Qg (P:=l.prog) (w:=w) (base:=base) B2 T W Z D3 Cq D4 D5
 have CD:=O6 (P:=l.prog) (w:=w) (base:=base) BS T W Z C9 B2 Dc Dd
 have Du:=RL (P:=l.prog) (w:=w) (base:=base) Cf T W Z C9 B2 Dc Dd
 have FC:=YW (P:=l.prog) (w:=w) (base:=base) DT T W Z
 have Js:=TV (P:=l.prog) (w:=w) (base:=base) FJ T W Z AA A1 AB AE Av AV Aw Ax Bf BD Bg Bh A2 BE A3 A4 CD BS CF CG Du Cf Dv Dx FC DT FD FE
 have Ng:=YO (P:=l.prog) (w:=w) (base:=base) JR T W Z AO Bb AQ AR
 have Iy:=RK (P:=l.prog) (w:=w) (base:=base) Gd T W Z Ng JR Nh Ni
 have G1:=TR (P:=l.prog) (w:=w) (base:=base) Ef T W Z DL Cv DO DQ
 have Jm:=TU (P:=l.prog) (w:=w) (base:=base) FF T W Z DL Cv DO DQ G1 Ef G2 G3
 have Hs:=BA_ (P:=l.prog) (w:=w) (base:=base) FG T W Z
 have Iu:=RO (P:=l.prog) (w:=w) (base:=base) EX T W Z FC DT FD FE
 have HE:=Qh (P:=l.prog) (w:=w) (base:=base) Ei T W Z AA A1 AB AE Av AV Aw Ax Bf BD Bg Bh CD BS CF CG Du Cf Dv Dx Jm FF Jn Jo Hs FG Ht Hu Iu EX Iv Iw
 have Fw:=LQ (P:=l.prog) (w:=w) (base:=base) DI T W Z Dq Dr Ds Dt CP DH CQ CT Gw Gx Gy Gz IQ IS IT IU AO Bb AQ AR
 have Ke:=VG (P:=l.prog) (w:=w) (base:=base) HV T W Z Fw DI Fx Fy
 have Hy:=Qe (P:=l.prog) (w:=w) (base:=base) FL T W Z C6 B1 C7 C8 AO Bb AQ AR Ke HV Kf Kg
 have Kh:=VL (P:=l.prog) (w:=w) (base:=base) F5 T W Z BN Bw BO BP A2 BE A3 A4 Hv FH Hw Hx Hs FG Ht Hu Hy FL Hz HD
 have Nq:=YZ (P:=l.prog) (w:=w) (base:=base) Ij T W Z AA A1 AB AE Av AV Aw Ax Bf BD Bg Bh BN Bw BO BP A2 BE A3 A4 GI EC GJ GK Iy Gd Iz IA HE Ei HH HI Kh F5 Ki Kj
 have O7:=BG_ (P:=l.prog) (w:=w) (base:=base) Jy T W Z A2 BE A3 A4 Jp G9 Jq Jr RQ KI RS RT Hv FH Hw Hx GI EC GJ GK IB EY IC ID Js FJ Jt Ju Nq Ij Nr Nt
 have ND_:=Ni_ (P:=l.prog) (w:=w) (base:=base) Nm_ T W Z Jv Ha Jw Jx AA A1 AB AE Av AV Aw Ax Bf BD Bg Bh BN Bw BO BP O7 Jy O8 O9
 exact ND_
def walk {l:PySem.W.OpenLaw}{q:Program}{loose:List Str}{XP:(Str->Option Value)->Heap->Prop}{YP:World->Heap->Prop}{d:DefRec}{K:Params->PySem.W.Frag}(hn:l.most=some 63)(hdf:d.params.defaults=[])
  (hY:∀(w:World) (h:Heap),YP w h->(K w.params).In h)
  (F:∀(w:World) (mg:Str->Option Value) (fa:Addr) (h:Heap),(K w.params).In h->h.Ns mainGlobals mg->mg d.name=some (.ref fa) ->
   ∃fd:FuncData,(∀(s:Shared) (u:Value),BindsTo s fd ⟨[u],[]⟩ [("script",u)])/\∀base:Heap,(K w.params).In base->base.Ns mainGlobals mg->FnOk l.prog w (K w.params) mg base CX0 18 fa fd ["script"] (Jf_ (K w.params))):
  PySem.W.WalkO q loose XP YP l.row.toRowW d [] (fun f vs=>PySem.call f vs):=
 L2.walk_of (n:=63) (k:=18) (x := "script") (CX:=fun _=>CX0) (sp:=fun w=>Jf_ (K w.params)) hn (by decide) hdf ⟨rfl,by decide,by decide⟩ hY F (fun _ _ a ns hl _ hS=>⟨a,ns,rfl,hS,hl,fun _=>rfl⟩) fun _ _ _ _ _ z=>z
end Mine
structure PySem.W.Fast:Prop where (tw2258724109390493701 tw16427759368199518531 tw12470953399278101780 tw2410820938672778132 tw6345501628845722109 tw15989069223482284113 tw16978936079518688471 tw5434807786005256492 tw995847001814050199 tw298390090923685203 tw5062133147540865832 tw12463322050846086471 tw12654524725265822224 tw13094370488708058178 tw9233743070330251265 tw2755608788731581794 tw3675769469667977459 tw13644538718457418976 tw1507041061767611978 tw12579037619004902005 tw9624628256106237332 tw6412283353446329670 tw5225047357519860338 tw1715134501894745987 tw551188681700481937 tw5169177723683006687 tw11554396509167497698 tw9427968390620399447 tw11513728861522980173 tw13030862912457127076 tw9153225573488644209 tw9445561825151820251 tw17268853700788831267 tw12389325023373428701 tw17480476011451022047 tw12627582014220304 tw18044659030208759536 tw2247200423741889636 tw13282894178320599520 tw7553445322011423904 tw11900743088685891585 tw13979600513923555550 tw13195636914202083502 tw2853905898679614236 tw5473371109198103832 tw16396870025563384974 tw788139235138189674 tw395583235181443850 tw11328181577416289062 tw13732940332343866439 tw14265957261046292191 tw11175026175411788412 tw17807210237464327959 tw5241537038169621353 tw14550401394339692687 tw3078925865823325825 tw12082970949681442906 tw6489625863121380131 tw8605591760879553080 tw1501852525778505022 tw959788224420430219 tw12871044678325003627 tw17846509036304044729 tw7557199605837956968 tw5232393842905725971 tw2578542414786723612 tw6686623926078042917 tw12665654263447731830 tw3996577524681468882 tw4847131915265677061 tw6817307682662058495 tw6586360479983332719 tw1050502780401454421 tw1404399965864700099 tw14901159656245921144 tw7522715119081253752 tw4418636764296168422 tw11684321982178469311 tw5190218603652480810 tw17071657178967454268 tw10013193564287759212 tw18316741414133081224 tw1621607089216306287 tw4616271701861647718 tw10491060359370524730 tw16443571367254380134 tw17092802613046314245 tw8853204441423505011 tw4672476627549723052 tw9053336708836704115 tw3914386607413812567 tw5022402037413439978 tw13018826307423819512 tw7786351778371409864 tw18367643170315053740 tw4801317139211324537 tw13020557649459099138 tw9478030268310118382 tw6418484333186406959 tw16025335892724058090 tw1223515013379478568 tw14642732652341260430 tw15465294718714581590 tw15948398772982836027 tw12541756431871433788 tw8682678099862911340 tw14303732008586206848 tw5880602840761495829 tw15602374336898185980 tw2783531215094056832 tw10012400936543649481 tw17254373828523899330 tw10193456001618733460 tw5957716141592561337 tw3642358230428763987 tw15434331379817420143 tw17046834435898056273 tw11994875339569705576 tw6122099201042885785 tw11328474706182218744 tw17198200038491034276 tw11638615913722562187 tw17759761746586964789 tw17467229111895080230 tw10115206902296549202 tw460515607221574133 tw16211012647508167851 tw619938670003606397 tw2178238849645931814 tw10218309291384056183 tw929657532847049256 tw13592809087357775336 tw3172476832459685148 tw17708944018677837157 tw892584632939172789 tw2578597165102197472 tw13832806594135722951 tw3601450997790098144 tw10386532035291098893 tw12550790471041996130 tw17746208358256291681 tw13445702485057562110 tw5552723985923734400 tw15154594102497419895 tw16929962622494669997 tw8759990535811868115 tw15839028049824340082 tw7187052634693811705 tw3283703113984574769 tw14767942622525945162 tw1060136870962958988 tw11872035991874625763 tw18246580628765180864 tw750888214478400294 tw4349967011020783673 tw256647195226178485 tw17075494127366973969 tw716674924715759590 tw18081761073838974750 tw3505935028346544485 tw3365023081345593152 tw15722601750506457145 tw15297356760121362650 tw17629857167984414076 tw4273022377758645586 tw15767904214728465344 tw3456999175876874337 tw12577082716242135947 tw9695124450433687031 tw339385606445452773 tw1618222421501918655 tw5765500513520695160 tw8961183015851444470 tw10503492122660810909 tw9279136040836478175 tw2257570951999137578 tw15049566797602570856 tw17117951430003381783 tw2923180510858289817 tw15338163011329312520 tw15417796043468973196 tw13115733234960083716 tw17225118991294249167 tw13272005754717870005 tw6217041251015888957 tw9010020383674642789 tw17359493965100045510 tw15799403382163850408 tw11021469052941012489 tw10730820983674642156 tw8491193335374709933 tw12679182734552442439 tw12059855924165017620 tw3457808564842584403 tw10729974714603441744 tw8764919185234956767 tw11425390606976093461 tw11683029953581318560 tw12899861776641192261 tw9603557279318360739 tw11089887189760219723 tw10687884582568004445 tw6769172095429805399 tw17641872941302911358 tw16754563331254354627 tw11672809851625031695 tw4333483699141517424 tw18403679500072890467 tw9083035126922488823 tw6796393642128843081 tw18197132586267352626 tw10744905612992655447 tw18201906587456717907 tw16452518139018876307 tw6507753279194348038 tw6623666270512957156 tw4661113959266948910 tw13170300158473529505 tw5776930936991771142 tw7093190135359772489 tw18078562008089462279 tw7916442948286514954 tw9959267723816515876 tw3238214380752928195 tw6135089376504853048 tw4994979104474409693 tw6323936997495194134 tw10011956076637116741 tw3794283399763091376 tw10286239581468777682 tw15431757323271030992 tw6611729084265781747 tw2136635650990888347 tw15042722044305816291 tw15729138275586238119 tw10892509831486636651 tw5405942122247757051 tw11100569770881017222 tw1850115698587889619 tw13901749420113344336 tw565745920140365866 tw15062653456086878221 tw10853529131368774789 tw16480541171588954857 tw9877618023949537664 tw15221905441356432472 tw11871758206549381768 tw12863899108928425635 tw15005012531143862415 tw11483322333230979435 tw16977775219062423978 tw5283112340558643817 tw13808063098066472191 tw17366323407078371476 tw12792444129618122034 tw6613923040285364933 tw16698105924704922281 tw12893596695237674101 tw14917557359573233529 tw6874249439257774030 tw8558781398470083915 tw7008520644608600126 tw16766513006180156842 tw17982835474235774609 tw13941599431453293059 tw425106815505130104 tw294263417387446147 tw15003002804905093659 tw11490008928430767310 tw7035924647738628761 tw6782842943485870622 tw11261818595858446918 tw16010218839677540401 tw13552699920639894372 tw10046817703430219335 tw3743952748042791630 tw355513320489433776 tw1776470385694673870 tw945953110383273213 tw12786605985907300873 tw8662838296437956366 tw4466486155270381670 tw10756632227999104423 tw8999443132630710533 tw14273385265795315955 tw6489892223891696807 tw1081013344741953749 tw16369350682505486433 tw12506984731660615603 tw7038286141892367815 tw18287699757397060267 tw7059581857436160277 tw12578340227238721946 tw17979247439495759744 tw6885473333395012418 tw797870865021987552 tw8485224666043313302 tw2569602535393914368 tw8511239993210299579 tw3377462549985491213 tw1474711743509221066 tw13226205858353829137 tw4154409218943663915 tw17665635133886257648 tw718683834296524393 tw14609146585837317134 tw14506376380008226383 tw993231290909449857 tw13211920853872897829 tw13753429763733105217 tw5042580748941808547 tw1895574028960304012 tw6733753973020899747 tw10304424281873835070 tw16951066797772787470 tw1584444048345618423 tw2625821516757269937 tw3826077207518772982 tw7485280463780117959 tw5670848000695559458 tw11188128142050317556 tw16329922382587865772 tw1241704004912162131 tw16113368041967298339 tw14387318014497190068 tw4225981995845177730 tw2500529388802369465 tw15841571598471629716 tw3376449167701139029 tw5756236897496192745 tw11225360065266441972 tw604858407913432662 tw723681735942424335 tw3341006121676990100 tw9843091187655233354 tw9149637330981670275 tw9156999759740924898 tw5078827883768619081 tw11878146727451209002 tw16996160003985478207 tw8003849634360557101 tw15975222494457117890 tw10170526163688679015 tw14476148570136121231 tw18201558051509683883 tw10223118308375714300 tw7782780784227941307 tw3482997485493999605 tw10270035442721234158 tw12228000628958144598 tw11234318875234457081 tw15155821506241385641 tw1378061050063102101 tw8693179687775285366 tw16531705004461316173 tw9267734781499914708 tw1813008019663875212 tw11434270796238673664 tw418008417820156753 tw4062900769256210814 tw17187952370678259735 tw4276972347090290983 tw10364134291939047461 tw8607720768666378948 tw5486522419458926863 tw14754626192907461131 tw15667554123268393694 tw6916153628758162103 tw16947839745375946266 tw3484791768407155655 tw13106888684862598413 tw5834717646827249866 tw15687675314185893270 tw3874351448366915175 tw5113254938609452765 tw14213421735425142074 tw11360297532374304071 tw17313422149245252757 tw5494639253829553184 tw893555553953579446 tw17875132286251108986 tw14795011114043008674 tw11321936097125905658 tw13121273932476888780 tw7396844152241070407 tw1380151778288000897 tw5680083591602255792 tw12448243409626053214 tw11340540771167729695 tw2668774689850980086 tw8506148910667005900 tw638238977604388895 tw9907922213216271432 tw7868500134075270238 tw11105120190232517792 tw6291898861098835304 tw12282718277196687025 tw16475157592629201664 tw12321940755532879710 tw14133198410106701977 tw3320660754382612990 tw4908039377244128018 tw8149516771638650845 tw10632065867282176589 tw487721105856945635 tw6097349922062564299 tw10881316233948677374 tw3113188913911512055 tw6503391795438072046 tw15521500039642669987 tw3229412808682644878 tw3968289579060763330 tw4938962579737374165 tw8095844498347704619 tw10364064826580242069 tw14540485667304902792 tw13550253917518026947 tw11634269144973110981 tw3718462427001705913 tw1609889849929008396 tw16711721726931451097 tw6716615961218064037 tw5316593524199935734 tw12321665570174551040 tw11740503941008804436 tw6660020125888019342 tw6090221243744164371 tw9259904451094831412 tw1931694961076713628 tw5068884984761794866 tw16058247967693381719 tw2119184335938278160 tw13445532916808659883 tw3492338179094939443 tw14509427074948635526 tw9856136763971093758 tw13707785967112739341 tw1490658927508063986 tw14945413494077650900 tw16327652263453967200 tw1994762671343466444 tw11039829564710858464 tw10160602339362677634 tw8528098553686545825 tw11315680709480780372 tw13426780689615534937 tw16599574096014276683 tw10630509842097237933 tw6226724101131959716 tw16863462837803391872 tw16984257659309305100 tw14945298269805711360 tw867622297849081379 tw13373784431754747598 tw11797179369263311154 tw8662874613634577988 tw14526341581258863919 tw9116541557033563977 tw9806478328826869570 tw12382498131357385108 tw10814419761998666283 tw15809338017769084313 tw16646098965525870441 tw14434989354261489755 tw12338820200218281910 tw15816790416595641835 tw4538664999969678341 tw7725956555985429008 tw12773290049825773439 tw9423900680062299128 tw18135810702434742947 tw16086177160512039654 tw662323139594353827 tw8239900709937126133 tw9147319126471952185 tw16525926179479453481 tw10983798592578774300 tw7339723609427838408 tw9549606179844901298 tw18245986511701974484 tw2704661955845156936 tw11156190664981897214 tw3805569736703091758 tw3652198180915996253 tw12700217179063552654 tw6421743160389979205 tw7874836863657684629 tw3809716414191981632 tw8240253779695706230 tw13444536819905215733 tw4450459241987419329 tw2459860500859438109 tw4173402483122572478 tw2602796315266133120 tw10307268405304151699 tw9781286479198008245 tw17074947856349325447 tw2749271087196019674 tw342342812175489726 tw16855307005934985262 tw6061997872174007677 tw17344331395547833752 tw17275189393449886306 tw1305244156752406450 tw3514112806578785919 tw16107155865971902894 tw10510394618819713801 tw4498786287180709235 tw7492967070129988593 tw1036378631371751367 tw4924464985422072563 tw9047227189639397963 tw4964184376676868728 tw13549757427066608330 tw11137804610141448459 tw9853625816360902095 tw12050972030018952757 tw496628151917600717 tw9186211340475784283 tw7818002447467059000 tw8351946097225891537 tw13021864508119494447 tw16799572284542218825 tw6808988127565478291 tw16708078568891657671 tw3830270287482826274 tw14730099478859057319 tw6653041669283787223 tw7039640491783180875 tw12047885792209768578 tw6300431628025633572 tw3761555085932523863 tw13669637806042263270 tw16809252498095922764 tw4709186121033301253 tw398004464606015424 tw7440982759300713751 tw8717251375690644297 tw9903084073624742564 tw2900389026229502708 tw996591159648140288 tw7136161056726866898 tw6492770411634895197 tw9566687512304452352 tw8753983642088990704 tw8888573466167025501 tw8587272098282410063 tw2547997065467790561 tw1239948618984359054 tw9222174423569109701 tw3765587743166529374 tw15269031319910894881 tw10664430740148881885 tw10885887170860333165 tw5114133641211989240 tw14223170569156598321 tw371801490368382328 tw5573240539802537920 tw6292057226056002811 tw13363510452229444125 tw7946610257072907265 tw16161370213251958639 tw13666420813607282890 tw4614385801481092638 tw2753697691571181536 tw13188192291285469086 tw541642220976315121 tw9228116150118091511 tw5059216427371182337 tw17081916177253831239 tw8518546363435481682 tw16495909703955310442 tw13362507776405584486 tw6104914504173707510 tw665905192334000402 tw13883787419374821932 tw6365055687820745084 tw2151947407890455146 tw12436724707452613885 tw2132044056762240335 tw15101948141950021972 tw10130404340278410320 tw2626845027742876486 tw16596290535676040197 tw2352329735131892552 tw1755023253885794009 tw11680816991394586109 tw15760255473638839937 tw13189423574679397685 tw10191257071699768515 tw13187263885072911749 tw7578971848494003696 tw13927785340003369598 tw8458659075573802330 tw8516373812245667906 tw2752407467767585013 tw14828746844594592899 tw11469092069768297937 tw14271634664378133004 tw10204072183117980288 tw11600920574913262761 tw10436989953592029173 tw10305432033196390354 tw11460632045432659985 tw17635580166513903258 tw2095686143912670874 tw1588577772271377656 tw5047831340750022324 tw5687739898794030576 tw6199051901674678530 tw10857657656940588052 tw10949601355983169102 tw7502040669519426558 tw16650129669834293066 tw16090114051238812670 tw14933908963858017392 tw6915854078999454987 tw13436456073976832941 tw15526988733292936210 tw17064438519765793714 tw3714164751882689868 tw5552789594377044833 tw3578738621321479177 tw11616291177698825808 tw1797945421742108115 tw1202561940789580475 tw8951699624504582083 tw12399012621226337199 tw15173654737619259579 tw9422309372020507777 tw2656179730760635644 tw8701530150751167960 tw12303170643569063815 tw13252291220997384391 tw13680117329217606424 tw3581264103366535801 tw15065249140314742767 tw8295226165085198116 tw2333555826100723586 tw9559279007587477227 tw1839541348366488669 tw278067047997790430 tw119482061793372049 tw8318407138908330273 tw78572572224856910 tw16012096253253830024 tw10920360432624773634 tw8576333923717099916 tw11022645973962233858 tw11976158034235247294 tw7317656968937561343 tw16237750733931714360 tw9767223178511991430 tw4895693974641524249 tw1293847354560487959 tw4731127890636910218 tw1533587257677116805 tw6352214602573251344 tw896369637753873334 tw4864799414113631556 tw9646627066366859777 tw7334280532693158833 tw4454425495140741834 tw8608044469518797344 tw13456857709870984138 tw3963034760070912948 tw14356483908075042872 tw12250316178746333020 tw13632717406319996474 tw1397962697765627621 tw8716122186298576436 tw2632174409720553137 tw17902718417298960183 tw2214913762126030645 tw11020534327863277897 tw7744072183060338879 tw14823707015477986726 tw4366463891775156701 tw8924514372270599951 tw11329103799773387143 tw12514280721954973966 tw17326943002618429604 tw3134952917519148625 tw10285313460962629580 tw2312655865872925527 tw11897612687367079714 tw3411185519841987089 tw17039465141625774759 tw6609771259341822201 tw12157099078068004758 tw11648888301977669346 tw11239089009327867673 tw13290414031208262870 tw17703660731756321001 tw12609649341106704897 tw891955969514753972 tw13649813495873357323 tw13988198125976158511 tw2485144314442057097 tw9236964068478966872 tw13656211842567567006 tw2783585913635905045 tw307063714471652753 tw3435919679391959981 tw14241121923700601442 tw16077537915971662965 tw1103417770512712956 tw16671779640569784328 tw17838763969474455348 tw15309866184193913423 tw3302108554867064921 tw12224376334596012208 tw8939640298588168608 tw10380429687332376027 tw12379555570847328865 tw7927502970243602099 tw1813489112814554733 tw7253333968899522870 tw3618856926018129971 tw18276843879457536104 tw3750710529626839072 tw15826090434698509957 tw2666532756967988851 tw16591247826919353723 tw1727733821718497544 tw11926816036351170490 tw11454072984020078168 tw15714556885586769018 tw16406794120533477397 tw7017365304940222424 tw10060980294778102345 tw2222443674719377563 tw13892372871746946136 tw18027538467247375617 tw17041212860182447952 tw16302902421147977270 tw3111752458025463228 tw14354881385567123482 tw17404904339246200890 tw1172887916832135982 tw5987363308143712764 tw10283676112772467618 tw5998382873393011458 tw4318305006485020944 tw10696271351615862568 tw12530691549381041788 tw16082998453310617417 tw9283209745810814395 tw6547485865996076645 tw15794235003944203535 tw6493809012169365506 tw17167880030686211404 tw10369366413757953369 tw2709626163901649685 tw6770454874074920408 tw2536460969638126750 tw4809265909232289225 tw2128670900283905613 tw13647193591750030646 tw18376147716220008176 tw8845285726142543077 tw2785439748089050107 tw604189587629634232 tw16143945511963847758 tw3252051108353146890 tw6899966369302072216 tw13158053151132446325 tw7284465977613239816 tw13099734742876768476 tw12582420773878439757 tw8550940191287180415 tw10061233678269739028 tw7803865637924660581 tw8967045197729336279 tw15656506640515865743 tw15707017588330661201 tw12027796560314817974 tw7488192487265161519 tw15566066135277747223 tw11721046281233825897 tw14576767805797078033 tw2871346053232419693 tw16201618240923494661 tw16637998301240919016 tw5553445048948310858 tw8184486971465475751:True)
open PySem PySem.W PyProof.Rows
set_option maxRecDepth 100000 in
set_option maxHeartbeats 0 in
theorem PySem.Challenge.cw_guessroom_k59_whole_any_say_teacher_holds : PySem.Challenge.rw_guessroom_k59_whole_any_say_teacher.Holds := by
  w_on; o_law; k_head; (case hw => w_witness2)
  k_fill
  refine Mine.walk (l := PySem.Challenge.rw_guessroom_k59_whole_any_say_teacher) rfl rfl (fun w h Y => PySem.W.kIn_of Y) ?F
  case F =>
    intro w mg fa h KX G hmg
    refine' Mine.all_mk KX G hmg ?aC_j7 ?pg_j7 ?hd_j7 ?po_j7 ?sa_j7 ?mk_j7 ?kc_j7 ?n_letters_Book ?n_marks_Book ?aC_j9 ?aC_ji ?aC_ja ?aC_j1 ?pg_j1 ?hd_j1 ?po_j1 ?sa_j1 ?mk_j1 ?kc_j1 ?n_book_SayHunt ?n_ends_SayHunt ?n_gaps_SayHunt ?n_guess_SayHunt ?n_letters_SayHunt ?n_most_SayHunt ?n_ways_SayHunt ?n_wish_SayHunt ?n_wrong_SayHunt ?aC_j4 ?pg_j4 ?hd_j4 ?po_j4 ?sa_j4 ?mk_j4 ?kc_j4 ?n_hunt_SayAsker ?n_letters_SayAsker ?q_j2d ?a_j1q ?i_j1q ?l_j1q ?c_j1q ?k_j1q ?a_j26 ?l_j26 ?c_j26 ?k_j26 ?a_j1s ?l_j1s ?c_j1s ?k_j1s ?a_j2a ?l_j2a ?c_j2a ?k_j2a ?a_j1p ?i_j1p ?l_j1p ?c_j1p ?k_j1p ?a_j29 ?l_j29 ?c_j29 ?k_j29 ?a_jx ?i_jx ?l_jx ?c_jx ?k_jx ?a_j28 ?l_j28 ?c_j28 ?k_j28 ?a_j2b ?l_j2b ?c_j2b ?k_j2b ?a_jc ?i_jc ?l_jc ?c_jc ?k_jc ?a_j10 ?l_j10 ?c_j10 ?k_j10 ?a_j2c ?l_j2c ?c_j2c ?k_j2c ?a_j1y ?l_j1y ?c_j1y ?k_j1y ?a_jp ?i_jp ?l_jp ?c_jp ?k_jp ?a_j16 ?i_j16 ?l_j16 ?c_j16 ?k_j16 ?a_j23 ?l_j23 ?c_j23 ?k_j23 ?a_j1l ?l_j1l ?c_j1l ?k_j1l ?a_j1g ?l_j1g ?c_j1g ?k_j1g ?a_jg ?i_jg ?l_jg ?c_jg ?k_jg ?a_j1c ?i_j1c ?l_j1c ?c_j1c ?k_j1c ?a_j1m ?l_j1m ?c_j1m ?k_j1m ?a_jh ?i_jh ?l_jh ?c_jh ?k_jh ?a_je ?i_je ?l_je ?c_je ?k_je ?a_j24 ?l_j24 ?c_j24 ?k_j24 ?a_jd ?i_jd ?l_jd ?c_jd ?k_jd ?a_jo ?i_jo ?l_jo ?c_jo ?k_jo ?a_j14 ?i_j14 ?l_j14 ?c_j14 ?k_j14 ?sg_jz ?rd_jz ?a_jz ?l_jz ?c_jz ?k_jz ?sg_j17 ?rd_j17 ?a_j17 ?l_j17 ?c_j17 ?k_j17 ?a_jf ?i_jf ?l_jf ?c_jf ?k_jf ?a_j1k ?i_j1k ?l_j1k ?c_j1k ?k_j1k ?a_ju ?i_ju ?l_ju ?c_ju ?k_ju ?a_j15 ?i_j15 ?l_j15 ?c_j15 ?k_j15 ?a_jn ?i_jn ?l_jn ?c_jn ?k_jn ?a_jw ?i_jw ?l_jw ?c_jw ?k_jw ?a_jl ?i_jl ?l_jl ?c_jl ?k_jl ?a_j1e ?i_j1e ?l_j1e ?c_j1e ?k_j1e ?a_js ?i_js ?l_js ?c_js ?k_js ?a_j1z ?l_j1z ?c_j1z ?k_j1z ?a_j13 ?i_j13 ?l_j13 ?c_j13 ?k_j13 ?a_jq ?i_jq ?l_jq ?c_jq ?k_jq ?a_j27 ?l_j27 ?c_j27 ?k_j27 ?a_j1t ?l_j1t ?c_j1t ?k_j1t ?a_j1b ?i_j1b ?l_j1b ?c_j1b ?k_j1b ?a_j1r ?i_j1r ?l_j1r ?c_j1r ?k_j1r ?a_jj ?i_jj ?l_jj ?c_jj ?k_jj ?a_jk ?i_jk ?l_jk ?c_jk ?k_jk ?a_j1f ?i_j1f ?l_j1f ?c_j1f ?k_j1f ?a_jt ?i_jt ?l_jt ?c_jt ?k_jt ?a_j25 ?l_j25 ?c_j25 ?k_j25 ?a_j20 ?l_j20 ?c_j20 ?k_j20 ?a_j1w ?l_j1w ?c_j1w ?k_j1w ?a_j1u ?l_j1u ?c_j1u ?k_j1u ?a_j1n ?l_j1n ?c_j1n ?k_j1n ?a_j1a ?l_j1a ?c_j1a ?k_j1a ?a_j11 ?l_j11 ?c_j11 ?k_j11 ?a_jv ?l_jv ?c_jv ?k_jv ?a_j18 ?l_j18 ?c_j18 ?k_j18 ?a_j1v ?l_j1v ?c_j1v ?k_j1v ?a_j1j ?l_j1j ?c_j1j ?k_j1j ?a_j1d ?i_j1d ?l_j1d ?c_j1d ?k_j1d ?a_jr ?i_jr ?l_jr ?c_jr ?k_jr ?a_j1h ?l_j1h ?c_j1h ?k_j1h ?a_j1i ?l_j1i ?c_j1i ?k_j1i ?a_j21 ?l_j21 ?c_j21 ?k_j21 ?a_j19 ?l_j19 ?c_j19 ?k_j19 ?a_j12 ?l_j12 ?c_j12 ?k_j12 ?a_jb ?i_jb ?l_jb ?c_jb ?k_jb ?a_jy ?i_jy ?l_jy ?c_jy ?k_jy ?a_jm ?i_jm ?l_jm ?c_jm ?k_jm ?a_j1o ?l_j1o ?c_j1o ?k_j1o ?a_j1x ?l_j1x ?c_j1x ?k_j1x ?a_j22 ?l_j22 ?c_j22 ?k_j22 ?a_j2e ?l_j2e ?c_j2e ?k_j2e ?z_all ?z_bool ?z_enumerate ?z_int ?z_isinstance ?z_len ?z_list ?z_max ?z_range ?z_tuple ?z_zip ?m_j8 ?m_j5 ?m_j6 ?m_j3 ?m_j2 ?m_j0 ?x_j5 ?ga_j5 ?hk_j5 ?cl_j5 ?ca_j5 ?mo_j5 ?mb_j5 ?e_j5 ?v_j5 ?ee_j5 ?k_j5_j8 ?k_j5_j5 ?k_j5_j6 ?k_j5_j3 ?k_j5_j2 ?k_j5_j0 ?x_j6 ?ga_j6 ?hk_j6 ?cl_j6 ?ca_j6 ?mo_j6 ?mb_j6 ?e_j6 ?v_j6 ?ee_j6 ?k_j6_j8 ?k_j6_j5 ?k_j6_j6 ?k_j6_j3 ?k_j6_j2 ?k_j6_j0 ?x_j3 ?ga_j3 ?hk_j3 ?cl_j3 ?ca_j3 ?mo_j3 ?mb_j3 ?e_j3 ?v_j3 ?ee_j3 ?k_j3_j8 ?k_j3_j5 ?k_j3_j6 ?k_j3_j3 ?k_j3_j2 ?k_j3_j0 ?x_j2 ?ga_j2 ?hk_j2 ?cl_j2 ?ca_j2 ?mo_j2 ?mb_j2 ?e_j2 ?v_j2 ?ee_j2 ?k_j2_j8 ?k_j2_j5 ?k_j2_j6 ?k_j2_j3 ?k_j2_j2 ?k_j2_j0 ?x_j0 ?ga_j0 ?hk_j0 ?cl_j0 ?ca_j0 ?mo_j0 ?mb_j0 ?e_j0 ?v_j0 ?ee_j0 ?k_j0_j8 ?k_j0_j5 ?k_j0_j6 ?k_j0_j3 ?k_j0_j2 ?k_j0_j0 ?gs ?tk
    (case aC_j7 => k_is)
    (case pg_j7 => k_is)
    (case hd_j7 => k_is)
    (case po_j7 => k_is)
    (case sa_j7 => k_is)
    (case mk_j7 => k_is)
    (case kc_j7 => k_is)
    (case n_letters_Book => k_is)
    (case n_marks_Book => k_is)
    (case aC_j9 => k_is)
    (case aC_ji => k_is)
    (case aC_ja => k_is)
    (case aC_j1 => k_is)
    (case pg_j1 => k_is)
    (case hd_j1 => k_is)
    (case po_j1 => k_is)
    (case sa_j1 => k_is)
    (case mk_j1 => k_is)
    (case kc_j1 => k_is)
    (case n_book_SayHunt => k_is)
    (case n_ends_SayHunt => k_is)
    (case n_gaps_SayHunt => k_is)
    (case n_guess_SayHunt => k_is)
    (case n_letters_SayHunt => k_is)
    (case n_most_SayHunt => k_is)
    (case n_ways_SayHunt => k_is)
    (case n_wish_SayHunt => k_is)
    (case n_wrong_SayHunt => k_is)
    (case aC_j4 => k_is)
    (case pg_j4 => k_is)
    (case hd_j4 => k_is)
    (case po_j4 => k_is)
    (case sa_j4 => k_is)
    (case mk_j4 => k_is)
    (case kc_j4 => k_is)
    (case n_hunt_SayAsker => k_is)
    (case n_letters_SayAsker => k_is)
    (case q_j2d => k_is)
    (case a_j1q => k_is)
    (case i_j1q => k_is)
    (case l_j1q => k_is)
    (case c_j1q => k_is)
    (case k_j1q => k_is)
    (case a_j26 => k_is)
    (case l_j26 => k_is)
    (case c_j26 => k_is)
    (case k_j26 => k_is)
    (case a_j1s => k_is)
    (case l_j1s => k_is)
    (case c_j1s => k_is)
    (case k_j1s => k_is)
    (case a_j2a => k_is)
    (case l_j2a => k_is)
    (case c_j2a => k_is)
    (case k_j2a => k_is)
    (case a_j1p => k_is)
    (case i_j1p => k_is)
    (case l_j1p => k_is)
    (case c_j1p => k_is)
    (case k_j1p => k_is)
    (case a_j29 => k_is)
    (case l_j29 => k_is)
    (case c_j29 => k_is)
    (case k_j29 => k_is)
    (case a_jx => k_is)
    (case i_jx => k_is)
    (case l_jx => k_is)
    (case c_jx => k_is)
    (case k_jx => k_is)
    (case a_j28 => k_is)
    (case l_j28 => k_is)
    (case c_j28 => k_is)
    (case k_j28 => k_is)
    (case a_j2b => k_is)
    (case l_j2b => k_is)
    (case c_j2b => k_is)
    (case k_j2b => k_is)
    (case a_jc => k_is)
    (case i_jc => k_is)
    (case l_jc => k_is)
    (case c_jc => k_is)
    (case k_jc => k_is)
    (case a_j10 => k_is)
    (case l_j10 => k_is)
    (case c_j10 => k_is)
    (case k_j10 => k_is)
    (case a_j2c => k_is)
    (case l_j2c => k_is)
    (case c_j2c => k_is)
    (case k_j2c => k_is)
    (case a_j1y => k_is)
    (case l_j1y => k_is)
    (case c_j1y => k_is)
    (case k_j1y => k_is)
    (case a_jp => k_is)
    (case i_jp => k_is)
    (case l_jp => k_is)
    (case c_jp => k_is)
    (case k_jp => k_is)
    (case a_j16 => k_is)
    (case i_j16 => k_is)
    (case l_j16 => k_is)
    (case c_j16 => k_is)
    (case k_j16 => k_is)
    (case a_j23 => k_is)
    (case l_j23 => k_is)
    (case c_j23 => k_is)
    (case k_j23 => k_is)
    (case a_j1l => k_is)
    (case l_j1l => k_is)
    (case c_j1l => k_is)
    (case k_j1l => k_is)
    (case a_j1g => k_is)
    (case l_j1g => k_is)
    (case c_j1g => k_is)
    (case k_j1g => k_is)
    (case a_jg => k_is)
    (case i_jg => k_is)
    (case l_jg => k_is)
    (case c_jg => k_is)
    (case k_jg => k_is)
    (case a_j1c => k_is)
    (case i_j1c => k_is)
    (case l_j1c => k_is)
    (case c_j1c => k_is)
    (case k_j1c => k_is)
    (case a_j1m => k_is)
    (case l_j1m => k_is)
    (case c_j1m => k_is)
    (case k_j1m => k_is)
    (case a_jh => k_is)
    (case i_jh => k_is)
    (case l_jh => k_is)
    (case c_jh => k_is)
    (case k_jh => k_is)
    (case a_je => k_is)
    (case i_je => k_is)
    (case l_je => k_is)
    (case c_je => k_is)
    (case k_je => k_is)
    (case a_j24 => k_is)
    (case l_j24 => k_is)
    (case c_j24 => k_is)
    (case k_j24 => k_is)
    (case a_jd => k_is)
    (case i_jd => k_is)
    (case l_jd => k_is)
    (case c_jd => k_is)
    (case k_jd => k_is)
    (case a_jo => k_is)
    (case i_jo => k_is)
    (case l_jo => k_is)
    (case c_jo => k_is)
    (case k_jo => k_is)
    (case a_j14 => k_is)
    (case i_j14 => k_is)
    (case l_j14 => k_is)
    (case c_j14 => k_is)
    (case k_j14 => k_is)
    (case sg_jz => k_is)
    (case rd_jz => k_is)
    (case a_jz => k_is)
    (case l_jz => k_is)
    (case c_jz => k_is)
    (case k_jz => k_is)
    (case sg_j17 => k_is)
    (case rd_j17 => k_is)
    (case a_j17 => k_is)
    (case l_j17 => k_is)
    (case c_j17 => k_is)
    (case k_j17 => k_is)
    (case a_jf => k_is)
    (case i_jf => k_is)
    (case l_jf => k_is)
    (case c_jf => k_is)
    (case k_jf => k_is)
    (case a_j1k => k_is)
    (case i_j1k => k_is)
    (case l_j1k => k_is)
    (case c_j1k => k_is)
    (case k_j1k => k_is)
    (case a_ju => k_is)
    (case i_ju => k_is)
    (case l_ju => k_is)
    (case c_ju => k_is)
    (case k_ju => k_is)
    (case a_j15 => k_is)
    (case i_j15 => k_is)
    (case l_j15 => k_is)
    (case c_j15 => k_is)
    (case k_j15 => k_is)
    (case a_jn => k_is)
    (case i_jn => k_is)
    (case l_jn => k_is)
    (case c_jn => k_is)
    (case k_jn => k_is)
    (case a_jw => k_is)
    (case i_jw => k_is)
    (case l_jw => k_is)
    (case c_jw => k_is)
    (case k_jw => k_is)
    (case a_jl => k_is)
    (case i_jl => k_is)
    (case l_jl => k_is)
    (case c_jl => k_is)
    (case k_jl => k_is)
    (case a_j1e => k_is)
    (case i_j1e => k_is)
    (case l_j1e => k_is)
    (case c_j1e => k_is)
    (case k_j1e => k_is)
    (case a_js => k_is)
    (case i_js => k_is)
    (case l_js => k_is)
    (case c_js => k_is)
    (case k_js => k_is)
    (case a_j1z => k_is)
    (case l_j1z => k_is)
    (case c_j1z => k_is)
    (case k_j1z => k_is)
    (case a_j13 => k_is)
    (case i_j13 => k_is)
    (case l_j13 => k_is)
    (case c_j13 => k_is)
    (case k_j13 => k_is)
    (case a_jq => k_is)
    (case i_jq => k_is)
    (case l_jq => k_is)
    (case c_jq => k_is)
    (case k_jq => k_is)
    (case a_j27 => k_is)
    (case l_j27 => k_is)
    (case c_j27 => k_is)
    (case k_j27 => k_is)
    (case a_j1t => k_is)
    (case l_j1t => k_is)
    (case c_j1t => k_is)
    (case k_j1t => k_is)
    (case a_j1b => k_is)
    (case i_j1b => k_is)
    (case l_j1b => k_is)
    (case c_j1b => k_is)
    (case k_j1b => k_is)
    (case a_j1r => k_is)
    (case i_j1r => k_is)
    (case l_j1r => k_is)
    (case c_j1r => k_is)
    (case k_j1r => k_is)
    (case a_jj => k_is)
    (case i_jj => k_is)
    (case l_jj => k_is)
    (case c_jj => k_is)
    (case k_jj => k_is)
    (case a_jk => k_is)
    (case i_jk => k_is)
    (case l_jk => k_is)
    (case c_jk => k_is)
    (case k_jk => k_is)
    (case a_j1f => k_is)
    (case i_j1f => k_is)
    (case l_j1f => k_is)
    (case c_j1f => k_is)
    (case k_j1f => k_is)
    (case a_jt => k_is)
    (case i_jt => k_is)
    (case l_jt => k_is)
    (case c_jt => k_is)
    (case k_jt => k_is)
    (case a_j25 => k_is)
    (case l_j25 => k_is)
    (case c_j25 => k_is)
    (case k_j25 => k_is)
    (case a_j20 => k_is)
    (case l_j20 => k_is)
    (case c_j20 => k_is)
    (case k_j20 => k_is)
    (case a_j1w => k_is)
    (case l_j1w => k_is)
    (case c_j1w => k_is)
    (case k_j1w => k_is)
    (case a_j1u => k_is)
    (case l_j1u => k_is)
    (case c_j1u => k_is)
    (case k_j1u => k_is)
    (case a_j1n => k_is)
    (case l_j1n => k_is)
    (case c_j1n => k_is)
    (case k_j1n => k_is)
    (case a_j1a => k_is)
    (case l_j1a => k_is)
    (case c_j1a => k_is)
    (case k_j1a => k_is)
    (case a_j11 => k_is)
    (case l_j11 => k_is)
    (case c_j11 => k_is)
    (case k_j11 => k_is)
    (case a_jv => k_is)
    (case l_jv => k_is)
    (case c_jv => k_is)
    (case k_jv => k_is)
    (case a_j18 => k_is)
    (case l_j18 => k_is)
    (case c_j18 => k_is)
    (case k_j18 => k_is)
    (case a_j1v => k_is)
    (case l_j1v => k_is)
    (case c_j1v => k_is)
    (case k_j1v => k_is)
    (case a_j1j => k_is)
    (case l_j1j => k_is)
    (case c_j1j => k_is)
    (case k_j1j => k_is)
    (case a_j1d => k_is)
    (case i_j1d => k_is)
    (case l_j1d => k_is)
    (case c_j1d => k_is)
    (case k_j1d => k_is)
    (case a_jr => k_is)
    (case i_jr => k_is)
    (case l_jr => k_is)
    (case c_jr => k_is)
    (case k_jr => k_is)
    (case a_j1h => k_is)
    (case l_j1h => k_is)
    (case c_j1h => k_is)
    (case k_j1h => k_is)
    (case a_j1i => k_is)
    (case l_j1i => k_is)
    (case c_j1i => k_is)
    (case k_j1i => k_is)
    (case a_j21 => k_is)
    (case l_j21 => k_is)
    (case c_j21 => k_is)
    (case k_j21 => k_is)
    (case a_j19 => k_is)
    (case l_j19 => k_is)
    (case c_j19 => k_is)
    (case k_j19 => k_is)
    (case a_j12 => k_is)
    (case l_j12 => k_is)
    (case c_j12 => k_is)
    (case k_j12 => k_is)
    (case a_jb => k_is)
    (case i_jb => k_is)
    (case l_jb => k_is)
    (case c_jb => k_is)
    (case k_jb => k_is)
    (case a_jy => k_is)
    (case i_jy => k_is)
    (case l_jy => k_is)
    (case c_jy => k_is)
    (case k_jy => k_is)
    (case a_jm => k_is)
    (case i_jm => k_is)
    (case l_jm => k_is)
    (case c_jm => k_is)
    (case k_jm => k_is)
    (case a_j1o => k_is)
    (case l_j1o => k_is)
    (case c_j1o => k_is)
    (case k_j1o => k_is)
    (case a_j1x => k_is)
    (case l_j1x => k_is)
    (case c_j1x => k_is)
    (case k_j1x => k_is)
    (case a_j22 => k_is)
    (case l_j22 => k_is)
    (case c_j22 => k_is)
    (case k_j22 => k_is)
    (case a_j2e => k_is)
    (case l_j2e => k_is)
    (case c_j2e => k_is)
    (case k_j2e => k_is)
    (case z_all => k_is)
    (case z_bool => k_is)
    (case z_enumerate => k_is)
    (case z_int => k_is)
    (case z_isinstance => k_is)
    (case z_len => k_is)
    (case z_list => k_is)
    (case z_max => k_is)
    (case z_range => k_is)
    (case z_tuple => k_is)
    (case z_zip => k_is)
    (case m_j8 => k_is)
    (case m_j5 => k_is)
    (case m_j6 => k_is)
    (case m_j3 => k_is)
    (case m_j2 => k_is)
    (case m_j0 => k_is)
    (case x_j5 => k_exc)
    (case ga_j5 => k_is)
    (case hk_j5 => k_is)
    (case cl_j5 => k_is)
    (case ca_j5 => k_is)
    (case mo_j5 => k_is)
    (case mb_j5 => k_is)
    (case e_j5 => kts_exm)
    (case v_j5 => kit_is)
    (case ee_j5 => kts_exm)
    (case k_j5_j8 => kit_is)
    (case k_j5_j5 => kit_is)
    (case k_j5_j6 => kit_is)
    (case k_j5_j3 => kit_is)
    (case k_j5_j2 => kit_is)
    (case k_j5_j0 => kit_is)
    (case x_j6 => k_exc)
    (case ga_j6 => k_is)
    (case hk_j6 => k_is)
    (case cl_j6 => k_is)
    (case ca_j6 => k_is)
    (case mo_j6 => k_is)
    (case mb_j6 => k_is)
    (case e_j6 => kts_exm)
    (case v_j6 => kit_is)
    (case ee_j6 => kts_exm)
    (case k_j6_j8 => kit_is)
    (case k_j6_j5 => kit_is)
    (case k_j6_j6 => kit_is)
    (case k_j6_j3 => kit_is)
    (case k_j6_j2 => kit_is)
    (case k_j6_j0 => kit_is)
    (case x_j3 => k_exc)
    (case ga_j3 => k_is)
    (case hk_j3 => k_is)
    (case cl_j3 => k_is)
    (case ca_j3 => k_is)
    (case mo_j3 => k_is)
    (case mb_j3 => k_is)
    (case e_j3 => kts_exm)
    (case v_j3 => kit_is)
    (case ee_j3 => kts_exm)
    (case k_j3_j8 => kit_is)
    (case k_j3_j5 => kit_is)
    (case k_j3_j6 => kit_is)
    (case k_j3_j3 => kit_is)
    (case k_j3_j2 => kit_is)
    (case k_j3_j0 => kit_is)
    (case x_j2 => k_exc)
    (case ga_j2 => k_is)
    (case hk_j2 => k_is)
    (case cl_j2 => k_is)
    (case ca_j2 => k_is)
    (case mo_j2 => k_is)
    (case mb_j2 => k_is)
    (case e_j2 => kts_exm)
    (case v_j2 => kit_is)
    (case ee_j2 => kts_exm)
    (case k_j2_j8 => kit_is)
    (case k_j2_j5 => kit_is)
    (case k_j2_j6 => kit_is)
    (case k_j2_j3 => kit_is)
    (case k_j2_j2 => kit_is)
    (case k_j2_j0 => kit_is)
    (case x_j0 => k_exc)
    (case ga_j0 => k_is)
    (case hk_j0 => k_is)
    (case cl_j0 => k_is)
    (case ca_j0 => k_is)
    (case mo_j0 => k_is)
    (case mb_j0 => k_is)
    (case e_j0 => kts_exm)
    (case v_j0 => kit_is)
    (case ee_j0 => kts_exm)
    (case k_j0_j8 => kit_is)
    (case k_j0_j5 => kit_is)
    (case k_j0_j6 => kit_is)
    (case k_j0_j3 => kit_is)
    (case k_j0_j2 => kit_is)
    (case k_j0_j0 => kit_is)
    (case gs => k_is)
    (case tk => k_is)
