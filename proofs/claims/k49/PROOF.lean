import PyProof.Rows.All
import Wide.All
import OpenK.AllK
import Wide.FinOn
import Lean
import PyProof.EqAt
import PyProof.EqKinds
import PyProof.TupleCall
import KE.KRevIter
import PyProof.ListRange
import PyProof.TupleOfGen
import PyProof.Draws
import PyProof.EnumMake
import PyProof.EnumFor
import PyProof.NeKinds
import KE.KDictList
import PyProof.Rows.TupDisplay
import PyProof.ZipIter
import PyProof.Rows.ZipGen
import KE.KItemsList
import PyProof.Rows.SumAny
import PyProof.StrWalks
import PyProof.StrCalls
import PyProof.StrCalls3
import PyProof.StrLawsFirst
import PyProof.StrLawsIn
import PyProof.SliceStr2
import PyProof.StrBlockI
import PyProof.Rows.StrWeight2
import PyProof.ListNew
import PyProof.DictRoadsH
import PyProof.WalkInts
import PyProof.Rows.MinMaxN
import KE.KDictLaws
import PyProof.StrCalls2
import PyProof.StrLawsChain
import KE.KIntText
import KE.KxText
import KE.KMinKey
import KE.KPairComp
import PyProof.MaxThree
import PyProof.DictValues
import OpenK.KCls
import PyProof.Rows.SortShellK
import KE.KSortTup
import KE.KLam
import KE.KNestM
import PyProof.AttrMissHeap
import KE.KDictOf
import PyProof.TupleKey
import PyProof.SetKind
import PyProof.IsRules
import PyProof.Rows.SetFrom
import PySem.Challenge.RW_guessroom_k49_papers_judged
set_option Elab.async false
set_option linter.all false
set_option maxRecDepth 100000
namespace L2
open PySem PySem.Spec PyProof.Rows
abbrev Key:=Sum Int Str
def keyIs:Key->Value->Bool
 |.inl k,v=>Value.isInt k v
 |.inr x,v=>Value.isStrOf x v
def keyH (w:World):Key->Int
 |.inl k=>hashInt k
 |.inr x=>hashStr w x
theorem keyIs_shape:∀{k:Key} {v:Value},keyIs k v=true->(∃i t,k=Sum.inl i/\v=Value.int i t)\/(∃x t,k=Sum.inr x/\v=Value.str x t)
 |.inl i,v,h=>by
  obtain⟨t,e⟩:=Value.isInt_shape (k:=i) (v:=v) h
  exact .inl ⟨i,t,rfl,e⟩
 |.inr x,v,h=>by
  obtain⟨t,e⟩:=Value.isStrOf_shape (x:=x) (v:=v) h
  exact .inr ⟨x,t,rfl,e⟩
theorem keyIs_int (i:Int)(t:Tok):keyIs (.inl i) (.int i t)=true:=by simp[keyIs,Value.isInt]
theorem keyIs_str (x:Str)(t:Tok):keyIs (.inr x) (.str x t)=true:=by simp[keyIs,Value.isStrOf]
theorem key_ll (a b:Int):decide ((Sum.inl a:Key)=Sum.inl b)=(a==b):=by
 by_cases e:a=b
 ·subst e;simp
 ·have h:¬ (Sum.inl a:Key)=Sum.inl b:=fun q=>e (Sum.inl.inj q)
  rw[decide_eq_false h]
  exact (beq_eq_false_iff_ne.mpr e).symm
theorem key_rr (a b:Str):decide ((Sum.inr a:Key)=Sum.inr b)=decide (a=b):=by
 by_cases e:a=b
 ·subst e;simp
 ·have h:¬ (Sum.inr a:Key)=Sum.inr b:=fun q=>e (Sum.inr.inj q)
  rw[decide_eq_false h,decide_eq_false e]
theorem key_lr (a:Int)(b:Str):decide ((Sum.inl a:Key)=Sum.inr b)=false:=decide_eq_false (fun q=>nomatch q)
theorem key_rl (a:Str)(b:Int):decide ((Sum.inr a:Key)=Sum.inl b)=false:=decide_eq_false (fun q=>nomatch q)
def mixKind (prog:Program)(w:World):PySem.KeyKind prog w Key where
 is:=keyIs
 hash:=keyH w
 inj:=fun v a b ha hb=>by
  rcases keyIs_shape ha with ⟨i,t,rfl,rfl⟩|⟨x,t,rfl,rfl⟩
  ·rcases keyIs_shape hb with ⟨j,u,rfl,e⟩|⟨y,u,rfl,e⟩
   ·injection e with e1 _;rw[e1]
   ·exact nomatch e
  ·rcases keyIs_shape hb with ⟨j,u,rfl,e⟩|⟨y,u,rfl,e⟩
   ·exact nomatch e
   ·injection e with e1 _;rw[e1]
 byValue:=fun k v h=>by
  rcases keyIs_shape h with ⟨i,t,rfl,rfl⟩|⟨x,t,rfl,rfl⟩<;>rfl
 pyHash:=fun hv h=>by
  rcases keyIs_shape hv with ⟨i,t,rfl,rfl⟩|⟨x,t,rfl,rfl⟩
  ·exact wpAny_pyHash_int h
  ·exact wpAny_pyHash_str h
 eqBool:=fun hu hv h=>by
  rcases keyIs_shape hu with ⟨i,t,rfl,rfl⟩|⟨x,t,rfl,rfl⟩
  ·rcases keyIs_shape hv with ⟨j,u,rfl,rfl⟩|⟨y,u,rfl,rfl⟩
   ·rw[key_ll]at h;exact wpAny_eqBool_int h
   ·rw[key_lr]at h;exact SeqAt.EqAt.int_str i t y u _ _ _ _ h
  ·rcases keyIs_shape hv with ⟨j,u,rfl,rfl⟩|⟨y,u,rfl,rfl⟩
   ·rw[key_rl]at h;exact SeqAt.EqAt.str_int x t j u _ _ _ _ h
   ·rw[key_rr]at h;exact wpAny_eqBool_str h
 «strs» := fun k x t v h=>by
  rcases keyIs_shape h with ⟨i,u,rfl,e⟩|⟨y,u,rfl,e⟩
  ·exact nomatch e
  ·injection e with e1 _
   subst e1
   cases v<;>rfl
theorem mixKind_int (prog:Program)(w:World)(i:Int)(t:Tok):(mixKind prog w).is (.inl i) (.int i t)=true:=keyIs_int i t
theorem mixKind_str (prog:Program)(w:World)(x:Str)(t:Tok):(mixKind prog w).is (.inr x) (.str x t)=true:=keyIs_str x t
inductive V where
 | non|bl (b:Bool)|int (i:Int)|str (x:Str)|byt (b:Array UInt8)|flt (b:UInt64)|ref (a:Addr)|ty (n:String)
 deriving DecidableEq
def RelV:V->Value->Prop
 |.non,u=>u=Value.none
 |.bl b,u=>u=Value.bool b
 |.int i,u=>∃t,u=Value.int i t
 |.str x,u=>∃t,u=Value.str x t
 |.byt b,u=>∃t,u=Value.bytes b t
 |.flt b,u=>∃t,u=Value.float b t
 |.ref a,u=>u=Value.ref a
 |.ty n,u=>u=Value.type n
abbrev Vals:List V->List Value->Prop:=Paired RelV
theorem Vals.length {xs:List V}{us:List Value}(r:Vals xs us):xs.length=us.length:=Paired.length r
theorem Vals.get:∀{xs:List V} {us:List Value} {i:Nat} {x:V},Vals xs us->xs[i]?=some x->∃u,us[i]?=some u/\RelV x u
 |_,_,_,_,.nil,e=>by simp at e
 |_,_,0,_,.cons r _,e=>by simp at e;subst e;exact⟨_,rfl,r⟩
 |_,_,i+1,x,.cons _ t,e=>by
  obtain⟨u,h1,h2⟩:=Vals.get (i:=i) (x:=x) t (by simpa using e)
  exact⟨u,by simpa using h1,h2⟩
theorem Vals.set {x:V}{u:Value}(r:RelV x u):∀{xs:List V} {us:List Value} (i:Nat),Vals xs us->Vals (xs.set i x) (us.set i u)
 |_,_,_,.nil=>.nil
 |_,_,0,.cons _ t=>.cons r t
 |_,_,i+1,.cons q t=>.cons q (Vals.set r i t)
theorem Vals.append:∀{xs ys:List V} {us ws:List Value},Vals xs us->Vals ys ws->Vals (xs++ys) (us++ws)
 |_,_,_,_,.nil,s=>s
 |_,_,_,_,.cons r t,s=>.cons r (Vals.append t s)
theorem Vals.take:∀{xs:List V} {us:List Value} (n:Nat),Vals xs us->Vals (xs.take n) (us.take n)
 |_,_,0,_=>.nil
 |_,_,_+1,.nil=>.nil
 |_,_,n+1,.cons r t=>.cons r (Vals.take n t)
theorem Vals.drop:∀{xs:List V} {us:List Value} (n:Nat),Vals xs us->Vals (xs.drop n) (us.drop n)
 |_,_,0,r=>r
 |_,_,_+1,.nil=>.nil
 |_,_,n+1,.cons _ t=>Vals.drop n t
def RelO:Option V->Option Value->Prop
 |some v,some u=>RelV v u
 |none,none=>True
 |_,_=>False
def KV {κ:Type}:List (κ×V)->List (κ×Value)->Prop:=Paired fun (p:κ×V) (q:κ×Value)=>p.1=q.1/\RelV p.2 q.2
def kV:Key->V
 |.inl i=>.int i
 |.inr x=>.str x
inductive HO where
 | lst (xs:List V)
 | tup (xs:List V)
 | dK (kvs:List (Key×V))|dT (kvs:List (List Key×V))
 | set (S:Int->Bool) (n:Nat)
 | ins (C dx:Addr) (fs:List (Str×V))
 | own (x:Addr)
 | xd (fs:List (Str×V))
 | met (f x:Addr)
 | rng (lo hi:Int)
 | frz (o:Obj) (u:HO)
 | tbl (ps:Array Value)
 | ext (φ:Heap->Prop)
abbrev Hp:=Addr->Option HO
def upd (H:Hp)(a:Addr)(o:HO):Hp:=fun b=>if b=a then some o else H b
theorem upd_same {H:Hp}{a:Addr}{o:HO}:upd H a o a=some o:=by unfold upd;rw[if_pos rfl]
theorem upd_ne {H:Hp}{a b:Addr}{o:HO}(h:b≠a):upd H a o b=H b:=by unfold upd;rw[if_neg h]
theorem ne_of {H:Hp}{a b:Addr}{o u:HO}(h:H a=some o)(h':H b=some u)(d:o≠u):a≠b:=by
 intro e;subst e;rw[h]at h';exact d (Option.some.inj h')
theorem ne_of_none {H:Hp}{a b:Addr}{o:HO}(h:H a=some o)(h':H b=none):a≠b:=by
 intro e;subst e;rw[h]at h';cases h'
section
variable (P:Program) (w:World)
def ObjOk (H:Hp)(h:Heap)(a:Addr):HO->Prop
 |.lst xs=>xs.length<=sizeLine/\∃(its:List Value) (n:Nat),Vals xs its/\h.get? a=some {cls:=.type "list",data:=.seq its.toArray n}
 |.tup xs=>xs.length<=sizeLine/\∃its:List Value,Vals xs its/\IsTup h a its.toArray
 |.dK kvs=>kvs.length<=sizeLine/\(a==sysModules)=false/\∃vs,KV kvs vs/\h.DictOf (mixKind P w) a vs
 |.dT kvs=>kvs.length<=sizeLine/\(a==sysModules)=false/\∃xs:List (List Key×Addr×Value),
   Paired (fun (p:List Key×V) (q:List Key×Addr×Value)=>p.1=q.1/\H q.2.1=some (.tup (p.1.map kV))/\RelV p.2 q.2.2) kvs xs /\
   ∃o es ep,h.get? a=some o/\o.ExactDict/\o.data=.dict es ep/\es.toList=xs.map (entryOfKey (tupleKind (mixKind P w)))/\(xs.map (·.1)).Nodup
 |.set S n=>h.SetOf (intKind P w) a S n
 |.ins C dx fs=>H dx=some (.own a)/\fs.length<=1000/\dx≠a/\h.get? a=some (PySem.W.instObj C dx) /\
   ∃mA,h.Ns1 dx mA/\(∀f,RelO (fs.lookup f) (mA f))/\PySem.Within mA (fs.map (·.1))
 |.own _=>∃o,h.get? a=some o
 |.xd fs=>∃mA,h.Ns1 a mA/\∀f,RelO (fs.lookup f) (mA f)
 |.rng lo hi=>∃t u v,h.get? a=some {cls:=.type "range",data:=.fields #[.int lo t,.int hi u,.int 1 v]}
 |.frz o u=>h.get? a=some o/\ObjOk H h a u
 |.tbl ps=>h.get? a=some {cls:=.none,data:=.fields ps}
 |.met f x=>h.get? a=some (PySem.W.methodObj (.ref f) (.ref x))
 |.ext φ=>φ h/\(∃o,h.get? a=some o)/\∀h1 h2:Heap,φ h1->(∀o,h1.get? a=some o->h2.get? a=some o)->φ h2
def HOk (H:Hp)(h:Heap):Prop:=∀a o,H a=some o->ObjOk P w H h a o
end
section
variable {P:Program} {w:World} {H H':Hp} {h h':Heap} {a:Addr} {o:HO}
theorem ObjOk.lt (x:ObjOk P w H h a o):a<h.objs.size:=by
 cases o with
 |lst xs=>obtain⟨_,_,_,_,e⟩:=x;exact Heap.lt_size e
 |tup xs=>obtain⟨_,_,_,p⟩:=x;exact p.lt
 |dK kvs=>obtain⟨_,_,_,_,o,_,_,e,_⟩:=x;exact Heap.lt_size e
 |dT kvs=>obtain⟨_,_,_,_,o,_,_,e,_⟩:=x;exact Heap.lt_size e
 |set S n=>obtain⟨o,_,_,_,e,_⟩:=x;exact Heap.lt_size e
 |ins C dx fs=>obtain⟨_,_,_,e,_⟩:=x;exact Heap.lt_size e
 |own y=>obtain⟨_,e⟩:=x;exact Heap.lt_size e
 |xd fs=>obtain⟨_,⟨_,_,_,e,_⟩,_⟩:=x;exact Heap.lt_size e
 |rng lo hi=>obtain⟨_,_,_,e⟩:=x;exact Heap.lt_size e
 |frz ob u=>obtain⟨e,_⟩:=x;exact Heap.lt_size e
 |tbl ps=>exact Heap.lt_size (show h.get? a=some _ from x)
 |met f y=>exact Heap.lt_size (show h.get? a=some _ from x)
 |ext φ=>obtain⟨_,⟨_,e⟩,_⟩:=x;exact Heap.lt_size e
theorem Paired.mapP {α β:Type}{F G:α->β->Prop}:∀{l₁:List α} {l₂:List β},Paired F l₁ l₂->(∀a b,F a b->G a b)->Paired G l₁ l₂
 |_,_,.nil,_=>.nil
 |_,_,.cons r t,f=>.cons (f _ _ r) (Paired.mapP t f)
theorem ObjOk.stay (x:ObjOk P w H h a o)(k:∀b u,(b=a\/H b=some (.own a))->h.get? b=some u->h'.get? b=some u)
  (ho:∀b,H b=some (.own a)->H' b=some (.own a)) (ht:∀b xs,H b=some (.tup xs)->H' b=some (.tup xs)):ObjOk P w H' h' a o:=by
 induction o with
 |lst xs=>obtain⟨z,its,n,r,e⟩:=x;exact⟨z,its,n,r,k _ _ (.inl rfl) e⟩
 |tup xs=>obtain⟨z,its,r,ob,e,c⟩:=x;exact⟨z,its,r,ob,k _ _ (.inl rfl) e,c⟩
 |dK kvs=>obtain⟨z,y,vs,r,ob,es,ep,e,c⟩:=x;exact⟨z,y,vs,r,ob,es,ep,k _ _ (.inl rfl) e,c⟩
 |dT kvs=>
  obtain⟨z,y,xs,r,ob,es,ep,e,c⟩:=x
  exact⟨z,y,xs,Paired.mapP r fun p q z=>⟨z.1,ht _ _ z.2.1,z.2.2⟩,ob,es,ep,k _ _ (.inl rfl) e,c⟩
 |set S n=>obtain⟨ob,es,ep,t,e,c⟩:=x;exact⟨ob,es,ep,t,k _ _ (.inl rfl) e,c⟩
 |ins C dx fs=>
  obtain⟨d,z,ne,e,mA,⟨od,es,ep,e2,c⟩,r⟩:=x
  exact⟨ho _ d,z,ne,k _ _ (.inl rfl) e,mA,⟨od,es,ep,k _ _ (.inr d) e2,c⟩,r⟩
 |own y=>obtain⟨ob,e⟩:=x;exact⟨ob,k _ _ (.inl rfl) e⟩
 |xd fs=>obtain⟨mA,⟨od,es,ep,e,c⟩,r⟩:=x;exact⟨mA,⟨od,es,ep,k _ _ (.inl rfl) e,c⟩,r⟩
 |rng lo hi=>obtain⟨t,u,v,e⟩:=x;exact⟨t,u,v,k _ _ (.inl rfl) e⟩
 |frz ob u ih=>obtain⟨e,q⟩:=x;exact⟨k _ _ (.inl rfl) e,ih q⟩
 |tbl ps=>
  have e:h.get? a=some {cls:=.none,data:=.fields ps}:=x
  show h'.get? a=some {cls:=.none,data:=.fields ps}
  exact k a _ (.inl rfl) e
 |met f y=>
  have e:h.get? a=some (PySem.W.methodObj (.ref f) (.ref y)):=x
  show h'.get? a=some (PySem.W.methodObj (.ref f) (.ref y))
  exact k a _ (.inl rfl) e
 |ext φ=>obtain⟨p,⟨o,e⟩,st⟩:=x;exact⟨st _ _ p fun o q=>k _ _ (.inl rfl) q,⟨o,k _ _ (.inl rfl) e⟩,st⟩
theorem HOk.lt (x:HOk P w H h)(e:H a=some o):a<h.objs.size:=(x a o e).lt
theorem HOk.fresh (x:HOk P w H h)(e:h.objs.size<=a):H a=none:=by
 cases q:H a with
 |none=>rfl
 |some u=>exact absurd (Nat.lt_of_lt_of_le (x.lt q) e) (Nat.lt_irrefl _)
theorem HOk.kept (x:HOk P w H h)(k:∀b u,h.get? b=some u->h'.get? b=some u):HOk P w H h':=fun a o e=>
 (x a o e).stay (fun b u _ q=>k b u q) (fun _ q=>q) fun _ _ q=>q
theorem HOk.laid (x:HOk P w H h)(k:∀b u,h.get? b=some u->h'.get? b=some u)(hp:h.objs.size<=a)(new:ObjOk P w (upd H a o) h' a o):HOk P w (upd H a o) h':=fun b u e=>by
 have hn:=x.fresh hp
 by_cases hb:b=a
 ·subst hb;rw[upd_same]at e;cases e;exact new
 ·rw[upd_ne hb]at e
  exact (x b u e).stay (fun c v _ q=>k c v q) (fun c q=>by rw[upd_ne (ne_of_none q hn)];exact q) fun c xs q=>by rw[upd_ne (ne_of_none q hn)];exact q
end
def Rd (H:Hp)(a:Addr)(u:HO):Prop:=H a=some u \/ ∃o,H a=some (.frz o u)
theorem Rd.ok {P:Program}{w:World}{H:Hp}{h:Heap}{a:Addr}{u:HO}(r:Rd H a u)(x:HOk P w H h):ObjOk P w H h a u:=by
 rcases r with r|⟨o,r⟩
 ·exact x a u r
 ·obtain⟨_,q⟩:=x a _ r
  exact q
def Mut:Option HO->Prop
 |some (.lst _)=>True
 |some (.dK _)=>True
 |some (.dT _)=>True
 |some (.set _ _)=>True
 |some (.ins _ _ _)=>True
 |some (.ext _)=>True
 |_=>False
section
variable {P:Program} {w:World} {H:Hp} {h h':Heap} {x e:Addr} {o':HO}
theorem HOk.write (ok:HOk P w H h)(mu:Mut (H x))(he:e=x\/H e=some (.own x))(k:∀b u,b≠e->h.get? b=some u->h'.get? b=some u)(heo:∃u,h'.get? e=some u)
  (new:ObjOk P w (upd H x o') h' x o'):HOk P w (upd H x o') h':=fun b u q=>by
 have nown:∀c y,H c=some (.own y)->c≠x:=fun c y r z=>by subst z;rw[r]at mu;exact mu
 have ntup:∀c xs,H c=some (.tup xs)->c≠x:=fun c xs r z=>by subst z;rw[r]at mu;exact mu
 by_cases hb:b=x
 ·subst hb;rw[upd_same]at q;cases q;exact new
 ·rw[upd_ne hb]at q
  by_cases hbe:b=e
  ·have q':H b=some (.own x):=by
    rcases he with z|z
    ·exact absurd (hbe.trans z) hb
    ·rw[hbe];exact z
   rw[q]at q';cases q'
   obtain⟨v,hv⟩:=heo
   exact⟨v,by rw[hbe];exact hv⟩
  ·refine (ok b u q).stay (fun c v hc r=>k c v ?_ r) (fun c r=>by rw[upd_ne (nown c b r)];exact r) fun c xs r=>by rw[upd_ne (ntup c xs r)];exact r
   rcases hc with rfl|hc
   ·exact hbe
   ·rintro rfl
    rcases he with z|z
    ·exact nown c b hc z
    ·rw[hc]at z;cases z;exact hb rfl
end
structure Un (fs ex:List Addr)(H H':Hp)(h h':Heap):Prop where
 keep:∀b o,h.get? b=some o->H b=none->b∉fs->b∉ex->h'.get? b=some o
 slot:∀b o,h.get? b=some o->H b=none->b∈fs->b∉ex->∃sl,h'.get? b=some {o with slots:=sl}
 free:∀b o,h.get? b=some o->H b=none->b∉ex->H' b=none
 there:∀b o,h.get? b=some o->b∉ex->∃o',h'.get? b=some o'
 tups:∀b xs,H b=some (.tup xs)->H' b=some (.tup xs)
 frzs:∀b o u,H b=some (.frz o u)->H' b=some (.frz o u)
 tbls:∀b ps,H b=some (.tbl ps)->∃more,H' b=some (.tbl (ps++more))
section
variable {fs fs' ex ex':List Addr} {H H1 H2:Hp} {h h1 h2 h':Heap} {a x e:Addr} {o:HO}
theorem Un.any (u:Un fs ex H H1 h h1){b:Addr}{ob:Obj}(q:h.get? b=some ob)(n:H b=none)(hx:b∉ex):∃sl,h1.get? b=some {ob with slots:=sl}:=by
 by_cases hb:b∈fs
 ·exact u.slot b ob q n hb hx
 ·exact⟨ob.slots,u.keep b ob q n hb hx⟩
theorem Un.kept (k:∀b u,h.get? b=some u->h'.get? b=some u):Un fs ex H H h h' :=
 ⟨fun b ob q _ _ _=>k b ob q,fun b ob q _ _ _=>⟨ob.slots,k b ob q⟩,fun _ _ _ n _=>n,fun b ob q _=>⟨ob,k b ob q⟩,fun _ _ q=>q,fun _ _ _ q=>q,fun _ ps q=>⟨#[],by rw[q];simp⟩⟩
theorem Un.refl:Un fs ex H H h h:=Un.kept fun _ _ q=>q
theorem Un.laid (k:∀b u,h.get? b=some u->h'.get? b=some u)(hp:h.objs.size<=a)(hn:H a=none):Un fs ex H (upd H a o) h h' where
 keep:=fun b u q _ _ _=>k b u q
 slot:=fun b u q _ _ _=>⟨u.slots,k b u q⟩
 free:=fun b u q n _=>by rw[upd_ne (Nat.ne_of_lt (Nat.lt_of_lt_of_le (Heap.lt_size q) hp))];exact n
 there:=fun b u q _=>⟨u,k b u q⟩
 tups:=fun b xs q=>by rw[upd_ne (ne_of_none q hn)];exact q
 frzs:=fun b u xs q=>by rw[upd_ne (ne_of_none q hn)];exact q
 tbls:=fun b ps q=>⟨#[],by rw[upd_ne (ne_of_none q hn),q];simp⟩
theorem Un.write (mu:Mut (H x))(he:e=x\/H e=some (.own x))(k:∀b u,b≠e->h.get? b=some u->h'.get? b=some u)(heo:∃u,h'.get? e=some u):Un fs ex H (upd H x o) h h':=by
 have hx:∀b,H b=none->b≠x:=fun b n z=>by subst z;rw[n]at mu;exact mu
 have hb:∀b,H b=none->b≠e:=fun b n z=>by
  subst z
  rcases he with r|r
  ·exact hx b n r
  ·rw[n]at r;cases r
 have hm:∀b u,H b=some u->¬ Mut (some u)->b≠x:=fun b u q nm z=>by subst z;rw[q]at mu;exact nm mu
 refine⟨fun b u q n _ _=>k b u (hb b n) q,fun b u q n _ _=>⟨u.slots,k b u (hb b n) q⟩,fun b u q n _=>by rw[upd_ne (hx b n)];exact n,fun b u q _=>?_,
  fun b xs q=>by rw[upd_ne (hm b _ q fun z=>z)];exact q,fun b u xs q=>by rw[upd_ne (hm b _ q fun z=>z)];exact q,fun b ps q=>⟨#[],by rw[upd_ne (hm b _ q fun z=>z),q];simp⟩⟩
 by_cases hbe:b=e
 ·subst hbe;exact heo
 ·exact⟨u,k b u hbe q⟩
end
def trk (h:Heap)(H:Hp):List Addr:=(List.range h.objs.size).filter fun a=>(H a).isSome
def hidT (h:Heap)(H:Hp):Heap:=PySem.W.hideAll h (trk h H)
theorem hidT_size (h:Heap)(H:Hp):(hidT h H).objs.size=h.objs.size:=PySem.W.hideAll_size _ _
theorem hidT_get {h:Heap}{H:Hp}{b:Addr}{o:Obj}(e:h.get? b=some o)(n:H b=none):(hidT h H).get? b=some o:=
 PySem.W.hideAll_get _ e fun hm=>by
  have q:(H b).isSome=true:=(List.mem_filter.mp hm).2
  rw[n]at q;simp at q
theorem of_hidT {h:Heap}{H:Hp}{b:Addr}{o:Obj}(e:(hidT h H).get? b=some o):h.get? b=some o/\H b=none:=by
 have e':h.get? b=some o:=PySem.W.of_hideAll (trk h H) e
 refine⟨e',?_⟩
 cases q:H b with
 |none=>rfl
 |some x=>
  have hm:b∈trk h H:=List.mem_filter.mpr ⟨List.mem_range.mpr (Heap.lt_size e'),by simp[q]⟩
  have z:(hidT h H).get? b=none:=PySem.W.hideAll_none (trk h H) hm
  rw[z]at e;cases e
def allNews (g h:Heap)(L:Addr):List (Addr×Obj):=(List.range h.objs.size).filterMap fun a=>if a=L\/(g.get? a).isSome=true then none else (h.get? a).map fun o=>(a,o)
def rest (g h:Heap)(L d:Addr):List (Addr×Obj):=(allNews g h L).filter fun p=>decide (p.1≠d)
end L2
namespace L2
open PySem PySem.Spec PyProof.Rows
structure Mod (K:PySem.W.Frag)(mg:Str->Option Value)(base:Heap):Prop where
 kin:K.In base
 glob:base.Ns mainGlobals mg
 blt:∃mb,base.Ns builtinsNs mb/\∀x:Str,x ≠ "__name__" -> mb x=bootBuiltins x
 nolimit:base.NoLimit
structure Cx where
 prog:Program
 w:World
 K:PySem.W.Frag
 mg:Str->Option Value
 base:Heap
 A:Around
 N:List Str
 s₀:Shared
 H₀:Hp
 env:Env
 outer:List Env
 stack:List Env
 ex:List Addr
 fn:Str->Bool
 calm:Bool
 pn:List (Addr×Obj)
 xe:Value->Shared->Prop
def frs (l:List Env):List Addr:=l.filterMap (·.frame)
abbrev Cx.fs (X:Cx):List Addr:=frs X.outer
def Vis (sc:Scope)(x:Str):Prop:=sc.names.lookup x=some .local\/sc.names.lookup x=some .cell\/sc.names.lookup x=some .free
def Loc (sc:Scope)(x:Str):Prop:=sc.names.lookup x=some .local\/sc.names.lookup x=some .cell
def Look (env:Env)(h:Heap)(m:Str->Option Value)(x:Str)(u:Value):Prop:=
 (env.kindOf x=some .local/\m x=some u)\/((env.kindOf x=some .cell\/env.kindOf x=some .free)/\∃c,env.cells.lookup x=some c/\h.IsCell c (some u))
structure Cx.Ok (X:Cx):Prop where
 mod:Mod X.K X.mg X.base
 kind:X.env.scope.kind=.function
 glob:X.env.globals=mainGlobals
 blt:X.env.builtins=builtinsNs
 above:X.s₀.heap.objs.size<=X.env.locals
 inj:∀x y c,X.env.cells.lookup x=some c->X.env.cells.lookup y=some c->x=y
 has:∀x,(X.env.kindOf x=some .cell\/X.env.kindOf x=some .free)->∃c,X.env.cells.lookup x=some c
 cab:∀x c,X.fn x=true->X.env.cells.lookup x=some c->X.s₀.heap.objs.size<=c
 hd:X.calm=true->X.A.handled=none
 frames:X.A.frames=some X.stack
 stk:X.stack=X.outer\/(X.stack=X.env::X.outer/\X.env.frame=some X.env.locals)
 exf:∀b∈X.ex,b≠X.env.locals/\∀x c,X.env.cells.lookup x=some c->c≠b
 bs:∀b o,X.base.get? b=some o->X.s₀.heap.get? b=some o/\X.H₀ b=none
 bsz:X.base.objs.size<=X.s₀.heap.objs.size
 noex:∀b o,X.base.get? b=some o->b∉X.ex
 exfs:∀b∈X.ex,b∉X.fs
 funs:X.s₀.heap.FunFrames X.base X.outer
 frf:∀b∈X.fs,X.H₀ b=none
structure Inv (X:Cx)(pins:List (Addr×Obj))(σ:List (Option V))(H:Hp)(s:Shared):Prop where
 ok:X.Ok
 os:s.os=X.s₀.os
 bare:AllBare s.gens
 base:Un X.fs X.ex X.H₀ H X.s₀.heap s.heap
 loc:∃m,s.heap.Ns X.env.locals m/\∀(i:Nat) (x:Str) (v:V),X.N[i]?=some x->σ[i]?=some (some v)->Vis X.env.scope x->∃u,RelV v u/\Look X.env s.heap m x u
 cell:∀x c,X.env.cells.lookup x=some c->∃v,s.heap.IsCell c v
 free:H X.env.locals=none
 freeC:∀x c,X.env.cells.lookup x=some c->H c=none
 pin:∀p∈X.pn++pins,s.heap.get? p.1=some p.2/\H p.1=none/\p.1≠X.env.locals/\p.1∉X.fs/\∀v,p.2.data ≠ .cell v
 hok:HOk X.prog X.w H s.heap
 len:σ.length=X.N.length
section
variable {X:Cx} {pins:List (Addr×Obj)} {σ:List (Option V)} {H H':Hp} {s:Shared} {h':Heap}
theorem Cx.Ok.nofr (ok:X.Ok){b:Addr}{o:Obj}(e:X.base.get? b=some o):b∉X.fs:=fun hb=>by
 have:=(ok.funs.mem hb).1
 rw[e]at this;cases this
theorem Inv.bs (I:Inv X pins σ H s):∀b o,X.base.get? b=some o->s.heap.get? b=some o/\H b=none:=fun b o e=>
 ⟨I.base.keep b o (I.ok.bs b o e).1 (I.ok.bs b o e).2 (I.ok.nofr e) (I.ok.noex b o e),I.base.free b o (I.ok.bs b o e).1 (I.ok.bs b o e).2 (I.ok.noex b o e)⟩
theorem Inv.bk (I:Inv X pins σ H s):∀b o,X.base.get? b=some o->s.heap.get? b=some o:=fun b o e=>(I.bs b o e).1
theorem Inv.mod (I:Inv X pins σ H s):Mod X.K X.mg X.base:=I.ok.mod
theorem Inv.kIn (I:Inv X pins σ H s):X.K.In s.heap:=I.ok.mod.kin.keeps I.bk
theorem Inv.lt (I:Inv X pins σ H s):X.env.locals<s.heap.objs.size:=let ⟨_,hn,_⟩:=I.loc;hn.lt
theorem Inv.sz (I:Inv X pins σ H s):X.s₀.heap.objs.size<=s.heap.objs.size:=Nat.le_trans I.ok.above (Nat.le_of_lt I.lt)
theorem Inv.nofs (I:Inv X pins σ H s){a:Addr}(h:s.heap.objs.size<=a):a∉X.fs:=fun hb=>by
 obtain⟨_,o,ho,_⟩:=I.ok.funs.mem hb
 exact absurd (Nat.lt_of_lt_of_le (Heap.lt_size ho) (Nat.le_trans I.sz h)) (Nat.lt_irrefl _)
theorem Inv.cne (I:Inv X pins σ H s):∀x c,X.env.cells.lookup x=some c->c≠X.env.locals:=fun x c e z=>by
 obtain⟨v,o,ho,hd⟩:=I.cell x c e
 obtain⟨m,⟨o',es,ep,ho',hd',_⟩,_⟩:=I.loc
 rw[z,ho']at ho;cases ho;rw[hd']at hd;cases hd
theorem Inv.funs (I:Inv X pins σ H s):s.heap.FunFrames X.base X.outer:=by
 have all:∀(l:List Env),(∀b∈frs l,b∈X.fs)->X.s₀.heap.FunFrames X.base l->s.heap.FunFrames X.base l:=by
  intro l
  induction l with
  |nil=>intro _ _;trivial
  |cons env r ih=>
   intro hs hl
   obtain⟨hk,⟨L,o,hf,hn,ho,hd⟩,hr⟩:=hl
   have hL:L∈X.fs:=hs L (by unfold frs;rw[List.filterMap_cons,hf];exact List.mem_cons_self)
   obtain⟨sl,e⟩:=I.base.slot L o ho (I.ok.frf L hL) hL fun z=>I.ok.exfs L z hL
   exact⟨hk,⟨L,_,hf,hn,e,hd⟩,ih (fun b hb=>hs b (by unfold frs;rw[List.filterMap_cons,hf];exact List.mem_cons_of_mem _ hb)) hr⟩
 exact all X.outer (fun _ hb=>hb) I.ok.funs
theorem Inv.stack (I:Inv X pins σ H s):s.heap.FunFrames X.base X.stack:=by
 rcases I.ok.stk with e|⟨e,hf⟩
 ·rw[e];exact I.funs
 ·rw[e]
  obtain⟨m,hn,_⟩:=I.loc
  refine .cons (by rw[I.ok.kind];decide) hf hn ?_ I.funs
  exact Heap.get?_none_of_le (Nat.le_trans I.ok.bsz I.ok.above)
theorem Inv.stkSub (I:Inv X pins σ H s):∀b∈frs X.stack,b∈X.env.locals::X.fs:=fun b hb=>by
 rcases I.ok.stk with e|⟨e,hf⟩
 ·rw[e]at hb;exact List.mem_cons_of_mem _ hb
 ·rw[e]at hb
  unfold frs at hb
  rw[List.filterMap_cons,hf]at hb
  exact hb
theorem Inv.stkFree (I:Inv X pins σ H s):∀b∈frs X.stack,H b=none:=fun b hb=>by
 rcases List.mem_cons.mp (I.stkSub b hb) with e|hb
 ·rw[e];exact I.free
 ·obtain⟨_,o,ho,_⟩:=I.ok.funs.mem hb
  exact I.base.free b o ho (I.ok.frf b hb) fun z=>I.ok.exfs b z hb
theorem Inv.step {g':Array GenState}{t':Nat}{d':Drawn}{ch:List Addr}(I:Inv X pins σ H s)
  (hch:∀b∈ch,(b∈X.ex\/X.s₀.heap.objs.size<=b)/\b≠X.env.locals/\(∀x c,X.env.cells.lookup x=some c->c≠b)/\∀p∈X.pn++pins,p.1≠b)
  (keep:∀b o,b≠X.env.locals->b∉X.fs->b∉ch->s.heap.get? b=some o->H b=none->h'.get? b=some o)
  (slot:∀b o,b≠X.env.locals->b∈X.fs->b∉ch->s.heap.get? b=some o->H b=none->∃sl,h'.get? b=some {o with slots:=sl}) (free:∀b o,b∉ch->s.heap.get? b=some o->H b=none->H' b=none)
  (there:∀b o,b∉ch->s.heap.get? b=some o->∃o',h'.get? b=some o')
  (tups:∀b xs,H b=some (.tup xs)->H' b=some (.tup xs)) (frzs:∀b o u,H b=some (.frz o u)->H' b=some (.frz o u)) (tbls:∀b ps,H b=some (.tbl ps)->∃more,H' b=some (.tbl (ps++more)))
  (ns:∀m,s.heap.Ns X.env.locals m->h'.Ns X.env.locals m) (hok:HOk X.prog X.w H' h') (hg:AllBare g'):
  Inv X pins σ H' {s with heap:=h',gens:=g',drawn:=d',toks:=t' }:=by
 have neL:∀b o,X.s₀.heap.get? b=some o->b≠X.env.locals:=fun b o e=>Nat.ne_of_lt (Nat.lt_of_lt_of_le (Heap.lt_size e) I.ok.above)
 have neC:∀b o,X.s₀.heap.get? b=some o->b∉X.ex->b∉ch:=fun b o e hx hb=>by
  rcases (hch b hb).1 with z|z
  ·exact hx z
  ·exact absurd (Nat.lt_of_lt_of_le (Heap.lt_size e) z) (Nat.lt_irrefl _)
 have cellK:∀x c,X.env.cells.lookup x=some c->∀v,s.heap.IsCell c v->h'.IsCell c v:=fun x c e v ⟨o,ho,hd⟩=>by
  have nch:c∉ch:=fun z=>(hch c z).2.2.1 x c e rfl
  by_cases hc:c∈X.fs
  ·obtain⟨sl,q⟩:=slot c o (I.cne x c e) hc nch ho (I.freeC x c e)
   exact⟨_,q,hd⟩
  ·exact⟨o,keep c o (I.cne x c e) hc nch ho (I.freeC x c e),hd⟩
 refine⟨I.ok,I.os,hg,⟨fun b o e n hb hx=>?_,fun b o e n hb hx=>?_,fun b o e n hx=>?_,fun b o e hx=>?_,fun b xs e=>tups b xs (I.base.tups b xs e),fun b o xs e=>frzs b o xs (I.base.frzs b o xs e),fun b ps e=>?_⟩,?_,fun x c e=>?_,?_,fun x c e=>?_,fun p hp=>?_,hok,I.len⟩
 ·exact keep b o (neL b o e) hb (neC b o e hx) (I.base.keep b o e n hb hx) (I.base.free b o e n hx)
 ·obtain⟨sl,e1⟩:=I.base.slot b o e n hb hx
  obtain⟨sl',e2⟩:=slot b _ (neL b o e) hb (neC b o e hx) e1 (I.base.free b o e n hx)
  exact⟨sl',e2⟩
 ·obtain⟨o',e1⟩:=I.base.there b o e hx
  exact free b o' (neC b o e hx) e1 (I.base.free b o e n hx)
 ·obtain⟨o',e1⟩:=I.base.there b o e hx
  exact there b o' (neC b o e hx) e1
 ·obtain⟨m1,e1⟩:=I.base.tbls b ps e
  obtain⟨m2,e2⟩:=tbls b _ e1
  exact⟨m1++m2,by rw[e2,Array.append_assoc]⟩
 ·obtain⟨m,hn,hl⟩:=I.loc
  refine⟨m,ns m hn,fun i x v e1 e2 e3=>?_⟩
  obtain⟨u,r,l⟩:=hl i x v e1 e2 e3
  refine⟨u,r,?_⟩
  rcases l with l|⟨k,c,e,z⟩
  ·exact .inl l
  ·exact .inr ⟨k,c,e,cellK x c e _ z⟩
 ·obtain⟨v,z⟩:=I.cell x c e
  exact⟨v,cellK x c e v z⟩
 ·obtain⟨m,⟨o,_,_,ho,_⟩,_⟩:=I.loc
  exact free _ o (fun z=>(hch _ z).2.1 rfl) ho I.free
 ·obtain⟨v,o,ho,hd⟩:=I.cell x c e
  exact free c o (fun z=>(hch c z).2.2.1 x c e rfl) ho (I.freeC x c e)
 ·obtain⟨e,n,ne,nf,d⟩:=I.pin p hp
  have nch:p.1∉ch:=fun z=>(hch p.1 z).2.2.2 p hp rfl
  exact⟨keep p.1 p.2 ne nf nch e n,free p.1 p.2 nch e n,ne,nf,d⟩
theorem Inv.un {t':Nat}(I:Inv X pins σ H s)(u:Un X.fs [] H H' s.heap h')(hok:HOk X.prog X.w H' h'):Inv X pins σ H' {s with heap:=h',toks:=t' }:=by
 obtain⟨m,⟨o,es,ep,ho,r⟩,_⟩:=id I.loc
 obtain⟨sl,hL⟩:=u.any ho I.free (by simp)
 exact I.step (g':=s.gens) (d':=s.drawn) (ch:=[]) (fun _ z=>nomatch z) (fun b o _ hb _ e n=>u.keep b o e n hb (by simp)) (fun b o _ hb _ e n=>u.slot b o e n hb (by simp)) (fun b o _ e n=>u.free b o e n (by simp)) (fun b o _ e=>u.there b o e (by simp)) u.tups u.frzs u.tbls (fun m' hm=>by
  obtain⟨o',es',ep',ho',r'⟩:=hm
  rw[ho]at ho';cases ho'
  exact⟨_,es',ep',hL,r'⟩) hok I.bare
theorem Inv.call {g':Array GenState}{t':Nat}{d':Drawn}{ch:List Addr}(I:Inv X pins σ H s)(u:Un (frs X.stack) ch H H' s.heap h')(hok:HOk X.prog X.w H' h')(hg:AllBare g')
  (hch:∀b∈ch,(b∈X.ex\/X.s₀.heap.objs.size<=b)/\b≠X.env.locals/\(∀x c,X.env.cells.lookup x=some c->c≠b)/\∀p∈X.pn++pins,p.1≠b):
  Inv X pins σ H' {s with heap:=h',gens:=g',drawn:=d',toks:=t' }:=by
 obtain⟨m,⟨o,es,ep,ho,r⟩,_⟩:=id I.loc
 obtain⟨sl,hL⟩:=u.any ho I.free fun z=>(hch _ z).2.1 rfl
 exact I.step (ch:=ch) hch (fun b o hL hb hc e n=>u.keep b o e n (fun z=>(List.mem_cons.mp (I.stkSub b z)).elim hL hb) hc) (fun b o _ _ hc e n=>u.any e n hc) (fun b o hc e n=>u.free b o e n hc) (fun b o hc e=>u.there b o e hc) u.tups u.frzs u.tbls (fun m' hm=>by
  obtain⟨o',es',ep',ho',r'⟩:=hm
  rw[ho]at ho';cases ho'
  exact⟨_,es',ep',hL,r'⟩) hok hg
theorem Inv.turned {t':Nat}{it:Addr}(I:Inv X pins σ H s)(k:∀b o,b≠it->s.heap.get? b=some o->h'.get? b=some o)(hn:H it=none)(hL:it≠X.env.locals)
  (h1:it∈X.ex\/X.s₀.heap.objs.size<=it) (h2:∀x c,X.env.cells.lookup x=some c->c≠it) (h3:∀p∈X.pn++pins,p.1≠it):Inv X pins σ H {s with heap:=h',toks:=t' }:=by
 have nit:∀b u,H b=some u->b≠it:=fun b u e z=>by rw[z,hn]at e;cases e
 refine I.step (g':=s.gens) (d':=s.drawn) (ch:=[it]) (fun b hb=>?_) (fun b o _ _ hc e _=>k b o (fun z=>hc (by simp[z])) e) (fun b o _ _ hc e _=>⟨o.slots,k b o (fun z=>hc (by simp[z])) e⟩) (fun _ _ _ _ n=>n)
  (fun b o hc e=>⟨o,k b o (fun z=>hc (by simp[z])) e⟩) (fun _ _ e=>e) (fun _ _ _ e=>e) (fun b ps e=>⟨#[],by rw[e];simp⟩) (fun m hm=>?_) (fun b u e=>?_) I.bare
 ·have e:b=it:=by simpa using hb
  subst e
  exact⟨h1,hL,h2,h3⟩
 ·obtain⟨o,es,ep,ho,r⟩:=hm
  exact⟨o,es,ep,k _ o (Ne.symm hL) ho,r⟩
 ·refine (I.hok b u e).stay (fun c v hc q=>k c v ?_ q) (fun _ q=>q) fun _ _ q=>q
  rcases hc with z|z
  ·rw[z];exact nit b u e
  ·exact nit c _ z
theorem Inv.tok (I:Inv X pins σ H s)(t:Nat):Inv X pins σ H {s with toks:=t}:=I.un (h':=s.heap) (t':=t) Un.refl I.hok
theorem Inv.kept {t':Nat}(I:Inv X pins σ H s)(k:∀b u,s.heap.get? b=some u->h'.get? b=some u):Inv X pins σ H {s with heap:=h',toks:=t' }:=I.un (Un.kept k) (I.hok.kept k)
theorem Inv.laid {a:Addr}{o:HO}{t':Nat}(I:Inv X pins σ H s)(k:∀b u,s.heap.get? b=some u->h'.get? b=some u)(hp:s.heap.objs.size<=a)(new:ObjOk X.prog X.w (upd H a o) h' a o):
  Inv X pins σ (upd H a o) {s with heap:=h',toks:=t' }:=I.un (Un.laid k hp (I.hok.fresh hp)) (I.hok.laid k hp new)
theorem Inv.write {x e:Addr}{o:HO}{t':Nat}(I:Inv X pins σ H s)(mu:Mut (H x))(he:e=x\/H e=some (.own x))(k:∀b u,b≠e->s.heap.get? b=some u->h'.get? b=some u)(heo:∃u,h'.get? e=some u)
  (new:ObjOk X.prog X.w (upd H x o) h' x o):Inv X pins σ (upd H x o) {s with heap:=h',toks:=t' }:=I.un (Un.write mu he k heo) (I.hok.write mu he k heo new)
theorem Inv.pins_of {pins':List (Addr×Obj)}(I:Inv X pins σ H s)(h:∀p∈pins',s.heap.get? p.1=some p.2/\H p.1=none/\p.1≠X.env.locals/\p.1∉X.fs/\∀v,p.2.data ≠ .cell v):Inv X pins' σ H s:=
 ⟨I.ok,I.os,I.bare,I.base,I.loc,I.cell,I.free,I.freeC,fun p hp=>(List.mem_append.mp hp).elim (fun z=>I.pin p (List.mem_append_left _ z)) (h p),I.hok,I.len⟩
theorem nodup_ix {N:List Str}(hN:N.Nodup){i j:Nat}{x:Str}(a:N[i]?=some x)(b:N[j]?=some x):i=j:=by
 obtain⟨h1,e1⟩:=List.getElem?_eq_some_iff.mp a
 obtain⟨h2,e2⟩:=List.getElem?_eq_some_iff.mp b
 exact (List.getElem_inj hN).mp (e1.trans e2.symm)
theorem store_ok2 {M:Model}{A:Around}{E:Value->Shared->Prop}{i:Nat}{x:Str}{v:V}{u:Value}{Q:Unit->Shared->Prop}(I:Inv X pins σ H s)(hN:X.N.Nodup)(hi:X.N[i]?=some x)(hx:Loc X.env.scope x)(r:RelV v u)
  (h:∀s',Inv X pins (σ.set i (some v)) H s'->(∃a,Heap.SameBut a s.heap s'.heap/\(a=X.env.locals\/X.env.cells.lookup x=some a))->Q () s') (hf:X.fn x=true\/X.env.scope.names.lookup x=some .local:=by first|exact .inl rfl|exact .inr rfl|assumption):wpAny M A (storeName X.env x u) Q E s:=by
 obtain⟨m,hn,hl⟩:=id I.loc
 have hcls:(X.env.scope.kind == .class||(X.env.scope.kind == .module&&X.env.locals != X.env.globals))=false:=by rw[I.ok.kind];rfl
 have hiσ:i<σ.length:=by rw[I.len];exact (List.getElem?_eq_some_iff.mp hi).1
 have cne:=I.cne
 have tracked:∀{a:Addr} {h':Heap},(∃o,s.heap.get? a=some o/\H a=none)->Heap.SameBut a s.heap h'->HOk X.prog X.w H h':=fun {a h'} ha hs b ob e=>by
  obtain⟨_,_,hfree⟩:=ha
  refine (I.hok b ob e).stay (fun c w' hc q=>(hs.2 c ?_).trans q) (fun _ q=>q) fun _ _ q=>q
  rintro rfl
  rcases hc with rfl|hc
  ·rw[hfree]at e;cases e
  ·rw[hfree]at hc;cases hc
 rcases hx with hk|hk
 ·refine wpAny_storeName_local hk hn (fun h' hn' hs=>?_) hcls
  obtain⟨oL,_,_,hoL,_⟩:=id hn
  refine h _ ⟨I.ok,I.os,I.bare,⟨fun b o e n hb hx=>?_,fun b o e n hb hx=>?_,I.base.free,fun b o e hx=>?_,I.base.tups,I.base.frzs,I.base.tbls⟩,⟨_,hn',fun j y v' e1 e2 e3=>?_⟩,fun y c e=>?_,I.free,I.freeC,fun p hp=>?_,tracked ⟨oL,hoL,I.free⟩ hs,by simpa using I.len⟩ ⟨_,hs,.inl rfl⟩
  ·exact (hs.2 b (Nat.ne_of_lt (Nat.lt_of_lt_of_le (Heap.lt_size e) I.ok.above))).trans (I.base.keep b o e n hb hx)
  ·obtain⟨sl,e1⟩:=I.base.slot b o e n hb hx
   exact⟨sl,(hs.2 b (Nat.ne_of_lt (Nat.lt_of_lt_of_le (Heap.lt_size e) I.ok.above))).trans e1⟩
  ·obtain⟨o',e1⟩:=I.base.there b o e hx
   exact⟨o',(hs.2 b (Nat.ne_of_lt (Nat.lt_of_lt_of_le (Heap.lt_size e) I.ok.above))).trans e1⟩
  ·by_cases hj:j=i
   ·subst hj
    rw[hi]at e1;cases e1
    rw[List.getElem?_set_self hiσ]at e2
    cases e2
    exact⟨u,r,.inl ⟨hk,by simp⟩⟩
   ·rw[List.getElem?_set_ne (Ne.symm hj)]at e2
    obtain⟨u',r',q⟩:=hl j y v' e1 e2 e3
    refine⟨u',r',?_⟩
    rcases q with ⟨k,e⟩|⟨k,c,e,z⟩
    ·refine .inl ⟨k,?_⟩
     have:y≠x:=fun e=>hj (nodup_ix hN e1 (e ▸ hi))
     simp[this,e]
    ·exact .inr ⟨k,c,e,z.sameBut hs (cne y c e)⟩
  ·obtain⟨w',z⟩:=I.cell y c e
   exact⟨w',z.sameBut hs (cne y c e)⟩
  ·obtain⟨e,n,ne,nf,d⟩:=I.pin p hp
   exact⟨(hs.2 p.1 ne).trans e,n,ne,nf,d⟩
 ·have hfn:X.fn x=true:=by
   rcases hf with z|z
   ·exact z
   ·rw[z]at hk;cases hk
  obtain⟨c,hc⟩:=I.ok.has x (.inl hk)
  obtain⟨w',z⟩:=I.cell x c hc
  refine wpAny_storeName_cell I.ok.kind hk hc z (fun h' hc' hs=>?_)
  obtain⟨oc,hoc,hocd⟩:=id z
  refine h {s with heap:=h' } ⟨I.ok,I.os,I.bare,⟨fun b o e n hb hx=>?_,fun b o e n hb hx=>?_,I.base.free,fun b o e hx=>?_,I.base.tups,I.base.frzs,I.base.tbls⟩,⟨m,hn.sameBut hs (Ne.symm (cne x c hc)),fun j y v' e1 e2 e3=>?_⟩,fun y c' e=>?_,I.free,I.freeC,fun p hp=>?_,tracked ⟨oc,hoc,I.freeC x c hc⟩ hs,by simpa using I.len⟩ ⟨c,hs,.inr hc⟩
  ·exact (hs.2 b (Nat.ne_of_lt (Nat.lt_of_lt_of_le (Heap.lt_size e) (I.ok.cab x c hfn hc)))).trans (I.base.keep b o e n hb hx)
  ·obtain⟨sl,e1⟩:=I.base.slot b o e n hb hx
   exact⟨sl,(hs.2 b (Nat.ne_of_lt (Nat.lt_of_lt_of_le (Heap.lt_size e) (I.ok.cab x c hfn hc)))).trans e1⟩
  ·obtain⟨o',e1⟩:=I.base.there b o e hx
   exact⟨o',(hs.2 b (Nat.ne_of_lt (Nat.lt_of_lt_of_le (Heap.lt_size e) (I.ok.cab x c hfn hc)))).trans e1⟩
  ·by_cases hj:j=i
   ·subst hj
    rw[hi]at e1;cases e1
    rw[List.getElem?_set_self hiσ]at e2
    cases e2
    exact⟨u,r,.inr ⟨.inl hk,c,hc,hc'⟩⟩
   ·rw[List.getElem?_set_ne (Ne.symm hj)]at e2
    obtain⟨u',r',q⟩:=hl j y v' e1 e2 e3
    refine⟨u',r',?_⟩
    rcases q with q|⟨k,c',e,z'⟩
    ·exact .inl q
    ·refine .inr ⟨k,c',e,z'.sameBut hs ?_⟩
     rintro rfl
     exact hj (nodup_ix hN e1 (I.ok.inj _ _ _ e hc ▸ hi))
  ·by_cases hcc:c'=c
   ·subst hcc;exact⟨_,hc'⟩
   ·obtain⟨w2,z2⟩:=I.cell y c' e
    exact⟨w2,z2.sameBut hs hcc⟩
  ·obtain⟨e,n,ne,nf,d⟩:=I.pin p hp
   refine⟨(hs.2 p.1 ?_).trans e,n,ne,nf,d⟩
   intro q
   rw[q,hoc]at e
   have q':oc=p.2:=Option.some.inj e
   exact d w' (by rw[<-q'];exact hocd)
theorem store_ok {M:Model}{A:Around}{E:Value->Shared->Prop}{i:Nat}{x:Str}{v:V}{u:Value}{Q:Unit->Shared->Prop}(I:Inv X pins σ H s)(hN:X.N.Nodup)(hi:X.N[i]?=some x)(hx:Loc X.env.scope x)(r:RelV v u)
  (h:∀s',Inv X pins (σ.set i (some v)) H s'->Q () s') (hf:X.fn x=true\/X.env.scope.names.lookup x=some .local:=by first|exact .inl rfl|exact .inr rfl|assumption):wpAny M A (storeName X.env x u) Q E s:=
 store_ok2 I hN hi hx r (fun s' I' _=>h s' I') hf
theorem Inv.call' {s':Shared}{ch:List Addr}(I:Inv X pins σ H s)(ho:s'.os=s.os)(u:Un (frs X.stack) ch H H' s.heap s'.heap)(hok:HOk X.prog X.w H' s'.heap)(hg:AllBare s'.gens)
  (hch:∀b∈ch,(b∈X.ex\/X.s₀.heap.objs.size<=b)/\b≠X.env.locals/\(∀x c,X.env.cells.lookup x=some c->c≠b)/\∀p∈X.pn++pins,p.1≠b):Inv X pins σ H' s':=by
 obtain⟨h',g',d',t',o'⟩:=s'
 have e:o'=s.os:=ho
 subst e
 exact I.call (g':=g') (t':=t') (d':=d') u hok hg hch
end
abbrev XK:=Value->Option Addr->Hp->Prop
abbrev St:=List (Option V)
abbrev VK:=V->Hp->Prop
abbrev TE:=St->Hp->VK->Prop
abbrev TT:=St->Hp->(Bool->Hp->Prop)->Prop
abbrev TA:=St->Hp->(List V->Hp->Prop)->Prop
structure Ends where
 nx:St->Hp->Prop
 rt:VK
 bk:St->Hp->Prop:=fun _ _=>False
 ct:St->Hp->Prop:=fun _ _=>False
abbrev TS:=Ends->St->Hp->Prop
def EP (X:Cx)(pins:List (Addr×Obj))(σ:St)(Q:VK)(u:Value)(s':Shared):Prop:=∃v H',Inv X pins σ H' s'/\RelV v u/\Q v H'
def TP (X:Cx)(pins:List (Addr×Obj))(σ:St)(Q:Bool->Hp->Prop)(b:Bool)(s':Shared):Prop:=∃H',Inv X pins σ H' s'/\Q b H'
def AP (X:Cx)(pins:List (Addr×Obj))(σ:St)(Q:List V->Hp->Prop)(us:List Value)(s':Shared):Prop:=∃vs H',Inv X pins σ H' s'/\Vals vs us/\Q vs H'
def SP (X:Cx)(pins:List (Addr×Obj))(D:Ends)(f:Flow)(s':Shared):Prop:=
 match f with
 |.next=>∃σ' H',Inv X pins σ' H' s'/\D.nx σ' H'
 |.brk=>∃σ' H',Inv X pins σ' H' s'/\D.bk σ' H'
 |.cont=>∃σ' H',Inv X pins σ' H' s'/\D.ct σ' H'
 |.ret u=>∃v σ' H',Inv X pins σ' H' s'/\RelV v u/\D.rt v H'
def PE (X:Cx)(e:Expr)(t:TE):Prop:=
 ∀(pins:List (Addr×Obj)) (s:Shared) (σ:St) (H:Hp) (Q:VK),Inv X pins σ H s->t σ H Q->wpAny (model X.prog X.w) X.A (eval e X.env) (EP X pins σ Q) X.xe s
def PT (X:Cx)(e:Expr)(t:TT):Prop:=
 ∀(pins:List (Addr×Obj)) (s:Shared) (σ:St) (H:Hp) (Q:Bool->Hp->Prop),Inv X pins σ H s->t σ H Q->wpAny (model X.prog X.w) X.A (isTrue e X.env (eval e X.env)) (TP X pins σ Q) X.xe s
def PW (X:Cx)(e:Expr)(t:TT):Prop:=
 ∀(whole:Sem Value) (pins:List (Addr×Obj)) (s:Shared) (σ:St) (H:Hp) (Q:Bool->Hp->Prop),Inv X pins σ H s->t σ H Q->wpAny (model X.prog X.w) X.A (isTrue e X.env whole) (TP X pins σ Q) X.xe s
theorem PW.pt {X:Cx}{e:Expr}{t:TT}(h:PW X e t):PT X e t:=h _
def PA (X:Cx)(es:List Expr)(t:TA):Prop:=
 ∀(pos:Pos) (pins:List (Addr×Obj)) (s:Shared) (σ:St) (H:Hp) (Q:List V->Hp->Prop),Inv X pins σ H s->t σ H Q->wpAny (model X.prog X.w) X.A (spliced (backTo pos (starEach es X.env))) (AP X pins σ Q) X.xe s
def PS (X:Cx)(st:Stmt)(t:TS):Prop:=
 ∀(pins:List (Addr×Obj)) (s:Shared) (σ:St) (H:Hp) (D:Ends),Inv X pins σ H s->t D σ H->wpAny (model X.prog X.w) X.A (exec st X.env) (SP X pins D) X.xe s
def PSs (X:Cx)(st:List Stmt)(t:TS):Prop:=
 ∀(pins:List (Addr×Obj)) (s:Shared) (σ:St) (H:Hp) (D:Ends),Inv X pins σ H s->t D σ H->wpAny (model X.prog X.w) X.A (execs st X.env) (SP X pins D) X.xe s
theorem thn {α:Type}{t:Sem α}{Q Q':α->Shared->Prop}{M:Model}{A:Around}{E:Value->Shared->Prop}{s:Shared}(h:wpAny M A t Q E s)(hQ:∀a s,Q a s->Q' a s):wpAny M A t Q' E s:=wpAny_mono h hQ fun _ _ x=>x
end L2
namespace L2
open PySem PySem.Spec PyProof.Rows
section
variable {X:Cx}
def tVar (i:Nat):TE:=fun σ H Q=>∃v,σ[i]?=some (some v)/\Q v H
def tC (v:V):TE:=fun _ H Q=>Q v H
theorem pe_var {i:Nat}{x:Str}{pos:Pos}(hN:X.N[i]?=some x)(hv:Vis X.env.scope x)(hd:(x==("__debug__" : Str))=false:=by decide)(hcd:(x==("__classdict__" : Str))=false:=by decide):PE X (.Name x pos) (tVar i):=by
 intro pins s σ H Q I h
 obtain⟨v,e,h⟩:=h
 obtain⟨m,hn,hl⟩:=I.loc
 obtain⟨u,r,l⟩:=hl i x v hN e hv
 have fin:EP X pins σ Q u s:=⟨v,H,I,r,h⟩
 rcases l with ⟨hk,hm⟩|⟨hk,c,hc,hcell⟩
 ·exact wpAny_Name (wpAny_loadName_local I.ok.kind hk hn hm fin) hd
 ·rcases hk with hk|hk
  ·exact wpAny_Name (wpAny_loadName_cell I.ok.kind hk hc hcell fin) hd
  ·exact wpAny_Name (wpAny_loadName_free I.ok.kind hk hc hcell fin hcd) hd
theorem pe_int {i j pos}:PE X (.Constant (.int i) j pos) (tC (.int i)):=fun _ _ _ H _ I h=>wpAny_Constant_int ⟨.int i,H,I.tok _,⟨_,rfl⟩,h⟩
theorem pe_bl {b j pos}:PE X (.Constant (.bool b) j pos) (tC (.bl b)):=fun _ _ _ H _ I h=>Constant_bool ⟨.bl b,H,I,rfl,h⟩
theorem pe_non {j pos}:PE X (.Constant .none j pos) (tC .non):=fun _ _ _ H _ I h=>Constant_none ⟨.non,H,I,rfl,h⟩
theorem pe_str {x j pos}:PE X (.Constant (.str x) j pos) (tC (.str x)):=fun _ _ _ H _ I h=>Calls.Constant_str ⟨.str x,H,I.tok _,⟨_,rfl⟩,h⟩
def Gl (X:Cx)(x:Str):Prop:=X.env.kindOf x=some .globalImplicit
theorem ld_glob {E:Value->Shared->Prop}{pins:List (Addr×Obj)}{s:Shared}{σ:St}{H:Hp}{x:Str}{u:Value}{pos:Pos}{Q:Value->Shared->Prop}(I:Inv X pins σ H s)(hg:Gl X x)(hm:X.mg x=some u)(h:Q u s)
  (hd:(x==("__debug__" : Str))=false:=by decide):wpAny (model X.prog X.w) X.A (eval (.Name x pos) X.env) Q E s:=
 Calls.Name_function_global I.ok.kind hg (Calls.loadGlobal_global (by rw[I.ok.glob];exact I.mod.glob.keeps I.bk) hm h) hd
theorem ld_blt {E:Value->Shared->Prop}{pins:List (Addr×Obj)}{s:Shared}{σ:St}{H:Hp}{x:Str}{u:Value}{pos:Pos}{Q:Value->Shared->Prop}(I:Inv X pins σ H s)(hg:Gl X x)(hm:X.mg x=none)(hv:bootBuiltins x=some u)(h:Q u s)
  (hn:x ≠ "__name__" := by decide) (hd:(x==("__debug__" : Str))=false:=by decide):wpAny (model X.prog X.w) X.A (eval (.Name x pos) X.env) Q E s:=by
 obtain⟨mb,h1,h2⟩:=I.mod.blt
 exact Calls.Name_function_global I.ok.kind hg (Calls.loadGlobal_builtin (by rw[I.ok.glob];exact I.mod.glob.keeps I.bk) hm (by rw[I.ok.blt];exact h1.keeps I.bk) ((h2 x hn).trans hv) h) hd
theorem pe_glob {x:Str}{v:V}{u:Value}{pos:Pos}(hg:Gl X x)(hm:X.mg x=some u)(r:RelV v u)(hd:(x==("__debug__" : Str))=false:=by decide):PE X (.Name x pos) (tC v):=
 fun _ _ _ H _ I h=>ld_glob I hg hm ⟨v,H,I,r,h⟩ hd
theorem pe_bltn {x:Str}{v:V}{u:Value}{pos:Pos}(hg:Gl X x)(hm:X.mg x=none)(hv:bootBuiltins x=some u)(r:RelV v u)(hn:x ≠ "__name__" := by decide)(hd:(x==("__debug__" : Str))=false:=by decide):PE X (.Name x pos) (tC v):=
 fun _ _ _ H _ I h=>ld_blt I hg hm hv ⟨v,H,I,r,h⟩ hn hd
variable {a b:Expr} {ta tb:TE} {pos:Pos}
def PC (X:Cx)(op:CmpOp)(a b:Expr)(t:TE):Prop:=
 ∀(pins:List (Addr×Obj)) (s:Shared) (σ:St) (H:Hp) (Q:VK),Inv X pins σ H s->t σ H Q ->
  wpAny (model X.prog X.w) X.A (eval a X.env) (fun v s₁=>wpAny (model X.prog X.w) X.A (eval b X.env) (fun u s₂=>wpAny (model X.prog X.w) X.A (compareOp op v u) (EP X pins σ Q) X.xe s₂) X.xe s₁) X.xe s
def tB (t:TE):TT:=fun σ H Q=>t σ H fun x H1=>∃c,x=.bl c/\Q c H1
theorem pt_val {e:Expr}{t:TE}(h:PE X e t)(he:∀whole,isTrue e X.env whole=(do let v <- whole;standAt e.pos;holding [v] (truthy v)):=by intro _;rfl):PT X e (tB t):=by
 intro pins s σ H Q I hw
 refine isTrue_plain (thn (h pins s σ H _ I hw) fun v s1 ⟨x,H1,I1,r1,q1⟩=>?_) (he _)
 obtain⟨d,rfl,q⟩:=q1
 cases r1
 exact wpAny_truthy_bool ⟨H1,I1,q⟩
variable {tA tB':TT} {rest:List Expr}
def tOr (t u:TT):TT:=fun σ H Q=>t σ H fun c H1=>if c=true then Q true H1 else u σ H1 Q
def tNot (t:TT):TT:=fun σ H Q=>t σ H fun c H1=>Q (!c) H1
theorem pw_or1 (ha:PT X a tA):PW X (.BoolOp .Or [a] pos) tA:=by
 intro wh pins s σ H Q I h
 refine isTrue_or (thn (ha pins s σ H Q I h) fun c s1 e=>?_)
 cases c with
 |false=>exact isTrue_or_nil e
 |true=>exact e
theorem pw_or (ha:PT X a tA)(hb:PW X (.BoolOp .Or (b::rest) pos) tB'):PW X (.BoolOp .Or (a::b::rest) pos) (tOr tA tB'):=by
 intro wh pins s σ H Q I h
 refine isTrue_or (thn (ha pins s σ H _ I h) fun c s1 ⟨H1,I1,q1⟩=>?_)
 cases c with
 |true=>exact⟨H1,I1,q1⟩
 |false=>exact hb wh pins s1 σ H1 Q I1 q1
theorem pt_not (ha:PT X a tA):PT X (.UnaryOp .Not a pos) (tNot tA):=by
 intro pins s σ H Q I h
 exact isTrue_not (ha pins s σ H (fun c H1=>Q (!c) H1) I h)
def tAndV (ta tb:TE):TE:=fun σ H Q=>ta σ H fun x H1=>∃c,x=.bl c/\if c=true then tb σ H1 Q else Q (.bl false) H1
def tNotV (ta:TE):TE:=fun σ H Q=>ta σ H fun x H1=>∃c,x=.bl c/\Q (.bl (!c)) H1
theorem pe_one {op}{t:TE}(h:PE X a t):PE X (.BoolOp op [a] pos) t:=fun pins s σ H Q I hw=>BoolOp_one (h pins s σ H Q I hw)
theorem pe_and (ha:PE X a ta)(hb:PE X (.BoolOp .And (b::rest) pos) tb):PE X (.BoolOp .And (a::b::rest) pos) (tAndV ta tb):=by
 intro pins s σ H Q I h
 refine BoolOp_and (thn (ha pins s σ H _ I h) fun v s1 ⟨x,H1,I1,r1,q1⟩=>?_)
 obtain⟨c,rfl,q1⟩:=q1
 cases r1
 refine wpAny_truthy_bool ?_
 cases c with
 |true=>exact hb pins s1 σ H1 Q I1 q1
 |false=>exact⟨.bl false,H1,I1,rfl,q1⟩
theorem pe_not (ha:PE X a ta):PE X (.UnaryOp .Not a pos) (tNotV ta):=by
 intro pins s σ H Q I h
 refine UnaryOp_ (thn (ha pins s σ H _ I h) fun v s1 ⟨x,H1,I1,r1,q1⟩=>?_)
 obtain⟨c,rfl,q1⟩:=q1
 cases r1
 exact not_of (wpAny_truthy_bool ⟨.bl (!c),H1,I1,rfl,q1⟩)
end
end L2
namespace L2
open PySem PySem.Spec PyProof.Rows
def SqL (K:PySem.W.Frag)(H:Hp)(a:Addr)(xs:List V):Prop:=
 Rd H a (.lst xs) \/
  ∃(o:Obj) (its:Array Value) (n:Nat),K.lookup a=some o/\o.cls=.type "list" /\ o.dict=none/\o.data=.seq its n/\its.size<=sizeLine/\Vals xs its.toList
def SqT (K:PySem.W.Frag)(H:Hp)(a:Addr)(xs:List V):Prop:=
 Rd H a (.tup xs) \/
  ∃(o:Obj) (its:Array Value) (n:Nat),K.lookup a=some o/\o.cls=.type "tuple" /\ o.data=.seq its n/\its.size<=sizeLine/\Vals xs its.toList
def absV:Value->Option V
 |.none=>some .non
 |.bool b=>some (.bl b)
 |.int i _=>some (.int i)
 |.str x _=>some (.str x)
 |.bytes b _=>some (.byt b)
 |.float b _=>some (.flt b)
 |.ref a=>some (.ref a)
 |.type n=>some (.ty n)
 |_=>none
theorem RelV.abs {x:V}{u:Value}(r:RelV x u):absV u=some x:=by
 cases x with
 |non=>cases r;rfl
 |bl _=>cases r;rfl
 |int _=>obtain⟨t,rfl⟩:=r;rfl
 |str _=>obtain⟨t,rfl⟩:=r;rfl
 |byt _=>obtain⟨t,rfl⟩:=r;rfl
 |flt _=>obtain⟨t,rfl⟩:=r;rfl
 |ref _=>cases r;rfl
 |ty _=>cases r;rfl
theorem RelV.inj {x y:V}{u:Value}(r:RelV x u)(q:RelV y u):x=y:=Option.some.inj (r.abs.symm.trans q.abs)
theorem Vals.inj:∀{xs ys:List V} {us:List Value},Vals xs us->Vals ys us->xs=ys
 |_,_,_,.nil,.nil=>rfl
 |_,_,_,.cons r t,.cons r' t'=>by rw[r.inj r',Vals.inj t t']
section
variable {X:Cx} {pins:List (Addr×Obj)} {σ:St} {H:Hp} {s:Shared} {a:Addr} {xs ys:List V}
theorem SqL.of {K:PySem.W.Frag}(h:H a=some (.lst xs)):SqL K H a xs:=.inl (.inl h)
theorem SqT.of {K:PySem.W.Frag}(h:H a=some (.tup xs)):SqT K H a xs:=.inl (.inl h)
theorem Inv.list (I:Inv X pins σ H s)(h:SqL X.K H a xs):∃its:List Value,Vals xs its/\PlainL s.heap a its.toArray/\xs.length<=sizeLine:=by
 rcases h with h|⟨o,its,n,hk,hc,hd,hs,hz,r⟩
 ·obtain⟨z,its,n,r,e⟩:=h.ok I.hok
  exact⟨its,r,⟨_,n,e,rfl,rfl,rfl⟩,z⟩
 ·refine⟨its.toList,r,⟨o,n,I.kIn a o hk,hc,hd,by simpa using hs⟩,?_⟩
  have e:=r.length
  simp only[Array.length_toList]at e
  omega
theorem Inv.tuple (I:Inv X pins σ H s)(h:SqT X.K H a xs):∃its:List Value,Vals xs its/\IsTup s.heap a its.toArray/\xs.length<=sizeLine:=by
 rcases h with h|⟨o,its,n,hk,hc,hs,hz,r⟩
 ·obtain⟨z,its,r,p⟩:=h.ok I.hok
  exact⟨its,r,p,z⟩
 ·refine⟨its.toList,r,⟨o,I.kIn a o hk,hc,n,by simpa using hs⟩,?_⟩
  have e:=r.length
  simp only[Array.length_toList]at e
  omega
theorem Inv.list_inj (I:Inv X pins σ H s)(h:SqL X.K H a xs)(h':SqL X.K H a ys):xs=ys:=by
 obtain⟨its,r,⟨o,n,e,_,_,d⟩,_⟩:=I.list h
 obtain⟨its',r',⟨o',n',e',_,_,d'⟩,_⟩:=I.list h'
 rw[e]at e';cases e'
 rw[d]at d'
 injection d' with d1 _
 have:its=its':=by simpa using congrArg Array.toList d1
 subst this
 exact r.inj r'
theorem Inv.tuple_inj (I:Inv X pins σ H s)(h:SqT X.K H a xs)(h':SqT X.K H a ys):xs=ys:=by
 obtain⟨its,r,⟨o,e,_,n,d⟩,_⟩:=I.tuple h
 obtain⟨its',r',⟨o',e',_,n',d'⟩,_⟩:=I.tuple h'
 rw[e]at e';cases e'
 rw[d]at d'
 injection d' with d1 _
 have:its=its':=by simpa using congrArg Array.toList d1
 subst this
 exact r.inj r'
end
abbrev Cx.wish (X:Cx)(E:Value->Shared->Prop):Cx:={X with xe:=E}
abbrev Cx.nox (X:Cx):Cx:=X.wish fun _ _=>False
theorem Cx.Ok.wish {X:Cx}(ok:X.Ok)(E:Value->Shared->Prop):(X.wish E).Ok:=
 ⟨ok.mod,ok.kind,ok.glob,ok.blt,ok.above,ok.inj,ok.has,ok.cab,ok.hd,ok.frames,ok.stk,ok.exf,ok.bs,ok.bsz,ok.noex,ok.exfs,ok.funs,ok.frf⟩
theorem Cx.Ok.unwish {X:Cx}{E:Value->Shared->Prop}(ok:(X.wish E).Ok):X.Ok:=
 ⟨ok.mod,ok.kind,ok.glob,ok.blt,ok.above,ok.inj,ok.has,ok.cab,ok.hd,ok.frames,ok.stk,ok.exf,ok.bs,ok.bsz,ok.noex,ok.exfs,ok.funs,ok.frf⟩
section
variable {X:Cx} {pins:List (Addr×Obj)} {σ:St} {H:Hp} {s:Shared} {E:Value->Shared->Prop}
theorem Inv.wish (I:Inv X pins σ H s)(E:Value->Shared->Prop):Inv (X.wish E) pins σ H s:=⟨I.ok.wish E,I.os,I.bare,I.base,I.loc,I.cell,I.free,I.freeC,I.pin,I.hok,I.len⟩
theorem Inv.unwish (I:Inv (X.wish E) pins σ H s):Inv X pins σ H s:=⟨I.ok.unwish,I.os,I.bare,I.base,I.loc,I.cell,I.free,I.freeC,I.pin,I.hok,I.len⟩
theorem SP.unwish {D:Ends}{f:Flow}{s':Shared}(h:SP (X.wish E) pins D f s'):SP X pins D f s':=by
 cases f with
 |next=>obtain⟨σ',H',I,q⟩:=h;exact⟨σ',H',I.unwish,q⟩
 |brk=>obtain⟨σ',H',I,q⟩:=h;exact⟨σ',H',I.unwish,q⟩
 |cont=>obtain⟨σ',H',I,q⟩:=h;exact⟨σ',H',I.unwish,q⟩
 |ret u=>obtain⟨v,σ',H',I,r,q⟩:=h;exact⟨v,σ',H',I.unwish,r,q⟩
theorem PSs.nox {st:List Stmt}{t:TS}(h:PSs X.nox st t):PSs X st t:=fun pins s σ H D I hw=>
 wpAny_mono (h pins s σ H D (I.wish _) hw) (fun _ _ q=>q.unwish) fun _ _ z=>False.elim z
end
section
variable {X:Cx} {st:Stmt} {rest:List Stmt} {t u:TS} {e:Expr} {te:TE} {pos:Pos}
def tNext:TS:=fun D σ H=>D.nx σ H
def tSeq (t u:TS):TS:=fun D σ H=>t {D with nx:=u D} σ H
theorem pss_nil:PSs X [] tNext:=fun _ _ σ H _ I h=>wpAny_execs_nil ⟨σ,H,I,h⟩
theorem pss_cons (h1:PS X st t)(h2:PSs X rest u):PSs X (st::rest) (tSeq t u):=by
 intro pins s σ H D I h
 refine wpAny_execs_cons (thn (h1 pins s σ H {D with nx:=u D} I h) fun f s1 q=>?_)
 cases f with
 |next=>
  obtain⟨σ',H',I',q⟩:=q
  exact h2 pins s1 σ' H' D I' q
 |ret v=>exact q
 |brk=>exact q
 |cont=>exact q
theorem pss_one (h1:PS X st t):PSs X [st] t:=by
 intro pins s σ H D I h
 refine wpAny_execs_cons (thn (h1 pins s σ H D I h) fun f s1 q=>?_)
 cases f with
 |next=>exact wpAny_execs_nil q
 |ret v=>exact q
 |brk=>exact q
 |cont=>exact q
theorem Inv.quiet {pins:List (Addr×Obj)}{σ:St}{H:Hp}{s:Shared}(I:Inv X pins σ H s):interactive X.env=false:=by simp[interactive,I.ok.kind]
def tDrop (te:TE):TS:=fun D σ H=>te σ H fun _ H1=>D.nx σ H1
theorem ps_expr (he:PE X e te)(hs:swapsWith e none pos.line X.env=pure false:=by rfl):PS X (.Expr e pos) (tDrop te):=by
 intro pins s σ H D I h
 exact wpAny_Expr_any (thn (he pins s σ H _ I h) fun v s1 ⟨x,H1,I1,r1,q1⟩=>⟨σ,H1,I1,q1⟩) I.quiet hs
def tRet (te:TE):TS:=fun D σ H=>te σ H D.rt
theorem ps_ret (he:PE X e te):PS X (.Return (some e) pos) (tRet te):=by
 intro pins s σ H D I h
 exact wpAny_Return_some (thn (he pins s σ H _ I h) fun v s1 ⟨x,H1,I1,r1,q1⟩=>⟨x,σ,H1,I1,r1,q1⟩)
def tIfS (c:TT)(t u:TS):TS:=fun D σ H=>c σ H fun b H1=>if b=true then t D σ H1 else u D σ H1
theorem ps_if {c:Expr}{a b:List Stmt}{tc:TT}(hc:PT X c tc)(ha:PSs X a t)(hb:PSs X b u):PS X (.If c a b pos) (tIfS tc t u):=by
 intro pins s σ H D I h
 refine wpAny_If (thn (hc pins s σ H _ I h) fun d s1 ⟨H1,I1,q1⟩=>?_)
 cases d with
 |true=>exact ha pins s1 σ H1 D I1 q1
 |false=>exact hb pins s1 σ H1 D I1 q1
end
abbrev TG:=V->St->Hp->(St->Hp->Prop)->Prop
abbrev TGs:=List V->St->Hp->(St->Hp->Prop)->Prop
def PG (X:Cx)(target:Expr)(t:TG):Prop:=
 ∀(pins:List (Addr×Obj)) (s:Shared) (σ:St) (H:Hp) (v:V) (u:Value) (Q:St->Hp->Prop),Inv X pins σ H s->RelV v u->t v σ H Q ->
  wpAny (model X.prog X.w) X.A (assign target X.env u) (fun _ s'=>∃σ' H',Inv X pins σ' H' s'/\Q σ' H') X.xe s
def PGs (X:Cx)(ts:List Expr)(t:TGs):Prop:=
 ∀(pins:List (Addr×Obj)) (s:Shared) (σ:St) (H:Hp) (vs:List V) (us:List Value) (Q:St->Hp->Prop),Inv X pins σ H s->Vals vs us->t vs σ H Q ->
  wpAny (model X.prog X.w) X.A (assignInOrder ((assignEach ts X.env).map (·.2)) us) (fun _ s'=>∃σ' H',Inv X pins σ' H' s'/\Q σ' H') X.xe s
abbrev TSet:=V->V->V->Hp->(Hp->Prop)->Prop
def PSet (X:Cx)(t:TSet):Prop:=
 ∀(pins:List (Addr×Obj)) (s:Shared) (σ:St) (H:Hp) (o i v:V) (ov iv u:Value) (Q:Hp->Prop),Inv X pins σ H s->RelV o ov->RelV i iv->RelV v u->t o i v H Q ->
  wpAny (model X.prog X.w) X.A (setItem ov iv u) (fun _ s'=>∃H',Inv X pins σ H' s'/\Q H') X.xe s
section
variable {X:Cx} {pos:Pos}
def gName (i:Nat):TG:=fun v σ H Q=>Q (σ.set i (some v)) H
theorem pg_name {i:Nat}{x:Str}(hN:X.N.Nodup)(hi:X.N[i]?=some x)(hx:Loc X.env.scope x)(hf:X.fn x=true\/X.env.scope.names.lookup x=some .local:=by first|exact .inl rfl|exact .inr rfl|assumption):PG X (.Name x pos) (gName i):=by
 intro pins s σ H v u Q I r h
 exact wpAny_assign_Name (store_ok I hN hi hx r (fun s' I'=>⟨_,H,I',h⟩) hf)
def gNil:TGs:=fun vs σ H Q=>vs=[]/\Q σ H
def gCons (t:TG)(u:TGs):TGs:=fun vs σ H Q=>∃v r,vs=v::r/\t v σ H fun σ' H'=>u r σ' H' Q
theorem pgs_nil:PGs X [] gNil:=by
 intro pins s σ H vs us Q I r h
 obtain⟨e,h⟩:=h
 subst e
 cases r
 exact assignInOrder_nil ⟨σ,H,I,h⟩
theorem pgs_cons {e:Expr}{es:List Expr}{t:TG}{u:TGs}(h1:PG X e t)(h2:PGs X es u)
  (hs:(assignEach (e::es) X.env).map (·.2)=assign e X.env::(assignEach es X.env).map (·.2):=by rfl):PGs X (e::es) (gCons t u):=by
 intro pins s σ H vs us Q I r h
 obtain⟨v,vr,e1,h⟩:=h
 subst e1
 cases r with
 |cons r rr=>
  rw[hs]
  refine assignInOrder_cons (thn (h1 pins s σ H _ _ _ I r h) fun _ s1 ⟨σ1,H1,I1,q1⟩=>?_)
  exact h2 pins s1 σ1 H1 _ _ Q I1 rr q1
def gTup (K:PySem.W.Frag)(n:Nat)(t:TGs):TG:=fun v σ H Q=>∃a xs,v=.ref a/\SqT K H a xs/\xs.length=n/\t xs σ H Q
theorem pg_tup {es:List Expr}{k:Nat}{t:TGs}{n:Nat}(hc:X.calm=true)(h:PGs X es t)
  (hn:(assignEach es X.env).length=n:=by rfl) (hst:(assignEach es X.env).findIdx? (·.1)=none:=by rfl):PG X (.Tuple es k pos) (gTup X.K n t):=by
 intro pins s σ H v u Q I r hw
 obtain⟨a,xs,e1,hq,hl,hw⟩:=hw
 subst e1
 cases r
 obtain⟨its,rv,ht,hz⟩:=I.tuple hq
 refine assign_Tuple_tuple (I.ok.hd hc) ht (by simp[hn,<-hl,rv.length]) hst fun h' hx=>?_
 have I1:Inv X pins σ H {s with heap:=h' }:=I.kept (t':=s.toks) fun b o e=>hx b o (Nat.ne_of_lt (Heap.lt_size e)) e
 exact h pins _ σ H xs _ Q I1 (by simpa using rv) hw
def gSub (to ti:TE)(t:TSet):TG:=fun v σ H Q=>to σ H fun o H1=>ti σ H1 fun i H2=>t o i v H2 fun H3=>Q σ H3
theorem pg_sub {o i:Expr}{to ti:TE}{t:TSet}(ho:PE X o to)(hi:PE X i ti)(hs:PSet X t)
  (ha:∀v,assign (.Subscript o i pos) X.env v=(do
   let ov <- holding [v] (eval o X.env)
   let iv <- holding [v,ov] (eval i X.env)
   standAt pos
   holding [v,ov,iv] (setItem ov iv v)
   release [v,ov,iv] []):=by intro _;rfl):PG X (.Subscript o i pos) (gSub to ti t):=by
 intro pins s σ H v u Q I r h
 rw[ha]
 refine wpAny_bind (wpAny_holding (thn (ho pins s σ H _ I h) fun ov s1 ⟨x,H1,I1,r1,q1⟩=>?_))
 refine wpAny_bind (wpAny_holding (thn (hi pins s1 σ H1 _ I1 q1) fun iv s2 ⟨y,H2,I2,r2,q2⟩=>?_))
 refine wpAny_bind (wpAny_standAt (wpAny_bind (wpAny_holding (thn (hs pins s2 σ H2 x y v ov iv u _ I2 r1 r2 r q2) fun _ s3 ⟨H3,I3,q3⟩=>?_))))
 exact wpAny_release ⟨σ,H3,I3,q3⟩
def tAsg (te:TE)(g:TG):TS:=fun D σ H=>te σ H fun x H1=>g x σ H1 D.nx
theorem ps_asg {tg e:Expr}{te:TE}{g:TG}(he:PE X e te)(hg:PG X tg g)(hs:swapsWithSole [tg] e pos.line X.env=pure false:=by rfl)(hw:swappedStores [tg] e X.env=pure none:=by rfl)
  (h1:(assignEach [tg] X.env).map (·.2)=[assign tg X.env]:=by rfl):PS X (.Assign [tg] e pos) (tAsg te g):=by
 intro pins s σ H D I h
 refine wpAny_Assign_stores (thn (he pins s σ H _ I h) fun v s1 ⟨x,H1,I1,r1,q1⟩=>?_) hs hw
 rw[h1]
 exact thn (hg pins s1 σ H1 x v _ I1 r1 q1) fun _ s2 q=>q
theorem ps_set {i:Nat}{x:Str}{e:Expr}{te:TE}{pos':Pos}(hN:X.N.Nodup)(hi:X.N[i]?=some x)(hx:Loc X.env.scope x)(he:PE X e te)(hs:swapsWith e (some (.Name x pos')) pos.line X.env=pure false:=by rfl)(hf:X.fn x=true\/X.env.scope.names.lookup x=some .local:=by first|exact .inl rfl|exact .inr rfl|assumption):
  PS X (.Assign [.Name x pos'] e pos) (tAsg te (gName i)):=by
 intro pins s σ H D I h
 refine wpAny_Assign_Name (thn (he pins s σ H _ I h) fun v s1 ⟨y,H1,I1,r1,q1⟩=>?_) hs
 exact store_ok I1 hN hi hx r1 (fun s2 I2=>⟨_,H1,I2,q1⟩) hf
end
section
variable {X:Cx} {pos:Pos}
def tWhile (c:TT)(tb:TS):TS:=fun D σ H=>∃W:Nat->St->Hp->Prop,(∃m,W m σ H)/\∀m σ H,W m σ H ->
 c σ H fun b H1=>if b=true then ∃N:St->Hp->Prop,(∀σ' H',N σ' H'->∃m',m'<m/\W m' σ' H')/\tb {D with nx:=N,ct:=N,bk:=D.nx} σ H1 else D.nx σ H1
theorem ps_while {c:Expr}{body:List Stmt}{tc:TT}{tb:TS}(hp:PassesOwn (model X.prog X.w) X.A X.env X.xe)(hc:PT X c tc)(hb:PSs X body tb):PS X (.While c body [] pos) (tWhile tc tb):=by
 intro pins s σ H D I h
 obtain⟨W,⟨m0,w0⟩,turn⟩:=h
 refine wpAny_While (codeAny_whileLoop (fun n s'=>∃σ' H',Inv X pins σ' H' s'/\W n σ' H') ?_ m0 ⟨σ,H,I,w0⟩)
 rintro n s1 ⟨σ1,H1,I1,w1⟩
 refine wpAny_passesOwn hp (thn (hc pins s1 σ1 H1 _ I1 (turn n σ1 H1 w1)) fun b s2 ⟨H2,I2,q2⟩=>?_)
 cases b with
 |true=>
  obtain⟨N,hN,q2⟩:=q2
  rw[if_pos rfl]
  refine wpAny_passesOwn hp (thn (hb pins s2 σ1 H2 _ I2 q2) fun f s3 q3=>?_)
  cases f with
  |next=>
   obtain⟨σ3,H3,I3,n3⟩:=q3
   obtain⟨m',hm,w3⟩:=hN σ3 H3 n3
   exact⟨m',hm,σ3,H3,I3,w3⟩
  |cont=>
   obtain⟨σ3,H3,I3,n3⟩:=q3
   obtain⟨m',hm,w3⟩:=hN σ3 H3 n3
   exact⟨m',hm,σ3,H3,I3,w3⟩
  |brk=>exact q3
  |ret v=>exact q3
 |false=>
  rw[if_neg Bool.false_ne_true]
  exact wpAny_execs_nil ⟨σ1,H2,I2,q2⟩
end
structure It where
 go:Nat->Hp->Prop
 yld:Nat->Hp->V->Hp->Prop
 stop:Nat->Hp->Prop
def FpOk (X:Cx)(pins:List (Addr×Obj))(H:Hp)(b:Addr):Prop:=
 H b=none/\b≠X.env.locals/\b∉X.fs/\(b∈X.ex\/X.s₀.heap.objs.size<=b)/\(∀x c,X.env.cells.lookup x=some c->c≠b)/\∀p∈X.pn++pins,p.1≠b
theorem Inv.fpOk {X:Cx}{pins:List (Addr×Obj)}{σ:St}{H H':Hp}{s:Shared}{b:Addr}(I:Inv X pins σ H s)(hb:s.heap.objs.size<=b)(hn:H' b=none):FpOk X pins H' b:=by
 refine⟨hn,Nat.ne_of_gt (Nat.lt_of_lt_of_le I.lt hb),I.nofs hb,.inr (Nat.le_trans I.sz hb),fun x c e z=>?_,fun p hp z=>?_⟩
 ·obtain⟨v,q⟩:=I.cell x c e
  exact absurd (Nat.lt_of_lt_of_le q.lt (by rw[z];exact hb)) (Nat.lt_irrefl _)
 ·exact absurd (Nat.lt_of_lt_of_le (Heap.lt_size (I.pin p hp).1) (by rw[z];exact hb)) (Nat.lt_irrefl _)
structure Turn (P:Program)(w:World)(K:PySem.W.Frag)(tg:Expr)(J:It)(fp:List Addr)(it:Addr)(tn:Nat->Heap->Prop):Prop where
 mem:it∈fp
 obj:∀i h,tn i h->∀b∈fp,∃o,h.get? b=some o/\∀v,o.data ≠ .cell v
 keep:∀i h h',tn i h->(∀b∈fp,∀o,h.get? b=some o->h'.get? b=some o)->tn i h'
 item:∀(X:Cx),X.prog=P->X.w=w->X.K=K->X.calm=true->∀(i:Nat) (pins:List (Addr×Obj)) (s:Shared) (σ:St) (H:Hp) (E:Value->Shared->Prop),Inv X pins σ H s->(∀b∈fp,FpOk X pins H b)->tn i s.heap->J.go i H ->
  wpAny (model P w) X.A (pyNext (.ref it)) (fun r s1=>∃u,r=some u /\
   wpAny (model P w) X.A (letOwnedTupleGo tg (.ref it) u) (fun _ s2=>∃x H',Inv X pins σ H' s2/\RelV x u/\J.yld i H x H'/\tn (i+1) s2.heap/\∀b∈fp,H' b=none) E s1) E s
 done:∀(X:Cx),X.prog=P->X.w=w->X.K=K->X.calm=true->∀(i:Nat) (pins:List (Addr×Obj)) (s:Shared) (σ:St) (H:Hp) (E:Value->Shared->Prop),Inv X pins σ H s->(∀b∈fp,FpOk X pins H b)->tn i s.heap->J.stop i H ->
  wpAny (model P w) X.A (pyNext (.ref it)) (fun r s1=>r=none/\Inv X pins σ H s1) E s
 self:∀(A:Around) (i:Nat) (s:Shared) (Q:Value->Shared->Prop) (E:Value->Shared->Prop),tn i s.heap->Q (.ref it) s->wpAny (model P w) A (pyIter (.ref it)) Q E s
abbrev TI:=St->Hp->(It->Hp->Prop)->Prop
def PIE (X:Cx)(pins:List (Addr×Obj))(σ:St)(tg:Expr)(R:It->Hp->Prop)(itv:Value)(s2:Shared):Prop:=
 ∃(it:Addr) (fp:List Addr) (tn:Nat->Heap->Prop) (J:It) (H':Hp),itv=.ref it/\Inv X pins σ H' s2/\Turn X.prog X.w X.K tg J fp it tn/\tn 0 s2.heap/\(∀b∈fp,FpOk X pins H' b)/\R J H'
def PI (X:Cx)(tg iter:Expr)(wi:TI):Prop:=
 ∀(pins:List (Addr×Obj)) (s:Shared) (σ:St) (H:Hp) (R:It->Hp->Prop),Inv X pins σ H s->wi σ H R ->
  wpAny (model X.prog X.w) X.A (eval iter X.env) (fun v s1=>wpAny (model X.prog X.w) X.A (pyIter v) (PIE X pins σ tg R) X.xe s1) X.xe s
theorem go_of {M:Model}{A:Around}{E:Value->Shared->Prop}{s:Shared}{tg:Expr}{it:Addr}{u:Value}{o:Obj}{n:String}{vs:Array Value}{Q:Unit->Shared->Prop}(ho:s.heap.get? it=some o)(hc:o.cls=.type n)(hd:o.data=.fields vs)
    (hn:["enumerate","zip","dict_itemiterator","dict_reverseitemiterator","odict_iterator","itertools.zip_longest","itertools.pairwise"].contains n=false) (hQ:Q () s):wpAny M A (letOwnedTupleGo tg (.ref it) u) Q E s:=by
  unfold letOwnedTupleGo
  cases tg<;>first
    | exact wpAny_pure hQ
    | (cases u<;>first
        | exact wpAny_pure hQ
        | (refine wpAny_bind (wpAny_load ho ?_)
           rw[hc,hd]
           show wpAny M A (if (["enumerate","zip","dict_itemiterator","dict_reverseitemiterator","odict_iterator","itertools.zip_longest","itertools.pairwise"].contains n&&vs[0]? == some (rawInt _))=true then _ else _) Q E s
           rw[if_neg (by intro h;rw[hn,Bool.false_and]at h;cases h)]
           exact wpAny_pure hQ))
def Itl (K:PySem.W.Frag)(a:Addr):It:=
 ⟨fun i H=>∃xs x,SqL K H a xs/\xs[i]?=some x,fun i H x H'=>H'=H/\∀xs,SqL K H a xs->xs[i]?=some x,fun i H=>∃xs,SqL K H a xs/\xs.length<=i⟩
def Itt (K:PySem.W.Frag)(a:Addr):It:=
 ⟨fun i H=>∃xs x,SqT K H a xs/\xs[i]?=some x,fun i H x H'=>H'=H/\∀xs,SqT K H a xs->xs[i]?=some x,fun i H=>∃xs,SqT K H a xs/\xs.length<=i⟩
def Itr (lo:Int)(n:Nat):It:=⟨fun i _=>i<n,fun i H x H'=>H'=H/\x=.int (lo+i),fun i _=>n<=i⟩
theorem turn_list {P:Program}{w:World}{K:PySem.W.Frag}{tg:Expr}(a it:Addr):Turn P w K tg (Itl K a) [it] it (fun i h=>h.IsListIter it a i) where
 mem:=by simp
 obj:=fun i h st b hb=>by
  have e:b=it:=by simpa using hb
  subst e
  obtain⟨o,e,c,d⟩:=st
  exact⟨o,e,fun v z=>by rw[d]at z;cases z⟩
 keep:=fun i h h' st k=>st.at fun o e=>k it (by simp) o e
 item:=by
  intro X hP hw hK hc i pins s σ H E I hf st hg
  subst hP hw hK
  obtain⟨xs,x,hq,hx⟩:=hg
  obtain⟨its,rv,p,hz⟩:=I.list hq
  obtain⟨u,hu,ru⟩:=rv.get hx
  obtain⟨f0,f1,f2,f3,f4,f5⟩:=hf it (by simp)
  refine wpAny_pyNext_list_item st p.isList (x:=u) (by simpa using hu) fun h' st' sb=>?_
  have I1:Inv X pins σ H {s with heap:=h' }:=I.turned (t':=s.toks) (fun b o hb e=>(sb.2 b hb).trans e) f0 f1 f3 f4 f5
  obtain⟨o,e,c,d⟩:=id st'
  exact⟨u,rfl,go_of (s:={s with heap:=h' }) e c d (by decide) ⟨x,H,I1,ru,⟨rfl,fun ys hy=>by rw[I.list_inj hy hq];exact hx⟩,st',fun b hb=>(hf b hb).1⟩⟩
 done:=by
  intro X hP hw hK hc i pins s σ H E I hf st hg
  subst hP hw hK
  obtain⟨xs,hq,hx⟩:=hg
  obtain⟨its,rv,p,hz⟩:=I.list hq
  obtain⟨f0,f1,f2,f3,f4,f5⟩:=hf it (by simp)
  have hl:=rv.length
  exact wpAny_pyNext_list_end (I.ok.hd hc) st p.isList (by simp;omega) fun h' eb=>⟨rfl,I.turned (t':=s.toks) (fun b o hb e=>eb b o hb e) f0 f1 f3 f4 f5⟩
 self:=fun _ _ _ _ _ st h=>wpAny_pyIter_listiter st h
theorem turn_tuple {P:Program}{w:World}{K:PySem.W.Frag}{tg:Expr}(a it:Addr):Turn P w K tg (Itt K a) [it] it (fun i h=>h.IsTupleIter it a i) where
 mem:=by simp
 obj:=fun i h st b hb=>by
  have e:b=it:=by simpa using hb
  subst e
  obtain⟨o,e,c,d⟩:=st
  exact⟨o,e,fun v z=>by rw[d]at z;cases z⟩
 keep:=fun i h h' st k=>st.at fun o e=>k it (by simp) o e
 item:=by
  intro X hP hw hK hc i pins s σ H E I hf st hg
  subst hP hw hK
  obtain⟨xs,x,hq,hx⟩:=hg
  obtain⟨its,rv,p,hz⟩:=I.tuple hq
  obtain⟨u,hu,ru⟩:=rv.get hx
  obtain⟨f0,f1,f2,f3,f4,f5⟩:=hf it (by simp)
  refine wpAny_pyNext_tuple_item st (show s.heap.IsTuple a its.toArray from p) (x:=u) (by simpa using hu) fun h' st' sb=>?_
  have I1:Inv X pins σ H {s with heap:=h' }:=I.turned (t':=s.toks) (fun b o hb e=>(sb.2 b hb).trans e) f0 f1 f3 f4 f5
  obtain⟨o,e,c,d⟩:=id st'
  exact⟨u,rfl,go_of (s:={s with heap:=h' }) e c d (by decide) ⟨x,H,I1,ru,⟨rfl,fun ys hy=>by rw[I.tuple_inj hy hq];exact hx⟩,st',fun b hb=>(hf b hb).1⟩⟩
 done:=by
  intro X hP hw hK hc i pins s σ H E I hf st hg
  subst hP hw hK
  obtain⟨xs,hq,hx⟩:=hg
  obtain⟨its,rv,p,hz⟩:=I.tuple hq
  obtain⟨f0,f1,f2,f3,f4,f5⟩:=hf it (by simp)
  have hl:=rv.length
  exact wpAny_pyNext_tuple_end (I.ok.hd hc) st (show s.heap.IsTuple a its.toArray from p) (by simp;omega) fun h' eb=>⟨rfl,I.turned (t':=s.toks) (fun b o hb e=>eb b o hb e) f0 f1 f3 f4 f5⟩
 self:=fun _ _ _ _ _ st h=>wpAny_pyIter_tupleiter st h
theorem turn_range {P:Program}{w:World}{K:PySem.W.Frag}{tg:Expr}(it:Addr)(lo:Int)(n:Nat):Turn P w K tg (Itr lo n) [it] it (fun i h=>IsRangeIter h it (lo+(i:Nat)*1) ((n:Int)-(i:Nat)) 1) where
 mem:=by simp
 obj:=fun i h st b hb=>by
  have e:b=it:=by simpa using hb
  subst e
  exact⟨_,st,fun v z=>by
   have z':Data.fields _=Data.cell v:=z
   cases z'⟩
 keep:=fun i h h' st k=>k it (by simp) _ st
 item:=by
  intro X hP hw hK hc i pins s σ H E I hf st hg
  subst hP hw hK
  obtain⟨f0,f1,f2,f3,f4,f5⟩:=hf it (by simp)
  have W:=Walks.range (prog:=X.prog) (w:=X.w) (I.ok.hd hc) it lo 1 n
  refine W.item i s _ _ hg st fun v h' tk hv st' kk=>?_
  obtain⟨t,rfl⟩:=hv
  have I1:Inv X pins σ H {s with heap:=h',toks:=tk}:=I.turned (fun b o hb e=>kk b o (by simpa using hb) e) f0 f1 f3 f4 f5
  refine⟨_,rfl,go_of (s:={s with heap:=h',toks:=tk}) (n := "range_iterator") st' rfl rfl (by decide) ⟨.int (lo+i),H,I1,⟨t,?_⟩,⟨rfl,rfl⟩,st',fun b hb=>(hf b hb).1⟩⟩
  rw[Int.mul_one]
 done:=by
  intro X hP hw hK hc i pins s σ H E I hf st hg
  subst hP hw hK
  obtain⟨f0,f1,f2,f3,f4,f5⟩:=hf it (by simp)
  exact wpAny_pyNext_range_end (I.ok.hd hc) st (by have:n<=i:=hg;omega) fun h' eb=>⟨rfl,I.turned (t':=s.toks) (fun b o hb e=>eb b o hb e) f0 f1 f3 f4 f5⟩
 self:=fun _ _ _ _ _ st h=>wpAny_pyIter_rangeiter st h
end L2
namespace L2
open PySem PySem.Spec PyProof.Rows
section
variable {X:Cx} {tg:Expr}
def iList (K:PySem.W.Frag)(tl:TE):TI:=fun σ H R=>tl σ H fun x H1=>∃a,x=.ref a/\(∃xs,SqL K H1 a xs)/\R (Itl K a) H1
def iTup (K:PySem.W.Frag)(tl:TE):TI:=fun σ H R=>tl σ H fun x H1=>∃a,x=.ref a/\(∃xs,SqT K H1 a xs)/\R (Itt K a) H1
theorem pi_list {l:Expr}{tl:TE}(hl:PE X l tl):PI X tg l (iList X.K tl):=by
 intro pins s σ H R I h
 refine thn (hl pins s σ H _ I h) fun v s1 ⟨x,H1,I1,r1,q1⟩=>?_
 obtain⟨a,e,⟨xs,hq⟩,q⟩:=q1
 subst e
 cases r1
 obtain⟨its,rv,p,hz⟩:=I1.list hq
 refine wpAny_pyIter_list p.isList ?_
 refine⟨s1.heap.objs.size,[s1.heap.objs.size],_,_,H1,rfl,I1.kept (t':=s1.toks) fun b o e=>Heap.get?_push_of_some _ e,turn_list a _,⟨_,Heap.get?_push_size _ rfl,rfl,rfl⟩,fun b hb=>?_,q⟩
 have e:b=s1.heap.objs.size:=by simpa using hb
 subst e
 exact I1.fpOk (Nat.le_refl _) (I1.hok.fresh (Nat.le_refl _))
theorem pi_tup {l:Expr}{tl:TE}(hl:PE X l tl):PI X tg l (iTup X.K tl):=by
 intro pins s σ H R I h
 refine thn (hl pins s σ H _ I h) fun v s1 ⟨x,H1,I1,r1,q1⟩=>?_
 obtain⟨a,e,⟨xs,hq⟩,q⟩:=q1
 subst e
 cases r1
 obtain⟨its,rv,p,hz⟩:=I1.tuple hq
 refine wpAny_pyIter_tuple (show s1.heap.IsTuple a its.toArray from p) ?_
 refine⟨s1.heap.objs.size,[s1.heap.objs.size],_,_,H1,rfl,I1.kept (t':=s1.toks) fun b o e=>Heap.get?_push_of_some _ e,turn_tuple a _,⟨_,Heap.get?_push_size _ rfl,rfl,rfl⟩,fun b hb=>?_,q⟩
 have e:b=s1.heap.objs.size:=by simpa using hb
 subst e
 exact I1.fpOk (Nat.le_refl _) (I1.hok.fresh (Nat.le_refl _))
theorem range_it {pins:List (Addr×Obj)}{σ:St}{H:Hp}{s:Shared}{R:It->Hp->Prop}{E:Value->Shared->Prop}{lo hi:Int}{t u v:Tok}{tk:Nat}(I:Inv X pins σ H s)(h1 : -(2 ^ 62)<=lo)(h2:lo<2 ^ 62)(h3 : -(2 ^ 62)<=hi)(h4:hi<2 ^ 62)
  (q:R (Itr lo (hi-lo).toNat) H):wpAny (model X.prog X.w) X.A (pyIter (.ref s.heap.objs.size)) (PIE X pins σ tg R) E {s with heap:=s.heap.push {cls:=.type "range",data:=.fields #[.int lo t,.int hi u,.int 1 v]},toks:=tk}:=by
 refine wpAny_pyIter_range (IsRange.new ..) (small_one h1 h2 h3 h4) ?_
 have I1:Inv X pins σ H {s with heap:=s.heap.push {cls:=.type "range",data:=.fields #[.int lo t,.int hi u,.int 1 v]},toks:=tk}:=I.kept fun b o e=>Heap.get?_push_of_some _ e
 refine⟨(s.heap.push {cls:=.type "range",data:=.fields #[.int lo t,.int hi u,.int 1 v]}).objs.size,[(s.heap.push {cls:=.type "range",data:=.fields #[.int lo t,.int hi u,.int 1 v]}).objs.size],_,_,H,rfl,
  I1.kept (t':=tk) fun b o e=>Heap.get?_push_of_some _ e,turn_range _ lo (hi-lo).toNat,?_,fun b hb=>?_,q⟩
 ·have e1:lo+((0:Nat):Int)*1=lo:=by simp
  have e2:(((hi-lo).toNat:Nat):Int)-((0:Nat):Int)=Builtin.Range.rangeSize lo hi 1:=by rw[rangeSize_one];split<;>omega
  show IsRangeIter _ _ (lo+((0:Nat):Int)*1) ((((hi-lo).toNat:Nat):Int)-((0:Nat):Int)) 1
  rw[e1,e2]
  exact Heap.get?_push_size _ rfl
 ·have e:b=(s.heap.push {cls:=.type "range",data:=.fields #[.int lo t,.int hi u,.int 1 v]}).objs.size:=by simpa using hb
  subst e
  exact I1.fpOk (Nat.le_refl _) (I1.hok.fresh (Nat.le_refl _))
def iRng1 (ta:TA):TI:=fun σ H R=>ta σ H fun vs H1=>∃j:Int,vs=[.int j] /\ -(2 ^ 62)<=j/\j<2 ^ 62/\R (Itr 0 j.toNat) H1
def iRng2 (ta:TA):TI:=fun σ H R=>ta σ H fun vs H1=>∃i j:Int,vs=[.int i,.int j]/\(-(2 ^ 62)<=i/\i<2 ^ 62 /\ -(2 ^ 62)<=j/\j<2 ^ 62)/\R (Itr i (j-i).toNat) H1
theorem pi_range1 {a:Expr}{ta:TA}{p pos:Pos}(hg:Gl X "range")(hm:X.mg "range"=none)(ha:PA X [a] ta)(hs:starEach [a] X.env=[(false,eval a X.env)]:=by rfl):PI X tg (.Call (.Name "range" p) [a] [] pos) (iRng1 ta):=by
 intro pins s σ H R I h
 refine Call_ (ld_blt I hg hm boot_range (PyProof.Rows.callWith_type1 (thn (ha pos pins s σ H _ I h) fun us s1 ⟨vs,H1,I1,r1,q1⟩=>?_) hs rfl))
 obtain⟨j,e,q1,q2,q⟩:=q1
 subst e
 cases r1 with
 |cons r rr=>
  cases rr
  obtain⟨t,rfl⟩:=r
  exact call_range_1 (range_it I1 (by omega) (by omega) q1 q2 (by simpa using q))
theorem pi_range2 {a b:Expr}{ta:TA}{p pos:Pos}(hg:Gl X "range")(hm:X.mg "range"=none)(ha:PA X [a,b] ta)(hs:starEach [a,b] X.env=[(false,eval a X.env),(false,eval b X.env)]:=by rfl)(hs2:starEach [b] X.env=[(false,eval b X.env)]:=by rfl):
  PI X tg (.Call (.Name "range" p) [a,b] [] pos) (iRng2 ta):=by
 intro pins s σ H R I h
 refine Call_ (ld_blt I hg hm boot_range (PyProof.Rows.callWith_type1 (thn (ha pos pins s σ H _ I h) fun us s1 ⟨vs,H1,I1,r1,q1⟩=>?_) (by rw[hs,hs2]) (by rw[hs2];rfl)))
 obtain⟨i,j,e,⟨q1,q2,q3,q4⟩,q⟩:=q1
 subst e
 cases r1 with
 |cons r rr=>
  cases rr with
  |cons r' rr=>
   cases rr
   obtain⟨t,rfl⟩:=r
   obtain⟨t',rfl⟩:=r'
   exact call_range_2 (range_it I1 q1 q2 q3 q4 q)
def tFor (wi:TI)(g:TG)(tb:TS):TS:=fun D σ H=>wi σ H fun J H1=>∃W:Nat->Nat->St->Hp->Prop,(∃m,W 0 m σ H1)/\∀i m σ H,W i m σ H ->
 (J.stop i H/\D.nx σ H)\/(J.go i H/\∃N:St->Hp->Prop,(∀σ' H',N σ' H'->∃m',m'<m/\W (i+1) m' σ' H')/\∀x H',J.yld i H x H'->g x σ H' fun σ2 H2=>tb {D with nx:=N,ct:=N,bk:=D.nx} σ2 H2)
def pinsAt (fp:List Addr)(h:Heap):List (Addr×Obj):=fp.filterMap fun b=>(h.get? b).map fun o=>(b,o)
theorem mem_pinsAt {fp:List Addr}{h:Heap}{b:Addr}{o:Obj}(hb:b∈fp)(e:h.get? b=some o):(b,o)∈pinsAt fp h:=List.mem_filterMap.mpr ⟨b,hb,by rw[e];rfl⟩
theorem of_pinsAt {fp:List Addr}{h:Heap}{p:Addr×Obj}(hp:p∈pinsAt fp h):p.1∈fp/\h.get? p.1=some p.2:=by
 obtain⟨b,hb,e⟩:=List.mem_filterMap.mp hp
 cases q:h.get? b with
 |none=>rw[q]at e;cases e
 |some o=>
  rw[q]at e
  have e':(b,o)=p:=Option.some.inj e
  subst e'
  exact⟨hb,q⟩
theorem Inv.pinned {pins:List (Addr×Obj)}{σ:St}{H:Hp}{s:Shared}{fp:List Addr}(I:Inv X pins σ H s)(hf:∀b∈fp,FpOk X pins H b)(ho:∀b∈fp,∃o,s.heap.get? b=some o/\∀v,o.data ≠ .cell v):Inv X (pins++pinsAt fp s.heap) σ H s:=
 I.pins_of fun p hp=>(List.mem_append.mp hp).elim (fun z=>I.pin p (List.mem_append_right _ z)) fun z=>by
  obtain⟨hb,e⟩:=of_pinsAt z
  obtain⟨f0,f1,f2,_⟩:=hf p.1 hb
  obtain⟨o,e',d⟩:=ho p.1 hb
  rw[e]at e';cases e'
  exact⟨e,f0,f1,f2,d⟩
theorem Inv.unpinned {pins pl:List (Addr×Obj)}{σ:St}{H:Hp}{s:Shared}(I:Inv X (pins++pl) σ H s):Inv X pins σ H s:=I.pins_of fun p hp=>I.pin p (List.mem_append_right _ (List.mem_append_left _ hp))
theorem ps_for {iter:Expr}{body:List Stmt}{wi:TI}{g:TG}{tb:TS}{pos:Pos}(hp:PassesOwn (model X.prog X.w) X.A X.env X.xe)(hc:X.calm=true)(hi:PI X tg iter wi)(hg:PG X tg g)(hb:PSs X body tb)
  (hs:∀x,foldedSetIterable iter X.env x=pure x:=by intro _;rfl):PS X (.For tg iter body [] pos) (tFor wi g tb):=by
 intro pins s σ H D I h
 refine wpAny_For (thn (hi pins s σ H _ I h) fun v s1 h1=>thn h1 fun itv s2 h2=>?_) hs
 obtain⟨it,fp,tn,J,H2,e,I2,T,st2,f2,W,⟨m0,w0⟩,turn⟩:=h2
 subst e
 -- what stays true of the iterator's objects through the loop
 have stat:∀{H':Hp},(∀b∈fp,H' b=none)->∀b∈fp,FpOk X pins H' b:=fun hn b hb=>⟨hn b hb,(f2 b hb).2⟩
 refine codeAny_forLoop_any (fun n s'=>∃i σ' H',Inv X pins σ' H' s'/\tn i s'.heap/\(∀b∈fp,H' b=none)/\W i n σ' H') ?_ m0 ⟨0,σ,H2,I2,st2,fun b hb=>(f2 b hb).1,w0⟩
 rintro n s3 ⟨i,σ3,H3,I3,st3,fr3,w3⟩
 rcases turn i n σ3 H3 w3 with ⟨stop,qn⟩|⟨go,N,hN,step⟩
 ·refine wpAny_passesOwn hp (thn (T.done X rfl rfl rfl hc i pins s3 σ3 H3 X.xe I3 (stat fr3) st3 stop) fun r s4 ⟨hr,I4⟩=>?_)
  subst hr
  exact wpAny_execs_nil ⟨σ3,H3,I4,qn⟩
 ·refine wpAny_passesOwn hp (thn (T.item X rfl rfl rfl hc i pins s3 σ3 H3 X.xe I3 (stat fr3) st3 go) fun r s4 ⟨u,hr,h4⟩=>?_)
  subst hr
  refine wpAny_passesOwn hp (thn h4 fun _ s5 ⟨x,H5,I5,r5,y5,st5,fr5⟩=>?_)
  have I5':=I5.pinned (stat fr5) (T.obj _ _ st5)
  refine wpAny_passesOwn hp (thn (hg _ s5 σ3 H5 x u _ I5' r5 (step x H5 y5)) fun _ s6 ⟨σ6,H6,I6,q6⟩=>?_)
  refine wpAny_passesOwn hp (thn (hb _ s6 σ6 H6 _ I6 q6) fun f s7 q7=>?_)
  have again:∀{σ7:St} {H7:Hp},Inv X (pins++pinsAt fp s5.heap) σ7 H7 s7->N σ7 H7->∃m,m<n/\∃i σ' H',Inv X pins σ' H' s7/\tn i s7.heap/\(∀b∈fp,H' b=none)/\W i m σ' H':=fun {σ7 H7} I7 n7=>by
   obtain⟨m',hm,w7⟩:=hN σ7 H7 n7
   refine⟨m',hm,i+1,σ7,H7,I7.unpinned,T.keep _ _ _ st5 fun b hb o e=>(I7.pin (b,o) (List.mem_append_right _ (List.mem_append_right _ (mem_pinsAt hb e)))).1,fun b hb=>?_,w7⟩
   obtain⟨o,e,d⟩:=T.obj _ _ st5 b hb
   exact (I7.pin (b,o) (List.mem_append_right _ (List.mem_append_right _ (mem_pinsAt hb e)))).2.1
  cases f with
  |next=>obtain⟨σ7,H7,I7,n7⟩:=q7;exact again I7 n7
  |cont=>obtain⟨σ7,H7,I7,n7⟩:=q7;exact again I7 n7
  |brk=>obtain⟨σ7,H7,I7,q7⟩:=q7;exact⟨σ7,H7,I7.unpinned,q7⟩
  |ret v=>obtain⟨x7,σ7,H7,I7,r7,q7⟩:=q7;exact⟨x7,σ7,H7,I7.unpinned,r7,q7⟩
end
theorem for_list {K:PySem.W.Frag}{a:Addr}{xs:List V}{g:TG}{tb:TS}{D:Ends}{σ:St}{H:Hp}(Pv:Nat->St->Hp->Prop)(h0:Pv 0 σ H)(hl:∀i σ H,i<=xs.length->Pv i σ H->SqL K H a xs)
  (hs:∀i x σ H,xs[i]?=some x->Pv i σ H->g x σ H fun σ2 H2=>tb {D with nx:=Pv (i+1),ct:=Pv (i+1),bk:=D.nx} σ2 H2) (hd:∀σ H,Pv xs.length σ H->D.nx σ H):
  ∃W:Nat->Nat->St->Hp->Prop,(∃m,W 0 m σ H)/\∀i m σ H,W i m σ H ->
   ((Itl K a).stop i H/\D.nx σ H)\/((Itl K a).go i H/\∃N:St->Hp->Prop,(∀σ' H',N σ' H'->∃m',m'<m/\W (i+1) m' σ' H')/\∀x H',(Itl K a).yld i H x H'->g x σ H' fun σ2 H2=>tb {D with nx:=N,ct:=N,bk:=D.nx} σ2 H2):=by
 refine⟨fun i m σ H=>m=xs.length-i/\i<=xs.length/\Pv i σ H,⟨xs.length,by simp,Nat.zero_le _,h0⟩,?_⟩
 rintro i m σ H ⟨rfl,hi,p⟩
 have q:=hl i σ H hi p
 by_cases hlt:i<xs.length
 ·refine .inr ⟨⟨xs,xs[i],q,by simp[hlt]⟩,Pv (i+1),fun σ' H' p'=>⟨xs.length-(i+1),by omega,rfl,hlt,p'⟩,fun x H' y=>?_⟩
  obtain⟨e,y⟩:=y
  subst e
  exact hs i x σ _ (y xs q) p
 ·have e:i=xs.length:=by omega
  subst e
  exact .inl ⟨⟨xs,q,Nat.le_refl _⟩,hd σ H p⟩
theorem for_tup {K:PySem.W.Frag}{a:Addr}{xs:List V}{g:TG}{tb:TS}{D:Ends}{σ:St}{H:Hp}(Pv:Nat->St->Hp->Prop)(h0:Pv 0 σ H)(hl:∀i σ H,i<=xs.length->Pv i σ H->SqT K H a xs)
  (hs:∀i x σ H,xs[i]?=some x->Pv i σ H->g x σ H fun σ2 H2=>tb {D with nx:=Pv (i+1),ct:=Pv (i+1),bk:=D.nx} σ2 H2) (hd:∀σ H,Pv xs.length σ H->D.nx σ H):
  ∃W:Nat->Nat->St->Hp->Prop,(∃m,W 0 m σ H)/\∀i m σ H,W i m σ H ->
   ((Itt K a).stop i H/\D.nx σ H)\/((Itt K a).go i H/\∃N:St->Hp->Prop,(∀σ' H',N σ' H'->∃m',m'<m/\W (i+1) m' σ' H')/\∀x H',(Itt K a).yld i H x H'->g x σ H' fun σ2 H2=>tb {D with nx:=N,ct:=N,bk:=D.nx} σ2 H2):=by
 refine⟨fun i m σ H=>m=xs.length-i/\i<=xs.length/\Pv i σ H,⟨xs.length,by simp,Nat.zero_le _,h0⟩,?_⟩
 rintro i m σ H ⟨rfl,hi,p⟩
 have q:=hl i σ H hi p
 by_cases hlt:i<xs.length
 ·refine .inr ⟨⟨xs,xs[i],q,by simp[hlt]⟩,Pv (i+1),fun σ' H' p'=>⟨xs.length-(i+1),by omega,rfl,hlt,p'⟩,fun x H' y=>?_⟩
  obtain⟨e,y⟩:=y
  subst e
  exact hs i x σ _ (y xs q) p
 ·have e:i=xs.length:=by omega
  subst e
  exact .inl ⟨⟨xs,q,Nat.le_refl _⟩,hd σ H p⟩
theorem for_range {lo:Int}{n:Nat}{g:TG}{tb:TS}{D:Ends}{σ:St}{H:Hp}(Pv:Nat->St->Hp->Prop)(h0:Pv 0 σ H)
  (hs:∀i σ H,i<n->Pv i σ H->g (.int (lo+i)) σ H fun σ2 H2=>tb {D with nx:=Pv (i+1),ct:=Pv (i+1),bk:=D.nx} σ2 H2) (hd:∀σ H,Pv n σ H->D.nx σ H):
  ∃W:Nat->Nat->St->Hp->Prop,(∃m,W 0 m σ H)/\∀i m σ H,W i m σ H ->
   ((Itr lo n).stop i H/\D.nx σ H)\/((Itr lo n).go i H/\∃N:St->Hp->Prop,(∀σ' H',N σ' H'->∃m',m'<m/\W (i+1) m' σ' H')/\∀x H',(Itr lo n).yld i H x H'->g x σ H' fun σ2 H2=>tb {D with nx:=N,ct:=N,bk:=D.nx} σ2 H2):=by
 refine⟨fun i m σ H=>m=n-i/\i<=n/\Pv i σ H,⟨n,by simp,Nat.zero_le _,h0⟩,?_⟩
 rintro i m σ H ⟨rfl,hi,p⟩
 by_cases hlt:i<n
 ·refine .inr ⟨hlt,Pv (i+1),fun σ' H' p'=>⟨n-(i+1),by omega,rfl,hlt,p'⟩,fun x H' y=>?_⟩
  obtain⟨e,y⟩:=y
  subst e y
  exact hs i σ _ hlt p
 ·have e:i=n:=by omega
  subst e
  exact .inl ⟨Nat.le_refl _,hd σ H p⟩
end L2
namespace L2
open PySem PySem.Spec PyProof.Rows
abbrev R2:=V->V->Hp->VK->Prop
def OpR (X:Cx)(f:Value->Value->Sem Value)(r:R2):Prop:=
 ∀(pins:List (Addr×Obj)) (s:Shared) (σ:St) (H:Hp) (x y:V) (v u:Value) (Q:VK),Inv X pins σ H s->RelV x v->RelV y u->r x y H Q ->
  wpAny (model X.prog X.w) X.A (f v u) (EP X pins σ Q) X.xe s
def UnR (X:Cx)(f:Value->Sem Value)(r:V->Hp->VK->Prop):Prop:=
 ∀(pins:List (Addr×Obj)) (s:Shared) (σ:St) (H:Hp) (x:V) (v:Value) (Q:VK),Inv X pins σ H s->RelV x v->r x H Q ->
  wpAny (model X.prog X.w) X.A (f v) (EP X pins σ Q) X.xe s
def CallR (X:Cx)(f:Value)(r:List V->Hp->VK->Prop):Prop:=
 ∀(pins:List (Addr×Obj)) (s:Shared) (σ:St) (H:Hp) (xs:List V) (us:List Value) (Q:VK),Inv X pins σ H s->Vals xs us->r xs H Q ->
  wpAny (model X.prog X.w) X.A (call f us) (EP X pins σ Q) X.xe s
def tOp (r:R2)(ta tb:TE):TE:=fun σ H Q=>ta σ H fun x H1=>tb σ H1 fun y H2=>r x y H2 Q
def tUn (r:V->Hp->VK->Prop)(ta:TE):TE:=fun σ H Q=>ta σ H fun x H1=>r x H1 Q
def rI (C:Int->Int->Prop)(g:Int->Int->V):R2:=fun x y H Q=>∃i j,x=.int i/\y=.int j/\C i j/\Q (g i j) H
def rI0 (g:Int->Int->V):R2:=fun x y H Q=>∃i j,x=.int i/\y=.int j/\Q (g i j) H
def rU (g:Int->V):V->Hp->VK->Prop:=fun x H Q=>∃i,x=.int i/\Q (g i) H
section
variable {X:Cx} {a b c:Expr} {ta tb tc:TE} {pos:Pos}
theorem binT (ha:PE X a ta)(hb:PE X b tb){pins:List (Addr×Obj)}{s:Shared}{σ:St}{H:Hp}{R:V->V->Hp->Prop}(I:Inv X pins σ H s)
  (h:ta σ H fun x H1=>tb σ H1 fun y H2=>R x y H2) {Q:Value->Shared->Prop} {f:Value->Value->Sem Value}
  (hf:∀v u s2 x y H2,Inv X pins σ H2 s2->RelV x v->RelV y u->R x y H2->wpAny (model X.prog X.w) X.A (f v u) Q X.xe s2):
  wpAny (model X.prog X.w) X.A (eval a X.env) (fun v s₁=>wpAny (model X.prog X.w) X.A (eval b X.env) (fun u s₂=>wpAny (model X.prog X.w) X.A (f v u) Q X.xe s₂) X.xe s₁) X.xe s:=by
 refine thn (ha pins s σ H _ I h) fun v s1 ⟨x,H1,I1,r1,q1⟩=>?_
 refine thn (hb pins s1 σ H1 _ I1 q1) fun u s2 ⟨y,H2,I2,r2,q2⟩=>?_
 exact hf v u s2 x y H2 I2 r1 r2 q2
theorem pe_op {op:Operator}{r:R2}(ho:OpR X (binaryOp op) r)(ha:PE X a ta)(hb:PE X b tb):PE X (.BinOp a op b pos) (tOp r ta tb):=by
 intro pins s σ H Q I h
 exact wpAny_BinOp (binT ha hb I h fun v u s2 x y H2 I2 rx ry q=>ho pins s2 σ H2 x y v u Q I2 rx ry q)
theorem pe_un {op:UnaryOp}{r:V->Hp->VK->Prop}(ho:UnR X (unaryOp op) r)(ha:PE X a ta):PE X (.UnaryOp op a pos) (tUn r ta):=by
 intro pins s σ H Q I h
 exact UnaryOp_ (thn (ha pins s σ H _ I h) fun v s1 ⟨x,H1,I1,r1,q1⟩=>ho pins s1 σ H1 x v Q I1 r1 q1)
theorem opI {f:Value->Value->Sem Value}{C:Int->Int->Prop}{g:Int->Int->Int}
  (rule:∀(i j:Int) (t u:Tok) (s:Shared) (Q:Value->Shared->Prop) (E:Value->Shared->Prop),C i j->Q (.int (g i j) s.toks) {s with toks:=s.toks+1}->wpAny (model X.prog X.w) X.A (f (.int i t) (.int j u)) Q E s):
  OpR X f (rI C fun i j=>.int (g i j)):=by
 intro pins s σ H x y v u Q I rx ry h
 obtain⟨i,j,rfl,rfl,hc,q⟩:=h
 obtain⟨t,rfl⟩:=rx
 obtain⟨t',rfl⟩:=ry
 exact rule i j t t' s _ _ hc ⟨.int (g i j),H,I.tok _,⟨_,rfl⟩,q⟩
theorem opI0 {f:Value->Value->Sem Value}{g:Int->Int->Int}
  (rule:∀(i j:Int) (t u:Tok) (s:Shared) (Q:Value->Shared->Prop) (E:Value->Shared->Prop),Q (.int (g i j) s.toks) {s with toks:=s.toks+1}->wpAny (model X.prog X.w) X.A (f (.int i t) (.int j u)) Q E s):
  OpR X f (rI0 fun i j=>.int (g i j)):=by
 intro pins s σ H x y v u Q I rx ry h
 obtain⟨i,j,rfl,rfl,q⟩:=h
 obtain⟨t,rfl⟩:=rx
 obtain⟨t',rfl⟩:=ry
 exact rule i j t t' s _ _ ⟨.int (g i j),H,I.tok _,⟨_,rfl⟩,q⟩
theorem opB0 {f:Value->Value->Sem Value}{g:Int->Int->Bool}
  (rule:∀(i j:Int) (t u:Tok) (s:Shared) (Q:Value->Shared->Prop) (E:Value->Shared->Prop),Q (.bool (g i j)) s->wpAny (model X.prog X.w) X.A (f (.int i t) (.int j u)) Q E s):
  OpR X f (rI0 fun i j=>.bl (g i j)):=by
 intro pins s σ H x y v u Q I rx ry h
 obtain⟨i,j,rfl,rfl,q⟩:=h
 obtain⟨t,rfl⟩:=rx
 obtain⟨t',rfl⟩:=ry
 exact rule i j t t' s _ _ ⟨.bl (g i j),H,I,rfl,q⟩
def CDiv (i j:Int):Prop:=0<j/\j<1073741824
def CPow (i j:Int):Prop:=0<=j/\j<=1000000/\i.natAbs<2 ^ 64
def CMul (i j:Int):Prop:=(-(2 ^ 64)<i/\i<2 ^ 64)\/(-(2 ^ 64)<j/\j<2 ^ 64)
theorem CMul.ok {i j:Int}(h:CMul i j):IntMulOk i j:=by
 rcases h with ⟨h1,h2⟩|⟨h1,h2⟩
 ·exact .of_left (intBits_le_64 h1 h2)
 ·exact .of_right (intBits_le_64 h1 h2)
theorem op_add:OpR X (binaryOp .Add) (rI0 fun i j=>.int (i+j)):=opI0 fun _ _ _ _ _ _ _ q=>add_int q
theorem op_sub:OpR X (binaryOp .Sub) (rI0 fun i j=>.int (i-j)):=opI0 fun _ _ _ _ _ _ _ q=>sub_int q
theorem op_mul:OpR X (binaryOp .Mult) (rI CMul fun i j=>.int (i*j)):=opI fun _ _ _ _ _ _ _ hc q=>mul_int q hc.ok
theorem op_fdiv:OpR X (binaryOp .FloorDiv) (rI CDiv fun i j=>.int (i / j)):=opI fun i j _ _ _ _ _ hc q=>by
 have h1:(0:Int)<j:=hc.1
 have h2:j<1073741824:=hc.2
 exact floordiv_int (by omega) (by rw[Int.fdiv_eq_ediv_of_nonneg i (by omega)];exact q) (.inl (PyProof.noPylong_small (by omega)))
theorem op_mod:OpR X (binaryOp .Mod) (rI (fun _ j=>0<j) fun i j=>.int (i%j)):=opI fun i j _ _ _ _ _ hc q=>by
 have h1:(0:Int)<j:=hc
 exact mod_int' (by omega) (by rw[Int.fmod_eq_emod_of_nonneg i (by omega)];exact q)
theorem op_pow:OpR X (binaryOp .Pow) (rI CPow fun i j=>.int (i ^ j.toNat)):=opI fun _ _ _ _ _ _ _ hc q=>pow_int_small hc.1 hc.2.1 hc.2.2 q
theorem unI {f:Value->Sem Value}{g:Int->Int}
  (rule:∀(i:Int) (t:Tok) (s:Shared) (Q:Value->Shared->Prop) (E:Value->Shared->Prop),Q (.int (g i) s.toks) {s with toks:=s.toks+1}->wpAny (model X.prog X.w) X.A (f (.int i t)) Q E s):
  UnR X f (rU fun i=>.int (g i)):=by
 intro pins s σ H x v Q I rx h
 obtain⟨i,rfl,q⟩:=h
 obtain⟨t,rfl⟩:=rx
 exact rule i t s _ _ ⟨.int (g i),H,I.tok _,⟨_,rfl⟩,q⟩
theorem un_neg:UnR X (unaryOp .USub) (rU fun i=>.int (-i)):=unI fun _ _ _ _ _ q=>neg_int q
end
def scal:V->V->Bool
 |.non,.non=>true | .non,.int _=>true | .int _,.non=>true | .non,.bl _=>true | .bl _,.non=>true | .non,.str _=>true | .str _,.non=>true
 |.int _,.int _=>true | .bl _,.bl _=>true | .str _,.str _=>true | .byt _,.byt _=>true
 |.int _,.str _=>true | .str _,.int _=>true | .bl _,.str _=>true | .str _,.bl _=>true
 |_,_=>false
def rEq:R2:=fun x y H Q=>scal x y=true/\Q (.bl (decide (x=y))) H
def rNe:R2:=fun x y H Q=>scal x y=true/\Q (.bl (!decide (x=y))) H
theorem dec_int {i j:Int}:decide (V.int i=V.int j)=(i==j):=by
 rw[Bool.eq_iff_iff]
 simp
theorem dec_bl {i j:Bool}:decide (V.bl i=V.bl j)=(i==j):=by
 rw[Bool.eq_iff_iff]
 simp
theorem dec_str {i j:Str}:decide (V.str i=V.str j)=(i==j):=by
 rw[Bool.eq_iff_iff]
 simp
theorem dec_byt {i j:Array UInt8}:decide (V.byt i=V.byt j)=(i.toList==j.toList):=by
 rw[Bool.eq_iff_iff]
 cases i
 cases j
 simp
section
variable {X:Cx} {a b c:Expr} {ta tb tc:TE} {pos:Pos}
theorem fin_bl {pins:List (Addr×Obj)}{σ:St}{H:Hp}{s:Shared}{Q:VK}{k k':Bool}(I:Inv X pins σ H s)(q:Q (.bl k) H)(e:k=k'):EP X pins σ Q (.bool k') s:=by
 subst e
 exact⟨.bl k,H,I,rfl,q⟩
theorem op_eq:OpR X (compareOp .Eq) rEq:=by
 intro pins s σ H x y v u Q I rx ry h
 obtain⟨hs,q⟩:=h
 cases x with
 |non=>
  cases rx
  cases y with
  |non=>cases ry;exact PySem.EqNone.eq_none_none (fin_bl I q (by simp))
  |bl j=>cases ry;exact PySem.EqNone.eq_none_bool (fin_bl I q (by simp))
  |int j=>obtain⟨t',rfl⟩:=ry;exact PySem.EqNone.eq_none_int (fin_bl I q (by simp))
  |str j=>obtain⟨t',rfl⟩:=ry;exact PySem.EqNone.eq_none_str (fin_bl I q (by simp))
  |_=>exact absurd (show false=true from hs) Bool.false_ne_true
 |bl i=>
  cases rx
  cases y with
  |non=>cases ry;exact PySem.EqNone.eq_bool_none (fin_bl I q (by simp))
  |bl j=>cases ry;exact eq_bool (fin_bl I q dec_bl)
  |str j=>obtain⟨t',rfl⟩:=ry;exact PySem.EqMixed.eq_bool_str (fin_bl I q (by simp))
  |_=>exact absurd (show false=true from hs) Bool.false_ne_true
 |int i=>
  obtain⟨t,rfl⟩:=rx
  cases y with
  |non=>cases ry;exact PySem.EqNone.eq_int_none (fin_bl I q (by simp))
  |int j=>obtain⟨t',rfl⟩:=ry;exact eq_int (fin_bl I q dec_int)
  |str j=>obtain⟨t',rfl⟩:=ry;exact PySem.EqMixed.eq_int_str (fin_bl I q (by simp))
  |_=>exact absurd (show false=true from hs) Bool.false_ne_true
 |str i=>
  obtain⟨t,rfl⟩:=rx
  cases y with
  |non=>cases ry;exact PySem.EqNone.eq_str_none (fin_bl I q (by simp))
  |bl j=>cases ry;exact PySem.EqMixed.eq_str_bool (fin_bl I q (by simp))
  |int j=>obtain⟨t',rfl⟩:=ry;exact PySem.EqMixed.eq_str_int (fin_bl I q (by simp))
  |str j=>obtain⟨t',rfl⟩:=ry;exact eq_str (fin_bl I q dec_str)
  |_=>exact absurd (show false=true from hs) Bool.false_ne_true
 |byt i=>
  obtain⟨t,rfl⟩:=rx
  cases y with
  |byt j=>obtain⟨t',rfl⟩:=ry;exact PySem.W.eq_bytes (fin_bl I q dec_byt)
  |_=>exact absurd (show false=true from hs) Bool.false_ne_true
 |_=>cases y<;>exact absurd (show false=true from hs) Bool.false_ne_true
theorem op_ne:OpR X (compareOp .NotEq) rNe:=by
 intro pins s σ H x y v u Q I rx ry h
 obtain⟨hs,q⟩:=h
 cases x with
 |non=>
  cases rx
  cases y with
  |non=>cases ry;exact PySem.EqNone.ne_none_none (fin_bl I q (by simp))
  |bl j=>cases ry;exact PySem.EqNone.ne_none_bool (fin_bl I q (by simp))
  |int j=>obtain⟨t',rfl⟩:=ry;exact PySem.EqNone.ne_none_int (fin_bl I q (by simp))
  |str j=>obtain⟨t',rfl⟩:=ry;exact PySem.EqNone.ne_none_str (fin_bl I q (by simp))
  |_=>exact absurd (show false=true from hs) Bool.false_ne_true
 |bl i=>
  cases rx
  cases y with
  |non=>cases ry;exact PySem.EqNone.ne_bool_none (fin_bl I q (by simp))
  |bl j=>cases ry;exact ne_bool (fin_bl I q (congrArg not dec_bl))
  |str j=>obtain⟨t',rfl⟩:=ry;exact PySem.EqMixed.ne_bool_str (fin_bl I q (by simp))
  |_=>exact absurd (show false=true from hs) Bool.false_ne_true
 |int i=>
  obtain⟨t,rfl⟩:=rx
  cases y with
  |non=>cases ry;exact PySem.EqNone.ne_int_none (fin_bl I q (by simp))
  |int j=>obtain⟨t',rfl⟩:=ry;exact ne_int (fin_bl I q (congrArg not dec_int))
  |str j=>obtain⟨t',rfl⟩:=ry;exact PySem.EqMixed.ne_int_str (fin_bl I q (by simp))
  |_=>exact absurd (show false=true from hs) Bool.false_ne_true
 |str i=>
  obtain⟨t,rfl⟩:=rx
  cases y with
  |non=>cases ry;exact PySem.EqNone.ne_str_none (fin_bl I q (by simp))
  |bl j=>cases ry;exact PySem.EqMixed.ne_str_bool (fin_bl I q (by simp))
  |int j=>obtain⟨t',rfl⟩:=ry;exact PySem.EqMixed.ne_str_int (fin_bl I q (by simp))
  |str j=>obtain⟨t',rfl⟩:=ry;exact ne_str (fin_bl I q (congrArg not dec_str))
  |_=>exact absurd (show false=true from hs) Bool.false_ne_true
 |byt i=>
  obtain⟨t,rfl⟩:=rx
  cases y with
  |byt j=>obtain⟨t',rfl⟩:=ry;exact PySem.W.ne_bytes (fin_bl I q (congrArg not dec_byt))
  |_=>exact absurd (show false=true from hs) Bool.false_ne_true
 |_=>cases y<;>exact absurd (show false=true from hs) Bool.false_ne_true
theorem op_lt:OpR X (compareOp .Lt) (rI0 fun i j=>.bl (decide (i<j))):=opB0 fun _ _ _ _ _ _ _ q=>lt_int q
theorem op_le:OpR X (compareOp .LtE) (rI0 fun i j=>.bl (decide (i<=j))):=opB0 fun _ _ _ _ _ _ _ q=>le_int q
theorem op_gt:OpR X (compareOp .Gt) (rI0 fun i j=>.bl (decide (j<i))):=opB0 fun _ _ _ _ _ _ _ q=>gt_int q
theorem op_ge:OpR X (compareOp .GtE) (rI0 fun i j=>.bl (decide (j<=i))):=opB0 fun _ _ _ _ _ _ _ q=>ge_int q
theorem op_isN:OpR X (compareOp .Is) (fun x y H Q=>y=.non/\Q (.bl (decide (x=.non))) H):=by
 intro pins s σ H x y v u Q I rx ry h
 obtain⟨rfl,q⟩:=h
 cases ry
 refine is_none_gen (fin_bl I q ?_)
 cases x<;>first
  | (cases rx;rfl)
  | (obtain⟨t,rfl⟩:=rx;rfl)
theorem op_notN:OpR X (compareOp .IsNot) (fun x y H Q=>y=.non/\Q (.bl (!decide (x=.non))) H):=by
 intro pins s σ H x y v u Q I rx ry h
 obtain⟨rfl,q⟩:=h
 cases ry
 refine isnot_none_gen (fin_bl I q ?_)
 cases x<;>first
  | (cases rx;rfl)
  | (obtain⟨t,rfl⟩:=rx;rfl)
theorem nomark (b:Expr){op:CmpOp}(h:op ≠ .In:=by decide)(h2:op ≠ .NotIn:=by decide):behindInMarks op b=false:=by
 have e1:(op==CmpOp.In)=false:=by cases op<;>first|rfl|exact absurd rfl h
 have e2:(op==CmpOp.NotIn)=false:=by cases op<;>first|rfl|exact absurd rfl h2
 cases b<;>simp[behindInMarks,e1,e2]
theorem pe_cmpR {op:CmpOp}{r:R2}(ho:OpR X (compareOp op) r)(ha:PE X a ta)(hb:PE X b tb)(hm:behindInMarks op b=false):PE X (.Compare a [op] [b] pos) (tOp r ta tb):=by
 intro pins s σ H Q I h
 exact wpAny_Compare1 (binT ha hb I h fun v u s2 x y H2 I2 rx ry q=>ho pins s2 σ H2 x y v u Q I2 rx ry q) hm
def tTest (t:TE):TT:=fun σ H Q=>t σ H fun x H'=>∃k,x=.bl k/\Q k H'
theorem pt_cmpR {op:CmpOp}{r:R2}(ho:OpR X (compareOp op) r)(ha:PE X a ta)(hb:PE X b tb)(hm:behindInMarks op b=false):PT X (.Compare a [op] [b] pos) (tTest (tOp r ta tb)):=by
 intro pins s σ H Q I h
 refine wpAny_isTrue_Compare1 (thn (ha pins s σ H _ I h) fun v s1 ⟨x,H1,I1,r1,q1⟩=>thn (hb pins s1 σ H1 _ I1 q1) fun u s2 ⟨y,H2,I2,r2,q2⟩ =>
  thn (ho pins s2 σ H2 x y v u _ I2 r1 r2 q2) fun c s3 ⟨z,H3,I3,r3,k,e,q3⟩=>?_) hm
 subst e
 cases r3
 exact wpAny_truthy_bool ⟨H3,I3,q3⟩
def tChain (r r':R2)(ta tb tc:TE):TE:=fun σ H Q=>ta σ H fun x H1=>tb σ H1 fun y H2=>r x y H2 fun z H3=>∃k,z=.bl k /\
 (if k=true then tc σ H3 fun w' H4=>r' y w' H4 Q else Q (.bl false) H3)
theorem pe_chain {op op':CmpOp}{r r':R2}(ho:OpR X (compareOp op) r)(ho':OpR X (compareOp op') r')(ha:PE X a ta)(hb:PE X b tb)(hc:PE X c tc)
  (hm:lastMarks [op,op'] [b,c]=false:=by with_unfolding_all rfl):PE X (.Compare a [op,op'] [b,c] pos) (tChain r r' ta tb tc):=by
 intro pins s σ H Q I h
 refine Compare_chain (thn (ha pins s σ H _ I h) fun v s1 ⟨x,H1,I1,r1,q1⟩=>chain_link (thn (hb pins s1 σ H1 _ I1 q1) fun u s2 ⟨y,H2,I2,r2,q2⟩ =>
  thn (ho pins s2 σ H2 x y v u _ I2 r1 r2 q2) fun d s3 ⟨z,H3,I3,r3,k,e,q3⟩=>?_)) hm
 subst e
 cases r3
 refine wpAny_truthy_bool ?_
 cases k with
 |false=>exact ite_ff ⟨.bl false,H3,I3,rfl,q3⟩
 |true=>exact ite_tt (chain_last (thn (hc pins s3 σ H3 _ I3 q3) fun w' s4 ⟨z',H4,I4,r4,q4⟩=>ho' pins s4 σ H4 y z' u w' Q I4 r2 r4 q4))
theorem line63:(sizeLine:Nat)<2 ^ 63:=by rw[sizeLine_eq];decide
theorem vals1 {x:V}{us:List Value}(r:Vals [x] us):∃u,us=[u]/\RelV x u:=by
 cases r with
 |cons r1 r2=>cases r2;exact⟨_,rfl,r1⟩
theorem vals2 {x y:V}{us:List Value}(r:Vals [x,y] us):∃u w',us=[u,w']/\RelV x u/\RelV y w':=by
 cases r with
 |cons r1 r2=>
  cases r2 with
  |cons r3 r4=>cases r4;exact⟨_,_,rfl,r1,r3⟩
theorem call_max2 (hc:X.calm=true):CallR X (.builtin "max") (fun xs H Q=>∃i j,xs=[.int i,.int j]/\Q (.int (if j > i then j else i)) H):=by
 intro pins s σ H xs us Q I r h
 obtain⟨i,j,rfl,q⟩:=h
 obtain⟨u,w',rfl,⟨t,rfl⟩,⟨t',rfl⟩⟩:=vals2 r
 refine max_two_ints (I.ok.hd hc) fun h' tk k=>⟨_,H,I.kept k,?_,q⟩
 by_cases hj:j > i
 ·rw[if_pos hj,if_pos hj];exact⟨_,rfl⟩
 ·rw[if_neg hj,if_neg hj];exact⟨_,rfl⟩
theorem call_min2 (hc:X.calm=true):CallR X (.builtin "min") (fun xs H Q=>∃i j,xs=[.int i,.int j]/\Q (.int (if j<i then j else i)) H):=by
 intro pins s σ H xs us Q I r h
 obtain⟨i,j,rfl,q⟩:=h
 obtain⟨u,w',rfl,⟨t,rfl⟩,⟨t',rfl⟩⟩:=vals2 r
 refine min_two_ints (I.ok.hd hc) fun h' tk k=>⟨_,H,I.kept k,?_,q⟩
 by_cases hj:j<i
 ·rw[if_pos hj,if_pos hj];exact⟨_,rfl⟩
 ·rw[if_neg hj,if_neg hj];exact⟨_,rfl⟩
end
end L2
namespace L2
open PySem PySem.Spec PyProof.Rows
structure ObjM (h:Heap)(x dx C:Addr)(mA:Str->Option Value):Prop where
 obj:h.get? x=some (PySem.W.instObj C dx)
 ns:h.Ns1 dx mA
 ne:dx≠x
theorem lookIn_ns {h:Heap}{dx:Addr}{mA:Str->Option Value}(n:h.Ns1 dx mA):∃od,h.get? dx=some od/\∀name,PySem.W.lookIn name od=some (mA name):=by
 obtain⟨o,es,ep,ho,hd,hk,_,hm⟩:=n
 refine⟨o,ho,fun name=>?_⟩
 have e:=hm name
 unfold nsFind findBy at e
 rw[<-Array.find?_toList]at e
 unfold PySem.W.lookIn
 rw[hd]
 dsimp only
 split
 ·rename_i y q
  rw[q]at e
  exact congrArg some e
 ·rename_i q
  rw[q]at e
  have a:es.toList.any (·.refKey)=false:=by
   rw[List.any_eq_false]
   intro y hy
   obtain⟨z,t,hkey⟩:=hk y (Array.mem_toList_iff.mp hy)
   simp[DictEntry.refKey,hkey]
  have a':¬ es.toList.any (·.refKey)=true:=by rw[a];exact Bool.false_ne_true
  rw[if_neg a']
  exact congrArg some e
theorem ObjM.look {h:Heap}{x dx C:Addr}{mA:Str->Option Value}(I:ObjM h x dx C mA):∃od,PySem.W.InstAt h x (PySem.W.instObj C dx) C (some od)/\∀name,PySem.W.lookIn name od=some (mA name):=
 let ⟨od,ho,hl⟩:=lookIn_ns I.ns
 ⟨od,⟨I.obj,rfl,rfl,ho⟩,hl⟩
theorem RelO.some_of {v:V}{o:Option Value}(r:RelO (some v) o):∃u,o=some u/\RelV v u:=by
 cases o with
 |none=>exact (show False from r).elim
 |some u=>exact⟨u,rfl,r⟩
section
variable {P:Program} {w:World} {H H':Hp} {h h':Heap} {a C dx:Addr} {fs fs':List (Str×V)}
theorem ins_get (hok:HOk P w H h)(e:H a=some (.ins C dx fs)):∃mA,ObjM h a dx C mA/\(∀f,RelO (fs.lookup f) (mA f))/\PySem.Within mA (fs.map (·.1))/\fs.length<=1000/\H dx=some (.own a):=by
 obtain⟨d,z,ne,ob,mA,n,r,q⟩:=(show ObjOk P w H h a (.ins C dx fs) from hok a _ e)
 exact⟨mA,⟨ob,n,ne⟩,r,q,z,d⟩
end
structure Cls (K:PySem.W.Frag)(C:Addr):Prop where
 pg:PySem.W.plainGet K C Str.empty=true
 hd:PySem.W.hasDictIn K C=true
 po:PySem.W.plainOver K C=true
 sa:PySem.W.findIn K (.ref C) "__setattr__"=some (some (.builtin "object.__setattr__"))
theorem Cls.get {K:PySem.W.Frag}{C:Addr}(c:Cls K C)(f:Str):PySem.W.plainGet K C f=true:=c.pg
section
variable {X:Cx} {pins:List (Addr×Obj)} {σ:St} {H:Hp} {s:Shared} {A:Around} {E:Value->Shared->Prop} {Q:Value->Shared->Prop} {c:Value} {b:Bool}
inductive TyOf (K:PySem.W.Frag)(H:Hp):V->Value->Prop where
 | non:TyOf K H .non (.type "NoneType")
 | bl (x:Bool):TyOf K H (.bl x) (.type "bool")
 | int (i:Int):TyOf K H (.int i) (.type "int")
 | str (x:Str):TyOf K H (.str x) (.type "str")
 | flt (x:UInt64):TyOf K H (.flt x) (.type "float")
 | lst {a:Addr} {xs:List V} (e:H a=some (.lst xs)):TyOf K H (.ref a) (.type "list")
 | frz {a:Addr} {o:Obj} {xs:List V} (e:H a=some (.frz o (.lst xs))):TyOf K H (.ref a) (.type "list")
 | tup {a:Addr} {xs:List V} (e:H a=some (.tup xs)):TyOf K H (.ref a) (.type "tuple")
 | dK {a:Addr} {kvs:List (Key×V)} (e:H a=some (.dK kvs)):TyOf K H (.ref a) (.type "dict")
 | dT {a:Addr} {kvs:List (List Key×V)} (e:H a=some (.dT kvs)):TyOf K H (.ref a) (.type "dict")
 | ins {a C dx:Addr} {fs:List (Str×V)} (e:H a=some (.ins C dx fs)) (cl:Cls K C) (ha:PySem.W.findIn K (.ref C) "__class__"=some (some (.builtin "object.__class__")))
   (hn:PySem.W.specialIn K (.builtin "object.__class__") "__get__"=some (some (.builtin "getset_descriptor.__get__"))) (htk:PySem.W.takesIn K (.builtin "object.__class__")=some true)
   (hm:PySem.W.mroIn K C (.type "object")=some true):TyOf K H (.ref a) (.ref C)
theorem isinst_ok {x:V}{u t:Value}(I:Inv X pins σ H s)(rx:RelV x u)(ty:TyOf X.K H x t)(e:PySem.W.kitOne X.K t c=some b)(h:∀tk,Q (.bool b) {s with toks:=tk}):
  wpAny (model X.prog X.w) A (call (.builtin "isinstance") [u,c]) Q E s:=by
 cases ty with
 |non=>cases (show u=Value.none from rx);exact PySem.W.kia_one PySem.W.kitx_none I.kIn True.intro e (fun z=>nomatch z) h
 |bl y=>cases (show u=Value.bool y from rx);exact PySem.W.kia_one PySem.W.kitx_bool I.kIn True.intro e (fun z=>nomatch z) h
 |int i=>obtain⟨t,q⟩:=(show ∃t,u=Value.int i t from rx);cases q;exact PySem.W.kia_one PySem.W.kitx_int I.kIn True.intro e (fun z=>nomatch z) h
 |str y=>obtain⟨t,q⟩:=(show ∃t,u=Value.str y t from rx);cases q;exact PySem.W.kia_one PySem.W.kitx_str I.kIn True.intro e (fun z=>nomatch z) h
 |flt y=>obtain⟨t,q⟩:=(show ∃t,u=Value.float y t from rx);cases q;exact PySem.W.kia_one PySem.W.kitx_float I.kIn True.intro e (fun z=>nomatch z) h
 |@lst a xs ea=>
  cases (show u=Value.ref a from rx)
  obtain⟨_,_,n,_,h1⟩:=(show ObjOk X.prog X.w H s.heap a (.lst xs) from I.hok a _ ea)
  exact PySem.W.kia_one PySem.W.kitx_list I.kIn ⟨_,h1,rfl⟩ e (fun z=>nomatch z) h
 |@frz a ob xs ea=>
  cases (show u=Value.ref a from rx)
  obtain⟨_,_,_,n,_,h1⟩:=(show ObjOk X.prog X.w H s.heap a (.frz ob (.lst xs)) from I.hok a _ ea)
  exact PySem.W.kia_one PySem.W.kitx_list I.kIn ⟨_,h1,rfl⟩ e (fun z=>nomatch z) h
 |@tup a xs ea=>
  cases (show u=Value.ref a from rx)
  obtain⟨_,_,_,p⟩:=(show ObjOk X.prog X.w H s.heap a (.tup xs) from I.hok a _ ea)
  obtain⟨o,h1,h2,_⟩:=p
  exact PySem.W.kia_one PySem.W.kitx_tuple I.kIn ⟨o,h1,h2⟩ e (fun z=>nomatch z) h
 |@dK a kvs ea=>
  cases (show u=Value.ref a from rx)
  obtain⟨_,_,vs,_,p⟩:=(show ObjOk X.prog X.w H s.heap a (.dK kvs) from I.hok a _ ea)
  obtain⟨o,es,ep,h1,h2,_⟩:=p
  exact PySem.W.kia_one PySem.W.kitx_dict I.kIn ⟨o,h1,h2.1⟩ e (fun z=>nomatch z) h
 |@dT a kvs ea=>
  cases (show u=Value.ref a from rx)
  obtain⟨_,_,xs,_,o,es,ep,h1,h2,_⟩:=(show ObjOk X.prog X.w H s.heap a (.dT kvs) from I.hok a _ ea)
  exact PySem.W.kia_one PySem.W.kitx_dict I.kIn ⟨o,h1,h2.1⟩ e (fun z=>nomatch z) h
 |@ins a C dx fs ea cl ha hn htk hm=>
  cases (show u=Value.ref a from rx)
  obtain⟨mA,O,_⟩:=ins_get I.hok ea
  obtain⟨od,J,_⟩:=O.look
  exact PySem.W.kia_one (PySem.W.kitx_own (cl.get _) cl.hd ha hn htk hm) I.kIn J e (fun z=>nomatch z) h
end
end L2
namespace L2
open PySem PySem.Spec PyProof.Rows
structure Room (k:Nat)(A:Around):Prop where
 hd:A.handled=none
 dp:A.depth+3*k+5<recursionLimit
 un:A.units+16*k+200<cLine
theorem Room.mono {j k:Nat}{A:Around}(r:Room k A)(h:j<=k):Room j A:=⟨r.hd,by have:=r.dp;omega,by have:=r.un;omega⟩
theorem Room.deeper {k:Nat}{A:Around}(r:Room (k+1) A)(env:Env):Room k (A.deeper env):=
 ⟨r.hd,by have:=r.dp;show A.depth+1+3*k+5<_;omega,by have:=r.un;show A.units+3+16*k+200<_;omega⟩
theorem Room.depth {k:Nat}{A:Around}(r:Room k A):A.depth<recursionLimit:=by have:=r.dp;omega
theorem Room.units {k:Nat}{A:Around}(r:Room k A):A.units+64<cLine:=by have:=r.un;omega
def tNil:TA:=fun _ H Q=>Q [] H
def tCons (ta:TE)(tr:TA):TA:=fun σ H Q=>ta σ H fun x H1=>tr σ H1 fun xs H2=>Q (x::xs) H2
section
variable {X:Cx} {e:Expr} {es:List Expr} {te:TE} {t:TA} {pos:Pos}
theorem pa_nil:PA X [] tNil:=fun _ _ _ _ H Q I h=>Calls.spliced_nil ⟨[],H,I,.nil,h⟩
theorem pa_cons (ha:PE X e te)(hr:PA X es t)(hs:starEach (e::es) X.env=(false,eval e X.env)::starEach es X.env:=by rfl):PA X (e::es) (tCons te t):=by
 intro pos pins s σ H Q I h
 rw[hs]
 show wpAny _ _ (spliced ((false,eval e X.env)::backTo pos (starEach es X.env))) _ _ s
 refine Calls.spliced_cons (thn (ha pins s σ H _ I h) fun u s1 ⟨x,H1,I1,r1,q1⟩=>?_)
 exact thn (hr pos pins s1 σ H1 _ I1 q1) fun us s2 ⟨xs,H2,I2,r2,q2⟩=>⟨x::xs,H2,I2,.cons r1 r2,q2⟩
def tTup (t:TA):TE:=fun σ H Q=>t σ H fun xs H1=>xs.length<=sizeLine/\∀p,H1 p=none->Q (.ref p) (upd H1 p (.tup xs))
def tLst (t:TA):TE:=fun σ H Q=>t σ H fun xs H1=>xs.length<=sizeLine/\∀p,H1 p=none->Q (.ref p) (upd H1 p (.lst xs))
theorem pe_tup {x1}(h:PA X es t):PE X (.Tuple es x1 pos) (tTup t):=by
 intro pins s σ H Q I hq
 refine wpAny_Tuple_spliced (thn (h pos pins s σ H _ I hq) fun us s1 ⟨xs,H1,I1,r,z,q⟩=>⟨by rw[<-r.length];exact z,?_⟩)
 have hf:H1 s1.heap.objs.size=none:=I1.hok.fresh (Nat.le_refl _)
 refine⟨.ref s1.heap.objs.size,upd H1 s1.heap.objs.size (.tup xs),I1.laid (t':=s1.toks) (fun b u e=>Heap.get?_push_of_some _ e) (Nat.le_refl _) ?_,rfl,q _ hf⟩
 exact⟨z,us,r,⟨_,Heap.get?_push_size _ rfl,rfl,_,rfl⟩⟩
theorem pe_lst (h:PA X es t):PE X (.List es pos) (tLst t):=by
 intro pins s σ H Q I hq
 refine wpAny_List_spliced (thn (h pos pins s σ H _ I hq) fun us s1 ⟨xs,H1,I1,r,z,q⟩=>⟨by rw[<-r.length];exact z,?_⟩)
 have hf:H1 s1.heap.objs.size=none:=I1.hok.fresh (Nat.le_refl _)
 refine⟨.ref s1.heap.objs.size,upd H1 s1.heap.objs.size (.lst xs),I1.laid (t':=s1.toks) (fun b u e=>Heap.get?_push_of_some _ e) (Nat.le_refl _) ?_,rfl,q _ hf⟩
 exact⟨z,us,0,r,Heap.get?_push_size _ rfl⟩
end
abbrev Sp:=List V->Hp->VK->XK->Prop
abbrev CXT:=List Env->Hp->Shared->XK->Value->Shared->Prop
structure Env0 (P:Program)(w:World)(K:PySem.W.Frag)(mg:Str->Option Value)(base:Heap)(A:Around)(outer:List Env)(s:Shared)(H:Hp):Prop where
 frames:A.frames=some outer
 mod:Mod K mg base
 bs:∀b o,base.get? b=some o->s.heap.get? b=some o/\H b=none
 bsz:base.objs.size<=s.heap.objs.size
 funs:s.heap.FunFrames base outer
 frf:∀b∈frs outer,H b=none
 hok:HOk P w H s.heap
 bare:AllBare s.gens
def CE (outer:List Env)(P:Program)(w:World)(H:Hp)(s:Shared)(Q:VK)(u:Value)(s':Shared):Prop:=
 ∃v H',s'.os=s.os/\AllBare s'.gens/\Un (frs outer) [] H H' s.heap s'.heap/\HOk P w H' s'.heap/\RelV v u/\Q v H'
def CR (CX:CXT)(outer:List Env)(P:Program)(w:World)(H:Hp)(s:Shared)(Q:VK)(E:XK)(r:Result)(s':Shared):Prop:=
 match r with
 |.ok (.ret u)=>CE outer P w H s Q u s'
 |.ok _=>False
 |.error e=>CX outer H s E e s'
structure FnOk (P:Program)(w:World)(K:PySem.W.Frag)(mg:Str->Option Value)(base:Heap)(CX:CXT)(k:Nat)(f:Addr)(fd:FuncData)(ps:List Str)(sp:Sp):Prop where
 len:∀vs H Q E,sp vs H Q E->vs.length=ps.length
 run:∀(A:Around) (outer:List Env) (s:Shared) (H:Hp) (args:Args) (us:List Value) (vs:List V) (Q:VK) (E:XK),Room k A->Env0 P w K mg base A outer s H->BindsTo s fd args (ps.zip us)->Vals vs us->sp vs H Q E ->
  codeAny (model P w) A (.call (.ref f) args) (CR CX outer P w H s Q E) s
section
variable {X:Cx} {pins:List (Addr×Obj)} {σ:St} {H:Hp} {s s':Shared}
theorem Inv.env0 (I:Inv X pins σ H s):Env0 X.prog X.w X.K X.mg X.base X.A X.stack s H:=
 ⟨I.ok.frames,I.ok.mod,I.bs,Nat.le_trans I.ok.bsz I.sz,I.stack,I.stkFree,I.hok,I.bare⟩
theorem Inv.after {Q:VK}{u:Value}(I:Inv X pins σ H s)(h:CE X.stack X.prog X.w H s Q u s'):EP X pins σ Q u s':=by
 obtain⟨v,H',os,bare,un,hok,r,q⟩:=h
 obtain⟨hh,g,d,t,os'⟩:=s'
 obtain rfl:os'=s.os:=os
 exact⟨v,H',I.call (h':=hh) (g':=g) (d':=d) (t':=t) (ch:=[]) un hok bare (fun b z=>absurd z (by simp)),r,q⟩
end
def tCall (sp:Sp)(dvs:List V)(E:XK)(t:TA):TE:=fun σ H Q=>t σ H fun vs H1=>sp (vs++dvs) H1 Q E
def Binds (K:PySem.W.Frag)(fd:FuncData)(ps:List Str)(ds:List Value):Prop:=
 ∀(s:Shared) (us:List Value),K.In s.heap->(us++ds).length=ps.length->BindsTo s fd ⟨us,[]⟩ (ps.zip (us++ds))
theorem Binds.all {K:PySem.W.Frag}{fd:FuncData}{ps:List Str}(h:∀us:List Value,us.length=ps.length->bindArgs fd ⟨us,[]⟩=pure (ps.zip us)):Binds K fd ps []:=fun s us _ hl=>by
 rw[List.append_nil]at hl ⊢
 exact .of_eq (h us hl)
def Passes (CX:CXT)(X:Cx)(E:XK):Prop:=∀(pins:List (Addr×Obj)) (σ:St) (H:Hp) (s:Shared) (e:Value) (s':Shared),Inv X pins σ H s->CX X.stack H s E e s'->X.xe e s'
section
variable {X:Cx} {CX:CXT} {k:Nat} {f C:Addr} {fd:FuncData} {ps:List Str} {sp:Sp} {dvs:List V} {ds:List Value} {E:XK} {x m:Str} {p pos apos:Pos} {e o:Expr} {es:List Expr} {ta:TE} {t:TA}
theorem run_fn {pins:List (Addr×Obj)}{σ:St}{H:Hp}{s:Shared}{Q:VK}{us:List Value}{vs:List V}(F:FnOk X.prog X.w X.K X.mg X.base CX k f fd ps sp)(hr:Room k X.A)(hb:Binds X.K fd ps ds)(hd:Vals dvs ds)(hx:Passes CX X E)
  (I:Inv X pins σ H s) (r:Vals vs us) (h:sp (vs++dvs) H Q E):wpAny (model X.prog X.w) X.A (call (.ref f) us) (EP X pins σ Q) X.xe s:=by
 have r2:Vals (vs++dvs) (us++ds):=r.append hd
 have hl:(us++ds).length=ps.length:=by rw[<-r2.length];exact F.len _ _ _ _ h
 refine wpAny_call (codeAny_mono (F.run X.A X.stack s H ⟨us,[]⟩ (us++ds) (vs++dvs) Q E hr I.env0 (hb s us I.kIn hl) r2 h) fun r s' hq=>?_)
 cases r with
 |error e=>exact hx pins σ H s e s' I hq
 |ok fl=>
  cases fl with
  |ret u=>exact I.after hq
  |next=>exact False.elim hq
  |brk=>exact False.elim hq
  |cont=>exact False.elim hq
theorem pe_call (F:FnOk X.prog X.w X.K X.mg X.base CX k f fd ps sp)(hr:Room k X.A)(hg:Gl X x)(hm:X.mg x=some (.ref f))(hk:PySem.W.keepIn X.K (.ref f)=true)(hb:Binds X.K fd ps ds)(hd:Vals dvs ds)(hx:Passes CX X E)
  (ha:PA X (e::es) t) (hdb:(x==("__debug__" : Str))=false:=by decide) (he:starEach (e::es) X.env=(false,eval e X.env)::starEach es X.env:=by rfl) (hpl:(backTo pos (starEach es X.env)).any (·.1)=false:=by rfl):
  PE X (.Call (.Name x p) (e::es) [] pos) (tCall sp dvs E t):=by
 intro pins s σ H Q I h
 refine wpAny_Call_Name_kw (ld_glob I hg hm ?_ hdb)
 refine PySem.W.callWith_K (h₀:=X.base) I.ok.mod.kin hk (thn (ha pos pins s σ H _ I h) fun us s1 ⟨vs,H1,I1,r,q⟩=>⟨I1.kIn,?_⟩) he hpl
 exact run_fn F hr hb hd hx I1 r q
structure Mk (K:PySem.W.Frag)(C f:Addr):Prop where
 makes:PySem.W.makesIn K C=true
 init:PySem.W.findIn K (.ref C) "__init__"=some (some (.ref f))
 fn:PySem.W.isFn K (.ref f)=true
 kp:PySem.W.keepIn K (.ref C)=true
end
structure FnScope (N P:List Str)(sc:Scope):Prop where
 kind:sc.kind=.function
 co:sc.isCoroutine=false
 gen:sc.isGenerator=false
 nd:N.Nodup
 pre:N.take P.length=P
 par:∀x∈P,sc.names.lookup x=some .local\/sc.names.lookup x=some .cell
 nofree:∀y∈sc.names,y.2 ≠ .free
theorem bindL_out {kindOf:Str->Option NameKind}{x:Str}:∀{binds:List (Str×Value)} {m:Str->Option Value},(∀v,(x,v)∉binds)->bindL kindOf binds m x=m x
 |[],_,_=>rfl
 | (n,v)::r,m,h=>by
  unfold bindL
  rw[bindL_out fun w hw=>h w (List.mem_cons_of_mem _ hw)]
  split
  ·have:x≠n:=by rintro rfl;exact h v List.mem_cons_self
   simp[this]
  ·rfl
theorem bindC_out {kindOf:Str->Option NameKind}{x:Str}:∀{binds:List (Str×Value)} {m:Str->Option Value},(∀v,(x,v)∉binds)->bindC kindOf binds m x=m x
 |[],_,_=>rfl
 | (n,v)::r,m,h=>by
  unfold bindC
  rw[bindC_out fun w hw=>h w (List.mem_cons_of_mem _ hw)]
  split
  ·rfl
  ·have:x≠n:=by rintro rfl;exact h v List.mem_cons_self
   simp[this]
theorem bindL_get {kindOf:Str->Option NameKind}{x:Str}{v:Value}:∀{P:List Str} {vs:List Value} {i:Nat} {m:Str->Option Value},P.Nodup->P[i]?=some x->vs[i]?=some v->kindOf x=some .local ->
  bindL kindOf (P.zip vs) m x=some v
 |[],_,_,_,_,h,_,_=>by simp at h
 |_::_,[],_,_,_,_,h,_=>by simp at h
 |p::P,w::vs,0,m,nd,h1,h2,hk=>by
  simp at h1 h2;subst h1;subst h2
  show bindL kindOf ((p,w)::P.zip vs) m p=_
  unfold bindL
  rw[bindL_out fun v hv=>(List.nodup_cons.mp nd).1 (List.of_mem_zip hv).1,if_pos hk]
  simp
 |p::P,w::vs,i+1,m,nd,h1,h2,hk=>by
  show bindL kindOf ((p,w)::P.zip vs) m x=_
  unfold bindL
  exact bindL_get (i:=i) (List.nodup_cons.mp nd).2 (by simpa using h1) (by simpa using h2) hk
theorem bindC_get {kindOf:Str->Option NameKind}{x:Str}{v:Value}:∀{P:List Str} {vs:List Value} {i:Nat} {m:Str->Option Value},P.Nodup->P[i]?=some x->vs[i]?=some v->kindOf x≠some .local ->
  bindC kindOf (P.zip vs) m x=some v
 |[],_,_,_,_,h,_,_=>by simp at h
 |_::_,[],_,_,_,_,h,_=>by simp at h
 |p::P,w::vs,0,m,nd,h1,h2,hk=>by
  simp at h1 h2;subst h1;subst h2
  show bindC kindOf ((p,w)::P.zip vs) m p=_
  unfold bindC
  rw[bindC_out fun v hv=>(List.nodup_cons.mp nd).1 (List.of_mem_zip hv).1,if_neg hk]
  simp
 |p::P,w::vs,i+1,m,nd,h1,h2,hk=>by
  show bindC kindOf ((p,w)::P.zip vs) m x=_
  unfold bindC
  exact bindC_get (i:=i) (List.nodup_cons.mp nd).2 (by simpa using h1) (by simpa using h2) hk
def start (N:List Str)(vs:List V):St:=vs.map some++List.replicate (N.length-vs.length) none
def cxOf (CX:CXT)(P:Program)(w:World)(K:PySem.W.Frag)(mg:Str->Option Value)(base:Heap)(N:List Str)(qual:Str)(scope:Scope)(f:Addr)(cd:Value)(A:Around)(outer:List Env)(s:Shared)(H:Hp)(E:XK):Cx where
 prog:=P
 w:=w
 K:=K
 mg:=mg
 base:=base
 A:=A.deeper (envOfC qual scope s.heap.objs.size f cd)
 N:=N
 s₀:=s
 H₀:=H
 env:=envOfC qual scope s.heap.objs.size f cd
 outer:=outer
 stack:=envOfC qual scope s.heap.objs.size f cd::outer
 ex:=[]
 calm:=true
 fn:=fun _=>true
 pn:=[]
 xe:=fun e s'=>wpAny (model P w) (A.deeper (envOfC qual scope s.heap.objs.size f cd)) (leaving (envOfC qual scope s.heap.objs.size f cd) e) (fun _ s''=>CX outer H s E e s'') (fun e' s''=>CX outer H s E e' s'') s'
theorem cell_has {sc:Scope}{n:Nat}{x:Str}(h:sc.names.lookup x=some .cell):∃c,(cellsFrom n sc.names []).lookup x=some c:=by
 have q:=PySem.W.cellsFrom_some sc.names n [] (.inl h)
 exact Option.isSome_iff_exists.mp q
theorem inv_start {CX:CXT}{P:Program}{w:World}{K:PySem.W.Frag}{mg:Str->Option Value}{base:Heap}{N ps:List Str}{qual:Str}{scope:Scope}{f:Addr}{cd:Value}{A:Around}{outer:List Env}{s s1:Shared}{H:Hp}{E:XK}{us:List Value}{vs:List V}
  (S:FnScope N ps scope) (hd:A.handled=none) (e0:Env0 P w K mg base A outer s H) (hl:vs.length=ps.length) (r:Vals vs us)
  (x:InCallC s s.heap.objs.size (bindL (envOfC qual scope s.heap.objs.size f cd).kindOf (ps.zip us) fun _=>none) (cellsFrom (s.heap.objs.size+1) scope.names []) (bindC (envOfC qual scope s.heap.objs.size f cd).kindOf (ps.zip us) fun _=>none) s1):
  Inv (cxOf CX P w K mg base N qual scope f cd A outer s H E) [] (start N vs) H s1:=by
 have hpl:ps.length<=N.length:=by have:=congrArg List.length S.pre;rw[List.length_take]at this;omega
 obtain⟨h1,tk,rfl,hk⟩:=x.done
 have noA:∀b:Addr,b∉(cxOf CX P w K mg base N qual scope f cd A outer s H E).ex:=fun b z=>absurd (show b∈([]:List Addr) from z) (by simp)
 refine⟨⟨e0.mod,S.kind,rfl,rfl,Nat.le_refl _,fun y z c h1 h2=>?_,fun y hy=>?_,fun y c _ h=>?_,fun _=>hd,Around.frames_deeper e0.frames,.inr ⟨rfl,rfl⟩,fun b z=>absurd z (noA b),e0.bs,e0.bsz,fun b _ _=>noA b,fun b z=>absurd z (noA b),e0.funs,e0.frf⟩,
  rfl,e0.bare,Un.kept hk,⟨_,x.toInCall.ns,fun i y v h1 h2 h3=>?_⟩,fun y c h=>⟨_,x.cell y c h⟩,e0.hok.fresh (Nat.le_refl _),fun y c h=>?_,fun p hp=>absurd (show p∈([]:List (Addr×Obj)) from hp) (by simp),e0.hok.kept hk,?_⟩
 ·exact name_of_addr x.apart (PySem.mem_of_lookup h1) (PySem.mem_of_lookup h2)
 ·have hy:scope.names.lookup y=some .cell\/scope.names.lookup y=some .free:=hy
  rcases hy with hy|hy
  ·exact cell_has hy
  ·exact absurd rfl (S.nofree _ (PySem.mem_of_lookup hy))
 ·exact Nat.le_of_lt (x.above y c (PySem.mem_of_lookup h))
 ·have hi:i<vs.length:=by
   unfold start at h2
   by_cases hi:i<vs.length
   ·exact hi
   ·rw[List.getElem?_append_right (by simpa using hi)]at h2
    rw[List.getElem?_replicate]at h2
    split at h2<;>cases h2
  have ha:vs[i]?=some v:=by
   unfold start at h2
   rw[List.getElem?_append_left (by simpa using hi),List.getElem?_map]at h2
   cases e:vs[i]? with
   |none=>rw[e]at h2;cases h2
   |some a=>rw[e]at h2;cases h2;rfl
  obtain⟨u,hu,rv⟩:=r.get ha
  have hp:ps[i]?=some y:=by
   rw[<-S.pre,List.getElem?_take_of_lt (by omega)];exact h1
  have ndP:ps.Nodup:=by rw[<-S.pre];exact S.nd.sublist (List.take_sublist _ _)
  refine⟨u,rv,?_⟩
  rcases S.par y (List.mem_of_getElem? hp) with k|k
  ·exact .inl ⟨k,bindL_get ndP hp hu k⟩
  ·obtain⟨c,e⟩:=cell_has (n:=s.heap.objs.size+1) k
   refine .inr ⟨.inl k,c,e,?_⟩
   have q:=x.cell y c e
   rw[bindC_get ndP hp hu (by show scope.names.lookup y≠_;rw[k];decide)]at q
   exact q
 ·exact e0.hok.fresh (Nat.le_of_lt (x.above y c (PySem.mem_of_lookup h)))
 ·unfold start
  show _=N.length
  rw[List.length_append,List.length_map,List.length_replicate]
  omega
theorem fn_of {CX:CXT}{P:Program}{w:World}{K:PySem.W.Frag}{mg:Str->Option Value}{base:Heap}{k:Nat}{f:Addr}{name qual:Str}{params:Arguments}{body:List Stmt}{scope:Scope}{dV kV doc pm cdv ct oc:Value}{an od:Option Addr}
  {osl:Array (Option Value)} {N ps:List Str} {sp:Sp} (lk:K.lookup f=some ⟨oc,od,.func (PySem.W.fnOf name qual params body scope dV kV doc pm an cdv ct),osl⟩) (hcd:PySem.W.codeIn K cdv qual=true) (S:FnScope N ps scope)
  (len:∀vs H Q E,sp vs H Q E->vs.length=ps.length)
  (hbody:∀(A:Around) (outer:List Env) (s:Shared) (H:Hp) (vs:List V) (Q:VK) (E:XK),Room k (A.deeper (envOfC qual scope s.heap.objs.size f cdv))->sp vs H Q E ->
   ∃t,PSs (cxOf CX P w K mg base N qual scope f cdv A outer s H E) body t/\t {nx:=fun _ H'=>Q .non H',rt:=Q} (start N vs) H):
  FnOk P w K mg base CX (k+1) f (PySem.W.fnOf name qual params body scope dV kV doc pm an cdv ct) ps sp:=by
 refine⟨len,fun A outer s H args us vs Q E hr e0 hb r hsp=>?_⟩
 have hl:=len _ _ _ _ hsp
 have KX:K.In s.heap:=e0.mod.kin.keeps fun b o e=>(e0.bs b o e).1
 have lim:s.heap.NoLimit:=e0.mod.nolimit.keeps fun b o e=>(e0.bs b o e).1
 have hkind:∀y∈ps.zip us,scope.names.lookup y.1=some .local\/(scope.names.lookup y.1=some .cell/\((cellsFrom (s.heap.objs.size+1) scope.names []).lookup y.1).isSome=true):=fun ⟨n,v⟩ hy=>by
  rcases S.par n (List.of_mem_zip hy).1 with q|q
  ·exact .inl q
  ·exact .inr ⟨q,PySem.W.cellsFrom_some _ _ _ (.inl q)⟩
 refine codeAny_call_function hr.depth (KX _ _ lk) rfl S.co S.gen rfl (PySem.W.codeRec_of KX hcd) (hb _ _ _ _ ?_)
 refine wpAny_newFunctionEnv_cells S.kind hkind fun env he s1 x=>?_
 subst he
 refine⟨lim.keeps x.toInCall.keep,codeAny_func ?_⟩
 obtain⟨t,ht,hq⟩:=hbody A outer s H vs Q E (hr.deeper _) hsp
 have I:Inv (cxOf CX P w K mg base N qual scope f cdv A outer s H E) [] (start N vs) H s1:=inv_start S hr.hd e0 hl r x
 refine wpAny_mono (ht [] s1 (start N vs) H _ I hq) (fun fl s' hs=>?_) fun e s' hs=>hs
 have fin:∀{σ':St} {H':Hp} {v:V} {u:Value},Inv (cxOf CX P w K mg base N qual scope f cdv A outer s H E) [] σ' H' s'->RelV v u->Q v H'->CE outer P w H s Q u s' :=
  fun {σ' H' v u} J rv q=>⟨v,H',J.os,J.bare,J.base,J.hok,rv,q⟩
 cases fl with
 |ret u=>
  obtain⟨v,σ',H',J,rv,q⟩:=hs
  exact fin J rv q
 |next=>
  obtain⟨σ',H',J,q⟩:=hs
  exact fin (v:=V.non) (u:=Value.none) J rfl q
 |brk=>
  obtain⟨_,_,_,q⟩:=hs
  exact False.elim q
 |cont=>
  obtain⟨_,_,_,q⟩:=hs
  exact False.elim q
end L2
namespace L2
open PySem PySem.Spec PyProof.Rows
section
variable {X:Cx} {x:Str} {p pos:Pos} {e:Expr} {es:List Expr} {t:TA} {id T:String} {r:List V->Hp->VK->Prop}
def tCB (r:List V->Hp->VK->Prop)(t:TA):TE:=fun σ H Q=>t σ H fun vs H1=>r vs H1 Q
theorem pe_callB (hc:CallR X (.builtin id) r)(hg:Gl X x)(hm:X.mg x=none)(hv:bootBuiltins x=some (.builtin id))(ha:PA X (e::es) t)(hn:x ≠ "__name__" := by decide)(hdb:(x==("__debug__" : Str))=false:=by decide)
  (he:starEach (e::es) X.env=(false,eval e X.env)::starEach es X.env:=by rfl) (hpl:(backTo pos (starEach es X.env)).any (·.1)=false:=by rfl):PE X (.Call (.Name x p) (e::es) [] pos) (tCB r t):=by
 intro pins s σ H Q I h
 refine wpAny_Call_Name_kw (ld_blt I hg hm hv ?_ hn hdb)
 exact PyProof.Rows.callWith_builtin1 (thn (ha pos pins s σ H _ I h) fun us s1 ⟨vs,H1,I1,r1,q1⟩=>hc pins s1 σ H1 vs us Q I1 r1 q1) he hpl
theorem pe_callTy (hc:CallR X (.type T) r)(hg:Gl X x)(hm:X.mg x=none)(hv:bootBuiltins x=some (.type T))(ha:PA X (e::es) t)(hn:x ≠ "__name__" := by decide)(hdb:(x==("__debug__" : Str))=false:=by decide)
  (he:starEach (e::es) X.env=(false,eval e X.env)::starEach es X.env:=by rfl) (hpl:(backTo pos (starEach es X.env)).any (·.1)=false:=by rfl):PE X (.Call (.Name x p) (e::es) [] pos) (tCB r t):=by
 intro pins s σ H Q I h
 refine wpAny_Call_Name_kw (ld_blt I hg hm hv ?_ hn hdb)
 exact PyProof.Rows.callWith_type1 (thn (ha pos pins s σ H _ I h) fun us s1 ⟨vs,H1,I1,r1,q1⟩=>hc pins s1 σ H1 vs us Q I1 r1 q1) he hpl
end
end L2
namespace HT
open PySem PyProof.Rows
section
variable {prog:Program} {w:World} {A:Around} {E:Value->Shared->Prop} {s:Shared}
theorem cat_tup {t b:Addr}{vs ws:List Value}{Q:Value->Shared->Prop}(ht:IsTup s.heap t vs.toArray)(hb:IsTup s.heap b ws.toArray)(hv:vs ≠ [])
  (h1:ws=[]->Q (.ref t) s) (h2:ws ≠ []->Q (.ref s.heap.objs.size) {s with heap:=s.heap.push {cls:=.type "tuple",data:=.seq (vs++ws).toArray} })
  (hsz:vs.length+ws.length<=sizeLine):wpAny (model prog w) A (binaryOp .Add (.ref t) (.ref b)) Q E s:=by
 obtain⟨⟨cls,dd,data,sl⟩,ho,hc,n,hd⟩:=id ht
 obtain⟨⟨cls2,dd2,data2,sl2⟩,ho2,hc2,n2,hd2⟩:=id hb
 simp only at hc hd hc2 hd2
 subst hc hd hc2 hd2
 have e:vs.toArray++ws.toArray=(vs++ws).toArray:=by simp
 by_cases hw:ws=[]
 ·exact concat_meets ⟨_,ho,rfl⟩ ⟨_,ho2,rfl⟩ noFill_tuple_add seq_tuple_add PySem.F.slot_tuple_add PySem.F.entry_tuple_add (PySem.F.args_tuple_add_2 _ _)
   (tuple_addW1 t b vs.toArray ws.toArray n n2 dd dd2 sl sl2 (by simpa using hv) (by simp[hw])) ⟨ho,ho2,h1 hw⟩
 ·refine concat_meets ⟨_,ho,rfl⟩ ⟨_,ho2,rfl⟩ noFill_tuple_add seq_tuple_add PySem.F.slot_tuple_add PySem.F.entry_tuple_add (PySem.F.args_tuple_add_2 _ _)
   (tuple_addW2 t b vs.toArray ws.toArray n n2 dd dd2 sl sl2 (by simpa using hv) (by simpa using hw) (by rw[List.size_toArray,List.size_toArray];exact hsz)) ⟨ho,ho2,?_⟩
  rw[e]
  exact h2 hw
def sIx (n d:Nat):Option Int->Nat
 |none=>d
 |some v=>if v<0 then (v+(n:Int)).toNat else min v.toNat n
theorem sIx_none (n d:Nat):sIx n d none=d:=rfl
theorem sIx_nat (n d k:Nat):sIx n d (some (k:Int))=min k n:=by
 show (if (k:Int)<0 then ((k:Int)+(n:Int)).toNat else min (k:Int).toNat n)=min k n
 rw[if_neg (by omega),Int.toNat_natCast]
theorem sIx_le (n d:Nat)(hd:d<=n)(o:Option Int):sIx n d o<=n:=by
 cases o with
 |none=>exact hd
 |some v=>
  show (if v<0 then (v+(n:Int)).toNat else min v.toNat n)<=n
  by_cases hv:v<0
  ·rw[if_pos hv];omega
  ·rw[if_neg hv];exact Nat.min_le_right _ _
theorem clip_eq (v:Int)(n d:Nat):(if v<0 then max (v+(n:Int)) 0 else min v (n:Int))=((sIx n d (some v):Nat):Int):=by
 show (if v<0 then max (v+(n:Int)) 0 else min v (n:Int))=(((if v<0 then (v+(n:Int)).toNat else min v.toNat n):Nat):Int)
 by_cases hv:v<0
 ·simp only[if_pos hv];omega
 ·simp only[if_neg hv];omega
theorem adjust_gen (lo hi:Option Int)(n:Nat):Builtin.Slice.sliceAdjust lo hi 1 (n:Int)=(((sIx n 0 lo:Nat):Int),((sIx n n hi:Nat):Int)):=by
 have h1:¬ ((1:Int)<0):=by omega
 unfold Builtin.Slice.sliceAdjust
 simp only[h1,if_false]
 refine Prod.ext ?_ ?_
 ·cases lo with
  |none=>rfl
  |some v=>exact clip_eq v n 0
 ·cases hi with
  |none=>rfl
  |some v=>exact clip_eq v n n
theorem places_gen (i j:Nat):Builtin.Slice.slicePlaces (i:Int) (j:Int) 1=j-i:=by
 unfold Builtin.Slice.slicePlaces
 have h1:(1:Int) > 0:=by omega
 simp only[h1,if_true,Int.ediv_one]
 split<;>omega
theorem slicePart_ {v:Value}{o:Option Int}{Q:Option Int->Shared->Prop}(p:IsPart v o)(h:Q o s):wpAny (model prog w) A (Builtin.Slice.slicePartIndex v) Q E s:=by
 cases p with
 |none=>exact slicePart_none h
 |int i t=>exact slicePart_int h
theorem sliceApplied_gen {sl:Addr}{vl vu:Value}{lo hi:Option Int}{n:Nat}{Q:Int×Int×Nat->Shared->Prop}(hs:s.heap.IsSliceOf sl vl vu .none)(pl:IsPart vl lo)(pu:IsPart vu hi)
  (h:Q (((sIx n 0 lo:Nat):Int),1,sIx n n hi-sIx n 0 lo) s):wpAny (model prog w) A (Builtin.Slice.sliceApplied (.ref sl) (pure (n:Int))) Q E s:=by
 obtain⟨os,hos,hcs,hds⟩:=id hs
 unfold Builtin.Slice.sliceApplied Builtin.Slice.sliceFields
 refine wpAny_bind (wpAny_bind (wpAny_field hos hds (x:=vl) rfl (wpAny_bind (wpAny_field hos hds (x:=vu) rfl (wpAny_bind (wpAny_field hos hds (x:=.none) rfl (wpAny_pure ?_)))))))
 refine wpAny_bind (slicePart_none ?_)
 show wpAny _ _ (if ((1:Int)==0)=true then _ else _) _ _ s
 rw[if_neg (by decide)]
 refine wpAny_bind (slicePart_ pl (wpAny_bind (slicePart_ pu (wpAny_bind (wpAny_pure ?_)))))
 show wpAny _ _ (match Builtin.Slice.sliceAdjust lo hi 1 (n:Int) with|(lo,hi)=>pure (lo,(1:Int),Builtin.Slice.slicePlaces lo hi 1)) _ _ s
 rw[adjust_gen lo hi n]
 show wpAny _ _ (pure (((sIx n 0 lo:Nat):Int),(1:Int),Builtin.Slice.slicePlaces ((sIx n 0 lo:Nat):Int) ((sIx n n hi:Nat):Int) 1)) _ _ s
 rw[places_gen]
 exact wpAny_pure h
theorem pick_gen (xs:Array Value)(i k:Nat):((List.range k).filterMap fun (m:Nat)=>xs[((i:Int)+(m:Int)*1).toNat]?).toArray=((xs.toList.drop i).take k).toArray:=by
 have e:(fun (m:Nat)=>xs[((i:Int)+(m:Int)*1).toNat]?)=fun m=>xs[i+m]?:=by
  funext m
  have:((i:Int)+(m:Int)*1).toNat=i+m:=by omega
  rw[this]
 rw[e]
 have:=pick_run xs i k
 rw[List.filterMap_map]at this
 have e2:((fun x=>xs[x]?) ∘ fun x=>i+x)=fun m=>xs[i+m]?:=rfl
 rw[e2]at this
 rw[this]
theorem getItem_tuple_cut {t sl:Addr}{items:Array Value}{vl vu:Value}{lo hi:Option Int}{Q:Value->Shared->Prop}(ht:IsTup s.heap t items)(hs:s.heap.IsSliceOf sl vl vu .none)(pl:IsPart vl lo)(pu:IsPart vu hi)
  (hw:¬ (sIx items.size 0 lo=0/\sIx items.size items.size hi=items.size))
  (h:Q (.ref s.heap.objs.size) {s with heap:=s.heap.push {cls:=.type "tuple",data:=.seq ((items.toList.drop (sIx items.size 0 lo)).take (sIx items.size items.size hi-sIx items.size 0 lo)).toArray} })
  (hsz:items.size<=sizeLine):wpAny (model prog w) A (getItem (.ref t) (.ref sl)) Q E s:=by
 have htake:sizeOk (.seq ((items.toList.drop (sIx items.size 0 lo)).take (sIx items.size items.size hi-sIx items.size 0 lo)).toArray):=by
  show ((items.toList.drop (sIx items.size 0 lo)).take (sIx items.size items.size hi-sIx items.size 0 lo)).toArray.size<=sizeLine
  rw[List.size_toArray,List.length_take,List.length_drop,Array.length_toList]
  omega
 have hj:sIx items.size items.size hi<=items.size:=sIx_le _ _ (Nat.le_refl _) hi
 obtain⟨os,hos,hcs,hds⟩:=id hs
 have hTs:s.TypeIs (.ref sl) "slice" := ⟨os,hos,hcs⟩
 unfold getItem
 try with_reducible refine wpAny_holding ?_
 first|refine wpAny_bind (wpAny_pure ?_)|skip
 refine wpAny_bind (wpAny_sequenceKey ht.typeIs (by decide) ?_)
 refine wpAny_bind (wpAny_callSpecial?_slot (name:=Str.ofString "__getitem__") ht.typeIs PyProof.Rows.slot_tuple_getitem
  (wpAny_call_entry PyProof.Rows.slot_tuple_getitem ht.typeIs entry_tuple_getitem ?_ (args_tuple_getitem _ _)))
 show wpAny _ _ (Builtin.Tuple.tupleItemsOf (.ref t) >>= _) _ _ s
 refine wpAny_bind (tupleItemsOf_ ht ?_)
 refine wpAny_bind (wpAny_typeOf hTs ?_)
 rw[if_pos (by decide)]
 refine wpAny_bind (sliceApplied_gen hs pl pu ?_)
 have hno:¬ ((((sIx items.size 0 lo:Nat):Int)==0&&(1:Int)==1&&(sIx items.size items.size hi-sIx items.size 0 lo)==items.size)=true):=by
  intro q
  rw[Bool.and_eq_true,Bool.and_eq_true]at q
  have q1:((sIx items.size 0 lo:Nat):Int)=0:=eq_of_beq q.1.1
  have q2:sIx items.size items.size hi-sIx items.size 0 lo=items.size:=eq_of_beq q.2
  exact hw ⟨by omega,by omega⟩
 show wpAny _ _ (if (((sIx items.size 0 lo:Nat):Int)==0&&(1:Int)==1&&(sIx items.size items.size hi-sIx items.size 0 lo)==items.size)=true then _ else _) _ _ s
 rw[if_neg hno,pick_gen]
 first
  | exact wpAny_bind (m:=Builtin.Tuple.tupleExact _) (wpAny_newObj_type (wpAny_pure ⟨_,rfl,wpAny_pure h⟩) htake)
  | exact wpAny_bind (m:=Builtin.Tuple.tupleExact _) (wpAny_newObj_type (wpAny_bind (wpAny_pure (wpAny_pure ⟨_,rfl,wpAny_pure h⟩))) htake)
  | exact wpAny_bind (wpAny_bind (m:=Builtin.Tuple.tupleExact _) (wpAny_newObj_type (wpAny_pure (wpAny_pure ⟨_,rfl,wpAny_pure h⟩)) htake))
  | exact wpAny_bind (wpAny_bind (m:=Builtin.Tuple.tupleExact _) (wpAny_newObj_type (wpAny_pure ⟨_,rfl,wpAny_pure h⟩) htake))
end
end HT
namespace L2
open PySem PySem.Spec PyProof.Rows
abbrev TO:=St->Hp->(Option Int->Hp->Prop)->Prop
def PO (X:Cx)(e:Option Expr)(t:TO):Prop:=
 ∀(pins:List (Addr×Obj)) (s:Shared) (σ:St) (H:Hp) (Q:Option Int->Hp->Prop),Inv X pins σ H s->t σ H Q ->
  wpAny (model X.prog X.w) X.A (evalPart e X.env) (fun u s'=>∃o H',Inv X pins σ H' s'/\IsPart u o/\Q o H') X.xe s
def tNoPart:TO:=fun _ H Q=>Q none H
def tPart (t:TE):TO:=fun σ H Q=>t σ H fun x H1=>∃i,x=.int i/\Q (some i) H1
section
variable {X:Cx} {e:Expr} {te:TE} {lo hi:Option Expr} {tl th:TO} {pos p2:Pos}
theorem po_none:PO X none tNoPart:=by
 intro pins s σ H Q I h
 rw[evalPart_none]
 exact wpAny_pure ⟨none,H,I,.none,h⟩
theorem po_some (h:PE X e te):PO X (some e) (tPart te):=by
 intro pins s σ H Q I hw
 rw[evalPart_some]
 refine thn (h pins s σ H _ I hw) fun u s1 ⟨x,H1,I1,r1,q1⟩=>?_
 obtain⟨i,rfl,q⟩:=q1
 obtain⟨t,rfl⟩:=r1
 exact⟨some i,H1,I1,.int i t,q⟩
def SlR (X:Cx)(r:V->Option Int->Option Int->Hp->VK->Prop):Prop:=
 ∀(pins:List (Addr×Obj)) (s:Shared) (σ:St) (H:Hp) (x:V) (v vl vu:Value) (lo hi:Option Int) (sl:Addr) (Q:VK),Inv X pins σ H s->RelV x v->s.heap.IsSliceOf sl vl vu .none->IsPart vl lo->IsPart vu hi->r x lo hi H Q ->
  ∃T id,typeLookup (.type T) "__getitem__"=pure (some (.builtin id))/\s.TypeIs v T/\wpAny (model X.prog X.w) X.A (getItem v (.ref sl)) (EP X pins σ Q) X.xe s
def tSl (r:V->Option Int->Option Int->Hp->VK->Prop)(te:TE)(tl th:TO):TE:=fun σ H Q=>te σ H fun x H1=>tl σ H1 fun l H2=>th σ H2 fun u H3=>r x l u H3 Q
theorem pe_slice {r:V->Option Int->Option Int->Hp->VK->Prop}(hr:SlR X r)(he:PE X e te)(hl:PO X lo tl)(hu:PO X hi th):PE X (.Subscript e (.Slice lo hi none p2) pos) (tSl r te tl th):=by
 intro pins s σ H Q I h
 refine Subscript_ (thn (he pins s σ H _ I h) fun v s1 ⟨x,H1,I1,r1,q1⟩=>?_)
 refine wpAny_Slice (thn (hl pins s1 σ H1 _ I1 q1) fun vl s2 ⟨l,H2,I2,pl,q2⟩=>thn (hu pins s2 σ H2 _ I2 q2) fun vu s3 ⟨u,H3,I3,pu,q3⟩=>?_)
 rw[evalPart_none]
 refine wpAny_pure ?_
 have I4:Inv X pins σ H3 {s3 with heap:=s3.heap.push {cls:=.type "slice",data:=.fields #[vl,vu,.none]} }:=I3.kept (t':=s3.toks) fun b ob q=>Heap.get?_push_of_some _ q
 obtain⟨T,id,hT,ht,hg⟩:=hr pins {s3 with heap:=s3.heap.push {cls:=.type "slice",data:=.fields #[vl,vu,.none]} } σ H3 x v vl vu l u s3.heap.objs.size Q I4 r1 (Heap.IsSliceOf.new ..) pl pu q3
 show wpAny (model X.prog X.w) X.A (subscriptTail e (.Slice lo hi none p2) v (.ref s3.heap.objs.size)) (EP X pins σ Q) X.xe {s3 with heap:=s3.heap.push {cls:=.type "slice",data:=.fields #[vl,vu,.none]} }
 exact tail_any (ops:=[.ref s3.heap.objs.size,v]) ht hT hg (by with_unfolding_all rfl)
def cutV (xs:List V)(lo hi:Option Int):List V:=(xs.drop (HT.sIx xs.length 0 lo)).take (HT.sIx xs.length xs.length hi-HT.sIx xs.length 0 lo)
theorem cutV_length (xs:List V)(lo hi:Option Int):(cutV xs lo hi).length<=xs.length:=by
 unfold cutV
 rw[List.length_take,List.length_drop]
 omega
def rSlT (K:PySem.W.Frag):V->Option Int->Option Int->Hp->VK->Prop:=fun x lo hi H Q=>∃a xs,x=.ref a/\SqT K H a xs /\
 ¬ (HT.sIx xs.length 0 lo=0/\HT.sIx xs.length xs.length hi=xs.length)/\∀p,H p=none->Q (.ref p) (upd H p (.tup (cutV xs lo hi)))
theorem sl_tup:SlR X (rSlT X.K):=by
 intro pins s σ H x v vl vu lo hi sl Q I rx hs pl pu h
 obtain⟨a,xs,rfl,hx,hw,q⟩:=h
 cases rx
 obtain⟨its,r,ht,hz⟩:=I.tuple hx
 have hlen:its.toArray.size=xs.length:=by rw[List.size_toArray];exact r.length.symm
 refine⟨"tuple",_,PyProof.Rows.slot_tuple_getitem.lookup,ht.typeIs,?_⟩
 refine HT.getItem_tuple_cut ht hs pl pu (by rw[hlen];exact hw) ?_ (by rw[hlen];exact hz)
 rw[hlen]
 refine⟨.ref s.heap.objs.size,_,I.laid (t':=s.toks) (o:=.tup (cutV xs lo hi)) (fun b ob q=>Heap.get?_push_of_some _ q) (Nat.le_refl _) ?_,rfl,q _ (I.hok.fresh (Nat.le_refl _))⟩
 exact⟨Nat.le_trans (cutV_length xs lo hi) hz,_,(r.drop (HT.sIx xs.length 0 lo)).take (HT.sIx xs.length xs.length hi-HT.sIx xs.length 0 lo),IsTup.new _ _⟩
def rCatT (K:PySem.W.Frag):R2:=fun x y H Q=>∃a b xs ys,x=.ref a/\y=.ref b/\SqT K H a xs/\SqT K H b ys/\xs ≠ []/\xs.length+ys.length<=sizeLine /\
 (ys=[]->Q (.ref a) H)/\(ys ≠ []->∀p,H p=none->Q (.ref p) (upd H p (.tup (xs++ys))))
theorem Vals.nil_iff {xs:List V}{us:List Value}(r:Vals xs us):us=[]↔xs=[]:=by
 cases r with
 |nil=>simp
 |cons _ _=>simp
theorem op_catT:OpR X (binaryOp .Add) (rCatT X.K):=by
 intro pins s σ H x y v u Q I rx ry h
 obtain⟨a,b,xs,ys,rfl,rfl,ha,hb,hx,hz,q1,q2⟩:=h
 cases rx
 cases ry
 obtain⟨its,r1,p1,_⟩:=I.tuple ha
 obtain⟨its2,r2,p2,_⟩:=I.tuple hb
 refine HT.cat_tup p1 p2 (fun z=>hx (r1.nil_iff.mp z)) (fun z=>⟨.ref a,H,I,rfl,q1 (r2.nil_iff.mp z)⟩) (fun z=>?_) (by rw[<-r1.length,<-r2.length];exact hz)
 refine⟨.ref s.heap.objs.size,_,I.laid (t':=s.toks) (o:=.tup (xs++ys)) (fun b ob q=>Heap.get?_push_of_some _ q) (Nat.le_refl _) ?_,rfl,q2 (fun w=>z (r2.nil_iff.mpr w)) _ (I.hok.fresh (Nat.le_refl _))⟩
 exact⟨by rw[List.length_append];exact hz,_,r1.append r2,IsTup.new _ _⟩
end
end L2
namespace L2
open PySem PySem.Spec PyProof.Rows
def ixN (n:Nat)(i:Int):Option Nat:=if 0<=i then (if i<n then some i.toNat else none) else if -(n:Int)<=i then some (i+n).toNat else none
def atI {α:Type}(xs:List α)(i:Int):Option α:=(ixN xs.length i).bind fun j=>xs[j]?
theorem ixN_seq {n:Nat}{i:Int}{j:Nat}(h:ixN n i=some j):seqIndex? i n=some j/\j<n /\ -(n:Int)<=i/\i<n:=by
 unfold ixN at h
 by_cases h0:0<=i
 ·rw[if_pos h0]at h
  by_cases h1:i<n
  ·rw[if_pos h1]at h
   have e:i.toNat=j:=Option.some.inj h
   exact⟨by rw[seqIndex_of h0 h1,e],by omega,by omega,h1⟩
  ·rw[if_neg h1]at h;cases h
 ·rw[if_neg h0]at h
  by_cases h1 : -(n:Int)<=i
  ·rw[if_pos h1]at h
   have e:(i+n).toNat=j:=Option.some.inj h
   exact⟨by rw[seqIndex_neg (by omega) h1,e],by omega,h1,by omega⟩
  ·rw[if_neg h1]at h;cases h
theorem atI_get {α:Type}{xs:List α}{i:Int}{v:α}(h:atI xs i=some v):∃j,seqIndex? i xs.length=some j/\xs[j]?=some v/\j<xs.length /\ -(xs.length:Int)<=i/\i<xs.length:=by
 unfold atI at h
 cases e:ixN xs.length i with
 |none=>rw[e]at h;cases h
 |some j=>
  rw[e]at h
  obtain⟨h1,h2,h3,h4⟩:=ixN_seq e
  exact⟨j,h1,h,h2,h3,h4⟩
theorem atI_nat {α:Type}{xs:List α}{j:Nat}{v:α}(h:xs[j]?=some v):atI xs (j:Int)=some v:=by
 have hj:j<xs.length:=(List.getElem?_eq_some_iff.mp h).1
 have e:ixN xs.length (j:Int)=some j:=by
  unfold ixN
  rw[if_pos (by omega),if_pos (by omega)];simp
 unfold atI;rw[e];exact h
def PlainIx (b:Expr):Prop:=∀o i,subscripted b false o i=operate [o,i] (getItem o i)
def IxR (X:Cx)(r:R2):Prop:=
 ∀(value slice:Expr) (pins:List (Addr×Obj)) (s:Shared) (σ:St) (H:Hp) (x y:V) (v u:Value) (Q:VK),Inv X pins σ H s->RelV x v->RelV y u->r x y H Q ->
  subscripted slice false v u=operate [v,u] (getItem v u)->wpAny (model X.prog X.w) X.A (subscriptTail value slice v u) (EP X pins σ Q) X.xe s
def MtR (X:Cx)(id:String)(r:V->List V->Hp->VK->Prop):Prop:=
 ∀(pins:List (Addr×Obj)) (s:Shared) (σ:St) (H:Hp) (x:V) (xs:List V) (v:Value) (us:List Value) (Q:VK),Inv X pins σ H s->RelV x v->Vals xs us->r x xs H Q ->
  wpAny (model X.prog X.w) X.A (call (.builtin id) (v::us)) (EP X pins σ Q) X.xe s
section
variable {X:Cx} {a b:Expr} {ta tb:TE} {pos:Pos}
theorem pe_ix {r:R2}(hr:IxR X r)(ha:PE X a ta)(hb:PE X b tb)(hs:PlainIx b):PE X (.Subscript a b pos) (tOp r ta tb):=by
 intro pins s σ H Q I h
 exact Subscript_ (binT ha hb I h fun v u s2 x y H2 I2 rx ry q=>hr a b pins s2 σ H2 x y v u Q I2 rx ry q (hs _ _))
def rIxL (K:PySem.W.Frag):R2:=fun x y H Q=>∃p xs i v,x=.ref p/\y=.int i/\SqL K H p xs/\atI xs i=some v/\Q v H
def rIxT (K:PySem.W.Frag):R2:=fun x y H Q=>∃p xs i v,x=.ref p/\y=.int i/\SqT K H p xs/\atI xs i=some v/\Q v H
theorem ix_list:IxR X (rIxL X.K):=by
 intro value slice pins s σ H x y v u Q I rx ry h hs
 obtain⟨p,xs,i,z,rfl,rfl,hq,he,q⟩:=h
 cases rx
 obtain⟨t,rfl⟩:=ry
 obtain⟨its,r,pl,hz⟩:=I.list hq
 obtain⟨j,h1,h2,h3,h4,h5⟩:=atI_get he
 obtain⟨w,ew,rw'⟩:=r.get h2
 have hl:=r.length
 have hn:=line63
 have fin:EP X pins σ Q w s:=⟨z,H,I,rw',q⟩
 by_cases h0:0<=i
 ·have hj:i.toNat=j:=by
   rw[seqIndex_of h0 h5]at h1
   exact Option.some.inj h1
  exact item_listR pl.isList h0 (by omega) (by rw[hj];simpa using ew) fin hs
 ·have hj:(i+(its.toArray.size:Int)).toNat=j:=by
   rw[seqIndex_neg (by omega) h4]at h1
   rw[List.size_toArray,<-hl]
   exact Option.some.inj h1
  exact subscriptTail_builtinR (x:=w) pl.isList.typeIs slot_list_getitem.lookup
   (wpAny_getItem_list_neg (Q:=fun r s'=>r=w/\EP X pins σ Q r s') pl.isList (by omega) (by rw[List.size_toArray]<;>omega) (by omega) (by rw[hj];simpa using ew) ⟨rfl,fin⟩) hs
theorem ix_tup:IxR X (rIxT X.K):=by
 intro value slice pins s σ H x y v u Q I rx ry h hs
 obtain⟨p,xs,i,z,rfl,rfl,hq,he,q⟩:=h
 cases rx
 obtain⟨t,rfl⟩:=ry
 obtain⟨its,r,pl,hz⟩:=I.tuple hq
 obtain⟨j,h1,h2,h3,h4,h5⟩:=atI_get he
 obtain⟨w,ew,rw'⟩:=r.get h2
 have hl:=r.length
 have hn:=line63
 have fin:EP X pins σ Q w s:=⟨z,H,I,rw',q⟩
 exact subscriptTail_builtinR (x:=w) pl.typeIs slot_tuple_getitem.lookup
  (getItem_tuple (j:=j) (Q:=fun r s'=>r=w/\EP X pins σ Q r s') pl (by omega) (by omega) (by rw[List.size_toArray,<-hl];exact h1) (by simpa using ew) ⟨rfl,fin⟩) hs
theorem mapSeq_set (its:List Value)(n j:Nat)(u:Value):Obj.mapSeq (·.setIfInBounds j u) {cls:=.type "list",data:=.seq its.toArray n}={cls:=.type "list",data:=.seq (its.set j u).toArray n}:=by
 simp[Obj.mapSeq]
theorem Inv.lst {pins:List (Addr×Obj)}{σ:St}{H:Hp}{s:Shared}{p:Addr}{xs:List V}(I:Inv X pins σ H s)(h:H p=some (.lst xs)):
  ∃(its:List Value) (n:Nat),Vals xs its/\s.heap.get? p=some {cls:=.type "list",data:=.seq its.toArray n}/\xs.length<=sizeLine:=by
 obtain⟨z,its,n,r,e⟩:=I.hok p _ h
 exact⟨its,n,r,e,z⟩
theorem Inv.lstUpd {pins:List (Addr×Obj)}{σ:St}{H:Hp}{s:Shared}{p:Addr}{xs ys:List V}{its its':List Value}{n n':Nat}{f:Obj->Obj}(I:Inv X pins σ H s)(h:H p=some (.lst xs))
  (ho:s.heap.get? p=some {cls:=.type "list",data:=.seq its.toArray n}) (hf:f {cls:=.type "list",data:=.seq its.toArray n}={cls:=.type "list",data:=.seq its'.toArray n' }) (r:Vals ys its') (hz:ys.length<=sizeLine) (t:Nat):
  Inv X pins σ (upd H p (.lst ys)) {s with heap:=s.heap.update p f,toks:=t}:=by
 have e:(s.heap.update p f).get? p=some {cls:=.type "list",data:=.seq its'.toArray n' }:=by
  rw[Heap.get?_update_self f ho (by rw[hf]<;>rfl),hf]
 refine I.write (x:=p) (e:=p) (by rw[h];trivial) (.inl rfl) (fun b u hb q=>(Heap.get?_update_other _ _ (Ne.symm hb)).trans q) ⟨_,e⟩ ?_
 exact⟨hz,its',n',r,e⟩
def rSetL:V->V->V->Hp->(Hp->Prop)->Prop:=fun o i v H Q=>∃p xs k j,o=.ref p/\i=.int k/\H p=some (.lst xs)/\ixN xs.length k=some j/\Q (upd H p (.lst (xs.set j v)))
theorem set_list:PSet X rSetL:=by
 intro pins s σ H o i v ov iv u Q I ro ri rv h
 obtain⟨p,xs,k,j,rfl,rfl,hp,hj,q⟩:=h
 cases ro
 obtain⟨t,rfl⟩:=ri
 obtain⟨its,n,r,ho,hz⟩:=I.lst hp
 obtain⟨h1,h2,h3,h4⟩:=ixN_seq hj
 have hl:=r.length
 have hn:=line63
 have I':Inv X pins σ (upd H p (.lst (xs.set j v))) {s with heap:=s.heap.update p (Obj.mapSeq (·.setIfInBounds j u))}:=
  I.lstUpd hp ho (mapSeq_set its n j u) (r.set rv j) (by rw[List.length_set];exact hz) s.toks
 by_cases h0:0<=k
 ·have hk:k.toNat=j:=by
   rw[seqIndex_of h0 h4]at h1
   exact Option.some.inj h1
  exact PySem.W.ki_setAt ho h0 (by omega) (by rw[List.size_toArray,<-hl];exact h4) (by rw[hk];exact⟨_,I',q⟩)
 ·have hk:(k+(its.toArray.size:Int)).toNat=j:=by
   rw[seqIndex_neg (by omega) h3]at h1
   rw[List.size_toArray,<-hl]
   exact Option.some.inj h1
  exact PySem.W.ki_setBack ho (by omega) (by rw[List.size_toArray,<-hl];exact h3) (by omega) (by rw[hk];exact⟨_,I',q⟩)
theorem slice_bounds (lo hi:Option Int)(n:Nat):(sliceBounds lo hi none n).1=((HT.sIx n 0 lo:Nat):Int)/\(sliceBounds lo hi none n).2.1=((HT.sIx n n hi:Nat):Int)/\(sliceBounds lo hi none n).2.2=1:=by
 refine⟨?_,?_,rfl⟩
 ·cases lo with
  |none=>simp[sliceBounds,HT.sIx]
  |some i=>
   simp only[sliceBounds,HT.sIx,Option.getD_none,show (1:Int) > 0 by decide,if_true]
   by_cases h:i<0
   ·simp only[h,if_true]<;>omega
   ·simp only[h,if_false]<;>omega
 ·cases hi with
  |none=>simp[sliceBounds,HT.sIx]
  |some i=>
   simp only[sliceBounds,HT.sIx,Option.getD_none,show (1:Int) > 0 by decide,if_true]
   by_cases h:i<0
   ·simp only[h,if_true]<;>omega
   ·simp only[h,if_false]<;>omega
theorem slicePick_cut (its:List Value)(lo hi:Option Int):slicePick its.toArray lo hi none=((its.drop (HT.sIx its.length 0 lo)).take (HT.sIx its.length its.length hi-HT.sIx its.length 0 lo)).toArray:=by
 obtain⟨h1,h2,h3⟩:=slice_bounds lo hi its.toArray.size
 unfold slicePick
 rw[h1,h2,h3]
 simp only[sliceRange_one,pick_run,List.size_toArray]<;>rfl
def rSlL (K:PySem.W.Frag):V->Option Int->Option Int->Hp->VK->Prop:=fun x lo hi H Q=>∃a xs,x=.ref a/\SqL K H a xs/\∀p,H p=none->Q (.ref p) (upd H p (.lst (cutV xs lo hi)))
theorem sl_list:SlR X (rSlL X.K):=by
 intro pins s σ H x v vl vu lo hi sl Q I rx hs pl pu h
 obtain⟨a,xs,rfl,hx,q⟩:=h
 cases rx
 obtain⟨its,r,ht,hz⟩:=I.list hx
 have hlen:=r.length
 refine⟨"list",_,slot_list_getitem.lookup,ht.isList.typeIs,?_⟩
 refine wpAny_getItem_list_slice ht.isList hs pl pu .none (by simp) ?_ (by rw[List.size_toArray]<;>omega)
 rw[slicePick_cut,<-hlen]
 refine⟨.ref s.heap.objs.size,_,I.laid (t':=s.toks) (o:=.lst (cutV xs lo hi)) (fun b ob q=>Heap.get?_push_of_some _ q) (Nat.le_refl _) ?_,rfl,q _ (I.hok.fresh (Nat.le_refl _))⟩
 exact⟨Nat.le_trans (cutV_length xs lo hi) hz,_,0,(r.drop (HT.sIx xs.length 0 lo)).take (HT.sIx xs.length xs.length hi-HT.sIx xs.length 0 lo),Heap.get?_push_size _ rfl⟩
def flatV:V->Bool
 |.non=>true
 |.bl _=>true
 |.int _=>true
 |.str _=>true
 |_=>false
def eqV:V->V->Bool
 |.non,.non=>true
 |.bl a,.bl b=>a==b
 |.bl a,.int b=>(if a then 1 else 0)==b
 |.int a,.bl b=>a==(if b then 1 else 0)
 |.int a,.int b=>a==b
 |.str a,.str b=>a==b
 |_,_=>false
theorem eqAt_V {A:Around}{s:Shared}{y x:V}{u v:Value}(ry:RelV y u)(rx:RelV x v)(fy:flatV y=true)(fx:flatV x=true):SeqAt.EqAt A s u v (eqV y x):=by
 cases y with
 |non=>
  cases ry
  cases x with
  |non=>cases rx;exact SeqAt.EqAt.same _
  |bl b=>cases rx;exact SeqAt.EqAt.none_bool b
  |int b=>obtain⟨t,rfl⟩:=rx;exact SeqAt.EqAt.none_int b t
  |str b=>obtain⟨t,rfl⟩:=rx;exact SeqAt.EqAt.none_str b t
  |_=>exact absurd (show false=true from fx) Bool.false_ne_true
 |bl a=>
  cases ry
  cases x with
  |non=>cases rx;exact SeqAt.EqAt.bool_none a
  |bl b=>cases rx;exact SeqAt.EqAt.bool_bool a b
  |int b=>obtain⟨t,rfl⟩:=rx;exact SeqAt.EqAt.bool_int a b t
  |str b=>obtain⟨t,rfl⟩:=rx;exact SeqAt.EqAt.bool_str a b t
  |_=>exact absurd (show false=true from fx) Bool.false_ne_true
 |int a=>
  obtain⟨t',rfl⟩:=ry
  cases x with
  |non=>cases rx;exact SeqAt.EqAt.int_none a t'
  |bl b=>cases rx;exact SeqAt.EqAt.int_bool a t' b
  |int b=>obtain⟨t,rfl⟩:=rx;exact SeqAt.EqAt.int_int a t' b t
  |str b=>obtain⟨t,rfl⟩:=rx;exact SeqAt.EqAt.int_str a t' b t
  |_=>exact absurd (show false=true from fx) Bool.false_ne_true
 |str a=>
  obtain⟨t',rfl⟩:=ry
  cases x with
  |non=>cases rx;exact SeqAt.EqAt.str_none a t'
  |bl b=>cases rx;exact SeqAt.EqAt.str_bool a t' b
  |int b=>obtain⟨t,rfl⟩:=rx;exact SeqAt.EqAt.str_int a t' b t
  |str b=>obtain⟨t,rfl⟩:=rx;exact SeqAt.EqAt.str_str a t' b t
  |_=>exact absurd (show false=true from fx) Bool.false_ne_true
 |_=>exact absurd (show false=true from fy) Bool.false_ne_true
def eqU (x:V)(u:Value):Bool:=match u with
 |.none=>eqV .non x
 |.bool b=>eqV (.bl b) x
 |.int i _=>eqV (.int i) x
 |.str z _=>eqV (.str z) x
 |_=>false
theorem eqU_of {x y:V}{u:Value}(r:RelV y u)(f:flatV y=true):eqU x u=eqV y x:=by
 cases y with
 |non=>cases r;rfl
 |bl b=>cases r;rfl
 |int i=>obtain⟨t,rfl⟩:=r;rfl
 |str z=>obtain⟨t,rfl⟩:=r;rfl
 |_=>exact absurd (show false=true from f) Bool.false_ne_true
theorem any_eqU {x:V}:∀{xs:List V} {us:List Value},Vals xs us->xs.all flatV=true->us.any (eqU x)=xs.any fun y=>eqV y x
 |_,_,.nil,_=>rfl
 |y::xs,u::us,.cons r t,f=>by
  rw[List.all_cons,Bool.and_eq_true]at f
  rw[List.any_cons,List.any_cons,eqU_of r f.1,any_eqU t f.2]
theorem mem_eqAt {A:Around}{s:Shared}{x:V}{v:Value}(rx:RelV x v)(fx:flatV x=true):∀{xs:List V} {us:List Value},Vals xs us->xs.all flatV=true->∀u∈us,SeqAt.EqAt A s u v (eqU x u)
 |_,_,.nil,_=>fun u hu=>by cases hu
 |y::xs,u::us,.cons r t,f=>fun u' hu=>by
  rw[List.all_cons,Bool.and_eq_true]at f
  rcases List.mem_cons.mp hu with rfl|hu
  ·rw[eqU_of r f.1];exact eqAt_V r rx f.1 fx
  ·exact mem_eqAt rx fx t f.2 u' hu
def inV (x:V)(xs:List V):Bool:=xs.any fun y=>eqV y x
def rIn (K:PySem.W.Frag)(neg:Bool):R2:=fun x y H Q=>∃p xs,y=.ref p/\(SqL K H p xs\/SqT K H p xs)/\flatV x=true/\xs.all flatV=true/\Q (.bl (if neg then !inV x xs else inV x xs)) H
theorem op_in_seq:OpR X (compareOp .In) (rIn X.K false):=by
 intro pins s σ H x y v u Q I rx ry h
 obtain⟨p,xs,rfl,hq,fx,fs,q⟩:=h
 cases ry
 rcases hq with hq|hq
 ·obtain⟨its,r,pl,hz⟩:=I.list hq
  refine SeqAt.in_listAt (eqU x) pl.isList (fun w hw=>mem_eqAt rx fx r fs w (by simpa using hw)) ⟨.bl _,H,I,rfl,?_⟩
  rw[show its.toArray.any (eqU x)=its.any (eqU x) by simp,any_eqU r fs]
  exact q
 ·obtain⟨its,r,pl,hz⟩:=I.tuple hq
  refine SeqAt.in_tupleAt (eqU x) pl (fun w hw=>mem_eqAt rx fx r fs w (by simpa using hw)) ⟨.bl _,H,I,rfl,?_⟩
  rw[show its.toArray.any (eqU x)=its.any (eqU x) by simp,any_eqU r fs]
  exact q
theorem call_len_seq:CallR X (.builtin "len") (fun xs H Q=>∃p ys,xs=[.ref p]/\(SqL X.K H p ys\/SqT X.K H p ys)/\Q (.int ys.length) H):=by
 intro pins s σ H xs us Q I r h
 obtain⟨p,ys,rfl,hq,q⟩:=h
 obtain⟨u,rfl,rx⟩:=vals1 r
 cases rx
 have hn:=line63
 rcases hq with hq|hq
 ·obtain⟨its,r',pl,hz⟩:=I.list hq
  have hlen:=r'.length
  exact Calls.call_len_list pl.isList (by simp only[List.size_toArray]<;>omega) ⟨.int ys.length,H,I.tok _,⟨s.toks+1,by rw[List.size_toArray,hlen]⟩,q⟩
 ·obtain⟨its,r',pl,hz⟩:=I.tuple hq
  have hlen:=r'.length
  exact len_tuple pl (by simp only[List.size_toArray]<;>omega) ⟨.int ys.length,H,I.tok _,⟨s.toks+1,by rw[List.size_toArray,hlen]⟩,q⟩
theorem call_list_of:CallR X (.type "list") (fun xs H Q=>∃p ys,xs=[.ref p]/\(SqL X.K H p ys\/SqT X.K H p ys)/\∀l,H l=none->Q (.ref l) (upd H l (.lst ys))):=by
 intro pins s σ H xs us Q I r h
 obtain⟨p,ys,rfl,hq,q⟩:=h
 obtain⟨u,rfl,rx⟩:=vals1 r
 cases rx
 have fin:∀(its:List Value),Vals ys its->ys.length<=sizeLine->∀(h':Heap) (c':Nat),(∀b o',s.heap.get? b=some o'->h'.get? b=some o') ->
   h'.get? s.heap.objs.size=some {cls:=.type "list",dict:=none,data:=.seq its.toArray c',slots := #[]}->EP X pins σ Q (.ref s.heap.objs.size) {s with heap:=h' }:=fun its r' hz h' c' kp e=>
  ⟨.ref s.heap.objs.size,_,I.laid (t':=s.toks) kp (Nat.le_refl _) (show ObjOk X.prog X.w _ h' _ (.lst ys) from ⟨hz,its,c',r',e⟩),rfl,q _ (I.hok.fresh (Nat.le_refl _))⟩
 rcases hq with hq|hq
 ·obtain⟨its,r',pl,hz⟩:=I.list hq
  have hlen:=r'.length
  obtain⟨o,ho,hc,n,hd⟩:=pl.isList
  exact call_list_seq p (.inl rfl) ho hc hd (fun h' c' kp e=>fin its r' hz h' c' kp e) (by simp only[List.size_toArray]<;>omega)
 ·obtain⟨its,r',pl,hz⟩:=I.tuple hq
  have hlen:=r'.length
  obtain⟨o,ho,hc,n,hd⟩:=pl
  exact call_list_seq p (.inr rfl) ho hc hd (fun h' c' kp e=>fin its r' hz h' c' kp e) (by simp only[List.size_toArray]<;>omega)
theorem call_tuple_of:CallR X (.type "tuple") (fun xs H Q=>∃p ys,xs=[.ref p]/\((SqL X.K H p ys/\∀l,H l=none->Q (.ref l) (upd H l (.tup ys)))\/(SqT X.K H p ys/\Q (.ref p) H))):=by
 intro pins s σ H xs us Q I r h
 obtain⟨p,ys,rfl,h⟩:=h
 obtain⟨u,rfl,rx⟩:=vals1 r
 cases rx
 rcases h with ⟨hq,q⟩|⟨hq,q⟩
 ·obtain⟨its,r',pl,hz⟩:=I.list hq
  have hlen:=r'.length
  refine call_tuple_list pl.isList (fun h' kp=>?_) (by simp only[List.size_toArray]<;>omega)
  have I1:Inv X pins σ H {s with heap:=h' }:=I.kept (t':=s.toks) kp
  have I2:Inv X pins σ (upd H h'.objs.size (.tup ys)) {s with heap:=h'.push {cls:=.type "tuple",data:=.seq its.toArray} }:=
   I1.laid (t':=s.toks) (fun b o e=>Heap.get?_push_of_some _ e) (Nat.le_refl _) (show ObjOk X.prog X.w _ _ _ (.tup ys) from ⟨hz,its,r',IsTup.new _ _⟩)
  exact⟨.ref h'.objs.size,_,I2,rfl,q _ (I1.hok.fresh (Nat.le_refl _))⟩
 ·obtain⟨its,r',pl,hz⟩:=I.tuple hq
  exact call_tuple_same pl ⟨.ref p,H,I,rfl,q⟩
def tyV (K:PySem.W.Frag)(T:String)(x:V)(H:Hp):Prop:=match x with
 |.str _=>T = "str"
 |.int _=>T = "int"
 |.ref p=>(T = "list" /\ ∃xs,SqL K H p xs)\/(T = "tuple" /\ ∃o,K.lookup p=some o/\o.cls=.type "tuple" /\ o.dict=none) \/
   (T = "dict" /\ ((∃kvs,H p=some (.dK kvs)) \/ ∃kvs,H p=some (.dT kvs)))\/(T = "set" /\ ∃S n,H p=some (.set S n))
 |_=>False
theorem tyV_is {pins:List (Addr×Obj)}{σ:St}{H:Hp}{s:Shared}{T:String}{x:V}{v:Value}(I:Inv X pins σ H s)(r:RelV x v)(ty:tyV X.K T x H):
  s.TypeIs v T/\∀a,v=.ref a->∃ob,s.heap.get? a=some ob/\ob.dict=none:=by
 cases x with
 |str z=>
  obtain⟨t,rfl⟩:=r
  cases (show T = "str" from ty)
  exact⟨typeIs_str s z t,fun _ e=>nomatch e⟩
 |int i=>
  obtain⟨t,rfl⟩:=r
  cases (show T = "int" from ty)
  exact⟨typeIs_int s i t,fun _ e=>nomatch e⟩
 |ref p=>
  cases r
  rcases ty with ⟨rfl,xs,hq⟩|⟨rfl,o,hk,hc,hd⟩|⟨rfl,hk⟩|⟨rfl,S,n,hk⟩
  ·obtain⟨its,_,pl,_⟩:=I.list hq
   refine⟨pl.isList.typeIs,fun a e=>?_⟩
   cases e
   obtain⟨o,n,e,c,hd,_⟩:=pl
   exact⟨o,e,hd⟩
  ·refine⟨⟨o,I.kIn p o hk,hc⟩,fun a e=>?_⟩
   cases e
   exact⟨o,I.kIn _ o hk,hd⟩
  ·have z:∃o,s.heap.get? p=some o/\o.ExactDict:=by
    rcases hk with ⟨kvs,hk⟩|⟨kvs,hk⟩
    ·obtain⟨_,_,_,_,o,_,_,e,ex,_⟩:=I.hok p _ hk
     exact⟨o,e,ex⟩
    ·obtain⟨_,_,_,_,o,_,_,e,ex,_⟩:=I.hok p _ hk
     exact⟨o,e,ex⟩
   obtain⟨o,e,ex⟩:=z
   refine⟨⟨o,e,ex.1⟩,fun a e2=>?_⟩
   cases e2
   exact⟨o,e,ex.2.1⟩
  ·obtain⟨o,_,_,_,e,ex,_⟩:=I.hok p _ hk
   refine⟨⟨o,e,ex.1⟩,fun a e2=>?_⟩
   cases e2
   exact⟨o,e,ex.2.1⟩
 |_=>exact False.elim ty
def tBM (K:PySem.W.Frag)(T:String)(r:V->List V->Hp->VK->Prop)(to:TE)(t:TA):TE:=fun σ H Q=>to σ H fun x H1=>tyV K T x H1/\t σ H1 fun xs H2=>r x xs H2 Q
variable {o e:Expr} {es:List Expr} {to:TE} {t:TA} {name:Str} {apos cpos:Pos} {T id:String} {r:V->List V->Hp->VK->Prop}
theorem pe_bm (pa:PlainAttrs T)(slot:Slot T name id)(hty:typeOf (.builtin id)=pure (.type "method_descriptor"))(hm:MtR X id r)(ho:PE X o to)(ha:PA X (e::es) t)
  (hbase:attributeBase o name X.env (eval o X.env)=eval o X.env:=by rfl)
  (hfew:((backTo cpos (starEach (e::es) X.env)).all (fun x => !x.1)&&(backToKw cpos (keywordEach [] X.env)).all (fun x=>x.1.isSome)
   && decide ((e::es).length+([]:List Keyword).length+(if ([]:List Keyword).isEmpty then 0 else 1)<30))=true:=by rfl)
  (hline:(apos.endLine==cpos.line)=true:=by rfl) (hs:starEach (e::es) X.env=(false,eval e X.env)::starEach es X.env:=by rfl) (hplain:(backTo cpos (starEach es X.env)).any (·.1)=false:=by rfl):
  PE X (.Call (.Attribute o name apos) (e::es) [] cpos) (tBM X.K T r to t):=by
 intro pins s σ H Q I h
 refine wpAny_Call_method_late hbase hfew hline rfl (thn (ho pins s σ H _ I h) fun v s1 ⟨x,H1,I1,r1,ty,q1⟩=>?_)
 obtain⟨h1,h2⟩:=tyV_is I1 r1 ty
 refine⟨T,id,pa,slot,hty,h1,h2,?_⟩
 have hA:=ha cpos pins s1 σ H1 _ I1 q1
 rw[hs]at hA ⊢
 refine Calls.callWith_builtin (by show (false||(backTo cpos (starEach es X.env)).any (·.1))=false;rw[hplain]<;>rfl) (Calls.evalArgs_plain ?_)
 exact thn hA fun us s2 ⟨vs,H2,I2,r2,q2⟩=>hm pins s2 σ H2 x vs v us Q I2 r1 r2 q2
/- xs.append(e),list.index on a module's tuple .. are MtR facts of 06m -/
end
end L2
namespace L2
open PySem PySem.Spec PyProof.Rows
def MtM (X:Cx)(id:String)(r:V->List V->Hp->VK->Prop):Prop:=
 ∀(pins:List (Addr×Obj)) (s:Shared) (σ:St) (H:Hp) (x:V) (xs:List V) (v:Value) (us:List Value) (Q:VK),Inv X pins σ H s->RelV x v->Vals xs us->r x xs H Q ->
  wpAny (model X.prog X.w) X.A (call (.builtin id) (v::us)) (EP X pins σ Q) X.xe s
theorem Vals.one:∀{x:V} {us:List Value},Vals [x] us->∃u,us=[u]/\RelV x u
 |_,_,.cons r .nil=>⟨_,rfl,r⟩
theorem Vals.eraseIdx:∀{xs:List V} {us:List Value} (i:Nat),Vals xs us->Vals (xs.eraseIdx i) (us.eraseIdx i)
 |_,_,_,.nil=>.nil
 |_,_,0,.cons _ t=>t
 |_,_,i+1,.cons r t=>.cons r (Vals.eraseIdx i t)
theorem len_erase {α:Type}:∀(l:List α) (i:Nat),(l.eraseIdx i).length<=l.length
 |[],_=>Nat.le_refl _
 |_::_,0=>Nat.le_succ _
 |_::r,i+1=>Nat.succ_le_succ (len_erase r i)
section
variable {X:Cx} {pins:List (Addr×Obj)} {σ:St} {H:Hp} {s:Shared} {l b:Addr} {xs ys zs:List V}
theorem Inv.lset {its its':List Value}{n:Nat}{f:Array Value->Array Value}{t':Nat}(I:Inv X pins σ H s)(hH:H l=some (.lst xs))
  (e:s.heap.get? l=some {cls:=.type "list",data:=.seq its.toArray n}) (hf:f its.toArray=its'.toArray) (hv:Vals ys its') (hz:ys.length<=sizeLine):
  Inv X pins σ (upd H l (.lst ys)) {s with heap:=s.heap.update l (Obj.mapSeq f),toks:=t' }:=by
 have q:=PySem.IsL.update e f
 rw[hf]at q
 refine I.write (x:=l) (e:=l) (by rw[hH];exact trivial) (.inl rfl) (fun b' u hb hu=>(Heap.get?_update_other s.heap (Obj.mapSeq f) (Ne.symm hb)).trans hu) ⟨_,q⟩ ?_
 exact⟨hz,its',_,hv,q⟩
theorem Inv.lnew {its:List Value}{t':Nat}(I:Inv X pins σ H s)(hv:Vals ys its)(hz:ys.length<=sizeLine):
  Inv X pins σ (upd H s.heap.objs.size (.lst ys)) {s with heap:=s.heap.push {cls:=.type "list",data:=.seq its.toArray},toks:=t' }:=
 I.laid (fun _ _ q=>Heap.get?_push_of_some _ q) (Nat.le_refl _) ⟨hz,its,0,hv,Heap.get?_push_size _ rfl⟩
theorem Inv.fresh (I:Inv X pins σ H s):H s.heap.objs.size=none:=I.hok.fresh (Nat.le_refl _)
theorem Inv.lstM (I:Inv X pins σ H s)(hH:H l=some (.lst xs)):xs.length<=sizeLine/\∃(its:List Value) (n:Nat),Vals xs its/\xs.length=its.length/\s.heap.get? l=some {cls:=.type "list",data:=.seq its.toArray n}:=by
 obtain⟨z,its,n,r,e⟩:=I.hok l _ hH
 exact⟨z,its,n,r,r.length,e⟩
end
section
variable {X:Cx}
def rAppend:V->List V->Hp->VK->Prop:=fun x vs H Q=>∃l xs y,x=.ref l/\vs=[y]/\H l=some (.lst xs)/\xs.length<sizeLine/\Q .non (upd H l (.lst (xs++[y])))
theorem mt_append:MtM X "list.append" rAppend:=by
 intro pins s σ H x vs v us Q I rx rv h
 obtain⟨l,xs,y,rfl,rfl,hH,hz,q⟩:=h
 cases rx
 obtain⟨u,rfl,ru⟩:=rv.one
 obtain⟨z,its,n,r,hl,e⟩:=I.lstM hH
 refine call_meets F.slot_list_append ⟨_,e,rfl⟩ F.entry_list_append (F.args_list_append_2 _ _) (PySem.list_append l its.toArray n u (by rw[List.size_toArray];omega)) ⟨e,?_⟩
 refine⟨.non,_,I.lset (its':=its++[u]) hH e (by simp) (r.append (.cons ru .nil)) ?_,rfl,q⟩
 rw[List.length_append,List.length_singleton]
 omega
def rPopAt:V->List V->Hp->VK->Prop:=fun x vs H Q=>∃l xs i k y,x=.ref l/\vs=[.int i]/\H l=some (.lst xs) /\ -(2 ^ 63)<=i/\i<2 ^ 63/\seqIndex? i xs.length=some k/\xs[k]?=some y/\Q y (upd H l (.lst (xs.eraseIdx k)))
theorem mt_popAt:MtM X "list.pop" rPopAt:=by
 intro pins s σ H x vs v us Q I rx rv h
 obtain⟨l,xs,i,k,y,rfl,rfl,hH,h1,h2,hk,hy,q⟩:=h
 cases rx
 obtain⟨u,rfl,ru⟩:=rv.one
 obtain⟨t,rfl⟩:=ru
 obtain⟨z,its,n,r,hl,e⟩:=I.lstM hH
 obtain⟨w,hw,rw'⟩:=r.get hy
 refine call_meets F.slot_list_pop ⟨_,e,rfl⟩ F.entry_list_pop (F.args_list_pop_2 _ _)
  (MeetsSeq.list_pop_at l its.toArray n i t k w (fitsIndex_both h1 h2) (by rw[List.size_toArray,<-hl];exact hk) (by rw[<-Array.getElem?_toList];exact hw) (by rw[List.size_toArray];omega)) ⟨e,?_⟩
 refine⟨y,_,I.lset (its':=its.eraseIdx k) hH e ?_ (r.eraseIdx k) ?_,rw',q⟩
 ·show its.toArray.eraseIdxIfInBounds k=(its.eraseIdx k).toArray
  rw[List.eraseIdxIfInBounds_toArray]
 ·have:=len_erase xs k
  omega
def rCat:R2:=fun x y H Q=>∃l b xs zs,x=.ref l/\y=.ref b/\H l=some (.lst xs)/\H b=some (.lst zs)/\xs.length+zs.length<=sizeLine/\∀p,H p=none->Q (.ref p) (upd H p (.lst (xs++zs)))
theorem op_cat:OpR X (binaryOp .Add) rCat:=by
 intro pins s σ H x y v u Q I rx ry h
 obtain⟨l,b,xs,zs,rfl,rfl,hH,hB,hz,q⟩:=h
 cases rx
 cases ry
 obtain⟨z,its,n,r,hl,e⟩:=I.lstM hH
 obtain⟨z2,its2,n2,r2,hl2,e2⟩:=I.lstM hB
 refine PySem.P.add_list e e2 ?_ (by rw[List.size_toArray,List.size_toArray];omega)
 have ea:its.toArray++its2.toArray=(its++its2).toArray:=by simp
 rw[ea]
 exact⟨.ref _,_,I.lnew (t':=s.toks) (r.append r2) (by rw[List.length_append];omega),rfl,q _ I.fresh⟩
end
end L2
namespace Att
open PySem PySem.W PySem.Calls PyProof.Rows
theorem ints_of_wellAll {P:Params}{h:Heap}:∀(ns:List Int) (vs:List Value),WellAll P h vs (ns.map WData.int)->IntsAre vs ns:=by
 intro ns
 induction ns with
 |nil=>
  intro vs w
  rw[List.map_nil]at w
  cases w
  exact .nil
 |cons n ns ih=>
  intro vs w
  rw[List.map_cons]at w
  cases w with
  |cons a b=>
   cases a
   exact .cons _ _ (ih _ b)
theorem script_of {l:OpenLaw}{n:Nat}(hn:l.most=some n){P:Params}{h:Heap}{args:List WData}{vals:List Value}
  (hpre:l.row.toRowW.claim.pre args=true) (hwl:WellAll P h vals args):
  ∃a vs ns,vals=[Value.ref a]/\args=[WData.list (ns.map WData.int)]/\h.get? a=some {cls:=.type "list",data:=.seq vs.toArray}/\IntsAre vs ns/\ns.length<=n:=by
 have hsh:WShape.hasAll [] args [.list .int]=true:=(pre_splitW hpre).1
 have hc:l.pre.holds [] {args:=args}=true:=(pre_splitW hpre).2
 obtain⟨d,r,rfl,h1,h2⟩:=hasAllW_cons hsh
 obtain rfl:=hasAllW_nil h2
 obtain⟨xs,rfl,h3⟩:=hasW_list h1
 obtain⟨ns,rfl⟩:=items_int h3
 have hlen:ns.length<=n:=by
  unfold OpenLaw.pre at hc
  have h4:(WTm.not (.lt (.lit (.int (n:Int))) (.len (.arg 0)))).holds [] {args:=[.list (ns.map .int)]}=true:=by
   have h4:=(holds_andW hc).1
   rw[hn]at h4
   exact h4
  have h5:=condW_of h4 (w_not (w_lt w_lit (w_len_list (w_arg rfl))))
  rw[List.length_map]at h5
  refine Nat.le_of_not_lt fun q=>?_
  have q':(n:Int)<((ns.length:Nat):Int):=by omega
  first
   | (rw[decide_eq_true q']at h5;exact absurd h5 (by decide))
   | (simp at h5;omega)
 cases hwl with
 |cons w1 w2=>
  cases w2
  cases w1 with
  |list ho hall=>exact⟨_,_,ns,rfl,rfl,ho,ints_of_wellAll ns _ hall,hlen⟩
theorem post_true (l:OpenLaw)(args:List WData):l.row.toRowW.claim.post args (.bool true) args=true:=
 postW_of (r:=l.row.toRowW) (X:=(true==true))
  (show WShape.has [] (.bool true) .bool=true by first|rfl|decide|simp[WShape.has,WShape.arms,WShape.armsAll])
  (show (WTm.eq .res (.lit (.bool true))).value [] {args:=args,res:=some (.bool true),after:=args}=some (.bool (true==true)) from w_eq_bool (w_res rfl) w_lit) rfl
theorem attach_call {l:OpenLaw}{n:Nat}{q:Program}{loose:List Str}{XP:(Str->Option Value)->Heap->Prop}{YP:World->Heap->Prop}{d:DefRec}
  (hn:l.most=some n) (hdf:d.params.defaults=[])
  (call:∀(w:World) (s₀ s₁:Shared) (mg mb:Str->Option Value) (fa:Addr) (o:Obj) (pm cd doc:Value) (a:Addr) (vs:List Value) (ns:List Int),
   Ground q loose [] XP w s₀ mg mb s₁.heap->YP w s₁.heap ->
   s₁.heap.get? fa=some o->o.data=.func (docDef d.name d.params d.body d.scope pm cd doc)->s₁.heap.CodeRec cd d.name->mg d.name=some (.ref fa) ->
   s₁.heap.get? a=some {cls:=.type "list",data:=.seq vs.toArray}->IntsAre vs ns->ns.length<=n->s₁.gens = #[] ->
   codeAny (model l.prog w) callerA (.call (.ref fa) ⟨[.ref a],[]⟩) (fun r s'=>r=.ok (.ret (.bool true))/\OldK s₁.heap s'.heap/\s'.os=s₁.os/\AllBare s'.gens) s₁):
  WalkO q loose XP YP l.row.toRowW d [] (fun f vs=>PySem.call f vs):=by
 intro w s₀ s₁ mg mb G Y fa o pm cd doc dV kV ho hd hcd hD hmg hg args vals as hpre hlay hrd hwl hlo
 obtain rfl:dV=.none:=Dflts.none hD hdf
 obtain rfl:kV=.none:=Dflts.noKw hD
 obtain⟨a,vs,ns,rfl,rfl,hobj,hints,hlen⟩:=script_of hn hpre hwl
 refine enter_call (codeAny_mono (call w s₀ s₁ mg mb fa o pm cd doc a vs ns G Y ho (fd_plain hd) hcd hmg hobj hints hlen hg) fun r s' hq=>?_)
 obtain⟨rfl,h2,h3,h4⟩:=hq
 exact⟨.inl ⟨.bool true,.bool true,[],rfl,fun _=>rfl,.bool true,post_true l _,fun _=>⟨List.Pairwise.nil,fun _ hm=>(nomatch hm)⟩⟩,h2,h3,h4⟩
end Att
namespace L2
open PySem PySem.Spec PyProof.Rows
theorem vals_ints:∀{vs:List Value} {ns:List Int},IntsAre vs ns->Vals (ns.map V.int) vs
 |_,_,.nil=>.nil
 |_,_,.cons n t h=>.cons ⟨t,rfl⟩ (vals_ints h)
def Only (H:Hp):Prop:=∀b,H b=none \/ ∃o xs,H b=some (.frz o (.lst xs))
theorem law_call {P:Program}{w:World}{K:PySem.W.Frag}{mg mb:Str->Option Value}{CX:CXT}{k:Nat}{fa a:Addr}{fd:FuncData}{x:Str}{sp:Sp}{s₁:Shared}{vs:List Value}{ns:List Int}
  (KX:K.In s₁.heap) (hns:s₁.heap.Ns mainGlobals mg) (hb:s₁.heap.Ns builtinsNs mb) (hbb:∀x:Str,x ≠ "__name__" -> mb x=bootBuiltins x) (hlim:s₁.heap.NoLimit) (hg:s₁.gens = #[])
  (ha:s₁.heap.get? a=some {cls:=.type "list",data:=.seq vs.toArray}) (hi:IntsAre vs ns) (hl:ns.length<=sizeLine) (hr:Room k callerA)
  (F:∀base:Heap,K.In base->base.Ns mainGlobals mg->FnOk P w K mg base CX k fa fd [x] sp) (hbind:∀(s:Shared) (u:Value),BindsTo s fd ⟨[u],[]⟩ [(x,u)])
  (hsp:∀H:Hp,Only H->SqL K H a (ns.map V.int)->sp [.ref a] H (fun v _=>v=.bl true) fun _ _ _=>False)
  (hCX:∀H e s',CX [] H s₁ (fun _ _ _=>False) e s'->False):
  codeAny (model P w) callerA (.call (.ref fa) ⟨[.ref a],[]⟩) (fun r s'=>r=.ok (.ret (.bool true))/\OldK s₁.heap s'.heap/\s'.os=s₁.os/\AllBare s'.gens) s₁:=by
 have rv:=vals_ints hi
 have lenV:=hi.length
 -- from an abstract heap in which nothing but the script may be tracked
 have core:∀H:Hp,Only H->SqL K H a (ns.map V.int)->HOk P w H s₁.heap->(∀b,H b≠none->b=a)->(H a≠none->K.lookup a=none) ->
   codeAny (model P w) callerA (.call (.ref fa) ⟨[.ref a],[]⟩) (fun r s'=>r=.ok (.ret (.bool true))/\OldK s₁.heap s'.heap/\s'.os=s₁.os/\AllBare s'.gens) s₁:=by
  intro H hO hS hok hA hK
  have base_of:∀{b:Addr} {o:Obj},s₁.heap.get? b=some o->H b=none->(hidT s₁.heap H).get? b=some o:=fun e n=>hidT_get e n
  have noA:∀{b:Addr} {o:Obj} {es:Array DictEntry} {ep:Nat},s₁.heap.get? b=some o->o.data=.dict es ep->H b=none:=fun {b o es ep} e d=>by
   cases q:H b with
   |none=>rfl
   |some u=>
    have e':b=a:=hA b (by rw[q];simp)
    subst e'
    rw[ha]at e;cases e
    have d':Data.seq vs.toArray _=Data.dict es ep:=d
    cases d'
  have nsK:∀{b:Addr} {m:Str->Option Value},s₁.heap.Ns b m->(hidT s₁.heap H).Ns b m:=fun {b m} ⟨o,es,ep,e,d,r⟩=>⟨o,es,ep,base_of e (noA e d),d,r⟩
  have hKb:K.In (hidT s₁.heap H):=fun b o e=>base_of (KX b o e) (by
   cases q:H b with
   |none=>rfl
   |some u=>
    have e':b=a:=hA b (by rw[q];simp)
    subst e'
    rw[hK (by rw[q];simp)]at e;cases e)
  have hM:Mod K mg (hidT s₁.heap H):=⟨hKb,nsK hns,⟨mb,nsK hb,hbb⟩,let ⟨mc,h1,h2⟩:=hlim;⟨mc,nsK h1,h2⟩⟩
  have e0:Env0 P w K mg (hidT s₁.heap H) callerA [] s₁ H:=⟨rfl,hM,fun b o e=>of_hidT e,Nat.le_of_eq (hidT_size _ _),trivial,fun b hb=>absurd (show b∈([]:List Addr) from hb) (by simp),hok,.of_eq hg⟩
  refine codeAny_mono ((F _ hKb (nsK hns)).run callerA [] s₁ H ⟨[.ref a],[]⟩ [.ref a] [.ref a] _ _ hr e0 (hbind s₁ (.ref a)) (.cons rfl .nil) (hsp H hO hS)) fun r s' h=>?_
  cases r with
  |error e=>exact (hCX H e s' h).elim
  |ok fl=>
   cases fl with
   |next=>exact False.elim h
   |brk=>exact False.elim h
   |cont=>exact False.elim h
   |ret u=>
    obtain⟨v,H',os,bare,un,hok',r',q⟩:=h
    have q':v=.bl true:=q
    subst q'
    obtain rfl:u=Value.bool true:=r'
    refine⟨rfl,OldK.of_keep fun b o e=>?_,os,bare⟩
    cases q:H b with
    |none=>exact un.keep b o e q (by intro z;exact absurd (show b∈([]:List Addr) from z) (by simp)) (by simp)
    |some u=>
     rcases hO b with z|⟨ob,xs,z⟩
     ·rw[q]at z;cases z
     ·have z2:=un.frzs b ob _ z
      obtain⟨e1,_⟩:=hok b _ z
      obtain⟨e2,_⟩:=hok' b _ z2
      rw[e]at e1;cases e1
      exact e2
 cases hk:K.lookup a with
 |some o=>
  -- the script is one of the module's own objects
  have e:=KX a o hk
  rw[ha]at e
  cases e
  refine core (fun _=>none) (fun _=>.inl rfl) (.inr ⟨_,vs.toArray,_,hk,rfl,rfl,rfl,by rw[List.size_toArray,lenV];exact hl,by simpa using rv⟩) (fun b u z=>by have z':(none:Option HO)=some u:=z;cases z') (fun b z=>absurd rfl z) fun z=>absurd rfl z
 |none=>
  refine core (fun b=>if b=a then some (.frz {cls:=.type "list",data:=.seq vs.toArray} (.lst (ns.map V.int))) else none) (fun b=>?_) (.inl (.inr ⟨{cls:=.type "list",data:=.seq vs.toArray},if_pos rfl⟩)) (fun b u z=>?_) (fun b z=>?_) fun _=>hk
  ·by_cases hb:b=a
   ·exact .inr ⟨_,_,if_pos hb⟩
   ·exact .inl (if_neg hb)
  ·by_cases hb:b=a
   ·have z':=(if_pos hb).symm.trans z
    cases z'
    subst hb
    exact⟨ha,by rw[List.length_map];exact hl,vs,_,rv,ha⟩
   ·have z':=(if_neg hb).symm.trans z
    cases z'
  ·by_cases hb:b=a
   ·exact hb
   ·exact absurd (if_neg hb) z
theorem walk_of {l:PySem.W.OpenLaw}{n k:Nat}{q:Program}{loose:List Str}{XP:(Str->Option Value)->Heap->Prop}{YP:World->Heap->Prop}{d:DefRec}{K:Params->PySem.W.Frag}{CX:World->CXT}{sp:World->Sp}{x:Str}
  (hn:l.most=some n) (hn2:n<=sizeLine) (hdf:d.params.defaults=[]) (hr:Room k callerA)
  (hY:∀(w:World) (h:Heap),YP w h->(K w.params).In h)
  (F:∀(w:World) (mg:Str->Option Value) (fa:Addr) (h:Heap),(K w.params).In h->h.Ns mainGlobals mg->mg d.name=some (.ref fa) ->
   ∃fd:FuncData,(∀(s:Shared) (u:Value),BindsTo s fd ⟨[u],[]⟩ [(x,u)]) /\
    ∀base:Heap,(K w.params).In base->base.Ns mainGlobals mg->FnOk l.prog w (K w.params) mg base (CX w) k fa fd [x] (sp w))
  (hsp:∀(w:World) (H:Hp) (a:Addr) (ns:List Int),ns.length<=n->Only H->SqL (K w.params) H a (ns.map V.int)->sp w [.ref a] H (fun v _=>v=.bl true) fun _ _ _=>False)
  (hCX:∀(w:World) (H:Hp) (s:Shared) (e:Value) (s':Shared),CX w [] H s (fun _ _ _=>False) e s'->False):
  PySem.W.WalkO q loose XP YP l.row.toRowW d [] (fun f vs=>PySem.call f vs):=by
 refine Att.attach_call hn hdf fun w s₀ s₁ mg mb fa o pm cd doc a vs ns G Y ho hd hcd hmg hobj hints hlen hg=>?_
 have KX:=hY w _ Y
 obtain⟨fd,hb,hF⟩:=F w mg fa _ KX G.T.g hmg
 exact law_call KX G.T.g G.T.b G.T.builtins G.T.nolimit hg hobj hints (Nat.le_trans hlen hn2) hr hF hb (fun H hO hS=>hsp w H a ns hlen hO hS) fun H e s'=>hCX w H s₁ e s'
def defArgs (s:Stmt):Arguments:=match s with
 |.FunctionDef _ a _ _ _ _ _ _ _ _=>a
 |_=>{posonlyargs:=[],args:=[],vararg:=none,kwonlyargs:=[],kw_defaults:=[],kwarg:=none,defaults:=[]}
def defBody (s:Stmt):List Stmt:=match s with
 |.FunctionDef _ _ b _ _ _ _ _ _ _=>b
 |_=>[]
def defScope (s:Stmt):Scope:=match s with
 |.FunctionDef _ _ _ _ _ _ sc _ _ _=>sc
 |_=>{kind:=.function,names:=[],isGenerator:=false,isCoroutine:=false}
abbrev CX0:CXT:=fun _ _ _ _ _ _=>False
abbrev E0:XK:=fun _ _ _=>False
theorem pass0 {X:Cx}:Passes CX0 X E0:=fun _ _ _ _ _ _ _ h=>h.elim
structure Fun (K:PySem.W.Frag)(x qual:Str)(st:Stmt)(f:Addr)(fd:FuncData):Prop where
 ex:∃(oc:Value) (od:Option Addr) (kV doc pm:Value) (an:Option Addr) (cdv ct:Value) (osl:Array (Option Value)),
  fd=PySem.W.fnOf x qual (defArgs st) (defBody st) (defScope st) .none kV doc pm an cdv ct/\K.lookup f=some ⟨oc,od,.func fd,osl⟩/\PySem.W.codeIn K cdv qual=true
 kp:PySem.W.keepIn K (.ref f)=true
section
variable {P:Program} {w:World} {K:PySem.W.Frag} {mg:Str->Option Value} {base:Heap}
theorem Fun.ok {x qual:Str}{st:Stmt}{f:Addr}{fd:FuncData}{N ps:List Str}{k:Nat}{sp:Sp}(F:Fun K x qual st f fd)(S:FnScope N ps (defScope st))(len:∀vs H Q E,sp vs H Q E->vs.length=ps.length)
  (hbody:∀(cdv:Value) (A:Around) (outer:List Env) (s:Shared) (H:Hp) (vs:List V) (Q:VK) (E:XK),Room k (A.deeper (envOfC qual (defScope st) s.heap.objs.size f cdv))->sp vs H Q E ->
   ∃t,PSs (cxOf CX0 P w K mg base N qual (defScope st) f cdv A outer s H E).nox (defBody st) t/\t {nx:=fun _ H'=>Q .non H',rt:=Q} (start N vs) H):FnOk P w K mg base CX0 (k+1) f fd ps sp:=by
 obtain⟨oc,od,kV,doc,pm,an,cdv,ct,osl,rfl,lk,hcd⟩:=F.ex
 refine fn_of lk hcd S len fun A outer s H vs Q E hr hsp=>?_
 obtain⟨t,h,q⟩:=hbody cdv A outer s H vs Q E hr hsp
 exact⟨t,h.nox,q⟩
theorem Fun.binds {x qual:Str}{st:Stmt}{f:Addr}{fd:FuncData}{ps:List Str}(F:Fun K x qual st f fd)
  (h:∀(kV doc pm:Value) (an:Option Addr) (cdv ct:Value) (us:List Value),us.length=ps.length->bindArgs (PySem.W.fnOf x qual (defArgs st) (defBody st) (defScope st) .none kV doc pm an cdv ct) ⟨us,[]⟩=pure (ps.zip us)):Binds K fd ps []:=by
 obtain⟨oc,od,kV,doc,pm,an,cdv,ct,osl,rfl,lk,hcd⟩:=F.ex
 exact .all (h kV doc pm an cdv ct)
theorem fun_mk {x qual:Str}{st:Stmt}{f:Addr}{oc:Value}{od an:Option Addr}{osl:Array (Option Value)}{kV doc pm cdv ct:Value}(l:K.lookup f=some ⟨oc,od,.func (PySem.W.fnOf x qual (defArgs st) (defBody st) (defScope st) .none kV doc pm an cdv ct),osl⟩)
  (c:PySem.W.codeIn K cdv qual=true) (k:PySem.W.keepIn K (.ref f)=true):Fun K x qual st f (PySem.W.fnOf x qual (defArgs st) (defBody st) (defScope st) .none kV doc pm an cdv ct):=⟨⟨oc,od,kV,doc,pm,an,cdv,ct,osl,rfl,l,c⟩,k⟩
end
theorem hu_of {A:Around}{k:Nat}(hr:Room k A):A.units+1<cLine:=Nat.lt_of_le_of_lt (Nat.add_le_add_left (by decide:1<=64) _) hr.units
section
variable {X:Cx}
theorem pv (i:Nat){x:Str}{pos:Pos}(hN:X.N[i]?=some x:=by rfl)(hv:Vis X.env.scope x:=by first|exact Or.inl rfl|exact Or.inr (Or.inl rfl)|exact Or.inr (Or.inr rfl))(hd:(x==("__debug__" : Str))=false:=by decide)
  (hcd:(x==("__classdict__" : Str))=false:=by decide):PE X (.Name x pos) (tVar i):=pe_var hN hv hd hcd
end
theorem ite2 {c A B:Prop}[Decidable c](h1:c->A)(h2:¬ c->B):if c then A else B:=by
 by_cases h:c
 ·rw[if_pos h]
  exact h1 h
 ·rw[if_neg h]
  exact h2 h
def Same (H H':Hp):Prop:=∀b o,H b=some o->H' b=some o
theorem Same.refl (H:Hp):Same H H:=fun _ _ h=>h
theorem Same.trans {H H1 H2:Hp}(a:Same H H1)(b:Same H1 H2):Same H H2:=fun c o h=>b c o (a c o h)
theorem Same.seq {K:PySem.W.Frag}{H H':Hp}{a:Addr}{xs:List V}(e:Same H H')(h:SqL K H a xs):SqL K H' a xs:=by
 rcases h with (h|⟨o,h⟩)|h
 ·exact .inl (.inl (e _ _ h))
 ·exact .inl (.inr ⟨o,e _ _ h⟩)
 ·exact .inr h
end L2
set_option maxHeartbeats 4000000
namespace L2
open PySem PySem.Spec PyProof.Rows
section
variable {κ:Type} [DecidableEq κ]
def valV (kvs:List (κ×V))(k:κ):Option V:=(kvs.find? fun kv=>decide (kv.1=k)).map (·.2)
def putK (kvs:List (κ×V))(k:κ)(v:V):List (κ×V):=
 if (kvs.any fun kv=>decide (kv.1=k))=true then kvs.map (fun kv=>if kv.1=k then (kv.1,v) else kv) else kvs++[(k,v)]
theorem valV_pos {p:κ×V}{r:List (κ×V)}{k:κ}(e:p.1=k):valV (p::r) k=some p.2:=by simp[valV,List.find?_cons,e]
theorem valV_neg {p:κ×V}{r:List (κ×V)}{k:κ}(e:¬ p.1=k):valV (p::r) k=valV r k:=by simp[valV,List.find?_cons,e]
theorem valV_any (k:κ):∀kvs:List (κ×V),(kvs.any fun kv=>decide (kv.1=k))=(valV kvs k).isSome
 |[]=>rfl
 |p::r=>by
  rw[List.any_cons]
  by_cases e:p.1=k
  ·simp only[valV_pos e,decide_eq_true e,Bool.true_or,Option.isSome_some]
  ·rw[valV_neg e,decide_eq_false e,Bool.false_or];exact valV_any k r
theorem length_putK (kvs:List (κ×V))(k:κ)(v:V):(putK kvs k v).length<=kvs.length+1:=by
 unfold putK
 split
 ·rw[List.length_map];omega
 ·rw[List.length_append,List.length_cons,List.length_nil];omega
theorem putK_new {kvs:List (κ×V)}{k:κ}(v:V)(h:valV kvs k=none):putK kvs k v=kvs++[(k,v)]:=by
 unfold putK
 rw[valV_any,h]
 exact if_neg (by decide)
theorem RelO.isSome_eq {o:Option V}{u:Option Value}(r:RelO o u):o.isSome=u.isSome:=by
 cases o with
 |none=>cases u with
  |none=>rfl
  |some _=>exact (show False from r).elim
 |some _=>cases u with
  |none=>exact (show False from r).elim
  |some _=>rfl
theorem RelO.getD {o:Option V}{u:Option Value}{d:V}{d':Value}(r:RelO o u)(rd:RelV d d'):RelV (o.getD d) (u.getD d'):=by
 cases o with
 |none=>cases u with
  |none=>exact rd
  |some _=>exact (show False from r).elim
 |some _=>cases u with
  |none=>exact (show False from r).elim
  |some _=>exact r
theorem KV.val {kvs:List (κ×V)}{vs:List (κ×Value)}(r:KV kvs vs)(k:κ):RelO (valV kvs k) (valueAt vs k):=by
 unfold KV at r
 induction r with
 |nil=>exact True.intro
 |@cons p q ps qs h t ih=>
  obtain⟨h1,h2⟩:=h
  by_cases e:p.1=k
  ·have e':q.1=k:=h1.symm.trans e
   have b:valueAt (q::qs) k=some q.2:=by simp[valueAt,List.find?_cons,e']
   rw[valV_pos e,b];exact h2
  ·have e':¬ q.1=k:=fun z=>e (h1.trans z)
   have b:valueAt (q::qs) k=valueAt qs k:=by simp[valueAt,List.find?_cons,e']
   rw[valV_neg e,b];exact ih
theorem KV.any {kvs:List (κ×V)}{vs:List (κ×Value)}(r:KV kvs vs)(k:κ):(kvs.any fun kv=>decide (kv.1=k))=vs.any fun kv=>decide (kv.1=k):=by
 unfold KV at r
 induction r with
 |nil=>rfl
 |cons h t ih=>rw[List.any_cons,List.any_cons,ih,h.1]
theorem KV.repl {kvs:List (κ×V)}{vs:List (κ×Value)}(r:KV kvs vs)(k:κ){y:V}{u:Value}(ry:RelV y u):
  KV (kvs.map fun kv=>if kv.1=k then (kv.1,y) else kv) (vs.map fun kv=>if kv.1=k then (kv.1,u) else kv):=by
 unfold KV at r ⊢
 induction r with
 |nil=>exact .nil
 |@cons p q ps qs h t ih=>
  rw[List.map_cons,List.map_cons]
  refine .cons ?_ ih
  obtain⟨h1,h2⟩:=h
  by_cases e:p.1=k
  ·rw[if_pos e,if_pos (h1.symm.trans e)];exact⟨h1,ry⟩
  ·rw[if_neg e,if_neg (fun z=>e (h1.trans z))];exact⟨h1,h2⟩
theorem KV.put {kvs:List (κ×V)}{vs:List (κ×Value)}(r:KV kvs vs)(k:κ){y:V}{u:Value}(ry:RelV y u):KV (putK kvs k y) (stored vs k u):=by
 unfold putK stored
 rw[r.any k]
 by_cases e:(vs.any fun kv=>decide (kv.1=k))=true
 ·rw[if_pos e,if_pos e];exact r.repl k ry
 ·rw[if_neg e,if_neg e];exact Paired.snoc r ⟨rfl,ry⟩
theorem KV.length {kvs:List (κ×V)}{vs:List (κ×Value)}(r:KV kvs vs):kvs.length=vs.length:=Paired.length r
end
theorem kV_is {P:Program}{w:World}{k:Key}{u:Value}(r:RelV (kV k) u):(mixKind P w).is k u=true:=by
 cases k with
 |inl i=>obtain⟨t,e⟩:=(show ∃t,u=Value.int i t from r);subst e;exact mixKind_int P w i t
 |inr x=>obtain⟨t,e⟩:=(show ∃t,u=Value.str x t from r);subst e;exact mixKind_str P w x t
theorem items_are {P:Program}{w:World}:∀{ks:List Key} {us:List Value},Vals (ks.map kV) us->ItemsAre (mixKind P w) ks us
 |[],_,r=>by rw[List.map_nil]at r;cases r;exact .nil
 |k::ks,_,r=>by
  rw[List.map_cons]at r
  cases r with
  |cons h t=>exact .cons (kV_is h) (items_are t)
abbrev KT (H:Hp):List (List Key×V)->List (List Key×Addr×Value)->Prop:=Paired fun p q=>p.1=q.1/\H q.2.1=some (.tup (p.1.map kV))/\RelV p.2 q.2.2
theorem KT.val {H:Hp}{kvs:List (List Key×V)}{xs:List (List Key×Addr×Value)}(r:KT H kvs xs)(k:List Key):RelO (valV kvs k) ((atKey xs k).map (·.2)):=by
 induction r with
 |nil=>exact True.intro
 |@cons p q ps qs h t ih=>
  obtain⟨h1,_,h2⟩:=h
  by_cases e:p.1=k
  ·have e':q.1=k:=h1.symm.trans e
   have b:atKey (q::qs) k=some q.2:=by simp[atKey,List.find?_cons,e']
   rw[valV_pos e,b];exact h2
  ·have e':¬ q.1=k:=fun z=>e (h1.trans z)
   have b:atKey (q::qs) k=atKey qs k:=by simp[atKey,List.find?_cons,e']
   rw[valV_neg e,b];exact ih
theorem KT.repl {H:Hp}{kvs:List (List Key×V)}{xs:List (List Key×Addr×Value)}(r:KT H kvs xs)(k:List Key){y:V}{u:Value}(ry:RelV y u):
  KT H (kvs.map fun kv=>if kv.1=k then (kv.1,y) else kv) (xs.map (putAt k u)):=by
 induction r with
 |nil=>exact .nil
 |@cons p q ps qs h t ih=>
  rw[List.map_cons,List.map_cons]
  refine .cons ?_ ih
  obtain⟨h1,h2,h3⟩:=h
  unfold putAt
  by_cases e:p.1=k
  ·rw[if_pos e,if_pos (h1.symm.trans e)];exact⟨h1,h2,ry⟩
  ·rw[if_neg e,if_neg (fun z=>e (h1.trans z))];exact⟨h1,h2,h3⟩
theorem KT.put {H:Hp}{kvs:List (List Key×V)}{xs:List (List Key×Addr×Value)}(r:KT H kvs xs)(k:List Key){b:Addr}{y:V}{u:Value}(hb:H b=some (.tup (k.map kV)))(ry:RelV y u):
  KT H (putK kvs k y) (storedH xs k b u):=by
 have e:(kvs.any fun kv=>decide (kv.1=k))=(atKey xs k).isSome:=by
  rw[valV_any,(r.val k).isSome_eq,Option.isSome_map]
 unfold putK storedH
 rw[e]
 by_cases q:(atKey xs k).isSome=true
 ·rw[if_pos q,if_pos q];exact r.repl k ry
 ·rw[if_neg q,if_neg q];exact Paired.snoc r ⟨rfl,hb,ry⟩
theorem KT.keeps {H H':Hp}{kvs:List (List Key×V)}{xs:List (List Key×Addr×Value)}(r:KT H kvs xs)(ht:∀b ys,H b=some (.tup ys)->H' b=some (.tup ys)):KT H' kvs xs:=
 Paired.mapP r fun _ _ z=>⟨z.1,ht _ _ z.2.1,z.2.2⟩
section
variable {P:Program} {w:World} {H:Hp} {h:Heap} {a:Addr}
theorem rd_of {u:HO}(ok:HOk P w H h)(e:Rd H a u):ObjOk P w H h a u:=e.ok ok
theorem dk_rd {kvs:List (Key×V)}(ok:HOk P w H h)(e:Rd H a (.dK kvs)):kvs.length<=sizeLine/\(a==sysModules)=false/\∃vs,KV kvs vs/\h.DictOf (mixKind P w) a vs:=
 show ObjOk P w H h a (.dK kvs) from rd_of ok e
theorem dk_of {kvs:List (Key×V)}(ok:HOk P w H h)(e:H a=some (.dK kvs)):kvs.length<=sizeLine/\(a==sysModules)=false/\∃vs,KV kvs vs/\h.DictOf (mixKind P w) a vs:=dk_rd ok (.inl e)
theorem key_of {ks:List Key}(ok:HOk P w H h)(e:H a=some (.tup (ks.map kV))):(tupleKind (mixKind P w)).is h ks a:=by
 obtain⟨_,its,r,o,h1,h2,n,h3⟩:=(show ObjOk P w H h a (.tup (ks.map kV)) from ok a _ e)
 exact⟨o,its.toArray,n,h1,h2,h3,by simpa using items_are r⟩
theorem dt_rd {kvs:List (List Key×V)}(ok:HOk P w H h)(e:Rd H a (.dT kvs)):kvs.length<=sizeLine/\(a==sysModules)=false /\
  ∃xs,KT H kvs xs/\h.DictOfH (tupleKind (mixKind P w)) a xs:=by
 obtain⟨z,y,xs,r,o,es,ep,h1,h2,h3,h4,h5⟩:=(show ObjOk P w H h a (.dT kvs) from rd_of ok e)
 refine⟨z,y,xs,r,o,es,ep,h1,h2,h3,h4,fun x hx=>?_,h5⟩
 have all:∀{l:List (List Key×V)} {m:List (List Key×Addr×Value)},KT H l m->∀x∈m,(tupleKind (mixKind P w)).is h x.1 x.2.1:=by
  intro l m q
  induction q with
  |nil=>intro x hx;exact nomatch hx
  |@cons p q ps qs hq t ih=>
   intro x hx
   rcases List.mem_cons.mp hx with e|hx
   ·subst e
    exact key_of ok (by rw[<-hq.1];exact hq.2.1)
   ·exact ih x hx
 exact all r x hx
theorem dt_of {kvs:List (List Key×V)}(ok:HOk P w H h)(e:H a=some (.dT kvs)):kvs.length<=sizeLine/\(a==sysModules)=false /\
  ∃xs,KT H kvs xs/\h.DictOfH (tupleKind (mixKind P w)) a xs:=dt_rd ok (.inl e)
end
def DGet (H:Hp)(a:Addr)(y:V)(r:Option V):Prop:=
 (∃kvs k,Rd H a (.dK kvs)/\y=kV k/\r=valV kvs k) \/ ∃kvs k b,Rd H a (.dT kvs)/\y=.ref b/\H b=some (.tup (k.map kV))/\r=valV kvs k
def DPut (H:Hp)(a:Addr)(y v:V)(H':Hp):Prop:=
 (∃kvs k,H a=some (.dK kvs)/\y=kV k/\kvs.length<sizeLine/\H'=upd H a (.dK (putK kvs k v))) \/
 ∃kvs k b,H a=some (.dT kvs)/\y=.ref b/\H b=some (.tup (k.map kV))/\kvs.length<sizeLine/\H'=upd H a (.dT (putK kvs k v))
theorem DGet.t {H:Hp}{a b:Addr}{kvs:List (List Key×V)}{k:List Key}(e:H a=some (.dT kvs))(eb:H b=some (.tup (k.map kV))):DGet H a (.ref b) (valV kvs k):=.inr ⟨kvs,k,b,.inl e,rfl,eb,rfl⟩
theorem DPut.t {H:Hp}{a b:Addr}{kvs:List (List Key×V)}{k:List Key}{v:V}(e:H a=some (.dT kvs))(eb:H b=some (.tup (k.map kV)))(hl:kvs.length<sizeLine):
  DPut H a (.ref b) v (upd H a (.dT (putK kvs k v))):=.inr ⟨kvs,k,b,e,rfl,eb,hl,rfl⟩
section
variable {X:Cx} {pins:List (Addr×Obj)} {σ:St} {H:Hp} {s:Shared} {a:Addr} {y v:V} {u r:Value} {o:Option V} {A:Around} {E:Value->Shared->Prop}
theorem Inv.big (I:Inv X pins σ H s):sysModules<s.heap.objs.size:=by
 have h:mainGlobals<s.heap.objs.size:=(I.mod.glob.keeps I.bk).lt
 exact Nat.lt_trans (by decide) h
theorem d_getItem {Q:Value->Shared->Prop}(hu:A.units+1<cLine)(I:Inv X pins σ H s)(g:DGet H a y (some v))(ry:RelV y u)(h:∀w' s',Inv X pins σ H s'->RelV v w'->Q w' s'):
  wpAny (model X.prog X.w) A (getItem (.ref a) u) Q E s:=by
 rcases g with ⟨kvs,k,e,ey,l⟩|⟨kvs,k,b,e,ey,eb,l⟩
 ·subst ey
  obtain⟨z,hd,vs,rel,dd⟩:=dk_rd I.hok e
  obtain⟨w',hw,rw'⟩:=RelO.some_of (v:=v) (o:=valueAt vs k) (by rw[l];exact rel.val k)
  exact wpAny_getItem_of (kV_is ry) dd.mapOf hw (h w' _ (I.tok _) rw')
 ·subst ey
  cases (show u=Value.ref b from ry)
  obtain⟨z,hd,xs,rel,dd⟩:=dt_rd I.hok e
  obtain⟨w',hw,rw'⟩:=RelO.some_of (v:=v) (o:=(atKey xs k).map (·.2)) (by rw[l];exact rel.val k)
  obtain⟨p,hp,hp2⟩:=Option.map_eq_some_iff.mp hw
  refine wpAny_getItem_heap (tupleKind_room_in1 hu) (key_of I.hok eb) dd hp ?_
  rw[hp2]
  exact h w' _ (I.tok _) rw'
theorem d_write {h':Heap}{t':Nat}{ob:HO}(I:Inv X pins σ H s)(mu:Mut (H a))(hs:Heap.SameBut a s.heap h')(he:∃q,h'.get? a=some q)(new:ObjOk X.prog X.w (upd H a ob) h' a ob):
  Inv X pins σ (upd H a ob) {s with heap:=h',toks:=t' }:=
 I.write (x:=a) (e:=a) mu (.inl rfl) (fun b q hb z=>(hs.2 b hb).trans z) he new
theorem dk_new {P:Program}{w:World}{H':Hp}{h':Heap}{kvs:List (Key×V)}{vs:List (Key×Value)}(z:kvs.length<=sizeLine)(hd:(a==sysModules)=false)(rel:KV kvs vs)(dd:h'.DictOf (mixKind P w) a vs):
  ObjOk P w H' h' a (.dK kvs):=⟨z,hd,vs,rel,dd⟩
theorem d_setItem {H':Hp}{Q:Unit->Shared->Prop}(hu:A.units+1<cLine)(I:Inv X pins σ H s)(g:DPut H a y v H')(ry:RelV y u)(rv:RelV v r)(h:∀s',Inv X pins σ H' s'->Q () s'):
  wpAny (model X.prog X.w) A (setItem (.ref a) u r) Q E s:=by
 rcases g with ⟨kvs,k,e,ey,l,eH⟩|⟨kvs,k,b,e,ey,eb,l,eH⟩
 ·subst ey eH
  obtain⟨z,hd,vs,rel,dd⟩:=dk_of I.hok e
  have hz:vs.length<=sizeLine:=by rw[<-rel.length];exact z
  have hl:(putK kvs k v).length<=sizeLine:=by have:=length_putK kvs k v;omega
  refine wpAny_setItem_pairs (hsz:=hz) (kV_is ry) dd fun h' dd' hs=>h _ ?_
  have he:∃q,h'.get? a=some q:=let ⟨q,_,_,hq,_⟩:=dd';⟨q,hq⟩
  exact d_write I (by rw[e];exact True.intro) hs he (dk_new hl hd (rel.put k rv) dd')
 ·subst ey eH
  cases (show u=Value.ref b from ry)
  obtain⟨z,hd,xs,rel,dd⟩:=dt_of I.hok e
  have hz:xs.length<=sizeLine:=by rw[<-Paired.length rel];exact z
  have hl:(putK kvs k v).length<=sizeLine:=by have:=length_putK kvs k v;omega
  refine wpAny_setItem_heap (hsz:=hz) (tupleKind_room_in1 hu) (key_of I.hok eb) dd fun h' dd' hs=>h _ ?_
  obtain⟨q,es,ep,hq,h2,h3,h4,_,h5⟩:=dd'
  refine d_write I (by rw[e];exact True.intro) hs ⟨q,hq⟩ ⟨hl,hd,_,(rel.put k eb rv).keeps fun c ys ec=>?_,q,es,ep,hq,h2,h3,h4,h5⟩
  rw[upd_ne (ne_of ec e (fun z=>nomatch z))]
  exact ec
end
def NoSl (i:Expr):Prop:=∀ov iv,subscripted i false ov iv=operate [ov,iv] (getItem ov iv)
theorem subD_of {prog:Program}{w:World}{A:Around}{E:Value->Shared->Prop}{s:Shared}{env:Env}{value slice:Expr}{pos:Pos}{T id:String}{Q:Value->Shared->Prop}
  (hl:typeLookup (.type T) "__getitem__"=pure (some (.builtin id))) (hs:NoSl slice)
  (h:wpAny (model prog w) A (eval value env) (fun o s₁=>wpAny (model prog w) A (eval slice env) (fun i s₂=>s₂.TypeIs o T/\wpAny (model prog w) A (getItem o i) Q E s₂) E s₁) E s):
  wpAny (model prog w) A (eval (.Subscript value slice pos) env) Q E s:=by
 refine Subscript_ (wpAny_mono h (fun o s₁ h₁=>wpAny_mono h₁ (fun i s₂ h₂=>?_) fun _ _ x=>x) fun _ _ x=>x)
 obtain⟨hT,h₂⟩:=h₂
 unfold subscriptTail
 refine wpAny_bind ?_
 rw[getitemInPython_of_ne hT.not_modules]
 refine wpAny_bind (wpAny_specialOf hT hl ?_)
 have fin:wpAny (model prog w) A (subscripted slice false o i) (fun r s₃=>wpAny (model prog w) A (letTemporaryGo value o r >>= fun _=>pure r) Q E s₃) E s₂:=by
  rw[hs o i]
  exact wpAny_operating (wpAny_mono h₂ (fun r s₃ h₃=>wpAny_bind (wpAny_letTemporaryGo (wpAny_pure h₃))) fun _ _ x=>x)
 first
  | exact wpAny_pure (wpAny_bind fin)
  | exact wpAny_bind (wpAny_pure (wpAny_bind fin))
  | exact wpAny_bind fin
theorem dict_typeIs {X:Cx}{pins:List (Addr×Obj)}{σ:St}{H:Hp}{s:Shared}{a:Addr}{y:V}{o:Option V}(I:Inv X pins σ H s)(g:DGet H a y o):s.TypeIs (.ref a) "dict" := by
 rcases g with ⟨kvs,k,e,_,_⟩|⟨kvs,k,b,e,_,_,_⟩
 ·obtain⟨_,_,vs,_,dd⟩:=dk_rd I.hok e
  exact dd.typeIs
 ·obtain⟨_,_,xs,_,dd⟩:=dt_rd I.hok e
  exact dd.typeIs
def tDGet (td ty:TE):TE:=fun σ H Q=>td σ H fun x H1=>ty σ H1 fun y H2=>∃a v,x=.ref a/\DGet H2 a y (some v)/\Q v H2
def sDPut (td ty tv:TE):TS:=fun D σ H=>tv σ H fun v H1=>td σ H1 fun x H2=>ty σ H2 fun y H3=>∃a H4,x=.ref a/\DPut H3 a y v H4/\D.nx σ H4
section
variable {X:Cx} {o i e value:Expr} {pos pos' tpos:Pos} {td ty tv:TE}
theorem pe_dget (hu:X.A.units+1<cLine)(ho:PE X o td)(hi:PE X i ty)(hs:NoSl i):PE X (.Subscript o i pos) (tDGet td ty):=by
 intro pins s σ H Q I h
 refine subD_of PySem.F.slot_dict_getitem.lookup hs (thn (ho pins s σ H _ I h) fun u s1 ⟨x,H1,I1,rx,q1⟩=>thn (hi pins s1 σ H1 _ I1 q1) fun iv s2 ⟨y,H2,I2,ry,a,v,ex,g,q2⟩=>?_)
 subst ex
 obtain rfl:u=Value.ref a:=rx
 exact⟨dict_typeIs I2 g,d_getItem hu I2 g ry fun w' s3 I3 rw'=>⟨v,H2,I3,rw',q2⟩⟩
theorem ps_dput (hu:X.A.units+1<cLine)(ho:PE X o td)(hi:PE X i ty)(hv:PE X value tv)(hs:swapsWith value (some (.Subscript o i pos')) pos.line X.env=pure false):
  PS X (.Assign [.Subscript o i pos'] value pos) (sDPut td ty tv):=by
 intro pins s σ H D I h
 refine wpAny_Assign_Subscript (thn (hv pins s σ H _ I h) fun r s1 ⟨v,H1,I1,rv,q1⟩=>thn (ho pins s1 σ H1 _ I1 q1) fun u s2 ⟨x,H2,I2,rx,q2⟩=>thn (hi pins s2 σ H2 _ I2 q2) fun iv s3 ⟨y,H3,I3,ry,a,H4,ex,g,q3⟩=>?_) hs
 subst ex
 obtain rfl:u=Value.ref a:=rx
 exact d_setItem hu I3 g ry rv fun s4 I4=>⟨σ,H4,I4,q3⟩
end
theorem dt_empty {P:Program}{w:World}{H:Hp}(h:Heap)(hb:sysModules<h.objs.size):ObjOk P w H (h.push {cls:=.type "dict",data:=.dict #[]}) h.objs.size (.dT []):=
 ⟨Nat.zero_le _,beq_eq_false_iff_ne.mpr (Ne.symm (Nat.ne_of_lt hb)),[],.nil,_,#[],0,Heap.get?_push_size _ rfl,⟨rfl,rfl,rfl⟩,rfl,rfl,List.nodup_nil⟩
def tDNewT:TE:=fun _ H Q=>∀p,H p=none->Q (.ref p) (upd H p (.dT []))
section
variable {X:Cx} {pos:Pos}
theorem pe_dnewT:PE X (.Dict [] [] pos) tDNewT:=fun pins s σ H Q I h=>
 wpAny_Dict_empty ⟨.ref s.heap.objs.size,_,I.laid (a:=s.heap.objs.size) (o:=.dT []) (t':=s.toks) (fun _ _ q=>Heap.get?_push_of_some _ q) (Nat.le_refl _) (dt_empty s.heap I.big),rfl,h _ (I.hok.fresh (Nat.le_refl _))⟩
end
structure M1 (X:Cx)(o:Expr)(m:Str)(apos:Pos)(e:Expr)(cpos:Pos):Prop where
 base:attributeBase o m X.env (eval o X.env)=eval o X.env
 few:((backTo cpos (starEach [e] X.env)).all (fun x => !x.1)&&(backToKw cpos (keywordEach [] X.env)).all (fun x=>x.1.isSome)
  && decide (([e]:List Expr).length+([]:List Keyword).length+(if ([]:List Keyword).isEmpty then 0 else 1)<30))=true
 line:(apos.endLine==cpos.line)=true
 trees:backTo cpos (starEach [e] X.env)=[(false,eval e X.env)]
def IsD (H:Hp)(a:Addr):Prop:=(∃kvs,Rd H a (.dK kvs)) \/ ∃kvs,Rd H a (.dT kvs)
theorem isD_at {X:Cx}{pins:List (Addr×Obj)}{σ:St}{H:Hp}{s:Shared}{a:Addr}(I:Inv X pins σ H s)(d:IsD H a):
  s.TypeIs (.ref a) "dict" /\ (∀b,Value.ref a=.ref b->∃ob,s.heap.get? b=some ob/\ob.dict=none)/\(a==sysModules)=false:=by
 rcases d with ⟨kvs,e⟩|⟨kvs,e⟩
 ·obtain⟨_,hd,vs,_,dd⟩:=dk_rd I.hok e
  refine⟨dd.typeIs,fun b q=>?_,hd⟩
  cases q
  obtain⟨ob,_,_,h1,h2,_⟩:=dd
  exact⟨ob,h1,h2.2.1⟩
 ·obtain⟨_,hd,xs,_,dd⟩:=dt_rd I.hok e
  refine⟨dd.typeIs,fun b q=>?_,hd⟩
  cases q
  obtain⟨ob,_,_,h1,h2,_⟩:=dd
  exact⟨ob,h1,h2.2.1⟩
section
variable {X:Cx} {pins:List (Addr×Obj)} {σ:St} {H:Hp} {s:Shared} {a:Addr} {y d:V} {u r:Value} {o:Option V} {A:Around} {E:Value->Shared->Prop}
theorem d_get1 {Q:Value->Shared->Prop}(hu:A.units+1<cLine)(I:Inv X pins σ H s)(g:DGet H a y o)(ry:RelV y u)(h:∀w' s',Inv X pins σ H s'->RelV (o.getD .non) w'->Q w' s'):
  wpAny (model X.prog X.w) A (call (.builtin "dict.get") [.ref a,u]) Q E s:=by
 rcases g with ⟨kvs,k,e,ey,l⟩|⟨kvs,k,b,e,ey,eb,l⟩
 ·subst ey
  obtain⟨z,hd,vs,rel,dd⟩:=dk_rd I.hok e
  refine call_meetsIn PySem.F.slot_dict_get dd.typeIs PySem.F.entry_dict_get (PySem.F.args_dict_get_2 _ _) (meets_dict_get (mixKind X.prog X.w) a (kV_is ry) hd) ⟨_,dd.mapOf,h _ _ (I.tok _) ?_⟩
  rw[l]
  exact (rel.val k).getD rfl
 ·subst ey
  cases (show u=Value.ref b from ry)
  obtain⟨z,hd,xs,rel,dd⟩:=dt_rd I.hok e
  refine call_meetsIn PySem.F.slot_dict_get dd.typeIs PySem.F.entry_dict_get (PySem.F.args_dict_get_2 _ _) (meetsH_dict_get (tupleKind (mixKind X.prog X.w)) a b hd) ⟨tupleKind_room_in1 hu,k,xs,key_of I.hok eb,dd,h _ _ (I.tok _) ?_⟩
  rw[l]
  exact (rel.val k).getD rfl
end
def tDGet1 (td ty:TE):TE:=fun σ H Q=>td σ H fun x H1=>∃a,x=.ref a/\IsD H1 a/\ty σ H1 fun y H2=>∃o,DGet H2 a y o/\Q (o.getD .non) H2
section
variable {X:Cx} {o e f:Expr} {apos cpos:Pos} {td ty tx:TE}
theorem pe_dget1 (hu:X.A.units+1<cLine)(ho:PE X o td)(he:PE X e ty)(m:M1 X o "get" apos e cpos):PE X (.Call (.Attribute o "get" apos) [e] [] cpos) (tDGet1 td ty):=by
 intro pins s σ H Q I h
 refine wpAny_Call_method m.base m.few m.line PySem.F.plainAttrs_dict PySem.F.slot_dict_get PySem.F.type_dict_get (thn (ho pins s σ H _ I h) fun u s1 ⟨x,H1,I1,rx,a,ex,d,q1⟩=>?_)
 subst ex
 obtain rfl:u=Value.ref a:=rx
 obtain⟨t1,t2,_⟩:=isD_at I1 d
 refine⟨t1,t2,?_⟩
 rw[m.trees]
 refine Calls.callWith_builtin rfl (Calls.evalArgs_plain (Calls.spliced_cons (thn (he pins s1 σ H1 _ I1 q1) fun iv s2 ⟨y,H2,I2,ry,ov,g,q2⟩=>Calls.spliced_nil ?_)))
 exact d_get1 hu I2 g ry fun w' s3 I3 rw'=>⟨_,H2,I3,rw',q2⟩
end
end L2
namespace L2
open PySem PySem.Spec PyProof.Rows
def clOf (env:Env):List (Str×NameKind)->List (Str×Addr)->List (Str×Addr)
 |[],acc=>acc
 | (n,k)::r,acc=>if (k == .free)=true then clOf env r ((n,(env.cells.lookup n).getD 0)::acc) else clOf env r acc
theorem closure_eq {env:Env}{scope:Scope}(h:∀p∈scope.names,p.2=.free->∃c,env.cells.lookup p.1=some c):closureFor scope env=pure (clOf env scope.names []):=by
 have go:∀(l:List (Str×NameKind)) (acc:List (Str×Addr)),(∀p∈l,p.2=.free->∃c,env.cells.lookup p.1=some c) ->
   (forIn l acc fun (x:Str×NameKind) (cs:List (Str×Addr))=>(if (x.2 == .free)=true then do let c <- cellOf env x.1;pure (ForInStep.yield ((x.1,c)::cs)) else pure (ForInStep.yield cs):Sem (ForInStep (List (Str×Addr)))))=(pure (clOf env l acc):Sem (List (Str×Addr))):=by
  intro l
  induction l with
  |nil=>intro acc _;rfl
  |cons p r ih=>
   intro acc hl
   obtain⟨n,k⟩:=p
   rw[List.forIn_cons]
   by_cases hk:(k == .free)=true
   ·obtain⟨c,hc⟩:=hl (n,k) List.mem_cons_self (by simpa using hk)
    have e1:cellOf env n=pure c:=by unfold cellOf;rw[hc]
    have ih':=ih ((n,c)::acc) fun q hq=>hl q (List.mem_cons_of_mem _ hq)
    show ((if (k == .free)=true then do let c <- cellOf env n;pure (ForInStep.yield ((n,c)::acc)) else pure (ForInStep.yield acc):Sem _) >>= _)=_
    rw[if_pos hk,e1]
    show (forIn r ((n,c)::acc) _:Sem _)=_
    rw[clOf,if_pos hk,hc]
    exact ih'
   ·have ih':=ih acc fun q hq=>hl q (List.mem_cons_of_mem _ hq)
    show ((if (k == .free)=true then do let c <- cellOf env n;pure (ForInStep.yield ((n,c)::acc)) else pure (ForInStep.yield acc):Sem _) >>= _)=_
    rw[if_neg hk]
    show (forIn r acc _:Sem _)=_
    rw[clOf,if_neg hk]
    exact ih'
 have e:=go scope.names [] h
 unfold closureFor
 show (forIn scope.names [] _ >>= fun cs=>pure cs:Sem _)=_
 have e2:(forIn scope.names [] (fun (x:Str×NameKind) (r:List (Str×Addr))=>(match x with
   | (name,kind)=>if (kind == .free)=true then do let c <- cellOf env name;pure (ForInStep.yield ((name,c)::r)) else do pure PUnit.unit;pure (ForInStep.yield r):Sem (ForInStep (List (Str×Addr))))))=(pure (clOf env scope.names []):Sem (List (Str×Addr))):=e
 exact congrArg (fun z=>z >>= fun cs=>pure cs) e2
theorem clOf_mem {env:Env}:∀(l:List (Str×NameKind)) (acc:List (Str×Addr)),(∀p∈l,p.2=.free->∃c,env.cells.lookup p.1=some c)->(∀q∈acc,env.cells.lookup q.1=some q.2)->∀q∈clOf env l acc,env.cells.lookup q.1=some q.2
 |[],_,_,ha,q,hq=>ha q hq
 | (n,k)::r,acc,hl,ha,q,hq=>by
  unfold clOf at hq
  by_cases hk:(k == .free)=true
  ·rw[if_pos hk]at hq
   obtain⟨c,hc⟩:=hl (n,k) List.mem_cons_self (by simpa using hk)
   refine clOf_mem r _ (fun p hp=>hl p (List.mem_cons_of_mem _ hp)) (fun p hp=>?_) q hq
   rcases List.mem_cons.mp hp with rfl|hp
   ·show env.cells.lookup n=some ((env.cells.lookup n).getD 0)
    rw[hc];rfl
   ·exact ha p hp
  ·rw[if_neg hk]at hq
   exact clOf_mem r _ (fun p hp=>hl p (List.mem_cons_of_mem _ hp)) ha q hq
theorem clOf_has {env:Env}:∀(l:List (Str×NameKind)) (acc:List (Str×Addr)) (x:Str),((x,NameKind.free)∈l \/ ∃c,(x,c)∈acc)->∃c,(x,c)∈clOf env l acc
 |[],_,_,h=>by
  rcases h with h|h
  ·cases h
  ·exact h
 | (n,k)::r,acc,x,h=>by
  unfold clOf
  by_cases hk:(k == .free)=true
  ·rw[if_pos hk]
   refine clOf_has r _ x ?_
   rcases h with h|⟨c,h⟩
   ·rcases List.mem_cons.mp h with h|h
    ·cases h
     exact .inr ⟨_,List.mem_cons_self⟩
    ·exact .inl h
   ·exact .inr ⟨c,List.mem_cons_of_mem _ h⟩
  ·rw[if_neg hk]
   refine clOf_has r _ x ?_
   rcases h with h|h
   ·rcases List.mem_cons.mp h with h|h
    ·cases h
     exact absurd rfl hk
    ·exact .inl h
   ·exact .inr h
theorem lookup_some_of_mem {β:Type}:∀{l:List (Str×β)} {x:Str} {c:β},(x,c)∈l->∃c',l.lookup x=some c'
 |[],_,_,h=>by cases h
 | (n,d)::r,x,c,h=>by
  by_cases hx:(x==n)=true
  ·exact⟨d,by rw[List.lookup_cons,hx]⟩
  ·rcases List.mem_cons.mp h with h|h
   ·cases h;exact absurd (beq_self_eq_true _) hx
   ·obtain⟨c',e⟩:=lookup_some_of_mem h
    exact⟨c',by rw[List.lookup_cons];simp only[Bool.not_eq_true]at hx;rw[hx];exact e⟩
def relF (env:Env):Str×NameKind->Str×NameKind:=fun (n,k)=>if (k==NameKind.free&&env.scope.kind == .function&&env.kindOf n==some .cell) then (n,NameKind.cell) else (n,k)
theorem relF_yes {env:Env}{n:Str}{k:NameKind}(h:(k==NameKind.free&&env.scope.kind == .function&&env.kindOf n==some .cell)=true):relF env (n,k)=(n,.cell):=if_pos h
theorem relF_no {env:Env}{n:Str}{k:NameKind}(h:¬ (k==NameKind.free&&env.scope.kind == .function&&env.kindOf n==some .cell)=true):relF env (n,k)=(n,k):=if_neg h
theorem relabel_kind {env:Env}:∀{names:List (Str×NameKind)} {x:Str} {k:NameKind},(∀y∈names,y.2 ≠ .cell) ->
  (names.map (relF env)).lookup x=some k->(k=.cell\/k=.free)->(x,NameKind.free)∈names
 |[],_,_,_,h,_=>by simp at h
 | (n,k')::r,x,k,hc,h,hk=>by
  have ih := @relabel_kind env r x k (fun y hy=>hc y (List.mem_cons_of_mem _ hy))
  rw[List.map_cons]at h
  by_cases hb:(k'==NameKind.free&&env.scope.kind == .function&&env.kindOf n==some .cell)=true
  ·rw[relF_yes hb,List.lookup_cons]at h
   cases hx:x==n with
   |true=>
    have e:x=n:=by simpa using hx
    subst e
    have e2:k'=.free:=by
     simp only[Bool.and_eq_true]at hb
     simpa using hb.1.1
    subst e2
    exact List.mem_cons_self
   |false=>
    rw[hx]at h
    exact List.mem_cons_of_mem _ (ih h hk)
  ·rw[relF_no hb,List.lookup_cons]at h
   cases hx:x==n with
   |true=>
    rw[hx]at h
    have e:x=n:=by simpa using hx
    subst e
    have e2:k'=k:=Option.some.inj h
    subst e2
    rcases hk with rfl|rfl
    ·exact absurd rfl (hc _ List.mem_cons_self)
    ·exact List.mem_cons_self
   |false=>
    rw[hx]at h
    exact List.mem_cons_of_mem _ (ih h hk)
theorem relabel_free {env:Env}:∀{names:List (Str×NameKind)} {x:Str},names.lookup x=some .free ->
  ∃k,(k=NameKind.cell\/k=NameKind.free)/\(names.map (relF env)).lookup x=some k
 |[],_,h=>by simp at h
 | (n,k')::r,x,h=>by
  have ih := @relabel_free env r x
  rw[List.lookup_cons]at h
  rw[List.map_cons]
  cases hx:x==n with
  |true=>
   rw[hx]at h
   have e2:k'=.free:=Option.some.inj h
   subst e2
   by_cases hb:((NameKind.free:NameKind)==NameKind.free&&env.scope.kind == .function&&env.kindOf n==some .cell)=true
   ·exact⟨.cell,.inl rfl,by rw[relF_yes hb,List.lookup_cons,hx]⟩
   ·exact⟨.free,.inr rfl,by rw[relF_no hb,List.lookup_cons,hx]⟩
  |false=>
   rw[hx]at h
   obtain⟨k,hk,e⟩:=ih h
   refine⟨k,hk,?_⟩
   by_cases hb:(k'==NameKind.free&&env.scope.kind == .function&&env.kindOf n==some .cell)=true
   ·rw[relF_yes hb,List.lookup_cons,hx];exact e
   ·rw[relF_no hb,List.lookup_cons,hx];exact e
end L2
namespace L2
open PySem PySem.Spec PyProof.Rows
section
variable {prog:Program} {w:World} {A:Around} {R:Result->Shared->Prop} {s:Shared}
abbrev cpW (prog:Program)(w:World)(A:Around)(R:Result->Shared->Prop)(env:Env){α:Type}(m:Sem α)(Q:α->Shared->Prop):Shared->Prop:=wpAny (model prog w) A m Q (notedBy (model prog w) A env fun e t=>R (.error e) t)
theorem compLoop_gen {elt target iter:Expr}{ifs:List Expr}{scope:Scope}{pos:Pos}{it acc:Value}{env:Env}(I:Nat->Shared->Prop)
  (turn:∀n s,I n s->cpW prog w A R env (pyNext it) (fun r s=>match r with
   |none=>R (.ok .next) s
   |some v=>cpW prog w A R env (letOwnedTupleGo target it v) (fun _=>cpW prog w A R env (assign target env v) fun _=>cpW prog w A R env (forIn ifs true fun c r=>if r=true then do let ok <- isTrue c env (eval c env);pure (ForInStep.yield ok) else pure (ForInStep.yield r)) fun ok s=>
     if ok=true then cpW prog w A R env (eval elt env) (fun x=>cpW prog w A R env (call (.builtin "list.append") [acc,x]) fun _ t=>∃m,m<n/\I m t) s else ∃m,m<n/\I m s) s) s)
  (n:Nat) (h:I n s):codeAny (model prog w) A (.compLoop (.ListComp elt [⟨target,iter,ifs,0⟩] scope pos) 0 it acc env) R s:=by
 have mono:∀{α β:Type} {m:Sem α} {f:α->Sem β} {Q:α->Shared->Prop} {Q':β->Shared->Prop} {s:Shared},cpW prog w A R env m Q s->(∀a t,Q a t->cpW prog w A R env (f a) Q' t)->cpW prog w A R env (m >>= f) Q' s:=fun h k=>wpAny_bind (wpAny_mono h k fun _ _ e=>e)
 refine codeAny_loop rfl I (fun n s hI=>wpAny_noted ?_) n h
 rw[compTurn_list]
 refine wpAny_bind (wpAny_standAt (mono (turn n s hI) fun r s1 h1=>?_))
 cases r with
 |none=>exact wpAny_pure h1
 |some v=>
  refine mono h1 fun _ _ h2=>mono h2 fun _ _ h3=>mono h3 fun ok s4 h4=>?_
  cases ok with
  |false=>exact wpAny_pure ⟨rfl,h4⟩
  |true=>exact wpAny_bind (mono h4 fun _ _ h5=>mono h5 fun _ _ h6=>wpAny_pure (wpAny_pure ⟨rfl,h6⟩))
end
abbrev Cx.blk (X:Cx)(N:List Str)(sc:Scope)(C:Addr)(s₀:Shared)(H₀:Hp)(ex:List Addr):Cx:=
 {X with N:=N,env:=compEnvC sc (clOf X.env sc.names []) C X.env,outer:=X.stack,s₀:=s₀,H₀:=H₀,ex:=ex,fn:=fun _=>false,pn:=[],xe:=fun _ _=>False}
structure BlkSc (X:Cx)(sc:Scope):Prop where
 kind:sc.kind=.function
 nocell:∀y∈sc.names,y.2 ≠ .cell
 loc:∀y∈sc.names,y.2=.local->sc.names.lookup y.1=some .local
 free:∀y∈sc.names,y.2=.free->X.env.kindOf y.1=some .cell\/X.env.kindOf y.1=some .free
abbrev Caps:=List (Str×Option Nat)
def Caps.names (c:Caps):List Str:=c.map (·.1)
def Caps.st (c:Caps)(σ:St):St:=c.map fun p=>p.2.bind fun j=>(σ[j]?).join
def CapsOk (N:List Str)(sc:Scope):Caps->Prop
 |[]=>True
 | (_,none)::r=>CapsOk N sc r
 | (x,some j)::r=>(N[j]?=some x/\sc.names.lookup x=some .free)/\CapsOk N sc r
theorem CapsOk.get {N:List Str}{sc:Scope}:∀{c:Caps} {i:Nat} {x:Str} {j:Nat},CapsOk N sc c->c[i]?=some (x,some j)->N[j]?=some x/\sc.names.lookup x=some .free
 |[],_,_,_,_,h=>by simp at h
 | (y,none)::r,0,x,j,_,h=>by simp at h
 | (y,none)::r,i+1,x,j,ok,h=>CapsOk.get (c:=r) (i:=i) ok (by simpa using h)
 | (y,some k)::r,0,x,j,ok,h=>by
  simp only[List.getElem?_cons_zero,Option.some.injEq,Prod.mk.injEq]at h
  obtain⟨rfl,rfl⟩:=h
  exact ok.1
 | (y,some k)::r,i+1,x,j,ok,h=>CapsOk.get (c:=r) (i:=i) ok.2 (by simpa using h)
section
variable {X:Cx} {pins:List (Addr×Obj)} {σ:St} {H:Hp} {s:Shared} {sc:Scope} {fp:List Addr}
theorem blk_cells (I:Inv X pins σ H s)(S:BlkSc X sc):∀p∈sc.names,p.2=.free->∃c,X.env.cells.lookup p.1=some c:=fun p hp e=>I.ok.has p.1 (S.free p hp e)
theorem blk_lookup (I:Inv X pins σ H s)(S:BlkSc X sc){x:Str}{c:Addr}(h:(clOf X.env sc.names []).lookup x=some c):X.env.cells.lookup x=some c:=
 clOf_mem sc.names [] (blk_cells I S) (fun q hq=>by cases hq) (x,c) (PySem.mem_of_lookup h)
theorem blk_ok {N:List Str}{C:Addr}(I:Inv X pins σ H s)(S:BlkSc X sc)(hC:s.heap.objs.size<=C)(hf:∀b∈fp,FpOk X pins H b)(ho:∀b∈fp,∃o,s.heap.get? b=some o):(X.blk N sc C s H fp).Ok where
 mod:=I.ok.mod
 kind:=S.kind
 glob:=I.ok.glob
 blt:=I.ok.blt
 above:=hC
 inj:=fun x y c h1 h2=>I.ok.inj x y c (blk_lookup I S h1) (blk_lookup I S h2)
 has:=fun x hx=>by
  have hx':(x,NameKind.free)∈sc.names:=by
   rcases hx with hx|hx
   ·exact relabel_kind (env:=X.env) S.nocell hx (.inl rfl)
   ·exact relabel_kind (env:=X.env) S.nocell hx (.inr rfl)
  obtain⟨c,hc⟩:=clOf_has (env:=X.env) sc.names [] x (.inl hx')
  exact lookup_some_of_mem hc
 cab:=fun x c h=>absurd (show false=true from h) Bool.false_ne_true
 hd:=I.ok.hd
 frames:=I.ok.frames
 stk:=.inl rfl
 exf:=fun b hb=>by
  obtain⟨o,ho⟩:=ho b hb
  refine⟨Nat.ne_of_lt (Nat.lt_of_lt_of_le (Heap.lt_size ho) hC),fun x c h=>(hf b hb).2.2.2.2.1 x c (blk_lookup I S h)⟩
 bs:=I.bs
 bsz:=Nat.le_trans I.ok.bsz I.sz
 noex:=fun b o e hb=>by
  rcases (hf b hb).2.2.2.1 with z|z
  ·exact I.ok.noex b o e z
  ·exact absurd (Nat.lt_of_lt_of_le (Heap.lt_size (I.ok.bs b o e).1) z) (Nat.lt_irrefl _)
 exfs:=fun b hb z=>by
  rcases List.mem_cons.mp (I.stkSub b z) with e|e
  ·exact (hf b hb).2.1 e
  ·exact (hf b hb).2.2.1 e
 funs:=I.stack
 frf:=I.stkFree
theorem blk_start {c:Caps}{C:Addr}{s4:Shared}{m:Str->Option Value}(I:Inv X pins σ H s)(S:BlkSc X sc)(hc:CapsOk X.N sc c)(hC:s.heap.objs.size<=C)(hf:∀b∈fp,FpOk X pins H b)(ho:∀b∈fp,∃o,s.heap.get? b=some o)
  (hos:s4.os=s.os) (hb:s4.gens=s.gens) (hk:∀b o,s.heap.get? b=some o->s4.heap.get? b=some o) (hn:s4.heap.Ns C m):Inv (X.blk c.names sc C s H fp) [] (c.st σ) H s4 where
 ok:=blk_ok I S hC hf ho
 os:=hos
 bare:=by rw[hb];exact I.bare
 base:=Un.kept hk
 loc:=by
  refine⟨m,hn,fun i x v h1 h2 hv=>?_⟩
  have h1':(c.map (·.1))[i]?=some x:=h1
  have h2':(c.map fun p=>p.2.bind fun j=>(σ[j]?).join)[i]?=some (some v):=h2
  rw[List.getElem?_map]at h1' h2'
  cases e:c[i]? with
  |none=>rw[e]at h1';cases h1'
  |some p=>
   obtain⟨y,oj⟩:=p
   rw[e]at h1' h2'
   have e1:y=x:=Option.some.inj h1'
   subst e1
   have e2:(oj.bind fun j=>(σ[j]?).join)=some v:=Option.some.inj h2'
   cases oj with
   |none=>cases e2
   |some j=>
    have e3:(σ[j]?).join=some v:=e2
    have e4:σ[j]?=some (some v):=by
     cases q:σ[j]? with
     |none=>rw[q]at e3;cases e3
     |some z=>rw[q]at e3;exact congrArg some e3
    obtain⟨k1,k2⟩:=CapsOk.get hc e
    have k3:X.env.kindOf y=some .cell\/X.env.kindOf y=some .free:=S.free (y,.free) (PySem.mem_of_lookup k2) rfl
    have vis:Vis X.env.scope y:=by
     rcases k3 with k|k
     ·exact .inr (.inl k)
     ·exact .inr (.inr k)
    obtain⟨mX,hnX,hl⟩:=I.loc
    obtain⟨u,r,l⟩:=hl j y v k1 e4 vis
    refine⟨u,r,?_⟩
    rcases l with ⟨k,_⟩|⟨_,ca,hca,z⟩
    ·rcases k3 with k' | k'<;>(rw[k]at k';cases k')
    ·obtain⟨kd,hkd,ek⟩:=relabel_free (env:=X.env) k2
     have hk2:(compEnvC sc (clOf X.env sc.names []) C X.env).kindOf y=some kd:=ek
     obtain⟨c',hc'⟩:=clOf_has (env:=X.env) sc.names [] y (.inl (PySem.mem_of_lookup k2))
     obtain⟨c2,hc2⟩:=lookup_some_of_mem hc'
     have e5:=blk_lookup I S hc2
     rw[hca]at e5
     have e6:ca=c2:=Option.some.inj e5
     subst e6
     refine .inr ⟨?_,ca,hc2,?_⟩
     ·rcases hkd with rfl|rfl
      ·exact .inl hk2
      ·exact .inr hk2
     ·obtain⟨oc,hoc,hd⟩:=z
      exact⟨oc,hk _ _ hoc,hd⟩
 cell:=fun x ca h=>by
  obtain⟨v,oc,hoc,hd⟩:=I.cell x ca (blk_lookup I S h)
  exact⟨v,oc,hk _ _ hoc,hd⟩
 free:=I.hok.fresh hC
 freeC:=fun x ca h=>I.freeC x ca (blk_lookup I S h)
 pin:=fun p hp=>absurd (show p∈([]:List (Addr×Obj)) from hp) (by simp)
 hok:=I.hok.kept hk
 len:=by show (c.map _).length=(c.map _).length;rw[List.length_map,List.length_map]
theorem HOk.track {P:Program}{w:World}{H:Hp}{h:Heap}{a:Addr}{o:HO}(x:HOk P w H h)(hn:H a=none)(new:ObjOk P w (upd H a o) h a o):HOk P w (upd H a o) h:=fun b u e=>by
 by_cases hb:b=a
 ·subst hb;rw[upd_same]at e;cases e;exact new
 ·rw[upd_ne hb]at e
  exact (x b u e).stay (fun c v _ q=>q) (fun c q=>by rw[upd_ne (ne_of_none q hn)];exact q) fun c xs q=>by rw[upd_ne (ne_of_none q hn)];exact q
theorem Un.track {fs ex:List Addr}{H H':Hp}{h h':Heap}{a:Addr}{o:HO}(u:Un fs ex H H' h h')(ha:h.objs.size<=a)(hn:H' a=none):Un fs ex H (upd H' a o) h h' where
 keep:=u.keep
 slot:=u.slot
 free:=fun b ob q n hx=>by rw[upd_ne (Nat.ne_of_lt (Nat.lt_of_lt_of_le (Heap.lt_size q) ha))];exact u.free b ob q n hx
 there:=u.there
 tups:=fun b xs q=>by rw[upd_ne (ne_of_none (u.tups b xs q) hn)];exact u.tups b xs q
 frzs:=fun b ob xs q=>by rw[upd_ne (ne_of_none (u.frzs b ob xs q) hn)];exact u.frzs b ob xs q
 tbls:=fun b ps q=>by
  obtain⟨more,e⟩:=u.tbls b ps q
  exact⟨more,by rw[upd_ne (ne_of_none e hn)];exact e⟩
theorem blk_end {c:Caps}{C D:Addr}{s':Shared}{σ':St}{H':Hp}{o:HO}(I:Inv X pins σ H s)(J:Inv (X.blk c.names sc C s H fp) [] σ' H' s')(hf:∀b∈fp,FpOk X pins H b)(hD:s.heap.objs.size<=D)(hn:H' D=none)
  (new:ObjOk X.prog X.w (upd H' D o) s'.heap D o):Inv X pins σ (upd H' D o) s':=by
 have u:Un (frs X.stack) fp H H' s.heap s'.heap:=J.base
 exact I.call' J.os (u.track hD hn) (J.hok.track hn new) J.bare fun b hb=>⟨(hf b hb).2.2.2.1,(hf b hb).2.1,(hf b hb).2.2.2.2.1,(hf b hb).2.2.2.2.2⟩
end
def PF (X:Cx)(ifs:List Expr)(t:TT):Prop:=
 ∀(pins:List (Addr×Obj)) (s:Shared) (σ:St) (H:Hp) (Q:Bool->Hp->Prop),Inv X pins σ H s->t σ H Q ->
  wpAny (model X.prog X.w) X.A (forIn ifs true fun c r=>if r=true then do let ok <- isTrue c X.env (eval c X.env);pure (ForInStep.yield ok) else pure (ForInStep.yield r)) (TP X pins σ Q) X.xe s
def tTrue:TT:=fun _ H Q=>Q true H
theorem pf_nil {X:Cx}:PF X [] tTrue:=fun _ _ _ H _ I h=>wpAny_tests_nil ⟨H,I,h⟩
def tComp (wi:TI)(cp:Caps)(g:TG)(tc:TT)(te:TE):TE:=fun σ H Q=>wi σ H fun J H1=>∃W:Nat->Nat->List V->St->Hp->Prop,(∃m,W 0 m [] (cp.st σ) H1)/\∀i m ys σ' H',W i m ys σ' H' ->
 ys.length<sizeLine/\((J.stop i H'/\∀D,H' D=none->Q (.ref D) (upd H' D (.lst ys)))\/(J.go i H'/\∃N:List V->St->Hp->Prop,(∀zs σ2 H2,N zs σ2 H2->∃m',m'<m/\W (i+1) m' zs σ2 H2)/\∀x H2,J.yld i H' x H2->g x σ' H2 fun σ2 H3=>tc σ2 H3 fun b H4=>
  if b=true then te σ2 H4 fun v H5=>N (ys++[v]) σ2 H5 else N ys σ2 H4))
section
variable {X:Cx} {tg iter elt:Expr} {ifs:List Expr} {sc:Scope} {pos:Pos} {wi:TI} {cp:Caps} {g:TG} {tc:TT} {te:TE}
theorem comp_core (hc:X.calm=true)(S:BlkSc X sc)(hcp:CapsOk X.N sc cp)
  (hg:∀C s₀ H₀ ex,PG (X.blk cp.names sc C s₀ H₀ ex) tg g) (hf:∀C s₀ H₀ ex,PF (X.blk cp.names sc C s₀ H₀ ex) ifs tc) (he:∀C s₀ H₀ ex,PE (X.blk cp.names sc C s₀ H₀ ex) elt te)
  {pins:List (Addr×Obj)} {σ:St} {H:Hp} {s:Shared} {J:It} {it:Addr} {fp:List Addr} {tn:Nat->Heap->Prop} {Q:VK} {RR:Value->Addr->Result->Shared->Prop} {E:Value->Shared->Prop}
  (I:Inv X pins σ H s) (T:Turn X.prog X.w X.K tg J fp it tn) (st:tn 0 s.heap) (fpo:∀b∈fp,FpOk X pins H b)
  (hw:∃W:Nat->Nat->List V->St->Hp->Prop,(∃m,W 0 m [] (cp.st σ) H)/\∀i m ys σ' H',W i m ys σ' H' ->
   ys.length<sizeLine/\((J.stop i H'/\∀D,H' D=none->Q (.ref D) (upd H' D (.lst ys)))\/(J.go i H'/\∃N:List V->St->Hp->Prop,(∀zs σ2 H2,N zs σ2 H2->∃m',m'<m/\W (i+1) m' zs σ2 H2)/\∀x H2,J.yld i H' x H2->g x σ' H2 fun σ2 H3=>tc σ2 H3 fun b H4=>
    if b=true then te σ2 H4 fun v H5=>N (ys++[v]) σ2 H5 else N ys σ2 H4)))
  (hR:∀D C s' H' (m:Str->Option Value),Inv X pins σ H' s'->Q (.ref D) H'->s'.heap.Ns C m->H' C=none->C≠X.env.locals->X.s₀.heap.objs.size<=C->(∀x c,X.env.cells.lookup x=some c->c≠C)->(∀p∈X.pn++pins,p.1≠C)->RR (.ref D) C (.ok .next) s'):
  wpAny (model X.prog X.w) X.A (newList []) (fun acc s₃=>wpAny (model X.prog X.w) X.A (newFunctionEnv sc X.env.globals (clOf X.env sc.names []) [] X.env.qual none .none (some X.env)) (fun cenv s₄=>
   codeAny (model X.prog X.w) X.A (.compStart (.ListComp elt [⟨tg,iter,ifs,0⟩] sc pos) 0 (.ref it) acc {cenv with scope:=relabel sc X.env}) (RR acc cenv.locals) s₄) E s₃) E s:=by
 obtain⟨W,⟨m0,w0⟩,turn⟩:=hw
 refine wpAny_newObj_type (wpAny_newFunctionEnv S.nocell (by intro y hy;simp at hy) (fun h₁ hns₁ hsb₁=>?_) S.kind)
 dsimp only at hns₁ hsb₁ ⊢
 generalize hH2:s.heap.push {cls:=.type "list",dict:=none,data:=.seq ([]:List Value).toArray}=H2 at hns₁ hsb₁ ⊢
 have hC:H2.objs.size=s.heap.objs.size+1:=by rw[<-hH2,Heap.size_push]
 have hDC:s.heap.objs.size≠H2.objs.size:=by rw[hC];exact Nat.ne_of_lt (Nat.lt_succ_self _)
 have hCle:s.heap.objs.size<=H2.objs.size:=by rw[hC];exact Nat.le_succ _
 have below:∀b,b<s.heap.objs.size->b≠H2.objs.size:=fun b hb=>by rw[hC];exact Nat.ne_of_lt (Nat.lt_succ_of_lt hb)
 have old:∀b o,s.heap.get? b=some o->h₁.get? b=some o:=fun b o e=>hsb₁.extBut b o (below b (Heap.lt_size e)) (Heap.get?_push_of_some _ (hH2 ▸ Heap.get?_push_of_some _ e))
 have hacc:h₁.get? s.heap.objs.size=some {cls:=.type "list",data:=.seq ([]:List Value).toArray 0}:=hsb₁.extBut _ _ hDC (Heap.get?_push_of_some _ (hH2 ▸ Heap.get?_push_size _ rfl))
 have hst₁:tn 0 h₁:=T.keep 0 _ _ st fun b _ o e=>old b o e
 have hobj:∀b∈fp,∃o,s.heap.get? b=some o:=fun b hb=>let ⟨o,e,_⟩:=T.obj 0 _ st b hb;⟨o,e⟩
 have J0:Inv (X.blk cp.names sc H2.objs.size s H fp) [] (cp.st σ) H {s with heap:=h₁,toks:=s.toks+([]:List (Str×Value)).length}:=blk_start I S hcp hCle fpo hobj rfl rfl old hns₁
 have nfs:∀b,s.heap.objs.size<=b->b∉frs X.stack:=fun b hb z=>by
  rcases List.mem_cons.mp (I.stkSub b z) with e|e
  ·exact absurd (Nat.lt_of_lt_of_le I.lt (by rw[<-e];exact hb)) (Nat.lt_irrefl _)
  ·exact I.nofs hb e
 have ncell:∀b,s.heap.objs.size<=b->∀x c,X.env.cells.lookup x=some c->c≠b:=fun b hb x c e z=>by
  obtain⟨v,q⟩:=I.cell x c e
  exact absurd (Nat.lt_of_lt_of_le q.lt (by rw[z];exact hb)) (Nat.lt_irrefl _)
 have fpb:∀{pins':List (Addr×Obj)} {H':Hp},(∀b∈fp,H' b=none)->(∀p∈pins',p.1∉fp)->∀b∈fp,FpOk (X.blk cp.names sc H2.objs.size s H fp) pins' H' b:=fun {pins' H'} hn hp b hb=>by
  obtain⟨o,e⟩:=hobj b hb
  refine⟨hn b hb,below b (Heap.lt_size e),fun z=>?_,.inl hb,fun x c h=>(fpo b hb).2.2.2.2.1 x c (blk_lookup I S h),fun p hp' z=>?_⟩
  ·rcases List.mem_cons.mp (I.stkSub b z) with e|e
   ·exact (fpo b hb).2.1 e
   ·exact (fpo b hb).2.2.1 e
  ·have hp'':p∈pins':=by simpa using hp'
   exact hp p hp'' (by rw[z];exact hb)
 have loop:∀s₃:Shared,s₃={s with heap:=h₁,toks:=s.toks+([]:List (Str×Value)).length} ->
   codeAny (model X.prog X.w) X.A (.compLoop (.ListComp elt [⟨tg,iter,ifs,0⟩] sc pos) 0 (.ref it) (.ref s.heap.objs.size) (compEnvC sc (clOf X.env sc.names []) H2.objs.size X.env))
    (RR (.ref s.heap.objs.size) H2.objs.size) s₃:=by
  rintro s₃ rfl
  refine compLoop_gen (fun n s'=>∃i σ' H' ys its k,Inv (X.blk cp.names sc H2.objs.size s H fp) [] σ' H' s'/\tn i s'.heap/\(∀b∈fp,H' b=none)/\H' s.heap.objs.size=none /\
   s'.heap.get? s.heap.objs.size=some {cls:=.type "list",data:=.seq its.toArray k}/\Vals ys its/\W i n ys σ' H') ?_ m0
   ⟨0,_,H,[],[],0,J0,hst₁,fun b hb=>(fpo b hb).1,I.hok.fresh (Nat.le_refl _),hacc,.nil,w0⟩
  rintro n s3 ⟨i,σ3,H3,ys,its,k,I3,st3,fr3,hD3,e3,rv,w3⟩
  obtain⟨hz,tr⟩:=turn i n ys σ3 H3 w3
  have hlen:=rv.length
  -- the accumulator stands still while anything else runs
  have dpin:∀p ∈ [(s.heap.objs.size,({cls:=.type "list",data:=.seq its.toArray k}:Obj))],p.1∉fp:=fun p hp z=>by
   have e:p=_:=List.mem_singleton.mp hp
   subst e
   obtain⟨o,e⟩:=hobj _ z
   exact absurd (Heap.lt_size e) (Nat.lt_irrefl _)
  have I3':Inv (X.blk cp.names sc H2.objs.size s H fp) [(s.heap.objs.size,({cls:=.type "list",data:=.seq its.toArray k}:Obj))] σ3 H3 s3:=I3.pins_of fun p hp=>by
   have e:p=_:=List.mem_singleton.mp hp
   subst e
   exact⟨e3,hD3,hDC,nfs _ (Nat.le_refl _),fun v z=>by cases z⟩
  have stat:∀b∈fp,FpOk (X.blk cp.names sc H2.objs.size s H fp) [(s.heap.objs.size,({cls:=.type "list",data:=.seq its.toArray k}:Obj))] H3 b:=fpb fr3 dpin
  rcases tr with ⟨stop,qn⟩|⟨go,N,hN,step⟩
  ·refine thn (T.done (X.blk cp.names sc H2.objs.size s H fp) rfl rfl rfl hc i _ s3 σ3 H3 _ I3' stat st3 stop) fun r s4 ⟨hr,I4⟩=>?_
   subst hr
   obtain⟨e4,n4,_⟩:=I4.pin (s.heap.objs.size,({cls:=.type "list",data:=.seq its.toArray k}:Obj)) (by simp)
   have new:ObjOk X.prog X.w (upd H3 s.heap.objs.size (.lst ys)) s4.heap s.heap.objs.size (.lst ys):=⟨Nat.le_of_lt hz,its,k,rv,e4⟩
   obtain⟨mC,hnC,_⟩:=I4.loc
   have I4':Inv (X.blk cp.names sc H2.objs.size s H fp) [] σ3 H3 s4:=I4.pins_of fun p hp=>by cases hp
   have I5:=blk_end I I4' fpo (Nat.le_refl _) n4 new
   refine hR _ _ s4 _ mC I5 (qn _ n4) hnC ?_ (Nat.ne_of_gt (Nat.lt_of_lt_of_le I.lt hCle)) (Nat.le_trans I.sz hCle) (ncell _ hCle) fun p hp z=>?_
   ·rw[upd_ne (Ne.symm hDC)];exact I4.free
   ·exact absurd (Nat.lt_of_lt_of_le (Heap.lt_size (I.pin p hp).1) (by rw[z];exact hCle)) (Nat.lt_irrefl _)
  ·refine thn (T.item (X.blk cp.names sc H2.objs.size s H fp) rfl rfl rfl hc i _ s3 σ3 H3 _ I3' stat st3 go) fun r s4 ⟨u,hr,h4⟩=>?_
   subst hr
   refine thn h4 fun _ s5 ⟨x,H5,I5,r5,y5,st5,fr5⟩=>?_
   have I5':=I5.pinned (fpb fr5 dpin) (T.obj _ _ st5)
   have fin:∀{σ7:St} {H7:Hp} {s7:Shared},Inv (X.blk cp.names sc H2.objs.size s H fp) ([(s.heap.objs.size,({cls:=.type "list",data:=.seq its.toArray k}:Obj))]++pinsAt fp s5.heap) σ7 H7 s7 ->
     s7.heap.get? s.heap.objs.size=some {cls:=.type "list",data:=.seq its.toArray k}/\H7 s.heap.objs.size=none/\(∀b∈fp,H7 b=none)/\∀b∈fp,∀o,s5.heap.get? b=some o->s7.heap.get? b=some o:=fun {σ7 H7 s7} I7=>by
    obtain⟨e7,n7,_⟩:=I7.pin (s.heap.objs.size,({cls:=.type "list",data:=.seq its.toArray k}:Obj)) (by simp)
    refine⟨e7,n7,fun b hb=>?_,fun b hb o e=>?_⟩
    ·obtain⟨o,e,_⟩:=T.obj _ _ st5 b hb
     exact (I7.pin (b,o) (List.mem_append_right _ (List.mem_append_right _ (mem_pinsAt hb e)))).2.1
    ·exact (I7.pin (b,o) (List.mem_append_right _ (List.mem_append_right _ (mem_pinsAt hb e)))).1
   refine wpAny_mono (hg _ _ _ _ _ s5 σ3 H5 x u _ I5' r5 (step x H5 y5)) (fun _ s6 ⟨σ6,H6,I6,q6⟩=>?_) fun _ _ z=>False.elim z
   refine wpAny_mono (hf _ _ _ _ _ s6 σ6 H6 _ I6 q6) (fun ok s7 ⟨H7,I7,q7⟩=>?_) fun _ _ z=>False.elim z
   cases ok with
   |false=>
    rw[if_neg Bool.false_ne_true]
    rw[if_neg Bool.false_ne_true]at q7
    obtain⟨m',hm,w7⟩:=hN _ _ _ q7
    obtain⟨e7,n7,fr7,k7⟩:=fin I7
    exact⟨m',hm,i+1,σ6,H7,ys,its,k,I7.pins_of (fun p hp=>by cases hp),T.keep _ _ _ st5 k7,fr7,n7,e7,rv,w7⟩
   |true=>
    rw[if_pos rfl]
    rw[if_pos rfl]at q7
    refine wpAny_mono (he _ _ _ _ _ s7 σ6 H7 _ I7 q7) (fun v s8 ⟨y,H8,I8,r8,q8⟩=>?_) fun _ _ z=>False.elim z
    obtain⟨m',hm,w8⟩:=hN _ _ _ q8
    obtain⟨e8,n8,fr8,k8⟩:=fin I8
    refine call_meets F.slot_list_append ⟨_,e8,rfl⟩ F.entry_list_append (F.args_list_append_2 _ _) (PySem.list_append s.heap.objs.size its.toArray k v (by rw[List.size_toArray];omega)) ⟨e8,?_⟩
    obtain⟨k',q⟩:∃k',(s8.heap.update s.heap.objs.size (Obj.mapSeq fun x=>x.push v)).get? s.heap.objs.size=some {cls:=.type "list",data:=.seq (its++[v]).toArray k' }:=⟨_,by
     have q:=PySem.IsL.update e8 fun x=>x.push v
     have e:(its++[v]).toArray=its.toArray.push v:=by simp
     rw[e]
     exact q⟩
    have I8':Inv (X.blk cp.names sc H2.objs.size s H fp) [] σ6 H8 s8:=I8.pins_of fun p hp=>by cases hp
    have I9:Inv (X.blk cp.names sc H2.objs.size s H fp) [] σ6 H8 {s8 with heap:=s8.heap.update s.heap.objs.size (Obj.mapSeq fun x=>x.push v),toks:=s8.toks}:=
     I8'.turned (it:=s.heap.objs.size) (fun b o hb e=>(Heap.get?_update_other _ _ (Ne.symm hb)).trans e) n8 hDC (.inr (Nat.le_refl _)) (fun x c e=>ncell _ (Nat.le_refl _) x c (blk_lookup I S e)) (fun p hp=>by cases hp)
    refine⟨m',hm,i+1,σ6,H8,ys++[y],its++[v],k',I9,T.keep (i+1) s5.heap _ st5 (fun b hb o e=>?_),fr8,n8,q,rv.append (.cons r8 .nil),w8⟩
    ·refine (Heap.get?_update_other _ _ ?_).trans (k8 b hb o e)
     intro z
     obtain⟨ob,eb⟩:=hobj b hb
     exact absurd (Heap.lt_size eb) (by rw[<-z];exact Nat.lt_irrefl _)
 exact codeAny_compStart_list (loop _ rfl) (T.self _ 0 _ _ _ hst₁ (loop _ rfl))
theorem pe_comp (hc:X.calm=true)(S:BlkSc X sc)(hcp:CapsOk X.N sc cp)(hi:PI X tg iter wi)
  (hg:∀C s₀ H₀ ex,PG (X.blk cp.names sc C s₀ H₀ ex) tg g) (hf:∀C s₀ H₀ ex,PF (X.blk cp.names sc C s₀ H₀ ex) ifs tc) (he:∀C s₀ H₀ ex,PE (X.blk cp.names sc C s₀ H₀ ex) elt te)
  (hs:∀x,foldedSetIterable iter X.env x=pure x:=by intro _;rfl):PE X (.ListComp elt [⟨tg,iter,ifs,0⟩] sc pos) (tComp wi cp g tc te):=by
 intro pins s σ H Q I h
 rw[eval_ListComp]
 refine wpAny_comprehension_free (use:=none) rfl hs (closure_eq (blk_cells I S)) S.kind S.loc (thn (hi pins s σ H _ I h) fun xv s₁ h₁=>thn h₁ fun itv s₂ h₂=>?_)
 obtain⟨it,fp,tn,J,H2,e,I2,T,st2,f2,hw⟩:=h₂
 subst e
 refine comp_core (RR:=fun acc C=>compPost (model X.prog X.w) X.A X.xe none (EP X pins σ Q) acc C) hc S hcp hg hf he I2 T st2 f2 hw ?_
 intro D C s' H' m I' q hn hC hL hz hcl hp
 exact⟨m,hn,fun h' hs'=>⟨.ref D,H',I'.turned (t':=s'.toks) (it:=C) (fun b o hb e=>hs'.extBut b o hb e) hC hL (.inr hz) hcl hp,rfl,q⟩⟩
theorem ps_setC {i:Nat}{x:Str}{px spos:Pos}(hN:X.N.Nodup)(hi:X.N[i]?=some x)(hx:X.env.scope.names.lookup x=some .local)(hc:X.calm=true)(S:BlkSc X sc)(hcp:CapsOk X.N sc cp)(hit:PI X tg iter wi)
  (hg:∀C s₀ H₀ ex,PG (X.blk cp.names sc C s₀ H₀ ex) tg g) (hf:∀C s₀ H₀ ex,PF (X.blk cp.names sc C s₀ H₀ ex) ifs tc) (he:∀C s₀ H₀ ex,PE (X.blk cp.names sc C s₀ H₀ ex) elt te)
  (hsw:swapsWith (.ListComp elt [⟨tg,iter,ifs,0⟩] sc pos) (some (.Name x px)) spos.line X.env=pure true:=by rfl)
  (hs:∀x,foldedSetIterable iter X.env x=pure x:=by intro _;rfl):PS X (.Assign [.Name x px] (.ListComp elt [⟨tg,iter,ifs,0⟩] sc pos) spos) (tAsg (tComp wi cp g tc te) (gName i)):=by
 intro pins s σ H D I h
 rw[exec_Assign_Name_used _ _ _ _ hsw]
 refine wpAny_bind (wpAny_standAt (wpAny_bind ?_))
 show wpAny _ X.A (do let _ <- comprehension (.ListComp elt [⟨tg,iter,ifs,0⟩] sc pos) sc X.env _ (newList []) false (eval iter X.env) (some (assign (.Name x px) X.env))) _ _ s
 refine wpAny_bind (wpAny_mono (wpAny_comprehension_free (use:=some (assign (.Name x px) X.env)) (Q:=fun _ s'=>SP X pins D .next s') rfl hs (closure_eq (blk_cells I S)) S.kind S.loc
  (thn (hit pins s σ H _ I h) fun xv s₁ h₁=>thn h₁ fun itv s₂ h₂=>?_)) (fun _ s' hq=>wpAny_pure (wpAny_pure hq)) fun _ _ e=>e)
 obtain⟨it,fp,tn,J,H2,e,I2,T,st2,f2,hw⟩:=h₂
 subst e
 refine comp_core (RR:=fun acc C=>compPost (model X.prog X.w) X.A X.xe (some (assign (.Name x px) X.env)) (fun _ s'=>SP X pins D .next s') acc C) (Q:=fun v H1=>gName i v σ H1 D.nx) hc S hcp hg hf he I2 T st2 f2 hw ?_
 intro Dl C s' H' m I' q hn hC hL hz hcl hp
 show wpAny _ X.A (assign (.Name x px) X.env (.ref Dl)) _ _ _
 refine wpAny_assign_Name (store_ok2 I' hN hi (.inl hx) (v:=.ref Dl) rfl (fun s'' I'' ⟨a,hsb,ha⟩=>?_) (.inr hx))
 have hne:C≠a:=by
  rcases ha with rfl|ha
  ·exact hL
  ·exact fun z=>hcl _ _ ha z.symm
 refine⟨m,hn.sameBut hsb hne,fun h' hs'=>⟨_,H',I''.turned (t':=s''.toks) (it:=C) (fun b o hb e=>hs'.extBut b o hb e) hC hL (.inr hz) hcl hp,q⟩⟩
end
theorem comp_list {K:PySem.W.Frag}{a:Addr}{xs:List V}{g:TG}{tc:TT}{te:TE}{Q:VK}{σ:St}{H:Hp}(Pv:Nat->List V->St->Hp->Prop)(h0:Pv 0 [] σ H)(hz:xs.length<sizeLine)
  (hl:∀i ys σ H,i<=xs.length->Pv i ys σ H->SqL K H a xs/\ys.length<=i)
  (hs:∀i x ys σ H,xs[i]?=some x->Pv i ys σ H->g x σ H fun σ2 H2=>tc σ2 H2 fun b H3=>if b=true then te σ2 H3 fun v H4=>Pv (i+1) (ys++[v]) σ2 H4 else Pv (i+1) ys σ2 H3)
  (hd:∀ys σ H,Pv xs.length ys σ H->∀D,H D=none->Q (.ref D) (upd H D (.lst ys))):
  ∃W:Nat->Nat->List V->St->Hp->Prop,(∃m,W 0 m [] σ H)/\∀i m ys σ' H',W i m ys σ' H' ->
   ys.length<sizeLine/\(((Itl K a).stop i H'/\∀D,H' D=none->Q (.ref D) (upd H' D (.lst ys)))\/((Itl K a).go i H'/\∃N:List V->St->Hp->Prop,(∀zs σ2 H2,N zs σ2 H2->∃m',m'<m/\W (i+1) m' zs σ2 H2)/\∀x H2,(Itl K a).yld i H' x H2->g x σ' H2 fun σ2 H3=>tc σ2 H3 fun b H4=>
    if b=true then te σ2 H4 fun v H5=>N (ys++[v]) σ2 H5 else N ys σ2 H4)):=by
 refine⟨fun i m ys σ H=>m=xs.length-i/\i<=xs.length/\Pv i ys σ H,⟨xs.length,by simp,Nat.zero_le _,h0⟩,?_⟩
 rintro i m ys σ H ⟨rfl,hi,p⟩
 obtain⟨q,ly⟩:=hl i ys σ H hi p
 refine⟨by omega,?_⟩
 by_cases hlt:i<xs.length
 ·refine .inr ⟨⟨xs,xs[i],q,by simp[hlt]⟩,Pv (i+1),fun zs σ' H' p'=>⟨xs.length-(i+1),by omega,rfl,hlt,p'⟩,fun x H' y=>?_⟩
  obtain⟨e,y⟩:=y
  subst e
  exact hs i x ys σ _ (y xs q) p
 ·have e:i=xs.length:=by omega
  subst e
  exact .inl ⟨⟨xs,q,Nat.le_refl _⟩,hd ys σ H p⟩
theorem comp_tup {K:PySem.W.Frag}{a:Addr}{xs:List V}{g:TG}{tc:TT}{te:TE}{Q:VK}{σ:St}{H:Hp}(Pv:Nat->List V->St->Hp->Prop)(h0:Pv 0 [] σ H)(hz:xs.length<sizeLine)
  (hl:∀i ys σ H,i<=xs.length->Pv i ys σ H->SqT K H a xs/\ys.length<=i)
  (hs:∀i x ys σ H,xs[i]?=some x->Pv i ys σ H->g x σ H fun σ2 H2=>tc σ2 H2 fun b H3=>if b=true then te σ2 H3 fun v H4=>Pv (i+1) (ys++[v]) σ2 H4 else Pv (i+1) ys σ2 H3)
  (hd:∀ys σ H,Pv xs.length ys σ H->∀D,H D=none->Q (.ref D) (upd H D (.lst ys))):
  ∃W:Nat->Nat->List V->St->Hp->Prop,(∃m,W 0 m [] σ H)/\∀i m ys σ' H',W i m ys σ' H' ->
   ys.length<sizeLine/\(((Itt K a).stop i H'/\∀D,H' D=none->Q (.ref D) (upd H' D (.lst ys)))\/((Itt K a).go i H'/\∃N:List V->St->Hp->Prop,(∀zs σ2 H2,N zs σ2 H2->∃m',m'<m/\W (i+1) m' zs σ2 H2)/\∀x H2,(Itt K a).yld i H' x H2->g x σ' H2 fun σ2 H3=>tc σ2 H3 fun b H4=>
    if b=true then te σ2 H4 fun v H5=>N (ys++[v]) σ2 H5 else N ys σ2 H4)):=by
 refine⟨fun i m ys σ H=>m=xs.length-i/\i<=xs.length/\Pv i ys σ H,⟨xs.length,by simp,Nat.zero_le _,h0⟩,?_⟩
 rintro i m ys σ H ⟨rfl,hi,p⟩
 obtain⟨q,ly⟩:=hl i ys σ H hi p
 refine⟨by omega,?_⟩
 by_cases hlt:i<xs.length
 ·refine .inr ⟨⟨xs,xs[i],q,by simp[hlt]⟩,Pv (i+1),fun zs σ' H' p'=>⟨xs.length-(i+1),by omega,rfl,hlt,p'⟩,fun x H' y=>?_⟩
  obtain⟨e,y⟩:=y
  subst e
  exact hs i x ys σ _ (y xs q) p
 ·have e:i=xs.length:=by omega
  subst e
  exact .inl ⟨⟨xs,q,Nat.le_refl _⟩,hd ys σ H p⟩
theorem comp_range {lo:Int}{n:Nat}{g:TG}{tc:TT}{te:TE}{Q:VK}{σ:St}{H:Hp}(Pv:Nat->List V->St->Hp->Prop)(h0:Pv 0 [] σ H)(hz:n<sizeLine)
  (hl:∀i ys σ H,i<=n->Pv i ys σ H->ys.length<=i)
  (hs:∀i ys σ H,i<n->Pv i ys σ H->g (.int (lo+i)) σ H fun σ2 H2=>tc σ2 H2 fun b H3=>if b=true then te σ2 H3 fun v H4=>Pv (i+1) (ys++[v]) σ2 H4 else Pv (i+1) ys σ2 H3)
  (hd:∀ys σ H,Pv n ys σ H->∀D,H D=none->Q (.ref D) (upd H D (.lst ys))):
  ∃W:Nat->Nat->List V->St->Hp->Prop,(∃m,W 0 m [] σ H)/\∀i m ys σ' H',W i m ys σ' H' ->
   ys.length<sizeLine/\(((Itr lo n).stop i H'/\∀D,H' D=none->Q (.ref D) (upd H' D (.lst ys)))\/((Itr lo n).go i H'/\∃N:List V->St->Hp->Prop,(∀zs σ2 H2,N zs σ2 H2->∃m',m'<m/\W (i+1) m' zs σ2 H2)/\∀x H2,(Itr lo n).yld i H' x H2->g x σ' H2 fun σ2 H3=>tc σ2 H3 fun b H4=>
    if b=true then te σ2 H4 fun v H5=>N (ys++[v]) σ2 H5 else N ys σ2 H4)):=by
 refine⟨fun i m ys σ H=>m=n-i/\i<=n/\Pv i ys σ H,⟨n,by simp,Nat.zero_le _,h0⟩,?_⟩
 rintro i m ys σ H ⟨rfl,hi,p⟩
 have ly:=hl i ys σ H hi p
 refine⟨by omega,?_⟩
 by_cases hlt:i<n
 ·refine .inr ⟨hlt,Pv (i+1),fun zs σ' H' p'=>⟨n-(i+1),by omega,rfl,hlt,p'⟩,fun x H' y=>?_⟩
  obtain⟨e,y⟩:=y
  subst e y
  exact hs i ys σ _ hlt p
 ·have e:i=n:=by omega
  subst e
  exact .inl ⟨Nat.le_refl _,hd ys σ H p⟩
end L2
namespace L2
open PySem PySem.Spec PyProof.Rows
section
variable {X:Cx}
theorem vals_bool_get {bs:List Bool}{its:List Value}(r:Vals (bs.map V.bl) its){i:Nat}{v:Value}(h:its[i]?=some v):∃b,bs[i]?=some b/\v=.bool b:=by
 have hi:i<its.length:=(List.getElem?_eq_some_iff.mp h).1
 have hl:=r.length
 rw[List.length_map]at hl
 obtain⟨u,hu,ru⟩:=r.get (i:=i) (x:=V.bl bs[i]) (by rw[List.getElem?_map];simp[show i<bs.length by omega])
 rw[h]at hu
 cases hu
 exact⟨bs[i],by simp[show i<bs.length by omega],ru⟩
theorem map_at (bs:List Bool):(List.range bs.length).map (fun i=>bs.getD i false)=bs:=
 List.ext_getElem (by simp) fun i _ h=>by simp[h]
theorem range_all {bs:List Bool}:(List.range bs.length).all (fun i=>bs.getD i false)=bs.all id:=by
 have e:=congrArg (fun l=>l.all id) (map_at bs)
 rw[List.all_map]at e;exact e
theorem range_any {bs:List Bool}:(List.range bs.length).any (fun i=>bs.getD i false)=bs.any id:=by
 have e:=congrArg (fun l=>l.any id) (map_at bs)
 rw[List.any_map]at e;exact e
theorem truth_bools {bs:List Bool}{its:List Value}{A:Around}{P:Program}{w:World}(r:Vals (bs.map V.bl) its):TruthOf P w A (fun i v=>its.toArray[i]?=some v) (fun i=>bs.getD i false):=by
 intro i v s Q E hv hq
 obtain⟨b,hb,e⟩:=vals_bool_get r (by simpa using hv)
 subst e
 refine wpAny_truthy_bool ?_
 have e:bs.getD i false=b:=by rw[List.getD_eq_getElem?_getD,hb];rfl
 have hq':Q (bs.getD i false) s:=hq
 rw[e]at hq'
 exact hq'
theorem call_all (hc:X.calm=true):CallR X (.builtin "all") (fun xs H Q=>∃(p:Addr) (bs:List Bool),xs=[.ref p]/\SqL X.K H p (bs.map V.bl)/\Q (.bl (bs.all id)) H):=by
 intro pins s σ H xs us Q I r h
 obtain⟨p,bs,rfl,hq,q⟩:=h
 obtain⟨u,rfl,ru⟩:=vals1 r
 cases ru
 obtain⟨its,rv,pl,hz⟩:=I.list hq
 have hlen:=rv.length
 rw[List.length_map]at hlen
 have hh:X.A.in1.handled=none:=I.ok.hd hc
 obtain⟨o,ho,_⟩:=id pl.isList
 have hne:p≠s.heap.objs.size:=Nat.ne_of_lt (Heap.lt_size ho)
 refine call_all_walk (wpAny_pyIter_list pl.isList ?_)
 refine⟨s.heap.objs.size,_,_,its.toArray.size,_,_,fun i=>bs.getD i false,rfl,Walks.list hh _ p hne its.toArray,⟨⟨_,Heap.get?_push_size _ rfl,rfl,rfl⟩,pl.isList.at fun o e=>Heap.get?_push_of_some _ e⟩,truth_bools rv,fun h' tk hk=>?_⟩
 refine⟨.bl (bs.all id),H,I.kept (t':=tk) fun b o e=>hk b o ?_ (Heap.get?_push_of_some _ e),?_,q⟩
 ·intro hb
  have e':b=s.heap.objs.size:=by simpa using hb
  exact absurd (Heap.lt_size e) (by rw[e'];exact Nat.lt_irrefl _)
 ·rw[List.size_toArray,<-hlen,range_all];rfl
theorem call_any (hc:X.calm=true):CallR X (.builtin "any") (fun xs H Q=>∃(p:Addr) (bs:List Bool),xs=[.ref p]/\SqL X.K H p (bs.map V.bl)/\Q (.bl (bs.any id)) H):=by
 intro pins s σ H xs us Q I r h
 obtain⟨p,bs,rfl,hq,q⟩:=h
 obtain⟨u,rfl,ru⟩:=vals1 r
 cases ru
 obtain⟨its,rv,pl,hz⟩:=I.list hq
 have hlen:=rv.length
 rw[List.length_map]at hlen
 have hh:X.A.in1.handled=none:=I.ok.hd hc
 obtain⟨o,ho,_⟩:=id pl.isList
 have hne:p≠s.heap.objs.size:=Nat.ne_of_lt (Heap.lt_size ho)
 refine call_any_walk (wpAny_pyIter_list pl.isList ?_)
 refine⟨s.heap.objs.size,_,_,its.toArray.size,_,_,fun i=>bs.getD i false,rfl,Walks.list hh _ p hne its.toArray,⟨⟨_,Heap.get?_push_size _ rfl,rfl,rfl⟩,pl.isList.at fun o e=>Heap.get?_push_of_some _ e⟩,truth_bools rv,fun h' tk hk=>?_⟩
 refine⟨.bl (bs.any id),H,I.kept (t':=tk) fun b o e=>hk b o ?_ (Heap.get?_push_of_some _ e),?_,q⟩
 ·intro hb
  have e':b=s.heap.objs.size:=by simpa using hb
  exact absurd (Heap.lt_size e) (by rw[e'];exact Nat.lt_irrefl _)
 ·rw[List.size_toArray,<-hlen,range_any];rfl
theorem call_isinst:CallR X (.builtin "isinstance") (fun xs H Q=>∃x c cv t b,xs=[x,c]/\TyOf X.K H x t/\(∀u,RelV c u->u=cv)/\PySem.W.kitOne X.K t cv=some b/\Q (.bl b) H):=by
 intro pins s σ H xs us Q I r h
 obtain⟨x,c,cv,t,b,rfl,ty,hc,hk,q⟩:=h
 obtain⟨u,w',rfl,rx,rc⟩:=vals2 r
 rw[hc _ rc]
 exact isinst_ok I rx ty hk fun tk=>⟨.bl b,H,I.tok tk,rfl,q⟩
def EqD (K:PySem.W.Frag)(H:Hp):Nat->V->V->Bool->Prop
 |0,x,y,b=>flatV x=true/\flatV y=true/\b=eqV x y
 |n+1,x,y,b=>(flatV x=true/\flatV y=true/\b=eqV x y) \/ ∃a c xs ys,x=.ref a/\y=.ref c/\((SqL K H a xs/\SqL K H c ys)\/(SqT K H a xs/\SqT K H c ys)) /\
   ∃e:Nat->Bool,(∀i x y,xs[i]?=some x->ys[i]?=some y->EqD K H n x y (e i))/\b=(decide (xs.length=ys.length)&&(List.range (min xs.length ys.length)).all e)
theorem in1_units (A:Around):A.in1.units=A.units+1:=rfl
theorem eqV_self {x:V}(h:flatV x=true):eqV x x=true:=by
 cases x<;>first|rfl|(simp[eqV];done)|exact absurd (show false=true from h) Bool.false_ne_true
theorem EqD.self {pins:List (Addr×Obj)}{s:Shared}{σ:St}{H:Hp}(I:Inv X pins σ H s):∀(n:Nat) {x:V} {b:Bool},EqD X.K H n x x b->b=true:=by
 intro n
 induction n with
 |zero=>
  rintro x b ⟨fx,_,rfl⟩
  exact eqV_self fx
 |succ n ih=>
  rintro x b (⟨fx,_,rfl⟩|⟨a,c,xs,ys,rfl,e2,hq,e,he,rfl⟩)
  ·exact eqV_self fx
  ·cases e2
   have exy:xs=ys:=by
    rcases hq with ⟨h1,h2⟩|⟨h1,h2⟩
    ·exact I.list_inj h1 h2
    ·exact I.tuple_inj h1 h2
   subst exy
   simp only[decide_true,Bool.true_and,Nat.min_self,List.all_eq_true,List.mem_range]
   intro i hi
   exact ih (he i xs[i] xs[i] (by simp[hi]) (by simp[hi]))
theorem all_and {n m:Nat}{e:Nat->Bool}:((List.range (min n m)).all e&&n==m)=(decide (n=m)&&(List.range (min n m)).all e):=by
 rw[Bool.and_comm]
 congr 1
theorem EqD.at {pins:List (Addr×Obj)}{s:Shared}{σ:St}{H:Hp}(I:Inv X pins σ H s):∀(n:Nat) (A:Around) {x y:V} {u v:Value} {b:Bool},A.units+n<cLine->RelV x u->RelV y v->EqD X.K H n x y b ->
  SeqAt.EqAt A s u v b/\∀a c,x=.ref a->y=.ref c->SeqAt.RcAt A s u v b:=by
 intro n
 induction n with
 |zero=>
  intro A x y u v b hu rx ry h
  obtain⟨fx,fy,rfl⟩:=h
  refine⟨eqAt_V rx ry fx fy,?_⟩
  rintro a c rfl rfl
  exact absurd (show false=true from fx) Bool.false_ne_true
 |succ n ih=>
  intro A x y u v b hu rx ry h
  have hself:=h
  rcases h with ⟨fx,fy,rfl⟩|⟨a,c,xs,ys,rfl,rfl,hq,e,he,rfl⟩
  ·refine⟨eqAt_V rx ry fx fy,?_⟩
   rintro a c rfl rfl
   exact absurd (show false=true from fx) Bool.false_ne_true
  ·cases rx
   cases ry
   have key:∀(its its2:List Value),Vals xs its->Vals ys its2->∀j (h1:j<its.toArray.size) (h2:j<its2.toArray.size),SeqAt.EqAt A.in1 s its.toArray[j] its2.toArray[j] (e j):=fun its its2 r1 r2 j h1 h2=>by
    have l1:=r1.length
    have l2:=r2.length
    rw[List.size_toArray]at h1 h2
    obtain⟨u1,g1,q1⟩:=r1.get (i:=j) (x:=xs[j]'(by omega)) (by simp[show j<xs.length by omega])
    obtain⟨u2,g2,q2⟩:=r2.get (i:=j) (x:=ys[j]'(by omega)) (by simp[show j<ys.length by omega])
    have k1:its.toArray[j]'(by rw[List.size_toArray];exact h1)=u1:=by
     have:=(List.getElem?_eq_some_iff.mp g1).2
     simpa using this
    have k2:its2.toArray[j]'(by rw[List.size_toArray];exact h2)=u2:=by
     have:=(List.getElem?_eq_some_iff.mp g2).2
     simpa using this
    rw[k1,k2]
    exact (ih A.in1 (by rw[in1_units];omega) q1 q2 (he j _ _ (by simp[show j<xs.length by omega]) (by simp[show j<ys.length by omega]))).1
   have rc:SeqAt.RcAt A s (.ref a) (.ref c) (decide (xs.length=ys.length)&&(List.range (min xs.length ys.length)).all e):=by
    rcases hq with ⟨h1,h2⟩|⟨h1,h2⟩
    ·obtain⟨its,r1,p1,_⟩:=I.list h1
     obtain⟨its2,r2,p2,_⟩:=I.list h2
     have l1:=r1.length
     have l2:=r2.length
     by_cases hl:xs.length=ys.length
     ·have:=SeqAt.RcAt.lists (e:=e) p1.isList p2.isList (by rw[List.size_toArray,List.size_toArray];omega) (by omega) (key its its2 r1 r2)
      rw[List.size_toArray,<-l1]at this
      rw[decide_eq_true hl,Bool.true_and,<-hl,Nat.min_self]
      exact this
     ·rw[decide_eq_false hl,Bool.false_and]
      exact SeqAt.RcAt.lists_lengths p1.isList p2.isList (by rw[List.size_toArray,List.size_toArray];simp;omega) (by omega)
    ·obtain⟨its,r1,p1,_⟩:=I.tuple h1
     obtain⟨its2,r2,p2,_⟩:=I.tuple h2
     have l1:=r1.length
     have l2:=r2.length
     have:=SeqAt.RcAt.tuples (e:=e) (show s.heap.IsTuple a its.toArray from p1) (show s.heap.IsTuple c its2.toArray from p2) (by omega) (key its its2 r1 r2)
     rw[List.size_toArray,List.size_toArray,<-l1,<-l2,all_and]at this
     exact this
   refine⟨?_,fun a' c' _ _=>rc⟩
   by_cases hac:a=c
   ·subst hac
    rw[EqD.self I (n+1) hself]
    exact SeqAt.EqAt.same _
   ·exact SeqAt.EqAt.of_refs hac rc
def rEqD (K:PySem.W.Frag)(n:Nat):R2:=fun x y H Q=>∃a c b,x=.ref a/\y=.ref c/\EqD K H n x y b/\Q (.bl b) H
theorem op_eqD (n:Nat)(hu:X.A.units+n<cLine):OpR X (compareOp .Eq) (rEqD X.K n):=by
 intro pins s σ H x y v u Q I rx ry h
 obtain⟨a,c,b,ex,ey,h,q⟩:=h
 exact (EqD.at I n X.A hu rx ry h).2 a c ex ey _ _ _ _ ⟨.bl b,H,I,rfl,q⟩
theorem EqD.flat {K:PySem.W.Frag}{H:Hp}{a c:Addr}{xs ys:List V}(hq:(SqL K H a xs/\SqL K H c ys)\/(SqT K H a xs/\SqT K H c ys))(fx:∀x∈xs,flatV x=true)(fy:∀y∈ys,flatV y=true)(hi:∀x∈xs,∀y∈ys,eqV x y=decide (x=y))(n:Nat):
  EqD K H (n+1) (.ref a) (.ref c) (decide (xs=ys)):=by
 have base:∀m i x y,xs[i]?=some x->ys[i]?=some y->EqD K H m x y (decide (x=y)):=fun m i x y h1 h2=>by
  have m1:=List.mem_of_getElem? h1
  have m2:=List.mem_of_getElem? h2
  cases m with
  |zero=>exact⟨fx _ m1,fy _ m2,(hi _ m1 _ m2).symm⟩
  |succ m=>exact .inl ⟨fx _ m1,fy _ m2,(hi _ m1 _ m2).symm⟩
 refine .inr ⟨a,c,xs,ys,rfl,rfl,hq,fun i=>match xs[i]?,ys[i]? with|some x,some y=>decide (x=y)|_,_=>true,fun i x y h1 h2=>?_,?_⟩
 ·simp only[h1,h2]
  exact base n i x y h1 h2
 ·rw[Bool.eq_iff_iff]
  simp only[decide_eq_true_eq,Bool.and_eq_true,List.all_eq_true,List.mem_range]
  constructor
  ·rintro rfl
   refine⟨rfl,fun i hi=>?_⟩
   have hi:i<xs.length:=by omega
   simp[hi]
  ·rintro⟨hl,h⟩
   refine List.ext_getElem? fun i=>?_
   by_cases hi:i<xs.length
   ·have:=h i (by omega)
    simp[hi,show i<ys.length by omega]at this
    simp[hi,show i<ys.length by omega,this]
   ·rw[List.getElem?_eq_none (by omega),List.getElem?_eq_none (by omega)]
end
end L2
namespace L2
open PySem PySem.Spec PyProof.Rows
def blkOk (outer:List (Str×NameKind))(sc:Scope):Bool:=
 sc.kind == .function&&sc.names.all (fun y=>y.2 != .cell&&(y.2 != .local||sc.names.lookup y.1==some .local)&&(y.2 != .free||outer.lookup y.1==some .cell||outer.lookup y.1==some .free))
theorem blk_mk {X:Cx}{sc:Scope}(h:blkOk X.env.scope.names sc=true):BlkSc X sc:=by
 unfold blkOk at h
 rw[Bool.and_eq_true,List.all_eq_true]at h
 obtain⟨h1,h2⟩:=h
 refine⟨by simpa using h1,fun y hy z=>?_,fun y hy z=>?_,fun y hy z=>?_⟩
 ·have:=h2 y hy
  simp only[Bool.and_eq_true]at this
  have:=this.1.1
  rw[z]at this
  exact absurd this (by decide)
 ·have:=h2 y hy
  simp only[Bool.and_eq_true]at this
  have:=this.1.2
  rw[z]at this
  simpa using this
 ·have:=h2 y hy
  simp only[Bool.and_eq_true]at this
  have:=this.2
  rw[z]at this
  have t:(X.env.scope.names.lookup y.1==some .cell||X.env.scope.names.lookup y.1==some .free)=true:=by simpa using this
  rw[Bool.or_eq_true]at t
  rcases t with t|t
  ·exact .inl (by show X.env.scope.names.lookup y.1=some .cell;simpa using t)
  ·exact .inr (by show X.env.scope.names.lookup y.1=some .free;simpa using t)
section
variable {t u:TS} {te ta tb tc':TE} {tt tu:TT} {A B:TA} {D:Ends} {σ:St} {H:Hp} {Q:VK} {R:Bool->Hp->Prop} {S:List V->Hp->Prop} {i:Nat} {v:V} {g:TG} {r r':R2} {K:PySem.W.Frag} {wi:TI} {cp:Caps}
theorem r_seq:tSeq t u D σ H=t {D with nx:=u D} σ H:=rfl
theorem r_next:tNext D σ H=D.nx σ H:=rfl
theorem r_asg:tAsg te g D σ H=te σ H fun x H1=>g x σ H1 D.nx:=rfl
theorem r_gname {N:St->Hp->Prop}:gName i v σ H N=N (σ.set i (some v)) H:=rfl
theorem r_var:tVar i σ H Q=∃v,σ[i]?=some (some v)/\Q v H:=rfl
theorem r_c:tC v σ H Q=Q v H:=rfl
theorem r_op:tOp r ta tb σ H Q=ta σ H fun x H1=>tb σ H1 fun y H2=>r x y H2 Q:=rfl
theorem r_un {f:V->Hp->VK->Prop}:tUn f ta σ H Q=ta σ H fun x H1=>f x H1 Q:=rfl
theorem r_I {C:Int->Int->Prop}{f:Int->Int->V}{x y:V}:rI C f x y H Q=∃i j,x=.int i/\y=.int j/\C i j/\Q (f i j) H:=rfl
theorem r_I0 {f:Int->Int->V}{x y:V}:rI0 f x y H Q=∃i j,x=.int i/\y=.int j/\Q (f i j) H:=rfl
theorem r_U {f:Int->V}{x:V}:rU f x H Q=∃i,x=.int i/\Q (f i) H:=rfl
theorem r_call {sp:Sp}{dvs:List V}{E:XK}:tCall sp dvs E A σ H Q=A σ H fun vs H1=>sp (vs++dvs) H1 Q E:=rfl
theorem r_cons:tCons te A σ H S=te σ H fun x H1=>A σ H1 fun xs H2=>S (x::xs) H2:=rfl
theorem r_nil:tNil σ H S=S [] H:=rfl
theorem r_ret:tRet te D σ H=te σ H D.rt:=rfl
theorem r_drop:tDrop te D σ H=te σ H fun _ H1=>D.nx σ H1:=rfl
theorem r_if:tIfS tt t u D σ H=tt σ H fun b H1=>if b=true then t D σ H1 else u D σ H1:=rfl
theorem r_B:tB te σ H R=te σ H fun x H1=>∃c,x=.bl c/\R c H1:=rfl
theorem r_test:tTest te σ H R=te σ H fun x H1=>∃c,x=.bl c/\R c H1:=rfl
theorem r_or:tOr tt tu σ H R=tt σ H fun c H1=>if c=true then R true H1 else tu σ H1 R:=rfl
theorem r_not:tNot tt σ H R=tt σ H fun c H1=>R (!c) H1:=rfl
theorem r_andV:tAndV ta tb σ H Q=ta σ H fun x H1=>∃c,x=.bl c/\if c=true then tb σ H1 Q else Q (.bl false) H1:=rfl
theorem r_notV:tNotV ta σ H Q=ta σ H fun x H1=>∃c,x=.bl c/\Q (.bl (!c)) H1:=rfl
theorem r_chain:tChain r r' ta tb tc' σ H Q=ta σ H fun x H1=>tb σ H1 fun y H2=>r x y H2 fun z H3=>∃k,z=.bl k/\(if k=true then tc' σ H3 fun w' H4=>r' y w' H4 Q else Q (.bl false) H3):=rfl
theorem r_CB {f:List V->Hp->VK->Prop}:tCB f A σ H Q=A σ H fun vs H1=>f vs H1 Q:=rfl
theorem r_lst:tLst A σ H Q=A σ H fun xs H1=>xs.length<=sizeLine/\∀p,H1 p=none->Q (.ref p) (upd H1 p (.lst xs)):=rfl
theorem r_tup:tTup A σ H Q=A σ H fun xs H1=>xs.length<=sizeLine/\∀p,H1 p=none->Q (.ref p) (upd H1 p (.tup xs)):=rfl
theorem r_ixL {x y:V}:rIxL K x y H Q=∃p xs i v,x=.ref p/\y=.int i/\SqL K H p xs/\atI xs i=some v/\Q v H:=rfl
theorem r_ixT {x y:V}:rIxT K x y H Q=∃p xs i v,x=.ref p/\y=.int i/\SqT K H p xs/\atI xs i=some v/\Q v H:=rfl
theorem r_sl {f:V->Option Int->Option Int->Hp->VK->Prop}{tl th:TO}:tSl f te tl th σ H Q=te σ H fun x H1=>tl σ H1 fun l H2=>th σ H2 fun u H3=>f x l u H3 Q:=rfl
theorem r_part {U:Option Int->Hp->Prop}:tPart te σ H U=te σ H fun x H1=>∃i,x=.int i/\U (some i) H1:=rfl
theorem r_nopart {U:Option Int->Hp->Prop}:tNoPart σ H U=U none H:=rfl
theorem r_slL {x:V}{lo hi:Option Int}:rSlL K x lo hi H Q=∃a xs,x=.ref a/\SqL K H a xs/\∀p,H p=none->Q (.ref p) (upd H p (.lst (cutV xs lo hi))):=rfl
theorem r_BM {T:String}{f:V->List V->Hp->VK->Prop}:tBM K T f te A σ H Q=te σ H fun x H1=>tyV K T x H1/\A σ H1 fun xs H2=>f x xs H2 Q:=rfl
theorem r_append {x:V}{vs:List V}:rAppend x vs H Q=∃l xs y,x=.ref l/\vs=[y]/\H l=some (.lst xs)/\xs.length<sizeLine/\Q .non (upd H l (.lst (xs++[y]))):=rfl
theorem r_gsub {to ti:TE}{ts:TSet}{N:St->Hp->Prop}:gSub to ti ts v σ H N=to σ H fun o H1=>ti σ H1 fun i H2=>ts o i v H2 fun H3=>N σ H3:=rfl
theorem r_setL {o k:V}{N:Hp->Prop}:rSetL o k v H N=∃p xs m j,o=.ref p/\k=.int m/\H p=some (.lst xs)/\ixN xs.length m=some j/\N (upd H p (.lst (xs.set j v))):=rfl
theorem r_Eq {x y:V}:rEq x y H Q=(scal x y=true/\Q (.bl (decide (x=y))) H):=rfl
theorem r_Ne {x y:V}:rNe x y H Q=(scal x y=true/\Q (.bl (!decide (x=y))) H):=rfl
theorem r_eqD {n:Nat}{x y:V}:rEqD K n x y H Q=∃a c b,x=.ref a/\y=.ref c/\EqD K H n x y b/\Q (.bl b) H:=rfl
theorem r_iList {Z:It->Hp->Prop}:iList K te σ H Z=te σ H fun x H1=>∃a,x=.ref a/\(∃xs,SqL K H1 a xs)/\Z (Itl K a) H1:=rfl
theorem r_iTup {Z:It->Hp->Prop}:iTup K te σ H Z=te σ H fun x H1=>∃a,x=.ref a/\(∃xs,SqT K H1 a xs)/\Z (Itt K a) H1:=rfl
theorem r_iRng1 {Z:It->Hp->Prop}:iRng1 A σ H Z=A σ H fun vs H1=>∃j:Int,vs=[.int j] /\ -(2 ^ 62)<=j/\j<2 ^ 62/\Z (Itr 0 j.toNat) H1:=rfl
theorem r_true:tTrue σ H R=R true H:=rfl
end
theorem Same.new {H:Hp}{p:Addr}{o:HO}(h:H p=none):Same H (upd H p o):=fun b u e=>by rw[upd_ne (ne_of_none e h)];exact e
theorem Same.newT {H H':Hp}{p:Addr}{o:HO}(s:Same H H')(h:H' p=none):Same H (upd H' p o):=s.trans (Same.new h)
theorem Same.over {H H':Hp}{p:Addr}{o:HO}(s:Same H H')(h:H p=none):Same H (upd H' p o):=fun b u e=>by rw[upd_ne (ne_of_none e h)];exact s b u e
theorem none_of_upd {H:Hp}{p D:Addr}{o:HO}(h:upd H p o D=none):H D=none/\D≠p:=by
 by_cases e:D=p
 ·subst e;rw[upd_same]at h;cases h
 ·rw[upd_ne e]at h;exact⟨h,e⟩
theorem Same.seqT {K:PySem.W.Frag}{H H':Hp}{a:Addr}{xs:List V}(e:Same H H')(h:SqT K H a xs):SqT K H' a xs:=by
 rcases h with (h|⟨o,h⟩)|h
 ·exact .inl (.inl (e _ _ h))
 ·exact .inl (.inr ⟨o,e _ _ h⟩)
 ·exact .inr h
theorem hu9 {k:Nat}{A:Around}(hr:Room k A):A.units+8<cLine:=by have:=hr.units;omega
section
variable {K:PySem.W.Frag} {wi:TI} {cp:Caps} {g:TG} {tc:TT} {te:TE} {σ:St} {H:Hp} {Q:VK}
theorem r_cxK {CX:CXT}{P:Program}{w:World}{mg:Str->Option Value}{base:Heap}{N:List Str}{qual:Str}{scope:Scope}{f:Addr}{cd:Value}{A:Around}{outer:List Env}{s:Shared}{E:XK}:(cxOf CX P w K mg base N qual scope f cd A outer s H E).K=K:=rfl
def CompW (J:It)(cp:Caps)(g:TG)(tc:TT)(te:TE)(σ:St)(H1:Hp)(Q:VK):Prop:=∃W:Nat->Nat->List V->St->Hp->Prop,(∃m,W 0 m [] (cp.st σ) H1)/\∀i m ys σ' H',W i m ys σ' H' ->
 ys.length<sizeLine/\((J.stop i H'/\∀D,H' D=none->Q (.ref D) (upd H' D (.lst ys)))\/(J.go i H'/\∃N:List V->St->Hp->Prop,(∀zs σ2 H2,N zs σ2 H2->∃m',m'<m/\W (i+1) m' zs σ2 H2)/\∀x H2,J.yld i H' x H2->g x σ' H2 fun σ2 H3=>tc σ2 H3 fun b H4=>
  if b=true then te σ2 H4 fun v H5=>N (ys++[v]) σ2 H5 else N ys σ2 H4))
theorem r_comp:tComp wi cp g tc te σ H Q=wi σ H fun J H1=>CompW J cp g tc te σ H1 Q:=rfl
def ForW (J:It)(g:TG)(tb:TS)(D:Ends)(σ:St)(H1:Hp):Prop:=∃W:Nat->Nat->St->Hp->Prop,(∃m,W 0 m σ H1)/\∀i m σ H,W i m σ H ->
 (J.stop i H/\D.nx σ H)\/(J.go i H/\∃N:St->Hp->Prop,(∀σ' H',N σ' H'->∃m',m'<m/\W (i+1) m' σ' H')/\∀x H',J.yld i H x H'->g x σ H' fun σ2 H2=>tb {D with nx:=N,ct:=N,bk:=D.nx} σ2 H2)
theorem r_for {tb:TS}{D:Ends}:tFor wi g tb D σ H=wi σ H fun J H1=>ForW J g tb D σ H1:=rfl
theorem forL {a:Addr}{xs:List V}{g:TG}{tb:TS}{D:Ends}{σ:St}{H:Hp}(Pv:Nat->St->Hp->Prop)(h0:Pv 0 σ H)(hl:∀i σ H,i<=xs.length->Pv i σ H->SqL K H a xs)
  (hs:∀i x σ H,xs[i]?=some x->Pv i σ H->g x σ H fun σ2 H2=>tb {D with nx:=Pv (i+1),ct:=Pv (i+1),bk:=D.nx} σ2 H2) (hd:∀σ H,Pv xs.length σ H->D.nx σ H):ForW (Itl K a) g tb D σ H:=for_list Pv h0 hl hs hd
theorem forT {a:Addr}{xs:List V}{g:TG}{tb:TS}{D:Ends}{σ:St}{H:Hp}(Pv:Nat->St->Hp->Prop)(h0:Pv 0 σ H)(hl:∀i σ H,i<=xs.length->Pv i σ H->SqT K H a xs)
  (hs:∀i x σ H,xs[i]?=some x->Pv i σ H->g x σ H fun σ2 H2=>tb {D with nx:=Pv (i+1),ct:=Pv (i+1),bk:=D.nx} σ2 H2) (hd:∀σ H,Pv xs.length σ H->D.nx σ H):ForW (Itt K a) g tb D σ H:=for_tup Pv h0 hl hs hd
theorem forR {lo:Int}{n:Nat}{g:TG}{tb:TS}{D:Ends}{σ:St}{H:Hp}(Pv:Nat->St->Hp->Prop)(h0:Pv 0 σ H)
  (hs:∀i σ H,i<n->Pv i σ H->g (.int (lo+i)) σ H fun σ2 H2=>tb {D with nx:=Pv (i+1),ct:=Pv (i+1),bk:=D.nx} σ2 H2) (hd:∀σ H,Pv n σ H->D.nx σ H):ForW (Itr lo n) g tb D σ H:=for_range Pv h0 hs hd
theorem compL {a:Addr}{xs:List V}(Pv:Nat->List V->St->Hp->Prop)(h0:Pv 0 [] (cp.st σ) H)(hz:xs.length<sizeLine)
  (hl:∀i ys σ H,i<=xs.length->Pv i ys σ H->SqL K H a xs/\ys.length<=i)
  (hs:∀i x ys σ H,xs[i]?=some x->Pv i ys σ H->g x σ H fun σ2 H2=>tc σ2 H2 fun b H3=>if b=true then te σ2 H3 fun v H4=>Pv (i+1) (ys++[v]) σ2 H4 else Pv (i+1) ys σ2 H3)
  (hd:∀ys σ H,Pv xs.length ys σ H->∀D,H D=none->Q (.ref D) (upd H D (.lst ys))):CompW (Itl K a) cp g tc te σ H Q:=comp_list Pv h0 hz hl hs hd
theorem compT {a:Addr}{xs:List V}(Pv:Nat->List V->St->Hp->Prop)(h0:Pv 0 [] (cp.st σ) H)(hz:xs.length<sizeLine)
  (hl:∀i ys σ H,i<=xs.length->Pv i ys σ H->SqT K H a xs/\ys.length<=i)
  (hs:∀i x ys σ H,xs[i]?=some x->Pv i ys σ H->g x σ H fun σ2 H2=>tc σ2 H2 fun b H3=>if b=true then te σ2 H3 fun v H4=>Pv (i+1) (ys++[v]) σ2 H4 else Pv (i+1) ys σ2 H3)
  (hd:∀ys σ H,Pv xs.length ys σ H->∀D,H D=none->Q (.ref D) (upd H D (.lst ys))):CompW (Itt K a) cp g tc te σ H Q:=comp_tup Pv h0 hz hl hs hd
theorem compR {lo:Int}{n:Nat}(Pv:Nat->List V->St->Hp->Prop)(h0:Pv 0 [] (cp.st σ) H)(hz:n<sizeLine)
  (hl:∀i ys σ H,i<=n->Pv i ys σ H->ys.length<=i)
  (hs:∀i ys σ H,i<n->Pv i ys σ H->g (.int (lo+i)) σ H fun σ2 H2=>tc σ2 H2 fun b H3=>if b=true then te σ2 H3 fun v H4=>Pv (i+1) (ys++[v]) σ2 H4 else Pv (i+1) ys σ2 H3)
  (hd:∀ys σ H,Pv n ys σ H->∀D,H D=none->Q (.ref D) (upd H D (.lst ys))):CompW (Itr lo n) cp g tc te σ H Q:=comp_range Pv h0 hz hl hs hd
theorem compMapT {a:Addr}{xs:List V}{σ':St}(f:V->V)(e:cp.st σ=none::σ')(hl:SqT K H a xs)(hz:xs.length<sizeLine)(hs:∀x∈xs,∀R:VK,R (f x) H->te (some x::σ') H R)(hd:∀D,H D=none->Q (.ref D) (upd H D (.lst (xs.map f)))):
  CompW (Itt K a) cp (gName 0) tTrue te σ H Q:=by
 refine compT (xs:=xs) (fun i ys σ2 H2=>H2=H/\ys=(xs.take i).map f/\∃o,σ2=o::σ') ⟨rfl,by simp,none,e⟩ hz (fun i ys σ2 H2 hi h=>?_) (fun i x ys σ2 H2 hx h=>?_) (fun ys σ2 H2 h=>?_)
 ·obtain⟨rfl,rfl,_⟩:=h
  exact⟨hl,by rw[List.length_map,List.length_take];omega⟩
 ·obtain⟨rfl,rfl,o,rfl⟩:=h
  refine hs x (List.mem_of_getElem? hx) _ ⟨rfl,?_,some x,rfl⟩
  rw[List.take_add_one,hx];simp
 ·obtain⟨rfl,rfl,_⟩:=h
  rw[List.take_length]
  exact hd
end
def tCut (t u:TS):TS:=fun D σ H=>∃R:St->Hp->Prop,t {D with nx:=R} σ H/\∀σ' H',R σ' H'->u D σ' H'
theorem pss_cut {X:Cx}{st:Stmt}{rest:List Stmt}{t u:TS}(h1:PS X st t)(h2:PSs X rest u):PSs X (st::rest) (tCut t u):=by
 intro pins s σ H D I h
 obtain⟨R,ha,hb⟩:=h
 refine wpAny_execs_cons (thn (h1 pins s σ H {D with nx:=R} I ha) fun f s1 q=>?_)
 cases f with
 |next=>
  obtain⟨σ',H',I',q⟩:=q
  exact h2 pins s1 σ' H' D I' (hb σ' H' q)
 |ret v=>exact q
 |brk=>exact q
 |cont=>exact q
theorem line1000:1000000<sizeLine:=by rw[sizeLine_eq];decide
theorem mem_mapI {ns:List Int}{x:V}(h:x∈ns.map V.int):∃n,n∈ns/\x=.int n:=by
 obtain⟨n,hn,e⟩:=List.mem_map.mp h
 exact⟨n,hn,e.symm⟩
theorem get_mapI {ns:List Int}{i:Nat}{x:V}(h:(ns.map V.int)[i]?=some x):∃n,ns[i]?=some n/\x=.int n:=by
 rw[List.getElem?_map]at h
 cases e:ns[i]? with
 |none=>rw[e]at h;cases h
 |some n=>rw[e]at h;exact⟨n,rfl,(Option.some.inj h).symm⟩
def cutI (ns:List Int)(lo hi:Option Int):List Int:=(ns.drop (HT.sIx ns.length 0 lo)).take (HT.sIx ns.length ns.length hi-HT.sIx ns.length 0 lo)
theorem cut_ints (ns:List Int)(lo hi:Option Int):cutV (ns.map V.int) lo hi=(cutI ns lo hi).map V.int:=by
 unfold cutV cutI
 rw[List.length_map,<-List.map_drop,<-List.map_take]
theorem ixN_of {n:Nat}{i:Int}(h0:0<=i)(h1:i<n):ixN n i=some i.toNat:=by
 unfold ixN;rw[if_pos h0,if_pos h1]
theorem atI_of {α:Type}{xs:List α}{i:Int}{v:α}(h0:0<=i)(h:xs[i.toNat]?=some v):atI xs i=some v:=by
 have:=atI_nat h
 rwa [show ((i.toNat:Nat):Int)=i by omega]at this
theorem kit_self {K:PySem.W.Frag}{t:Value}:PySem.W.kitOne K t t=some true:=by unfold PySem.W.kitOne;rw[if_pos (by simp)]
theorem kit_int_bool {K:PySem.W.Frag}:PySem.W.kitOne K (.type "int") (.type "bool")=some false:=by
 first|rfl|decide +kernel|(unfold PySem.W.kitOne;kernel_rfl)
theorem rel_ty {n:String}:∀u,RelV (V.ty n) u->u=.type n:=fun _ h=>h
theorem rel_ref {a:Addr}:∀u,RelV (V.ref a) u->u=.ref a:=fun _ h=>h
end L2
namespace L2
open PySem PySem.W PySem.Spec PySem.Calls PyProof.Rows
section
variable {prog:Program} {w:World} {A:Around} {E:Value->Shared->Prop} {s:Shared} {K:Frag} {x D:Addr} {ox:Obj}
structure ExcCls (K:Frag)(D:Addr):Prop where
 ga:findIn K (.ref D) "__getattribute__"=some (some (.builtin "BaseException.__getattribute__"))
 hk:findIn K (.ref D) "__getattr__"=some none
 cl:(clsIn K D).isSome=true
 ca:findIn K (.ref D) "__class__"=some (some (.builtin "object.__class__"))
 gs:specialIn K (.builtin "object.__class__") "__get__"=some (some (.builtin "getset_descriptor.__get__"))
 tk:takesIn K (.builtin "object.__class__")=some true
 mo:mroIn K D (.type "object")=some true
 mb:mroIn K D (.type "BaseException")=some true
def ExcAt (x D:Addr)(h:Heap):Prop:=∃ox,h.get? x=some ox/\ox.cls=.ref D
theorem ExcAt.type {M:Model}{h:Heap}(I:ExcAt x D h):Looks M h (typeOf (.ref x)) (.ref D):=by
 obtain⟨ox,h1,h2⟩:=I
 exact h2 ▸ (Looks.ld h1).andThen .now
theorem exc_find {M:Model}{h:Heap}(X:K.In h)(C:ExcCls K D):Looks M h (Builtin.ObjectAttr.find (.ref x) (.ref D) "__class__") (.bind (.builtin "getset_descriptor.__get__") (.builtin "object.__class__")):=
 (looks_findIn X C.ca).andThen ((show Looks M h (Builtin.ObjectAttr.getOf (some (.builtin "object.__class__"))) _ from looks_specialIn X C.gs).andThen
  ((show Looks M h (Builtin.ObjectAttr.dataDescriptor? (some (.builtin "object.__class__")) (some (.builtin "getset_descriptor.__get__"))) (some (.builtin "getset_descriptor.__get__",.builtin "object.__class__")) from (looks_takesIn X C.tk).andThen .now).andThen (Looks.tag .now)))
open Builtin Builtin.ObjectAttr Builtin.Getset_descriptor in
theorem exc_get {R:Result->Shared->Prop}{tp:Value}(X:K.In s.heap)(I:ExcAt x D s.heap)(hm:mroIn K D (.type "object")=some true)(h:R (.ok (.ret (.ref D))) s):codeAny (model prog w) A (.call (.builtin "getset_descriptor.__get__") ⟨[.builtin "object.__class__",.ref x,tp],[]⟩) R s:=by
 have l0:=I.type (M:=model prog w)
 have l1:=looks_mroIn (M:=model prog w) X hm
 obtain⟨_,_,_,_,_⟩:=s
 have sg:=KF.slot_gs
 refine codeAny_call_builtin sg.plain KF.entry_gs (sg.check _ _ _ _ _ _ _ _ KF.type_class (KF.args_gs _ _ _) ?_)
 unfold Builtin.«getset_descriptor.__get__» descrGet
 rw[dga_obj]
 unfold descrGetter descrCheckInstance isInstance descrNameAndClass
 refine wpAny_bind (wpAny_pure ?_)
 simp only[KF.owner_class]
 repeat lk
 refine⟨Code.quiet_builtin _ (by decide +kernel),codeAny_builtin KF.entry_class ?_⟩
 unfold Builtin.«object.__class__» shownTypeOf
 repeat lk
 exact h
theorem exc_check {M:Model}{nameV:Value}{Q:Unit->Shared->Prop}(X:K.In s.heap)(I:ExcAt x D s.heap)(C:ExcCls K D)(hq:Q () s):wpAny M A (checkBuiltinCall "BaseException.__getattribute__" ⟨[.ref x,nameV],[]⟩) Q E s:=by
 have a1:=F.args_bexc_ga (.ref x) nameV
 have l0:=I.type (M:=M)
 have l1:=looks_mroIn (M:=M) X C.mb
 obtain⟨_,_,_,_,_⟩:=s
 simp only[checkBuiltinCall,show builtinKind "BaseException.__getattribute__"=some .slot by decide +kernel,show splitId "BaseException.__getattribute__"=some ("BaseException","__getattribute__") by decide +kernel,isInstance]
 repeat (first|lk|wp_step)
 exact hq
theorem exc_entry {tk:Tok}{Q:Fin->Shared->Prop}(X:K.In s.heap)(I:ExcAt x D s.heap)(C:ExcCls K D)(hq:Q (.done (.ret (.ref D))) s):wpAny (model prog w) A (Builtin.«object.__getattribute__» ⟨[.ref x,.str "__class__" tk],[]⟩) Q E s:=by
 obtain⟨hh,g,d,t,os⟩:=s
 have L0:=I.type (M:=model prog w)
 have L1:=exc_find (M:=model prog w) (x:=x) X C
 unfold Builtin.«object.__getattribute__»
 refine wpAny_bind (wpAny_pure ?_)
 refine wpAny_bind (wpAny_pure ?_)
 refine wpAny_bind (L0.at ?_)
 refine wpAny_bind (L1.at ?_)
 show wpAny _ _ (Builtin.ObjectAttr.bindTo _ _ _ _) _ _ _
 unfold Builtin.ObjectAttr.bindTo
 dsimp only
 refine wpAny_bind (wpAny_holding (wpAny_call (exc_get (K:=K) (s:=⟨hh,g,d,t,os⟩) X I C.mo ?_)))
 exact wpAny_pure hq
theorem exc_class {Q:Option Value->Shared->Prop}(X:K.In s.heap)(I:ExcAt x D s.heap)(C:ExcCls K D)(h:Q (some (.ref D)) {s with toks:=s.toks+1}):wpAny (model prog w) A (getAttr? (.ref x) "__class__") Q E s:=by
 obtain⟨hh,g,d,t,os⟩:=s
 have L0:=I.type (M:=model prog w)
 have L1:=looks_findIn (M:=model prog w) X C.ga
 have L2:=looks_findIn (M:=model prog w) X C.hk
 unfold getAttr? getAttrBy? getAttrBy
 refine wpAny_bind (wpAny_mkText (wpAny_bind (wpAny_attempt (wpAny_holding (wpAny_bind (L0.at (wpAny_bind (L1.at ?_))))))))
 show wpAny _ _ (getAttrByItsOwn _ _ _ _ _ _) _ _ _
 unfold getAttrByItsOwn hookBefore
 refine wpAny_bind ?_
 rw[if_pos (by rfl)]
 refine L2.at (wpAny_bind (wpAny_attempt (wpAny_holding ?_)))
 unfold callGetattribute
 rw[if_neg (by decide)]
 unfold boundAndCalled
 have f3:=PySem.F.attr_ValueError.ga.bind (.ref x)
 refine wpAny_bind (wpAny_of_eq f3 ?_)
 refine wpAny_call (codeAny_call_builtin PySem.F.attr_ValueError.ga.plain F.entry_bexc_ga (exc_check (K:=K) (s:=⟨hh,g,d,t+1,os⟩) X I C (exc_entry (K:=K) (s:=⟨hh,g,d,t+1,os⟩) X I C ?_)))
 exact wpAny_pure (wpAny_pure h)
theorem kitx_exc (C:ExcCls K D):KitX K (.ref x) (.ref D) (ExcAt x D):=by
 have cl:=C.cl
 unfold clsIn at cl
 refine⟨fun _ _ _ I=>I.type,fun _ _ X _=>?_,fun h tp dd its n sl X htp=>?_,fun X I k=>exc_class X I C k⟩
 ·split at cl
  ·rename_i ho
   intro A' Q' E' s' k q
   exact wpAny_bind (wpAny_loadPart (k _ _ (X _ _ ho)) (wpAny_pure q))
  ·cases cl
 ·split at cl
  ·rename_i ho
   cases hb:(Value.ref D==Value.ref tp) with
   |false=>rfl
   |true=>
    obtain rfl:D=tp:=Value.ref.inj (beq_iff_eq.mp hb)
    cases (X _ _ ho).symm.trans htp
  ·cases cl
end
section
variable {P:Program} {w:World}
theorem ObjOk.there {H:Hp}{h:Heap}{a:Addr}{o:HO}(x:ObjOk P w H h a o):∃ob,h.get? a=some ob:=by
 induction o with
 |lst xs=>obtain⟨_,_,_,_,e⟩:=x;exact⟨_,e⟩
 |tup xs=>obtain⟨_,_,_,ob,e,_⟩:=x;exact⟨_,e⟩
 |dK kvs=>obtain⟨_,_,_,_,o,_,_,e,_⟩:=x;exact⟨_,e⟩
 |dT kvs=>obtain⟨_,_,_,_,o,_,_,e,_⟩:=x;exact⟨_,e⟩
 |set S n=>obtain⟨o,_,_,_,e,_⟩:=x;exact⟨_,e⟩
 |ins C dx fs=>obtain⟨_,_,_,e,_⟩:=x;exact⟨_,e⟩
 |own y=>obtain⟨_,e⟩:=x;exact⟨_,e⟩
 |xd fs=>obtain⟨_,⟨_,_,_,e,_⟩,_⟩:=x;exact⟨_,e⟩
 |rng lo hi=>obtain⟨_,_,_,e⟩:=x;exact⟨_,e⟩
 |frz ob u ih=>obtain⟨e,_⟩:=x;exact⟨_,e⟩
 |tbl ps=>exact⟨_,(show h.get? a=some _ from x)⟩
 |met f y=>exact⟨_,(show h.get? a=some _ from x)⟩
 |ext φ=>obtain⟨_,⟨_,e⟩,_⟩:=x;exact⟨_,e⟩
structure Fly (P:Program)(w:World)(fs:List Addr)(H1 H':Hp)(h1 g B:Heap):Prop where
 un:Un fs [] H1 H' h1 g
 hok:HOk P w H' g
 cov:∀b o,g.get? b=some o->(H' b≠none \/ ∃o',h1.get? b=some o')->b∉fs->B.get? b=some o
theorem Fly.move {fs:List Addr}{H1 H':Hp}{h1 g B h2:Heap}(x:Fly P w fs H1 H' h1 g B)(frees:∀b∈fs,H' b=none)(st:B.StaysIn h2)(up:∀b∈fs,∀o,g.get? b=some o->∃sl,h2.get? b=some {o with slots:=sl}):Fly P w fs H1 H' h1 h2 B:=by
 have keep:∀b o,g.get? b=some o->(H' b≠none \/ ∃o',h1.get? b=some o')->b∉fs->h2.get? b=some o:=fun b o e h n=>st b o (x.cov b o e h n)
 have nfs:∀b u,H' b=some u->b∉fs:=fun b u e z=>by rw[frees b z]at e;cases e
 refine⟨⟨fun b o e n hb hx=>?_,fun b o e n hb hx=>?_,fun b o e n hx=>x.un.free b o e n hx,fun b o e hx=>?_,x.un.tups,x.un.frzs,x.un.tbls⟩,fun b u e=>?_,fun b o e h n=>?_⟩
 ·exact keep b o (x.un.keep b o e n hb hx) (.inr ⟨o,e⟩) hb
 ·obtain⟨sl,e1⟩:=x.un.slot b o e n hb hx
  obtain⟨sl',e2⟩:=up b hb _ e1
  exact⟨sl',e2⟩
 ·obtain⟨o',e1⟩:=x.un.there b o e hx
  by_cases hb:b∈fs
  ·obtain⟨sl',e2⟩:=up b hb _ e1
   exact⟨_,e2⟩
  ·exact⟨o',keep b o' e1 (.inr ⟨o,e⟩) hb⟩
 ·refine (x.hok b u e).stay (fun c v hc q=>?_) (fun _ q=>q) fun _ _ q=>q
  rcases hc with rfl|hc
  ·exact keep c v q (.inl (by rw[e];simp)) (nfs c u e)
  ·exact keep c v q (.inl (by rw[hc];simp)) (nfs c _ hc)
 ·-- B has it still
  have ⟨o1,e1⟩:∃o1,g.get? b=some o1:=by
   rcases h with h|⟨o',h⟩
   ·cases q:H' b with
    |none=>exact absurd q h
    |some u=>exact (x.hok b u q).there
   ·exact x.un.there b o' h (by simp)
  have e2:=x.cov b o1 e1 h n
  have e3:=st b o1 e2
  rw[e]at e3
  cases e3
  exact e2
def CXe (P:Program)(w:World):CXT:=fun outer H s E e s'=>∃(ea:Addr) (cls a0:Value) (H':Hp) (B:Heap),e=.ref ea/\s'.os=s.os/\AllBare s'.gens/\Fly P w (frs outer) H H' s.heap s'.heap B/\Heap.FlyingW B outer ea cls a0 s'.heap/\E cls none H'
theorem fly_frees {X:Cx}{pins:List (Addr×Obj)}{σ:St}{H1 H':Hp}{s1:Shared}{g B:Heap}(I:Inv X pins σ H1 s1)(x:Fly P w (frs X.stack) H1 H' s1.heap g B):∀b∈frs X.stack,H' b=none:=fun b hb=>by
 obtain⟨_,o,ho,_⟩:=I.stack.mem hb
 exact x.un.free b o ho (I.stkFree b hb) (by simp)
theorem raiseE {K:PySem.W.Frag}{mg:Str->Option Value}{base:Heap}{N:List Str}{qual:Str}{scope:Scope}{f:Addr}{cd:Value}{A:Around}{outer:List Env}{s:Shared}{H:Hp}{E:XK}
  {pins:List (Addr×Obj)} {σ:St} {H1:Hp} {s1:Shared} {h':Heap} {ea:Addr} {cls:Value} {vs:List Value}
  (I:Inv (cxOf (CXe P w) P w K mg base N qual scope f cd A outer s H E) pins σ H1 s1) (hx:Heap.MadeExcOf s1.heap h' ea cls vs) (q:E cls none H1):
  (cxOf (CXe P w) P w K mg base N qual scope f cd A outer s H E).xe (.ref ea) {s1 with heap:=h' }:=by
 have fr:(cxOf (CXe P w) P w K mg base N qual scope f cd A outer s H E).A.frames=some (envOfC qual scope s.heap.objs.size f cd::outer):=I.ok.frames
 have hin:∀env∈(envOfC qual scope s.heap.objs.size f cd::outer),∀b,env.frame=some b->b∈frs (envOfC qual scope s.heap.objs.size f cd::outer):=fun env he b hb=>List.mem_filterMap.mpr ⟨env,he,hb⟩
 have stk:=I.stack
 have fl:Fly P w (frs (envOfC qual scope s.heap.objs.size f cd::outer)) H1 H1 s1.heap s1.heap (PySem.W.hideAll s1.heap (frs (envOfC qual scope s.heap.objs.size f cd::outer))):=⟨Un.refl,I.hok,fun b o e _ n=>PySem.W.hideAll_get _ e n⟩
 refine wpAny_leaves_madeW (base:=PySem.W.hideAll s1.heap (frs (envOfC qual scope s.heap.objs.size f cd::outer))) (h:=s1.heap) fr rfl (fun b o q=>PySem.W.of_hideAll _ q) ?_ hx fun h'' t fw' ht hnt ups=>?_
 ·exact PySem.W.funFrames_hide stk hin
 ·have fl2:=fl.move (fly_frees (X:=cxOf (CXe P w) P w K mg base N qual scope f cd A outer s H E) I fl) fw'.1 (fun b hb o e=>by
   obtain⟨_,o',ho',nf⟩:=stk.mem hb
   rw[e]at ho';cases ho'
   exact ups b o (hx.keeps b o e) nf)
  have I2:Inv (cxOf (CXe P w) P w K mg base N qual scope f cd A outer s H E) pins σ H1 {s1 with heap:=h'' }:=I.call' (s':={s1 with heap:=h'' }) rfl fl2.un fl2.hok I.bare (fun b hb=>by cases hb)
  refine⟨ea,cls,.ref t,H1,_,rfl,I2.os,I2.bare,⟨I2.base,I2.hok,fun b o e h n=>fl2.cov b o e ?_ (fun z=>?_)⟩,fw',q⟩
  ·rcases h with h|⟨o',h⟩
   ·exact .inl h
   ·obtain⟨o2,e2⟩:=I.base.there b o' h (by show b∉([]:List Addr);simp)
    exact .inr ⟨o2,e2⟩
  ·rcases List.mem_cons.mp (I.stkSub b z) with e' | e'
   ·rcases h with h|⟨o',h⟩
    ·exact h (by rw[e'];exact I2.free)
    ·have:=Heap.lt_size h
     rw[e']at this
     exact absurd (Nat.lt_of_lt_of_le this I.ok.above) (Nat.lt_irrefl _)
   ·exact n e'
end
theorem exc_obj {K:Frag}{h:Heap}{C:Addr}{bmB:List Value}{newId:String}(X:K.In h)(q:excIn K C bmB newId=true):
  ∃bm N nm q bs hdct sn sub ab col dd k0 k1 k2 k3 k5 mN,h.get? C=some (excClassObj nm q C N bs bm hdct sn sub ab col dd k0 k1 k2 k3 k5 newId)/\h.Ns N mN/\mN "__init__"=none/\OwnTail h bmB bm:=by
 unfold excIn at q
 split at q
 case h_2=>cases q
 rename_i d0 c0 s0 hl
 split at q
 case h_2=>cases q
 rename_i B tl a0 a1 a2 a3 id0 a5 em es
 have g:=X C _ hl
 repeat rw[Bool.and_eq_true]at q
 rcases q with ⟨⟨⟨⟨⟨e1,e2⟩,e3⟩,e4⟩,e5⟩,e6⟩
 cases eq_of_beq e1
 cases eq_of_beq e2
 rcases s0 with ⟨l0⟩
 cases es
 rcases c0 with ⟨f0,f1,f2,f3,f4,f5,f6,f7,f8,f9,f10⟩
 cases em
 cases f10
 ·exact⟨tl,f3,f0,f4,f1,f5,f6,f7,f8,f9,d0,a0,a1,a2,a3,a5,h.nsMap f3,g,.of_isNs (isNs_of_in X e5),nsMap_none_of_in X e5 (eq_of_beq e6),tail_of_in X e4⟩
 ·cases e3
def bmV:List Value:=[.type "ValueError",.type "Exception",.type "BaseException",.type "object"]
section
variable {P:Program} {w:World} {K:PySem.W.Frag} {mg:Str->Option Value} {base:Heap} {N:List Str} {qual:Str} {scope:Scope} {f:Addr} {cd:Value} {A:Around} {outer:List Env} {s:Shared} {H:Hp} {E:XK}
def tRaise (C:Addr)(E:XK)(ta:TA):TS:=fun _ σ H=>ta σ H fun vs H1=>vs.length<=sizeLine/\E (.ref C) none H1
theorem ps_raise {x:Str}{C:Addr}{newId:String}{np cpos pos:Pos}{e₀:Expr}{rest:List Expr}{ta:TA}(hm:mg x=some (.ref C))(hx:excIn K C bmV newId=true)(hg:Gl (cxOf (CXe P w) P w K mg base N qual scope f cd A outer s H E) x)
  (hn:newId = "ValueError.__new__") (ha:PA (cxOf (CXe P w) P w K mg base N qual scope f cd A outer s H E) (e₀::rest) ta)
  (he:starEach (e₀::rest) (cxOf (CXe P w) P w K mg base N qual scope f cd A outer s H E).env=(false,eval e₀ (cxOf (CXe P w) P w K mg base N qual scope f cd A outer s H E).env)::starEach rest (cxOf (CXe P w) P w K mg base N qual scope f cd A outer s H E).env:=by rfl)
  (hplain:(backTo cpos (starEach rest (cxOf (CXe P w) P w K mg base N qual scope f cd A outer s H E).env)).any (·.1)=false:=by rfl) (hd:(x==("__debug__" : Str))=false:=by decide):
  PS (cxOf (CXe P w) P w K mg base N qual scope f cd A outer s H E) (.Raise (some (.Call (.Name x np) (e₀::rest) [] cpos)) none pos) (tRaise C E ta):=by
 intro pins s1 σ H1 D I h
 subst hn
 obtain⟨bm,Nc,nm,q,bs,hdct,sn,sub,ab,col,dd,k0,k1,k2,k3,k5,mN,hC,hN,hni,T⟩:=exc_obj I.mod.kin hx
 refine wpAny_Raise_call_subU (C:=C) (nm:=nm) (q:=q) (N:=Nc) (bs:=bs) (bm:=bm) (hdct:=hdct) (sn:=sn) (sub:=sub) (ab:=ab) (col:=col) (dd:=dd) (k0:=k0) (k1:=k1) (k2:=k2) (k3:=k3) (k5:=k5)
  PySem.F.excBase_ValueError (bmB:=bmV) (by decide +kernel) PySem.F.excBase_ValueError (mN:=mN) (T.hasType PySem.F.excBase_ValueError.hasBase) (I.ok.hd rfl) (by rw[he];show (false||(backTo cpos (starEach rest _)).any (·.1))=false;rw[hplain];rfl) hni (ld_glob I hg hm ⟨rfl,?_⟩ hd)
 have hA:=ha cpos pins s1 σ H1 _ I h
 rw[he]at hA ⊢
 refine Calls.evalArgs_plain (thn hA fun us s2 ⟨vs,H2,I2,r2,hz,q2⟩=>⟨rfl,by rw[<-r2.length];exact hz,I2.bk _ _ hC,hN.keeps I2.bk,T.keeps I2.bk,fun h' e hm=>raiseE I2 hm q2⟩)
end
end L2
namespace L2
open PySem PySem.Spec PyProof.Rows
abbrev Cx.body (X:Cx)(xe:Value->Shared->Prop)(pn:List (Addr×Obj)):Cx:={X with xe:=xe,pn:=pn}
abbrev Cx.suite (X:Cx)(ea:Addr)(pn:List (Addr×Obj)):Cx:={X with A:=X.A.mark (some (.ref ea)),calm:=false,xe:=fun _ _=>False,pn:=pn}
section
variable {X:Cx} {pins pins':List (Addr×Obj)} {σ:St} {H:Hp} {s:Shared} {xe xe':Value->Shared->Prop} {ea:Addr}
theorem Inv.toBody (I:Inv X pins σ H s):Inv (X.body xe (X.pn++pins)) [] σ H s:=
 ⟨⟨I.ok.mod,I.ok.kind,I.ok.glob,I.ok.blt,I.ok.above,I.ok.inj,I.ok.has,I.ok.cab,I.ok.hd,I.ok.frames,I.ok.stk,I.ok.exf,I.ok.bs,I.ok.bsz,I.ok.noex,I.ok.exfs,I.ok.funs,I.ok.frf⟩,I.os,I.bare,I.base,I.loc,I.cell,I.free,I.freeC,fun p hp=>I.pin p (by simpa using hp),I.hok,I.len⟩
theorem Inv.ofBody (I:Inv (X.body xe (X.pn++pins)) pins' σ H s):Inv X pins σ H s:=
 ⟨⟨I.ok.mod,I.ok.kind,I.ok.glob,I.ok.blt,I.ok.above,I.ok.inj,I.ok.has,I.ok.cab,I.ok.hd,I.ok.frames,I.ok.stk,I.ok.exf,I.ok.bs,I.ok.bsz,I.ok.noex,I.ok.exfs,I.ok.funs,I.ok.frf⟩,I.os,I.bare,I.base,I.loc,I.cell,I.free,I.freeC,fun p hp=>I.pin p (List.mem_append_left _ hp),I.hok,I.len⟩
theorem Inv.reBody {pn:List (Addr×Obj)}(I:Inv (X.body xe pn) pins' σ H s):Inv (X.body xe' pn) pins' σ H s:=
 ⟨⟨I.ok.mod,I.ok.kind,I.ok.glob,I.ok.blt,I.ok.above,I.ok.inj,I.ok.has,I.ok.cab,I.ok.hd,I.ok.frames,I.ok.stk,I.ok.exf,I.ok.bs,I.ok.bsz,I.ok.noex,I.ok.exfs,I.ok.funs,I.ok.frf⟩,I.os,I.bare,I.base,I.loc,I.cell,I.free,I.freeC,I.pin,I.hok,I.len⟩
theorem Inv.toSuite (I:Inv X pins σ H s):Inv (X.suite ea (X.pn++pins)) [] σ H s:=
 ⟨⟨I.ok.mod,I.ok.kind,I.ok.glob,I.ok.blt,I.ok.above,I.ok.inj,I.ok.has,I.ok.cab,fun z=>absurd (show false=true from z) Bool.false_ne_true,I.ok.frames,I.ok.stk,I.ok.exf,I.ok.bs,I.ok.bsz,I.ok.noex,I.ok.exfs,I.ok.funs,I.ok.frf⟩,I.os,I.bare,I.base,I.loc,I.cell,I.free,I.freeC,fun p hp=>I.pin p (by simpa using hp),I.hok,I.len⟩
theorem Inv.ofSuite (hd:X.calm=true->X.A.handled=none)(I:Inv (X.suite ea (X.pn++pins)) pins' σ H s):Inv X pins σ H s:=
 ⟨⟨I.ok.mod,I.ok.kind,I.ok.glob,I.ok.blt,I.ok.above,I.ok.inj,I.ok.has,I.ok.cab,hd,I.ok.frames,I.ok.stk,I.ok.exf,I.ok.bs,I.ok.bsz,I.ok.noex,I.ok.exfs,I.ok.funs,I.ok.frf⟩,I.os,I.bare,I.base,I.loc,I.cell,I.free,I.freeC,fun p hp=>I.pin p (List.mem_append_left _ hp),I.hok,I.len⟩
theorem Inv.forget {i:Nat}{n:Str}{m:Str->Option Value}{v:Option Value}{h':Heap}{t':Nat}(I:Inv X pins σ H s)(hN:X.N.Nodup)(hi:X.N[i]?=some n)(hx:X.env.scope.names.lookup n=some .local)
  (hl:∀(i:Nat) (x:Str) (v:V),X.N[i]?=some x->σ[i]?=some (some v)->Vis X.env.scope x->∃u,RelV v u/\Look X.env s.heap m x u) (hn:s.heap.Ns X.env.locals m)
  (hn':h'.Ns X.env.locals (fun x=>if x=n then v else m x)) (hs:Heap.SameBut X.env.locals s.heap h'):Inv X pins (σ.set i none) H {s with heap:=h',toks:=t' }:=by
 have cne:=I.cne
 obtain⟨oL,_,_,hoL,_⟩:=id hn
 have tracked:HOk X.prog X.w H h':=fun b ob e=>by
  refine (I.hok b ob e).stay (fun c w' hc q=>(hs.2 c ?_).trans q) (fun _ q=>q) fun _ _ q=>q
  rintro rfl
  rcases hc with rfl|hc
  ·rw[I.free]at e;cases e
  ·rw[I.free]at hc;cases hc
 refine⟨I.ok,I.os,I.bare,⟨fun b o e n hb hx=>?_,fun b o e n hb hx=>?_,I.base.free,fun b o e hx=>?_,I.base.tups,I.base.frzs,I.base.tbls⟩,⟨_,hn',fun j y v' e1 e2 e3=>?_⟩,fun y c e=>?_,I.free,I.freeC,fun p hp=>?_,tracked,by simpa using I.len⟩
 ·exact (hs.2 b (Nat.ne_of_lt (Nat.lt_of_lt_of_le (Heap.lt_size e) I.ok.above))).trans (I.base.keep b o e n hb hx)
 ·obtain⟨sl,e1⟩:=I.base.slot b o e n hb hx
  exact⟨sl,(hs.2 b (Nat.ne_of_lt (Nat.lt_of_lt_of_le (Heap.lt_size e) I.ok.above))).trans e1⟩
 ·obtain⟨o',e1⟩:=I.base.there b o e hx
  exact⟨o',(hs.2 b (Nat.ne_of_lt (Nat.lt_of_lt_of_le (Heap.lt_size e) I.ok.above))).trans e1⟩
 ·by_cases hj:j=i
  ·subst hj
   have hlt:j<σ.length:=by
    have:=(List.getElem?_eq_some_iff.mp e2).1
    simpa using this
   rw[List.getElem?_set_self hlt]at e2
   cases e2
  ·rw[List.getElem?_set_ne (Ne.symm hj)]at e2
   obtain⟨u',r',q⟩:=hl j y v' e1 e2 e3
   refine⟨u',r',?_⟩
   rcases q with ⟨k,e⟩|⟨k,c,e,z⟩
   ·refine .inl ⟨k,?_⟩
    have:y≠n:=fun e=>hj (nodup_ix hN e1 (e ▸ hi))
    simp[this,e]
   ·exact .inr ⟨k,c,e,z.sameBut hs (cne y c e)⟩
 ·obtain⟨w',z⟩:=I.cell y c e
  exact⟨w',z.sameBut hs (cne y c e)⟩
 ·obtain⟨e,n,ne,nf,d⟩:=I.pin p hp
  exact⟨(hs.2 p.1 ne).trans e,n,ne,nf,d⟩
end
def PassesAt (CX:CXT)(X:Cx)(σ:St)(E:XK):Prop:=∀(pins:List (Addr×Obj)) (H:Hp) (s:Shared) (e:Value) (s':Shared),Inv X pins σ H s->CX X.stack H s E e s'->X.xe e s'
def tCallE (sp:Sp)(dvs:List V)(E:St->XK)(t:TA):TE:=fun σ H Q=>t σ H fun vs H1=>sp (vs++dvs) H1 Q (E σ)
section
variable {X:Cx} {CX:CXT} {k:Nat} {f C:Addr} {fd:FuncData} {ps:List Str} {sp:Sp} {dvs:List V} {ds:List Value} {E:St->XK} {x:Str} {p pos:Pos} {e:Expr} {es:List Expr} {t:TA}
theorem run_fnE {pins:List (Addr×Obj)}{σ:St}{H:Hp}{s:Shared}{Q:VK}{us:List Value}{vs:List V}{E:XK}(F:FnOk X.prog X.w X.K X.mg X.base CX k f fd ps sp)(hr:Room k X.A)(hb:Binds X.K fd ps ds)(hd:Vals dvs ds)(hx:PassesAt CX X σ E)
  (I:Inv X pins σ H s) (r:Vals vs us) (h:sp (vs++dvs) H Q E):wpAny (model X.prog X.w) X.A (call (.ref f) us) (EP X pins σ Q) X.xe s:=by
 have r2:Vals (vs++dvs) (us++ds):=r.append hd
 have hl:(us++ds).length=ps.length:=by rw[<-r2.length];exact F.len _ _ _ _ h
 refine wpAny_call (codeAny_mono (F.run X.A X.stack s H ⟨us,[]⟩ (us++ds) (vs++dvs) Q E hr I.env0 (hb s us I.kIn hl) r2 h) fun r s' hq=>?_)
 cases r with
 |error e=>exact hx pins H s e s' I hq
 |ok fl=>
  cases fl with
  |ret u=>exact I.after hq
  |next=>exact False.elim hq
  |brk=>exact False.elim hq
  |cont=>exact False.elim hq
theorem pe_callE (F:FnOk X.prog X.w X.K X.mg X.base CX k f fd ps sp)(hr:Room k X.A)(hg:Gl X x)(hm:X.mg x=some (.ref f))(hk:PySem.W.keepIn X.K (.ref f)=true)(hb:Binds X.K fd ps ds)(hd:Vals dvs ds)(hx:∀σ,PassesAt CX X σ (E σ))
  (ha:PA X (e::es) t) (hdb:(x==("__debug__" : Str))=false:=by decide) (he:starEach (e::es) X.env=(false,eval e X.env)::starEach es X.env:=by rfl) (hpl:(backTo pos (starEach es X.env)).any (·.1)=false:=by rfl):
  PE X (.Call (.Name x p) (e::es) [] pos) (tCallE sp dvs E t):=by
 intro pins s σ H Q I h
 refine wpAny_Call_Name_kw (ld_glob I hg hm ?_ hdb)
 refine PySem.W.callWith_K (h₀:=X.base) I.ok.mod.kin hk (thn (ha pos pins s σ H _ I h) fun us s1 ⟨vs,H1,I1,r,q⟩=>⟨I1.kIn,?_⟩) he hpl
 exact run_fnE F hr hb hd (hx σ) I1 r q
end
def excO (ea C:Addr):HO:=.ext (ExcAt ea C)
def Ends.un (D:Ends)(i:Nat):Ends:={nx:=fun σ H=>D.nx (σ.set i none) H,rt:=D.rt,bk:=fun σ H=>D.bk (σ.set i none) H,ct:=fun σ H=>D.ct (σ.set i none) H}
def tTry (K:PySem.W.Frag)(Ca:Addr)(i:Nat)(E:St->XK)(tb ts:TS):TS:=fun D σ H=>tb D σ H/\∀σ' cls H',E σ' cls none H' ->
 ∃C,cls=.ref C/\PySem.W.exmOne K (.ref C) (.ref Ca)=some true/\∀ea,H' ea=none->ts (D.un i) (σ'.set i (some (.ref ea))) (upd H' ea (excO ea C))
theorem ps_try {X:Cx}{body:List Stmt}{c n:Str}{Ca:Addr}{np hpos pos:Pos}{b₀:Stmt}{suite:List Stmt}{i:Nat}{E:St->XK}{tb ts:TS}(hN:X.N.Nodup)(hi:X.N[i]?=some n)(hn:X.env.scope.names.lookup n=some .local)
  (hg:Gl X c) (hm:X.mg c=some (.ref Ca)) (hst:X.stack=X.env::X.outer) (hL:X.env.frame=some X.env.locals) (hex:X.ex=[])
  (hb:∀xe pn,(∀σ,PassesAt (CXe X.prog X.w) (X.body xe pn) σ (E σ))->PSs (X.body xe pn) body tb) (hs:∀ea pn,PSs (X.suite ea pn) (b₀::suite) ts) (hd:(c==("__debug__" : Str))=false:=by decide):
  PS X (.Try body [.ExceptHandler (some (.Name c np)) (some n) (b₀::suite) hpos] [] [] pos) (tTry X.K Ca i E tb ts):=by
 intro pins s σ H D I h
 obtain⟨hbody,hhand⟩:=h
 have hB:=hb (fun e s'=>∃pins' σ' H1 s1,Inv (X.body (fun _ _=>True) (X.pn++pins)) pins' σ' H1 s1/\CXe X.prog X.w X.stack H1 s1 (E σ') e s') (X.pn++pins) (fun σ pins' H s e s' I' hcx=>⟨pins',σ,H,s,I'.reBody,hcx⟩) [] s σ H D I.toBody hbody
 refine wpAny_Try_except (wpAny_mono hB (fun f s1 q=>?_) fun e s1 q=>?_)
 ·cases f with
  |next=>obtain⟨σ1,H1,I1,q1⟩:=q;exact wpAny_execs_nil ⟨σ1,H1,I1.ofBody,q1⟩
  |brk=>obtain⟨σ1,H1,I1,q1⟩:=q;exact⟨σ1,H1,I1.ofBody,q1⟩
  |cont=>obtain⟨σ1,H1,I1,q1⟩:=q;exact⟨σ1,H1,I1.ofBody,q1⟩
  |ret v=>obtain⟨x1,σ1,H1,I1,r1,q1⟩:=q;exact⟨x1,σ1,H1,I1.ofBody,r1,q1⟩
 ·obtain⟨pins',σ',H1,s2,I2,ea,cls,a0,H',B,rfl,os,bare,fl,fw,hE⟩:=q
  obtain⟨C,rfl,hexm,hts⟩:=hhand σ' cls H' hE
  have I2':Inv X pins σ' H1 s2:=I2.ofBody
  have fr:X.A.frames=some (X.env::X.outer):=by rw[I.ok.frames,hst]
  have frees:=fly_frees I2' fl
  have fw0:=fw
  rw[hst]at fw
  have invAt:∀h',Heap.FlyingW B (X.env::X.outer) ea (.ref C) a0 h'->s1.heap.UpToSlots h'->Inv X pins σ' H' {s1 with heap:=h' }:=fun h' fw' ups=>by
   have fl2:=fl.move frees fw'.1 (fun b hb o e=>by
    obtain⟨_,o',ho',nf⟩:=fw0.2.2.1.mem hb
    rw[e]at ho';cases ho'
    exact ups b o e nf)
   exact I2'.call' (s':={s1 with heap:=h' }) os fl2.un fl2.hok bare (fun b hb=>by cases hb)
  refine wpAny_looks_onW fr hL fw fun h4 held4 up4=>?_
  refine wpAny_landsW held4 fun h5 fw5 up5=>?_
  have I5:=invAt h5 fw5 (up4.trans up5)
  have I5m:Inv (X.suite ea (X.pn++pins)) [] σ' H' {s1 with heap:=h5}:=I5.toSuite
  refine wpAny_handleBy_cons (codeAny_handlers_test (ld_glob (X:=X.suite ea (X.pn++pins)) I5m hg hm ?_ hd)) (by intro q;cases q)
  have LT:PySem.W.Looks (model X.prog X.w) h5 (typeOf (.ref ea)) (.ref C):=by
   obtain⟨ob,hob,hoc⟩:=fw5.there
   exact hoc ▸ (PySem.W.Looks.ld hob).andThen .now
  refine (PySem.W.exm_one (K:=X.K) (M:=model X.prog X.w) I5.kIn LT hexm) _ _ _ _ (fun b o e=>e) ?_
  refine codeAny_handlers_suite_as ?_
  refine lands_againW fw5 fun h6 fw6 up6=>?_
  have I6:=invAt h6 fw6 ((up4.trans up5).trans up6)
  -- the exception's object is not tracked yet
  have hne:H' ea=none:=by
   cases q:H' ea with
   |none=>rfl
   |some u=>
    have nfs:ea∉frs X.stack:=fun z=>by rw[frees ea z]at q;cases q
    obtain⟨o,ho⟩:=(fl.hok ea u q).there
    have:=fl.cov ea o ho (.inl (by rw[q];simp)) nfs
    rw[fw.2.1]at this
    cases this
  have new:ObjOk X.prog X.w (upd H' ea (excO ea C)) h6 ea (excO ea C):=by
   obtain⟨ob,hob,hoc⟩:=fw6.there
   refine⟨⟨ob,hob,hoc⟩,⟨ob,hob⟩,fun g1 g2 ⟨o1,e1,c1⟩ k=>⟨o1,k o1 e1,c1⟩⟩
  have hsz:s2.heap.get? ea=none:=by
   cases q:s2.heap.get? ea with
   |none=>rfl
   |some o=>
    by_cases z:ea∈frs X.stack
    ·obtain⟨_,o',ho',nf⟩:=fw0.2.2.1.mem z
     obtain⟨oe,vs,hoe,_,hdt,_⟩:=fw.first
     rw[ho']at hoe;cases hoe
     exact absurd hdt (nf vs)
    ·obtain⟨o',e'⟩:=fl.un.there ea o q (by simp)
     have:=fl.cov ea o' e' (.inr ⟨o,q⟩) z
     rw[fw.2.1]at this
     cases this
  have I6t:Inv X pins σ' (upd H' ea (excO ea C)) {s1 with heap:=h6}:=by
   refine⟨I6.ok,I6.os,I6.bare,?_,I6.loc,I6.cell,?_,fun x c e=>?_,fun p hp=>?_,I6.hok.track hne new,I6.len⟩
   ·-- newer than the entry
    have h0:X.s₀.heap.get? ea=none:=by
     cases q:X.s₀.heap.get? ea with
     |none=>rfl
     |some o=>
      obtain⟨o',e'⟩:=I2'.base.there ea o q (by rw[hex];simp)
      rw[hsz]at e';cases e'
    refine⟨I6.base.keep,I6.base.slot,fun b o e n hx=>?_,I6.base.there,fun b xs q=>?_,fun b ob xs q=>?_,fun b ps q=>?_⟩
    ·rw[upd_ne (fun z=>by rw[z,h0]at e;cases e)];exact I6.base.free b o e n hx
    ·have:=I6.base.tups b xs q;rw[upd_ne (ne_of_none this hne)];exact this
    ·have:=I6.base.frzs b ob xs q;rw[upd_ne (ne_of_none this hne)];exact this
    ·obtain⟨more,e⟩:=I6.base.tbls b ps q
     exact⟨more,by rw[upd_ne (ne_of_none e hne)];exact e⟩
   ·rw[upd_ne (fun z=>?_)]
    ·exact I6.free
    ·have:=I2'.lt
     obtain⟨m,⟨o,_,_,ho,_⟩,_⟩:=I2'.loc
     rw[z,hsz]at ho;cases ho
   ·rw[upd_ne (fun z=>?_)]
    ·exact I6.freeC x c e
    ·obtain⟨v,o,ho,_⟩:=I2'.cell x c e
     rw[z,hsz]at ho;cases ho
   ·obtain⟨e,n,r⟩:=I6.pin p hp
    refine⟨e,?_,r⟩
    rw[upd_ne (fun z=>?_)]
    ·exact n
    ·have:=(I2'.pin p hp).1
     rw[z,hsz]at this;cases this
  have I6m:Inv (X.suite ea (X.pn++pins)) [] σ' (upd H' ea (excO ea C)) {s1 with heap:=h6}:=I6t.toSuite
  refine store_ok (X:=X.suite ea (X.pn++pins)) I6m hN hi (.inl hn) (v:=.ref ea) rfl (fun s7 I7=>?_) (.inr hn)
  refine wpAny_mono (hs ea (X.pn++pins) [] s7 _ _ (D.un i) I7 (hts ea hne)) (fun f s8 q8=>?_) (fun _ _ z=>False.elim z)
  have hcl:(X.env.scope.kind == .class||(X.env.scope.kind == .module&&X.env.locals != X.env.globals))=false:=by rw[I.ok.kind];rfl
  have goes:∀{σ8:St} {H8:Hp},Inv (X.suite ea (X.pn++pins)) [] σ8 H8 s8->∀(R:Unit->Shared->Prop),(∀s9,Inv X pins (σ8.set i none) H8 s9->R () s9) ->
    wpAny (model X.prog X.w) X.A (do bindName X.env n .none;unbindBehindTheSuite X.env n hpos) R X.xe s8:=fun {σ8 H8} I8 R hR=>by
   have I8':Inv X pins σ8 H8 s8:=I8.ofSuite I.ok.hd
   obtain⟨m,hns,hl⟩:=I8'.loc
   exact wpAny_nameGoes_keeps hn hns hcl fun h9 v hn9 sb=>hR _ (I8'.forget hN hi hn hl hns hn9 sb)
  cases f with
  |next=>obtain⟨σ8,H8,I8,q⟩:=q8;exact goes I8 _ fun s9 I9=>⟨_,H8,I9,q⟩
  |brk=>obtain⟨σ8,H8,I8,q⟩:=q8;exact goes I8 _ fun s9 I9=>⟨_,H8,I9,q⟩
  |cont=>obtain⟨σ8,H8,I8,q⟩:=q8;exact goes I8 _ fun s9 I9=>⟨_,H8,I9,q⟩
  |ret v=>obtain⟨x8,σ8,H8,I8,r8,q⟩:=q8;exact goes I8 _ fun s9 I9=>⟨x8,_,H8,I9,r8,q⟩
theorem call_isinstE {X:Cx}:CallR X (.builtin "isinstance") (fun xs H Q=>∃ea C c cv b,xs=[.ref ea,c]/\H ea=some (excO ea C)/\ExcCls X.K C/\(∀u,RelV c u->u=cv)/\PySem.W.kitOne X.K (.ref C) cv=some b/\Q (.bl b) H):=by
 intro pins s σ H xs us Q I r h
 obtain⟨ea,C,c,cv,b,rfl,hea,hC,hc,hk,q⟩:=h
 obtain⟨u,w',rfl,rx,rc⟩:=vals2 r
 rw[hc _ rc]
 cases rx
 obtain⟨p,_,_⟩:=(show ObjOk X.prog X.w H s.heap ea (.ext (ExcAt ea C)) from I.hok ea _ hea)
 exact PySem.W.kia_one (kitx_exc hC) I.kIn p hk (fun z=>nomatch z) fun tk=>⟨.bl b,H,I.tok tk,rfl,q⟩
end L2
namespace L2
open PySem PySem.Spec PyProof.Rows
section
variable {X:Cx}
def rCatT2 (K:PySem.W.Frag):R2:=fun x y H Q=>∃a b xs ys,x=.ref a/\y=.ref b/\SqT K H a xs/\SqT K H b ys/\xs.length+ys.length<=sizeLine /\
 (xs=[]->Q (.ref b) H)/\(xs ≠ []->ys=[]->Q (.ref a) H)/\(xs ≠ []->ys ≠ []->∀p,H p=none->Q (.ref p) (upd H p (.tup (xs++ys))))
theorem op_catT2:OpR X (binaryOp .Add) (rCatT2 X.K):=by
 intro pins s σ H x y v u Q I rx ry h
 obtain⟨a,b,xs,ys,rfl,rfl,ha,hb,hz,q0,q1,q2⟩:=h
 by_cases hx:xs=[]
 ·subst hx
  cases rx
  cases ry
  obtain⟨its,r1,p1,_⟩:=I.tuple ha
  obtain⟨its2,r2,p2,_⟩:=I.tuple hb
  have:its=[]:=r1.nil_iff.mpr rfl
  subst this
  obtain⟨⟨cls,dd,data,sl⟩,ho,hc,n,hd⟩:=id p1
  obtain⟨⟨cls2,dd2,data2,sl2⟩,ho2,hc2,n2,hd2⟩:=id p2
  simp only at hc hd hc2 hd2
  subst hc hd hc2 hd2
  exact concat_meets ⟨_,ho,rfl⟩ ⟨_,ho2,rfl⟩ noFill_tuple_add seq_tuple_add PySem.F.slot_tuple_add PySem.F.entry_tuple_add (PySem.F.args_tuple_add_2 _ _)
   (PyProof.Rows.tuple_addW0 a b _ _ n n2 dd dd2 sl sl2 rfl) ⟨ho,ho2,⟨.ref b,H,I,rfl,q0 rfl⟩⟩
 ·exact op_catT pins s σ H _ _ v u Q I rx ry ⟨a,b,xs,ys,rfl,rfl,ha,hb,hx,hz,q1 hx,q2 hx⟩
end
theorem whileW {c:TT}{tb:TS}{D:Ends}{σ:St}{H:Hp}(Pv:Nat->St->Hp->Prop)(h0:∃m,Pv m σ H)
  (hs:∀m σ H,Pv m σ H->c σ H fun b H1=>if b=true then ∃N:St->Hp->Prop,(∀σ' H',N σ' H'->∃m',m'<m/\Pv m' σ' H')/\tb {D with nx:=N,ct:=N,bk:=D.nx} σ H1 else D.nx σ H1):tWhile c tb D σ H:=⟨Pv,h0,hs⟩
section
variable {K:PySem.W.Frag} {H:Hp} {Q:VK}
theorem rCatT2.of {a b:Addr}{xs ys:List V}(ha:SqT K H a xs)(hb:SqT K H b ys)(hz:xs.length+ys.length<=sizeLine)(h:∀p H',Same H H'->SqT K H' p (xs++ys)->Q (.ref p) H'):rCatT2 K (.ref a) (.ref b) H Q:=by
 refine⟨a,b,xs,ys,rfl,rfl,ha,hb,hz,fun e=>?_,fun _ e=>?_,fun _ _ p hp=>h p _ (Same.new hp) (SqT.of upd_same)⟩
 ·subst e;exact h b H (Same.refl _) (by simpa using hb)
 ·subst e;exact h a H (Same.refl _) (by simpa using ha)
end
theorem r_slT {K:PySem.W.Frag}{H:Hp}{Q:VK}{x:V}{lo hi:Option Int}:rSlT K x lo hi H Q=∃a xs,x=.ref a/\SqT K H a xs /\
 ¬ (HT.sIx xs.length 0 lo=0/\HT.sIx xs.length xs.length hi=xs.length)/\∀p,H p=none->Q (.ref p) (upd H p (.tup (cutV xs lo hi))):=rfl
inductive TyW (K:PySem.W.Frag)(H:Hp):V->Value->Prop where
 | non:TyW K H .non (.type "NoneType")
 | bl (x:Bool):TyW K H (.bl x) (.type "bool")
 | int (i:Int):TyW K H (.int i) (.type "int")
 | str (x:Str):TyW K H (.str x) (.type "str")
 | lst {a:Addr} {xs:List V} (e:SqL K H a xs):TyW K H (.ref a) (.type "list")
 | tup {a:Addr} {xs:List V} (e:SqT K H a xs):TyW K H (.ref a) (.type "tuple")
 | exc {a C:Addr} (e:H a=some (excO a C)) (c:ExcCls K C):TyW K H (.ref a) (.ref C)
theorem call_isinstW {X:Cx}:CallR X (.builtin "isinstance") (fun xs H Q=>∃x c cv t b,xs=[x,c]/\TyW X.K H x t/\(∀u,RelV c u->u=cv)/\PySem.W.kitOne X.K t cv=some b/\Q (.bl b) H):=by
 intro pins s σ H xs us Q I r h
 obtain⟨x,c,cv,t,b,rfl,ty,hc,hk,q⟩:=h
 cases ty with
 |non=>exact call_isinst pins s σ H _ us Q I r ⟨_,c,cv,_,b,rfl,.non,hc,hk,q⟩
 |bl y=>exact call_isinst pins s σ H _ us Q I r ⟨_,c,cv,_,b,rfl,.bl y,hc,hk,q⟩
 |int y=>exact call_isinst pins s σ H _ us Q I r ⟨_,c,cv,_,b,rfl,.int y,hc,hk,q⟩
 |str y=>exact call_isinst pins s σ H _ us Q I r ⟨_,c,cv,_,b,rfl,.str y,hc,hk,q⟩
 |exc e hC=>exact call_isinstE pins s σ H _ us Q I r ⟨_,_,c,cv,b,rfl,e,hC,hc,hk,q⟩
 |@lst a xs e=>
  obtain⟨u,w',rfl,rx,rc⟩:=vals2 r
  rw[hc _ rc]
  cases rx
  obtain⟨its,_,pl,_⟩:=I.list e
  obtain⟨o,ho,hcl,_⟩:=pl.isList
  exact PySem.W.kia_one PySem.W.kitx_list I.kIn ⟨o,ho,hcl⟩ hk (fun z=>nomatch z) fun tk=>⟨.bl b,H,I.tok tk,rfl,q⟩
 |@tup a xs e=>
  obtain⟨u,w',rfl,rx,rc⟩:=vals2 r
  rw[hc _ rc]
  cases rx
  obtain⟨its,_,⟨o,ho,hcl,_⟩,_⟩:=I.tuple e
  exact PySem.W.kia_one PySem.W.kitx_tuple I.kIn ⟨o,ho,hcl⟩ hk (fun z=>nomatch z) fun tk=>⟨.bl b,H,I.tok tk,rfl,q⟩
end L2
namespace GW
def placeR (L:Int):List Int->Int
 |[]=>0
 |x::r=>placeR L r*L+x+1
def place (L:Int)(w:List Int):Int:=placeR L w.reverse
def inW (L x:Int):Bool:=decide (0<=x)&&decide (x<L)
def isW (L:Int)(ws:List Int):Bool:=ws.all (inW L)
theorem inW_iff {L x:Int}:inW L x=true↔0<=x/\x<L:=by simp[inW]
theorem isW_iff {L:Int}{ws:List Int}:isW L ws=true ↔ ∀x∈ws,0<=x/\x<L:=by simp[isW,inW_iff]
def many (L:Int):Nat->Int
 |0=>0
 |k+1=>many L k*L+1
end GW
namespace L2
open PySem PySem.Spec PyProof.Rows
section
variable {P:Program} {w:World} {K:PySem.W.Frag} {mg:Str->Option Value} {base:Heap}
theorem Fun.okE {x qual:Str}{st:Stmt}{f:Addr}{fd:FuncData}{N ps:List Str}{k:Nat}{sp:Sp}(F:Fun K x qual st f fd)(S:FnScope N ps (defScope st))(len:∀vs H Q E,sp vs H Q E->vs.length=ps.length)
  (hbody:∀(cdv:Value) (A:Around) (outer:List Env) (s:Shared) (H:Hp) (vs:List V) (Q:VK) (E:XK),Room k (A.deeper (envOfC qual (defScope st) s.heap.objs.size f cdv))->sp vs H Q E ->
   ∃t,PSs (cxOf (CXe P w) P w K mg base N qual (defScope st) f cdv A outer s H E) (defBody st) t/\t {nx:=fun _ H'=>Q .non H',rt:=Q} (start N vs) H):FnOk P w K mg base (CXe P w) (k+1) f fd ps sp:=by
 obtain⟨oc,od,kV,doc,pm,an,cdv,ct,osl,rfl,lk,hcd⟩:=F.ex
 exact fn_of lk hcd S len fun A outer s H vs Q E hr hsp=>hbody cdv A outer s H vs Q E hr hsp
end
section
variable {te ta tb:TE} {A:TA} {D:Ends} {σ:St} {H:Hp} {Q:VK} {K:PySem.W.Frag} {tbd ts:TS}
theorem r_cat {x y:V}:rCat x y H Q=∃l b xs zs,x=.ref l/\y=.ref b/\H l=some (.lst xs)/\H b=some (.lst zs)/\xs.length+zs.length<=sizeLine/\∀p,H p=none->Q (.ref p) (upd H p (.lst (xs++zs))):=rfl
theorem r_raise {C:Addr}{E:XK}:tRaise C E A D σ H=A σ H fun vs H1=>vs.length<=sizeLine/\E (.ref C) none H1:=rfl
theorem r_callE {sp:Sp}{dvs:List V}{E:St->XK}:tCallE sp dvs E A σ H Q=A σ H fun vs H1=>sp (vs++dvs) H1 Q (E σ):=rfl
theorem r_try {Ca:Addr}{i:Nat}{E:St->XK}:tTry K Ca i E tbd ts D σ H=(tbd D σ H/\∀σ' cls H',E σ' cls none H' ->
 ∃C,cls=.ref C/\PySem.W.exmOne K (.ref C) (.ref Ca)=some true/\∀ea,H' ea=none->ts (D.un i) (σ'.set i (some (.ref ea))) (upd H' ea (excO ea C))):=rfl
theorem r_unnx {i:Nat}:(Ends.un D i).nx σ H=D.nx (σ.set i none) H:=rfl
theorem r_unrt {i:Nat}{v:V}:(Ends.un D i).rt v H=D.rt v H:=rfl
end
end L2
namespace L2
open PySem PySem.Spec PyProof.Rows
theorem eqV_int (x y:Int):eqV (.int x) (.int y)=decide (V.int x=V.int y):=by
 by_cases h:x=y
 ·subst h;simp[eqV]
 ·rw[decide_eq_false (fun z=>h (by injection z))];simp[eqV,h]
theorem EqD.ints {K:PySem.W.Frag}{H:Hp}{a c:Addr}{xs ys:List Int}(hq:(SqL K H a (xs.map V.int)/\SqL K H c (ys.map V.int))\/(SqT K H a (xs.map V.int)/\SqT K H c (ys.map V.int)))(n:Nat):EqD K H (n+1) (.ref a) (.ref c) (decide (xs=ys)):=by
 have:=EqD.flat hq (fun x hx=>by obtain⟨_,_,rfl⟩:=mem_mapI hx;rfl) (fun x hx=>by obtain⟨_,_,rfl⟩:=mem_mapI hx;rfl) (fun x hx y hy=>by obtain⟨_,_,rfl⟩:=mem_mapI hx;obtain⟨_,_,rfl⟩:=mem_mapI hy;exact eqV_int _ _) n
 have e:decide (xs.map V.int=ys.map V.int)=decide (xs=ys):=by
  rw[Bool.eq_iff_iff]
  simp only[decide_eq_true_eq]
  constructor
  ·intro h
   exact (List.map_inj_right (fun a b h=>by injection h)).mp h
  ·intro h;rw[h]
 rw[e]at this
 exact this
end L2
namespace L2
open PySem PySem.Spec PyProof.Rows
def rIsB:R2:=fun x y H Q=>∃b c,x=.bl b/\y=.bl c/\Q (.bl (decide (b=c))) H
def rNotB:R2:=fun x y H Q=>∃b c,x=.bl b/\y=.bl c/\Q (.bl (!decide (b=c))) H
theorem r_isB {x y:V}{H:Hp}{Q:VK}:rIsB x y H Q=∃b c,x=.bl b/\y=.bl c/\Q (.bl (decide (b=c))) H:=rfl
theorem r_notB {x y:V}{H:Hp}{Q:VK}:rNotB x y H Q=∃b c,x=.bl b/\y=.bl c/\Q (.bl (!decide (b=c))) H:=rfl
theorem op_isB {X:Cx}:OpR X (compareOp .Is) rIsB:=by
 intro pins s σ H x y v u Q I rx ry h
 obtain⟨b,c,rfl,rfl,q⟩:=h
 cases rx
 cases ry
 refine wpAny_is_plain (by rfl) (fin_bl I q ?_)
 cases b<;>cases c<;>rfl
theorem op_notB {X:Cx}:OpR X (compareOp .IsNot) rNotB:=by
 intro pins s σ H x y v u Q I rx ry h
 obtain⟨b,c,rfl,rfl,q⟩:=h
 cases rx
 cases ry
 refine wpAny_isNot_plain (by rfl) (fin_bl I q ?_)
 cases b<;>cases c<;>rfl
theorem call_isinstK {X:Cx}{K:PySem.W.Frag}(hK:X.K=K):CallR X (.builtin "isinstance") (fun xs H Q=>∃x c cv t b,xs=[x,c]/\TyW K H x t/\(∀u,RelV c u->u=cv)/\PySem.W.kitOne K t cv=some b/\Q (.bl b) H):=by
 subst hK
 exact call_isinstW
section
variable {X:Cx} {K:PySem.W.Frag}
theorem ix_tupK (h:X.K=K):IxR X (rIxT K):=by subst h;exact ix_tup
theorem ix_listK (h:X.K=K):IxR X (rIxL K):=by subst h;exact ix_list
end
end L2
namespace GW
def stepW (ways:List (List Int))(r x:Int):Int:=(ways.getD r.toNat []).getD x.toNat 0
def walkW (ways:List (List Int))(ws:List Int):Int:=ws.foldl (stepW ways) 0
structure Wf (L:Int)(marks:List Int)(ways:List (List Int)):Prop where
 l1:1<=L
 l6:L<=6
 n1:1<=marks.length
 n40:marks.length<=40
 len:ways.length=marks.length
 rows:∀row∈ways,(row.length:Int)=L/\∀x∈row,0<=x/\x<marks.length
 mks:∀m∈marks,0<=m/\m<=1000000000
theorem stepW_of {ways:List (List Int)}{r x:Int}{row:List Int}{g:Int}(h1:ways[r.toNat]?=some row)(h2:row[x.toNat]?=some g):stepW ways r x=g:=by
 unfold stepW
 have e:ways.getD r.toNat []=row:=by rw[List.getD_eq_getElem?_getD,h1];rfl
 rw[e,List.getD_eq_getElem?_getD,h2];rfl
theorem Wf.row {L:Int}{marks:List Int}{ways:List (List Int)}(wf:Wf L marks ways){r:Int}(h0:0<=r)(h1:r<marks.length):∃row,ways[r.toNat]?=some row/\row∈ways/\(row.length:Int)=L:=by
 have hlt:r.toNat<ways.length:=by rw[wf.len];omega
 exact⟨ways[r.toNat],by simp[hlt],List.getElem_mem hlt,(wf.rows _ (List.getElem_mem hlt)).1⟩
theorem Wf.step {L:Int}{marks:List Int}{ways:List (List Int)}(wf:Wf L marks ways){r x:Int}(h0:0<=r)(h1:r<marks.length)(x0:0<=x)(x1:x<L):∃row g,ways[r.toNat]?=some row/\row[x.toNat]?=some g/\stepW ways r x=g/\0<=g/\g<marks.length:=by
 obtain⟨row,hr,hm,hl⟩:=wf.row h0 h1
 have hlt:x.toNat<row.length:=by omega
 have hg:row[x.toNat]?=some row[x.toNat]:=by simp[hlt]
 exact⟨row,row[x.toNat],hr,hg,stepW_of hr hg,(wf.rows row hm).2 _ (List.getElem_mem hlt)⟩
theorem walkW_snoc (ways:List (List Int))(ws:List Int)(x:Int):walkW ways (ws++[x])=stepW ways (walkW ways ws) x:=by
 unfold walkW
 rw[List.foldl_append];rfl
end GW
namespace L2
open PySem PySem.Spec PyProof.Rows GW
def Rows (K:PySem.W.Frag)(H:Hp)(w:Addr)(ways:List (List Int)):Prop:=∃ts:List Addr,SqT K H w (ts.map V.ref)/\ts.length=ways.length/\∀(i:Nat) (t:Addr) (row:List Int),ts[i]?=some t->ways[i]?=some row->SqT K H t (row.map V.int)
def House (K:PySem.W.Frag)(H:Hp)(h:Addr)(L:Int)(marks:List Int)(ways:List (List Int)):Prop:=∃m w:Addr,SqT K H h [.int L,.ref m,.ref w]/\SqT K H m (marks.map V.int)/\Rows K H w ways
theorem Rows.mono {K:PySem.W.Frag}{H H':Hp}{w:Addr}{ways:List (List Int)}(h:Rows K H w ways)(e:Same H H'):Rows K H' w ways:=by
 obtain⟨ts,h1,h2,h3⟩:=h
 exact⟨ts,e.seqT h1,h2,fun i t r a b=>e.seqT (h3 i t r a b)⟩
theorem House.mono {K:PySem.W.Frag}{H H':Hp}{h:Addr}{L:Int}{marks:List Int}{ways:List (List Int)}(x:House K H h L marks ways)(e:Same H H'):House K H' h L marks ways:=by
 obtain⟨m,w,h1,h2,h3⟩:=x
 exact⟨m,w,e.seqT h1,e.seqT h2,h3.mono e⟩
theorem Rows.at {K:PySem.W.Frag}{H:Hp}{w:Addr}{ways:List (List Int)}(h:Rows K H w ways){i:Nat}{row:List Int}(hr:ways[i]?=some row):∃xs t,SqT K H w xs/\atI xs (i:Int)=some (V.ref t)/\SqT K H t (row.map V.int):=by
 obtain⟨ts,h1,h2,h3⟩:=h
 have hlt:i<ts.length:=by rw[h2];exact (List.getElem?_eq_some_iff.mp hr).1
 have ht:ts[i]?=some ts[i]:=by simp[hlt]
 exact⟨_,ts[i],h1,atI_nat (by rw[List.getElem?_map,ht];rfl),h3 i _ _ ht hr⟩
theorem Rows.atZ {K:PySem.W.Frag}{H:Hp}{w:Addr}{ways:List (List Int)}(h:Rows K H w ways){r:Int}{row:List Int}(h0:0<=r)(hr:ways[r.toNat]?=some row):∃xs t,SqT K H w xs/\atI xs r=some (V.ref t)/\SqT K H t (row.map V.int):=by
 obtain⟨xs,t,a,b,c⟩:=h.at hr
 exact⟨xs,t,a,by rw[<-b];congr 1;omega,c⟩
theorem atI_int {ns:List Int}{i:Int}{v:Int}(h0:0<=i)(h:ns[i.toNat]?=some v):atI (ns.map V.int) i=some (V.int v):=atI_of h0 (by rw[List.getElem?_map,h];rfl)
theorem seqT_off {K:PySem.W.Frag}{H:Hp}{p t:Addr}{xs ys zs:List V}(hp:H p=some (.lst zs))(h:SqT K H t xs):SqT K (upd H p (.lst ys)) t xs:=by
 rcases h with (q|⟨o,q⟩)|q
 ·refine .inl (.inl ?_)
  rw[upd_ne (fun z=>by rw[z,hp]at q;cases q)];exact q
 ·refine .inl (.inr ⟨o,?_⟩)
  rw[upd_ne (fun z=>by rw[z,hp]at q;cases q)];exact q
 ·exact .inr q
def TupsL (K:PySem.W.Frag)(H:Hp)(l:Addr)(ws:List (List Int)):Prop:=∃ts:List Addr,H l=some (.lst (ts.map V.ref))/\ts.length=ws.length/\∀(i:Nat) (t:Addr) (w:List Int),ts[i]?=some t->ws[i]?=some w->SqT K H t (w.map V.int)
theorem TupsL.mono {K:PySem.W.Frag}{H H':Hp}{l:Addr}{ws:List (List Int)}(h:TupsL K H l ws)(e:Same H H'):TupsL K H' l ws:=by
 obtain⟨ts,h1,h2,h3⟩:=h
 exact⟨ts,e _ _ h1,h2,fun i t w a b=>e.seqT (h3 i t w a b)⟩
theorem TupsL.off {K:PySem.W.Frag}{H:Hp}{l p:Addr}{ws:List (List Int)}{zs ys:List V}(h:TupsL K H l ws)(hp:H p=some (.lst zs))(ne:l≠p):TupsL K (upd H p (.lst ys)) l ws:=by
 obtain⟨ts,h1,h2,h3⟩:=h
 exact⟨ts,by rw[upd_ne ne];exact h1,h2,fun i t w a b=>seqT_off hp (h3 i t w a b)⟩
theorem TupsL.push {K:PySem.W.Frag}{H:Hp}{l t:Addr}{ws:List (List Int)}{w:List Int}(h:TupsL K H l ws)(hw:SqT K H t (w.map V.int)):∃xs,H l=some (.lst xs)/\xs.length=ws.length/\TupsL K (upd H l (.lst (xs++[V.ref t]))) l (ws++[w]):=by
 obtain⟨ts,h1,h2,h3⟩:=h
 refine⟨ts.map V.ref,h1,by rw[List.length_map,h2],ts++[t],by rw[upd_same,List.map_append];rfl,by simp[h2],fun i t' w' a b=>seqT_off h1 ?_⟩
 by_cases hi:i<ts.length
 ·rw[List.getElem?_append_left hi]at a
  rw[List.getElem?_append_left (by omega)]at b
  exact h3 i t' w' a b
 ·have ht:=(List.getElem?_eq_some_iff.mp a).1
  rw[List.length_append,List.length_singleton]at ht
  have e:i=ts.length:=by omega
  subst e
  rw[List.getElem?_append_right (Nat.le_refl _),Nat.sub_self]at a
  rw[List.getElem?_append_right (by omega),h2,Nat.sub_self]at b
  simp at a b
  subst a b
  exact hw
theorem TupsL.nil {K:PySem.W.Frag}{H:Hp}{l:Addr}(h:H l=some (.lst [])):TupsL K H l []:=⟨[],h,rfl,fun i t w a _=>by simp at a⟩
theorem TupsL.rows {K:PySem.W.Frag}{H:Hp}{l:Addr}{ws:List (List Int)}(h:TupsL K H l ws):∃xs,H l=some (.lst xs)/\∀t,H t=none->Rows K (upd H t (.tup xs)) t ws:=by
 obtain⟨ts,h1,h2,h3⟩:=h
 exact⟨_,h1,fun t ht=>⟨ts,SqT.of upd_same,h2,fun i t' w a b=>(Same.new ht).seqT (h3 i t' w a b)⟩⟩
end L2
namespace PySem
open Sem (wp)
open AutoSeq1 (wpAny_loadPart')
section
variable {prog:Program} {w:World} {A:Around} {E:Value->Shared->Prop} {s:Shared}
theorem newT {l:List Value}{Q:Value->Shared->Prop}(hl:l.length<=sizeLine)(h:∀h',s.heap.push {cls:=.type "tuple",data:=.seq l.toArray}=h'->Q (.ref s.heap.objs.size) {s with heap:=h' }):wpAny (model prog w) A (newTuple l) Q E s:=wpAny_newTuple (h _ rfl)
theorem nextOf_tup {it l:Addr}{i:Nat}{items:Array Value}{Q:Value->Shared->Prop}(hit:s.heap.IsTupleIter it l i)(hl:s.heap.IsTuple l items)
  (hQ:∀x h',items[i]?=some x->h'.IsTupleIter it l (i+1)->Heap.SameBut it s.heap h'->Q x {s with heap:=h' })
  (hE:items[i]?=none->A.handled=none/\∀h' e,Heap.ExtBut it s.heap h'->(∃o,h'.get? e=some o/\o.cls=.type "StopIteration")->E (.ref e) {s with heap:=h' }):wpAny (model prog w) A (Builtin.SmallTypes.nextOf (.ref it)) Q E s:=by
 obtain⟨⟨c,dc,da,sl⟩,ho,hc,hd⟩:=id hit
 obtain⟨⟨c',dc',da',sl'⟩,hol,hc',nl,hdl⟩:=hl
 replace hc:c=_:=hc;replace hd:da=_:=hd;replace hc':c'=_:=hc';replace hdl:da'=_:=hdl
 subst hc hd hc' hdl
 have e1:=F.slot_tuple_iterator_next
 unfold Builtin.SmallTypes.nextOf
 refine wpAny_bind (wpAny_callSpecial?_slot hit.typeIs e1 (wpAny_call_entry e1 hit.typeIs F.entry_tuple_iterator_next ?_ (F.args_tuple_iterator_next_1 _)))
 wp_walk
 cases hx:items[i]? with
 |some x=>
  simp only[Int.toNat_natCast,hx]
  wp_walk
  exact⟨x,rfl,wpAny_pure (hQ x _ hx ⟨_,Heap.get?_update_self _ ho (by simp[Obj.mapFields,Obj.isFreed]),rfl,by simp[Obj.mapFields,rawInt]⟩ (Heap.SameBut.update ..))⟩
 |none=>
  obtain⟨hh,hE⟩:=hE hx
  have h1:A.in1.handled=none:=hh
  simp only[Int.toNat_natCast,hx]
  wp_walk
  unfold raiseNew
  wp_walk
  exact hE _ _ (((Heap.SameBut.update ..).extBut.push _).push _) ⟨_,Heap.get?_push_size _ rfl,rfl⟩
theorem Draws.tuple (hh:A.handled=none)(it l:Addr)(hne:l≠it)(items:Array Value):
  Draws prog w A it [it,l] items.size (fun i v=>items[i]?=some v) (fun i h=>h.IsTupleIter it l i/\h.IsTuple l items) where
 live:=fun _ _ st=>let ⟨o,e,_⟩:=st.1;⟨o,e⟩
 frame:=fun _ _ _ st k=>⟨st.1.at fun o e=>k it (by simp) o e,let ⟨o,e,r⟩:=st.2;⟨o,k l (by simp) o e,r⟩⟩
 item:=fun i t Q E hi st q=>nextOf_tup st.1 st.2 (fun x h' e1 e2 e3=>q x h' t.toks e1 ⟨e2,st.2.extBut e3.extBut hne⟩ e3) fun z=>by rw[Array.getElem?_eq_none_iff]at z;omega
 done:=fun t Q E st q=>nextOf_tup st.1 st.2 (fun x h' e1=>by have:=(Array.getElem?_eq_some_iff.mp e1).1;omega) fun _=>⟨hh,q⟩
theorem call_enumerate_tuple {l:Addr}{items:Array Value}{Q:Value->Shared->Prop}(hL:s.heap.IsTuple l items)
  (h:∀h',IsEnum h' (s.heap.objs.size+1) s.heap.objs.size 0 .none->h'.IsTupleIter s.heap.objs.size l 0->h'.objs.size=s.heap.objs.size+2->(∀b o,s.heap.get? b=some o->h'.get? b=some o)->Q (.ref (s.heap.objs.size+1)) {s with heap:=h' }):
  wpAny (model prog w) A (call (.type "enumerate") [.ref l]) Q E s:=by
 have M:Meets (Builtin.«enumerate.__new__» ⟨[.type "enumerate",.ref l],[]⟩) fun _ R t=>t.heap.IsTuple l items/\∀h',IsEnum h' (t.heap.objs.size+1) t.heap.objs.size 0 .none->h'.IsTupleIter t.heap.objs.size l 0->h'.objs.size=t.heap.objs.size+2->(∀b o,t.heap.get? b=some o->h'.get? b=some o)->R (.ok (.ret (.ref (t.heap.objs.size+1)))) {t with heap:=h' }:=.of_wp fun prog w A R t ⟨hl,q⟩=>by
  have hsub:=sub_enumerate
  obtain⟨hp,g,d,tk,os⟩:=t
  obtain⟨⟨c,dc,da,sl⟩,e1,hc,n,hd⟩:=id hl
  have fin:∀f,f=Fin.done (.ret (.ref (hp.push {cls:=.type "tuple_iterator",data:=.fields #[.ref l,.int 0 0]}).objs.size))->∃x,f=.done (.ret x)/\R (.ok (.ret x)) ⟨(hp.push {cls:=.type "tuple_iterator",data:=.fields #[.ref l,.int 0 0]}).push {cls:=.type "enumerate",data:=.fields #[.none,.bool false,.ref hp.objs.size,rawInt 0,.none,.none]},g,d,tk,os⟩:=fun f hf=>by
   have z:=Heap.size_push hp {cls:=.type "tuple_iterator",data:=.fields #[.ref l,.int 0 0]}
   rw[z]at hf
   have y:=Heap.get?_push_size (hp.push {cls:=.type "tuple_iterator",data:=.fields #[.ref l,.int 0 0]}) (o:={cls:=.type "enumerate",data:=.fields #[.none,.bool false,.ref hp.objs.size,rawInt 0,.none,.none]}) rfl
   rw[z]at y
   exact⟨_,hf,q _ y ⟨_,Heap.get?_push_of_some _ (Heap.get?_push_size _ rfl),rfl,rfl⟩ (by rw[Heap.size_push,z]) fun b o x=>Heap.get?_push_of_some _ (Heap.get?_push_of_some _ x)⟩
  wp_walk using AutoSeq1.wpAny_loadPart' e1
  refine wpAny_stack_any fun st=>wpAny_pure ?_
  split
  ·rename_i c _ _ _ _ _
   cases (c==Value.type "enumerate")<;>(wp_walk using AutoSeq1.wpAny_loadPart' e1,wpAny_pyIter_tuple hl;exact fin _ rfl)
  ·wp_walk using AutoSeq1.wpAny_loadPart' e1,wpAny_pyIter_tuple hl
   exact fin _ rfl
 exact callType_new F.called_enumerate (by decide) (F.typeCall_enumerate_1 _) (F.newCall_enumerate_1 _) (fun obj=>F.args_object_init_2 obj _) F.entry_enumerate_new M ⟨hL,fun h' a b c d=>⟨⟨_,a,rfl⟩,h h' a b c d⟩⟩
end
end PySem
namespace L2
open PySem PySem.Spec PyProof.Rows
section
variable {X:Cx} {pins:List (Addr×Obj)} {σ:St} {H:Hp} {s:Shared}
theorem Inv.un2 {h':Heap}{e it:Addr}(I:Inv X pins σ H s)(k:∀b o,b≠e->b≠it->s.heap.get? b=some o->h'.get? b=some o)(f1:FpOk X pins H e)(f2:FpOk X pins H it):Un (frs X.stack) [e,it] H H s.heap h'/\HOk X.prog X.w H h':=by
 have ne:∀b u,H b=some u->b≠e/\b≠it:=fun b u q=>⟨(fun z=>by rw[z,f1.1]at q;cases q),(fun z=>by rw[z,f2.1]at q;cases q)⟩
 have nch:∀{b:Addr},b ∉ [e,it]->b≠e/\b≠it:=fun hb=>by simpa using hb
 refine⟨⟨fun b o q _ _ hb=>k b o (nch hb).1 (nch hb).2 q,fun b o q _ _ hb=>⟨o.slots,k b o (nch hb).1 (nch hb).2 q⟩,fun _ _ _ n _=>n,fun b o q hb=>⟨o,k b o (nch hb).1 (nch hb).2 q⟩,fun _ _ q=>q,fun _ _ _ q=>q,fun b ps q=>⟨#[],by rw[q];simp⟩⟩,fun b u q=>?_⟩
 refine (I.hok b u q).stay (fun c v hc qv=>?_) (fun _ q=>q) fun _ _ q=>q
 have hne:c≠e/\c≠it:=by
  rcases hc with rfl|hc
  ·exact ne _ _ q
  ·exact ne _ _ hc
 exact k c v hne.1 hne.2 qv
theorem FpOk.ch {b:Addr}(f:FpOk X pins H b):(b∈X.ex\/X.s₀.heap.objs.size<=b)/\b≠X.env.locals/\(∀x c,X.env.cells.lookup x=some c->c≠b)/\∀p∈X.pn++pins,p.1≠b:=⟨f.2.2.2.1,f.2.1,f.2.2.2.2.1,f.2.2.2.2.2⟩
end
def Itn (K:PySem.W.Frag)(a:Addr)(xs:List V):It:=⟨fun i H=>i<xs.length/\SqT K H a xs,fun i H x H'=>∃t v,H t=none/\xs[i]?=some v/\x=.ref t/\H'=upd H t (.tup [.int i,v]),fun i H=>i=xs.length/\SqT K H a xs⟩
theorem turn_enumT {P:Program}{w:World}{K:PySem.W.Frag}{elts:List Expr}{x1}{tpos:Pos}(a e it:Addr)(hei:e≠it)(hai:a≠it)(hae:a≠e)(xs:List V):Turn P w K (.Tuple elts x1 tpos) (Itn K a xs) [e,it] e (fun i h=>∃old,IsEnum h e it (i:Nat) old/\h.IsTupleIter it a i) where
 mem:=by simp
 obj:=fun i h st b hb=>by
  obtain⟨old,h1,o,h2,c,d⟩:=st
  rcases List.mem_cons.mp hb with rfl|hb
  ·exact⟨_,h1,fun v z=>by cases z⟩
  ·rw[List.mem_singleton.mp hb]
   exact⟨o,h2,fun v z=>by rw[d]at z;cases z⟩
 keep:=fun i h h' st k=>by
  obtain⟨old,h1,h2⟩:=st
  exact⟨old,k e (by simp) _ h1,h2.at fun o q=>k it (by simp) o q⟩
 item:=by
  intro X hP hw hK hc i pins s σ H E I hf st hg
  subst hP hw hK
  obtain⟨hi,hq⟩:=hg
  obtain⟨old,he,hit⟩:=st
  obtain⟨its,rv,p,hz⟩:=I.tuple hq
  have hl:=rv.length
  have pt:s.heap.IsTuple a its.toArray:=p
  have f1:=hf e (by simp)
  have f2:=hf it (by simp)
  have Dw:=Draws.tuple (prog:=X.prog) (w:=X.w) (A:=X.A.in1) (I.ok.hd hc) it a hai its.toArray
  refine wpAny_pyNext_enum_itemD Dw he ⟨hit,pt⟩ (by simp;omega) hei (by simp[hei,Ne.symm hae]) fun u h' tk hu heo hst' hget hsz hk=>?_
  have hT:s.heap.objs.size≠e:=Nat.ne_of_gt (Heap.lt_size he)
  refine⟨_,rfl,wpAny_letOwnedTupleGo_enum heo fun h2 he2 hs2=>?_⟩
  have hk2:∀b o,b≠e->b≠it->s.heap.get? b=some o->h2.get? b=some o:=fun b o h1 h3 q=>(hs2.2 b h1).trans (hk b o h1 h3 q)
  obtain⟨un,hok⟩:=I.un2 hk2 f1 f2
  have hn:H s.heap.objs.size=none:=I.hok.fresh (Nat.le_refl _)
  have hv:xs[i]?=some xs[i]:=by simp[hi]
  obtain⟨u',hu',ru⟩:=rv.get hv
  have eu:u'=u:=by
   have hu2:its[i]?=some u:=by simpa using hu
   rw[hu']at hu2
   exact Option.some.inj hu2
  subst eu
  have hget2:h2.get? s.heap.objs.size=some {cls:=.type "tuple",data:=.seq #[.int i tk,u']}:=(hs2.2 _ hT).trans hget
  have new:ObjOk X.prog X.w (upd H s.heap.objs.size (.tup [.int i,xs[i]])) h2 s.heap.objs.size (.tup [.int i,xs[i]]):=⟨by have:=line1000;simp;omega,[.int i tk,u'],.cons ⟨tk,rfl⟩ (.cons ru .nil),_,hget2,rfl,_,rfl⟩
  refine⟨.ref s.heap.objs.size,upd H s.heap.objs.size (.tup [.int i,xs[i]]),I.call' (s':={s with heap:=h2,toks:=tk+1}) (ch:=[e,it]) rfl (un.track (Nat.le_refl _) hn) (hok.track hn new) I.bare (fun b hb=>?_),rfl,⟨_,_,hn,hv,rfl,rfl⟩,?_,fun b hb=>?_⟩
  ·exact (hf b hb).ch
  ·refine⟨u',by simpa using he2,?_⟩
   exact hst'.1.at fun o q=>(hs2.2 it (Ne.symm hei)).trans q
  ·have hb':=hf b hb
   have:∃o,s.heap.get? b=some o:=by
    rcases List.mem_cons.mp hb with rfl|hb
    ·exact⟨_,he⟩
    ·rw[List.mem_singleton.mp hb]
     obtain⟨o,ho,_⟩:=hit
     exact⟨o,ho⟩
   obtain⟨o,ho⟩:=this
   rw[upd_ne (Nat.ne_of_lt (Heap.lt_size ho))]
   exact hb'.1
 done:=by
  intro X hP hw hK hc i pins s σ H E I hf st hg
  subst hP hw hK
  obtain⟨hi,hq⟩:=hg
  subst hi
  obtain⟨old,he,hit⟩:=st
  obtain⟨its,rv,p,hz⟩:=I.tuple hq
  have hl:=rv.length
  have pt:s.heap.IsTuple a its.toArray:=p
  have Dw:=Draws.tuple (prog:=X.prog) (w:=X.w) (A:=X.A.in1) (I.ok.hd hc) it a hai its.toArray
  obtain⟨f0,f1,f2,f3,f4,f5⟩:=hf it (by simp)
  refine wpAny_pyNext_enum_endD Dw he ⟨by rw[List.size_toArray,<-hl];exact hit,pt⟩ fun h' eb=>⟨rfl,I.turned (t':=s.toks) (fun b o hb e=>eb b o hb e) f0 f1 f3 f4 f5⟩
 self:=fun A i s Q E st h=>by
  obtain⟨old,he,_⟩:=st
  exact wpAny_pyIter_enum he h
def iEnumT (K:PySem.W.Frag)(tl:TE):TI:=fun σ H R=>tl σ H fun x H1=>∃a xs,x=.ref a/\SqT K H1 a xs/\R (Itn K a xs) H1
theorem r_iEnumT {K:PySem.W.Frag}{te:TE}{σ:St}{H:Hp}{Z:It->Hp->Prop}:iEnumT K te σ H Z=te σ H fun x H1=>∃a xs,x=.ref a/\SqT K H1 a xs/\Z (Itn K a xs) H1:=rfl
theorem r_gTup {K:PySem.W.Frag}{n:Nat}{t:TGs}{v:V}{σ:St}{H:Hp}{N:St->Hp->Prop}:gTup K n t v σ H N=∃a xs,v=.ref a/\SqT K H a xs/\xs.length=n/\t xs σ H N:=rfl
theorem r_gCons {t:TG}{u:TGs}{vs:List V}{σ:St}{H:Hp}{N:St->Hp->Prop}:gCons t u vs σ H N=∃v r,vs=v::r/\t v σ H fun σ' H'=>u r σ' H' N:=rfl
theorem r_gNil {vs:List V}{σ:St}{H:Hp}{N:St->Hp->Prop}:gNil vs σ H N=(vs=[]/\N σ H):=rfl
theorem pi_enumT {X:Cx}{elts:List Expr}{x1}{tpos:Pos}{e:Expr}{te:TE}{p pos:Pos}(hg:Gl X "enumerate")(hm:X.mg "enumerate"=none)(he:PE X e te)(hs:starEach [e] X.env=[(false,eval e X.env)]:=by rfl):PI X (.Tuple elts x1 tpos) (.Call (.Name "enumerate" p) [e] [] pos) (iEnumT X.K te):=by
 intro pins s σ H R I h
 refine Call_ (ld_blt I hg hm boot_enumerate (PyProof.Rows.callWith_type1 (thn (pa_cons he pa_nil hs pos pins s σ H (fun vs H1=>∃a xs,vs=[.ref a]/\SqT X.K H1 a xs/\R (Itn X.K a xs) H1) I ?_) fun us s1 ⟨vs,H1,I1,r1,q1⟩=>?_) hs rfl))
 ·show te σ H _
  have:(fun x H1=>∃a xs,x=V.ref a/\SqT X.K H1 a xs/\R (Itn X.K a xs) H1)=(fun x H1=>tNil σ H1 fun xs H2=>∃a ys,x::xs=[V.ref a]/\SqT X.K H2 a ys/\R (Itn X.K a ys) H2):=by
   funext x H1
   simp[tNil]
  rw[<-this]
  exact h
 ·obtain⟨a,xs,rfl,hq,q⟩:=q1
  cases r1 with
  |cons r rr=>
   cases rr
   cases r
   obtain⟨its,rv,p,hz⟩:=I1.tuple hq
   have pt:s1.heap.IsTuple a its.toArray:=p
   obtain⟨oa,hoa,_⟩:=id pt
   have ha:=Heap.lt_size hoa
   refine call_enumerate_tuple pt fun h' he' hit' hsz hk=>?_
   refine wpAny_pyIter_enum (s:={s1 with heap:=h' }) he' ?_
   have I2:Inv X pins σ H1 {s1 with heap:=h' }:=I1.kept (t':=s1.toks) hk
   refine⟨s1.heap.objs.size+1,[s1.heap.objs.size+1,s1.heap.objs.size],_,_,H1,rfl,I2,turn_enumT a (s1.heap.objs.size+1) s1.heap.objs.size (Nat.succ_ne_self _) (Nat.ne_of_lt ha) (Nat.ne_of_lt (Nat.lt_succ_of_lt ha)) xs,⟨_,he',hit'⟩,fun b hb=>?_,q⟩
   have hle:s1.heap.objs.size<=b:=by
    rcases List.mem_cons.mp hb with rfl|hb
    ·omega
    ·rw[List.mem_singleton.mp hb];exact Nat.le_refl _
   exact I1.fpOk hle (I1.hok.fresh hle)
theorem forN {K:PySem.W.Frag}{a:Addr}{xs:List V}{g:TG}{tb:TS}{D:Ends}{σ:St}{H:Hp}(Pv:Nat->St->Hp->Prop)(h0:Pv 0 σ H)(hl:∀i σ H,i<=xs.length->Pv i σ H->SqT K H a xs)
  (hs:∀i v σ H t,xs[i]?=some v->Pv i σ H->H t=none->g (.ref t) σ (upd H t (.tup [.int i,v])) fun σ2 H2=>tb {D with nx:=Pv (i+1),ct:=Pv (i+1),bk:=D.nx} σ2 H2) (hd:∀σ H,Pv xs.length σ H->D.nx σ H):ForW (Itn K a xs) g tb D σ H:=by
 refine⟨fun i m σ H=>m=xs.length-i/\i<=xs.length/\Pv i σ H,⟨xs.length,by simp,Nat.zero_le _,h0⟩,?_⟩
 rintro i m σ H ⟨rfl,hi,p⟩
 by_cases hlt:i<xs.length
 ·refine .inr ⟨⟨hlt,hl i σ H hi p⟩,Pv (i+1),fun σ' H' p'=>⟨xs.length-(i+1),by omega,rfl,hlt,p'⟩,fun x H' y=>?_⟩
  obtain⟨t,v,hn,hv,rfl,rfl⟩:=y
  exact hs i v σ H t hv p hn
 ·have e:i=xs.length:=by omega
  subst e
  exact .inl ⟨⟨rfl,hl _ σ H hi p⟩,hd σ H p⟩
section
variable {td ty tv tx:TE} {D:Ends} {σ:St} {H:Hp} {Q:VK}
theorem r_dget:tDGet td ty σ H Q=td σ H fun x H1=>ty σ H1 fun y H2=>∃a v,x=.ref a/\DGet H2 a y (some v)/\Q v H2:=rfl
theorem r_dput:sDPut td ty tv D σ H=tv σ H fun v H1=>td σ H1 fun x H2=>ty σ H2 fun y H3=>∃a H4,x=.ref a/\DPut H3 a y v H4/\D.nx σ H4:=rfl
theorem r_dget1:tDGet1 td ty σ H Q=td σ H fun x H1=>∃a,x=.ref a/\IsD H1 a/\ty σ H1 fun y H2=>∃o,DGet H2 a y o/\Q (o.getD .non) H2:=rfl
end
end L2
namespace GW
def addRow (w:List Int):List (Int×List Int)->Nat->List Int->List (Int×List Int)
 |ents,_,[]=>ents
 |ents,x,g::r=>addRow w (if g∈ents.map (·.1) then ents else ents++[(g,w++[(x:Int)])]) (x+1) r
def bfs (ways:List (List Int)):Nat->List (Int×List Int)->Nat->List (Int×List Int)
 |0,ents,_=>ents
 |f+1,ents,i=>match ents[i]? with
  |none=>ents
  |some e=>bfs ways f (addRow e.2 ents 0 (ways.getD e.1.toNat [])) (i+1)
def wordsIn (ways:List (List Int)):List (Int×List Int):=bfs ways (ways.length+1) [(0,[])] 0
theorem nodup_len:∀(n:Nat) {l:List Int},l.Nodup->(∀x∈l,0<=x/\x<(n:Int))->l.length<=n
 |0,l,_,h=>by
  cases l with
  |nil=>simp
  |cons x r=>have:=h x List.mem_cons_self;omega
 |n+1,l,hn,h=>by
  by_cases hm:(n:Int)∈l
  ·have e:=List.length_erase_of_mem hm
   have:=nodup_len n (l:=l.erase (n:Int)) (hn.erase _) (fun x hx=>by
    have h1:=(hn.mem_erase_iff).mp hx
    have h2:=h x h1.2
    have h3:=h1.1
    omega)
   omega
  ·have:=nodup_len n hn (fun x hx=>by
    have h2:=h x hx
    have:x≠n:=fun z=>hm (z ▸ hx)
    omega)
   omega
end GW
namespace L2
open PySem PySem.Spec PyProof.Rows
def ups (n:Nat):List Int:=(List.range n).map fun i:Nat=>(i:Int)
def rNeD (K:PySem.W.Frag)(n:Nat):R2:=fun x y H Q=>∃a c b,x=.ref a/\y=.ref c/\EqD K H n x y b/\Q (.bl (!b)) H
theorem r_neD {K:PySem.W.Frag}{n:Nat}{x y:V}{H:Hp}{Q:VK}:rNeD K n x y H Q=∃a c b,x=.ref a/\y=.ref c/\EqD K H n x y b/\Q (.bl (!b)) H:=rfl
theorem op_neD {X:Cx}(n:Nat)(hu:X.A.units+n<cLine):OpR X (compareOp .NotEq) (rNeD X.K n):=by
 intro pins s σ H x y v u Q I rx ry h
 obtain⟨a,c,b,rfl,rfl,h,q⟩:=h
 cases rx
 cases ry
 cases n with
 |zero=>exact absurd (show false=true from h.1) Bool.false_ne_true
 |succ n=>
  rcases h with ⟨fx,_⟩|⟨a',c',xs,ys,e1,e2,hq,e,he,rfl⟩
  ·exact absurd (show false=true from fx) Bool.false_ne_true
  ·cases e1
   cases e2
   have key:∀(its its2:List Value),Vals xs its->Vals ys its2->∀j (h1:j<its.toArray.size) (h2:j<its2.toArray.size),SeqAt.EqAt X.A.in1 s its.toArray[j] its2.toArray[j] (e j):=fun its its2 r1 r2 j h1 h2=>by
    have l1:=r1.length
    have l2:=r2.length
    rw[List.size_toArray]at h1 h2
    obtain⟨u1,g1,q1⟩:=r1.get (i:=j) (x:=xs[j]'(by omega)) (by simp[show j<xs.length by omega])
    obtain⟨u2,g2,q2⟩:=r2.get (i:=j) (x:=ys[j]'(by omega)) (by simp[show j<ys.length by omega])
    have k1:its.toArray[j]'(by rw[List.size_toArray];exact h1)=u1:=by
     have:=(List.getElem?_eq_some_iff.mp g1).2
     simpa using this
    have k2:its2.toArray[j]'(by rw[List.size_toArray];exact h2)=u2:=by
     have:=(List.getElem?_eq_some_iff.mp g2).2
     simpa using this
    rw[k1,k2]
    exact (EqD.at I n X.A.in1 (by rw[in1_units];omega) q1 q2 (he j _ _ (by simp[show j<xs.length by omega]) (by simp[show j<ys.length by omega]))).1
   have fin:EP X pins σ Q (.bool (!(decide (xs.length=ys.length)&&(List.range (min xs.length ys.length)).all e))) s:=⟨.bl _,H,I,rfl,q⟩
   rcases hq with ⟨h1,h2⟩|⟨h1,h2⟩
   ·obtain⟨its,r1,p1,_⟩:=I.list h1
    obtain⟨its2,r2,p2,_⟩:=I.list h2
    have l1:=r1.length
    have l2:=r2.length
    by_cases hl:xs.length=ys.length
    ·have:=SeqAt.RcNeAt.lists (e:=e) p1.isList p2.isList (by rw[List.size_toArray,List.size_toArray];omega) (by omega) (key its its2 r1 r2)
     rw[List.size_toArray,<-l1]at this
     rw[decide_eq_true hl,Bool.true_and,<-hl,Nat.min_self]at fin
     exact this _ _ _ _ fin
    ·have:=SeqAt.RcNeAt.lists_lengths (A:=X.A) p1.isList p2.isList (by rw[List.size_toArray,List.size_toArray];simp;omega) (by omega)
     rw[decide_eq_false hl,Bool.false_and]at fin
     exact this _ _ _ _ fin
   ·obtain⟨its,r1,p1,_⟩:=I.tuple h1
    obtain⟨its2,r2,p2,_⟩:=I.tuple h2
    have l1:=r1.length
    have l2:=r2.length
    have:=SeqAt.RcNeAt.tuples (e:=e) (show s.heap.IsTuple a its.toArray from p1) (show s.heap.IsTuple c its2.toArray from p2) (by omega) (key its its2 r1 r2)
    rw[List.size_toArray,List.size_toArray,<-l1,<-l2,all_and]at this
    exact this _ _ _ _ fin
end L2
namespace L2
open PySem GW
def mkW (marks:List Int)(r:Int):Int:=marks.getD r.toNat 0
theorem mkW_at {marks:List Int}{r:Int}(h0:0<=r)(h1:r<marks.length):atI (marks.map V.int) r=some (V.int (mkW marks r)):=by
 have hlt:r.toNat<marks.length:=by omega
 refine atI_int h0 ?_
 unfold mkW
 rw[List.getD_eq_getElem?_getD,List.getElem?_eq_getElem hlt];rfl
end L2
namespace L2
open PySem PySem.Spec PyProof.Rows
theorem Vals.ofIx:∀{xs:List V} {us:List Value},us.length=xs.length->(∀(i:Nat) (v:Value),us[i]?=some v->∃x,xs[i]?=some x/\RelV x v)->Vals xs us
 |[],[],_,_=>.nil
 |[],_::_,h,_=>by simp at h
 |_::_,[],h,_=>by simp at h
 |x::xs,u::us,h,k=>by
  refine .cons ?_ (Vals.ofIx (by simpa using h) fun i v hv=>?_)
  ·obtain⟨y,e,r⟩:=k 0 u rfl
   cases e
   exact r
  ·obtain⟨y,e,r⟩:=k (i+1) v (by simpa using hv)
   exact⟨y,by simpa using e,r⟩
end L2
namespace L2
theorem r_in {K:PySem.W.Frag}{neg:Bool}{x y:V}{H:Hp}{Q:VK}:rIn K neg x y H Q=∃p xs,y=.ref p/\(SqL K H p xs\/SqT K H p xs)/\flatV x=true/\xs.all flatV=true/\Q (.bl (if neg then !inV x xs else inV x xs)) H:=rfl
end L2
namespace GW
def cnt (keys:List Int)(j:Nat):Nat:=((List.range j).filter fun r:Nat=>decide ((r:Int)∈keys)).length
end GW
namespace L2
open PySem PySem.Spec PyProof.Rows
theorem r_popAt {x:V}{vs:List V}{H:Hp}{Q:VK}:rPopAt x vs H Q=∃l xs i k y,x=.ref l/\vs=[.int i]/\H l=some (.lst xs) /\ -(2 ^ 63)<=i/\i<2 ^ 63/\seqIndex? i xs.length=some k/\xs[k]?=some y/\Q y (upd H l (.lst (xs.eraseIdx k))):=rfl
def rng (i j:Int):List Int:=(List.range (j-i).toNat).map fun k:Nat=>i+(k:Int)
end L2
namespace PySem
open Sem (wp)
def Heap.DEnt (h:Heap)(d:Addr)(es:Array DictEntry)(ep:Nat):Prop:=∃o,h.get? d=some o/\o.ExactDict/\o.data=.dict es ep
section
variable {prog:Program} {w:World} {A:Around} {E:Value->Shared->Prop} {s:Shared} {d it:Addr} {es:Array DictEntry} {i ep:Nat}
theorem Heap.DEnt.typeIs (h:s.heap.DEnt d es ep):s.TypeIs (.ref d) "dict" := let ⟨o,ho,hc,_⟩:=h;⟨o,ho,hc.1⟩
theorem Heap.DEnt.at {h h':Heap}(x:h.DEnt d es ep)(e:∀o,h.get? d=some o->h'.get? d=some o):h'.DEnt d es ep:=let ⟨o,ho,r⟩:=x;⟨o,e _ ho,r⟩
theorem Heap.DEnt.lt_size {h:Heap}(x:h.DEnt d es ep):d<h.objs.size:=let ⟨_,ho,_⟩:=x;Heap.lt_size ho
theorem pyIter_dent {Q:Value->Shared->Prop}(hd:(d==sysModules)=false)(hm:s.heap.DEnt d es ep)
  (hQ:Q (.ref s.heap.objs.size) {s with heap:=s.heap.push {cls:=.type "dict_keyiterator",data:=.fields #[.ref d,.int 0 0,.int es.size 0,.int ep 0]} }):wpAny (model prog w) A (pyIter (.ref d)) Q E s:=by
 have hT:=hm.typeIs
 obtain⟨o,ho,hc,hdat⟩:=id hm
 refine wpAny_pyIter_slot hT F.slot_dict_iter (wpAny_call_entry F.slot_dict_iter hT F.entry_dict_iter (?_:wpAny _ _ (Builtin.«dict.__iter__» _) _ _ s) (F.args_dict_iter_1 _))
 unfold Builtin.«dict.__iter__»;refine wpAny_bind ?_
 unfold Builtin.Dict.dictSlotNone;refine wpAny_bind (wpAny_notOrdered_dict hT ?_)
 show wpAny _ _ (pure (Value.ref d)) _ _ s;refine wpAny_pure ?_
 show wpAny _ _ (Builtin.Dict.showsAll d >>= _) _ _ s;unfold Builtin.Dict.showsAll
 rw[if_neg (fun z=>by rw[hd]at z;cases z)]
 refine wpAny_bind (wpAny_pure (wpAny_bind (wpAny_dictEntries ho hdat (wpAny_bind (wpAny_dictEpoch ho hdat ?_)))))
 refine wpAny_bind (wpAny_newObj_type (wpAny_pure ⟨_,rfl,"dict_keyiterator",_,⟨_,Heap.get?_push_size _ rfl,rfl⟩,F.slot_dict_keyiterator_next.lookup,?_⟩));simpa [rawInt] using hQ
theorem pyNext_dent_item {Q:Option Value->Shared->Prop}(hit:s.heap.IsKeyIter it d i es.size ep)(hm:s.heap.DEnt d es ep)(hlt:i<es.size)
  (hQ:∀h',h'.IsKeyIter it d (i+1) es.size ep->Heap.SameBut it s.heap h'->Q (some es[i].key) {s with heap:=h' }):wpAny (model prog w) A (pyNext (.ref it)) Q E s:=by
 obtain⟨o,ho,hc,hd⟩:=id hit
 obtain⟨od,hod,hcd,hdd⟩:=id hm
 have hown:Builtin.Dict_items.ownsTuple "dict_keyiterator"=false:=by decide
 unfold pyNext
 refine wpAny_bind (wpAny_attempt (wpAny_callSpecial?_slot (name:=Str.ofString "__next__") hit.typeIs F.slot_dict_keyiterator_next (wpAny_call_entry F.slot_dict_keyiterator_next hit.typeIs F.entry_dict_keyiterator_next ?_ (F.args_dict_keyiterator_next_1 _))))
 refine wpAny_bind (wpAny_pure (wpAny_bind (wpAny_bind ?_)))
 first|refine wpAny_bind (wpAny_typeNameOfWhole_keyiter hit.typeIs (wpAny_pure (wpAny_bind (wpAny_fieldsOf ho hd ?_))))|refine wpAny_bind (wpAny_typeNameOf_keyiter hit.typeIs (wpAny_pure (wpAny_bind (wpAny_fieldsOf ho hd ?_))))
 simp only[hown,Bool.false_eq_true,if_false];show wpAny _ _ (if (Value.ref d==Value.none)=true then _ else _) _ _ s
 rw[if_neg (show ¬ ((Value.ref d==Value.none)=true) from fun z=>Bool.false_ne_true z)]
 refine wpAny_bind (wpAny_pure (wpAny_bind (wpAny_dictEntries hod hdd ?_)))
 rw[if_neg (by simp)];refine wpAny_bind (wpAny_pure (wpAny_bind (wpAny_dictEpoch hod hdd ?_)))
 rw[if_neg (by simp)];refine wpAny_pure ?_
 simp only[show ¬ ((i:Int)<0) from by omega,if_false,Int.toNat_natCast,Array.getElem?_eq_getElem hlt];refine wpAny_bind ?_
 first|refine wpAny_bind (wpAny_typeNameOfWhole_keyiter hit.typeIs (wpAny_pure (wpAny_bind (wpAny_isOneOf_keyiter hit.typeIs ?_))))|refine wpAny_bind (wpAny_typeNameOf_keyiter hit.typeIs (wpAny_pure (wpAny_bind (wpAny_isOneOf_keyiter hit.typeIs ?_))))
 show wpAny _ _ (setField (.ref it) 1 (rawInt ((i:Int)+1)) >>= _) _ _ s;refine wpAny_bind (wpAny_setField ho hd (by simp) ?_)
 have hit':(s.heap.update it (Obj.mapFields (·.setIfInBounds 1 (rawInt ((i:Int)+1))))).IsKeyIter it d (i+1) es.size ep:=⟨_,Heap.get?_update_self _ ho (Obj.isFreed_of_fields (Obj.data_mapFields hd _)),(Obj.cls_mapFields ..).trans hc,by rw[Obj.data_mapFields hd];simp[rawInt]⟩
 refine wpAny_bind (wpAny_holding (wpAny_bind (wpAny_isOneOf_keyiter (s:={s with heap:=s.heap.update it (Obj.mapFields (·.setIfInBounds 1 (rawInt ((i:Int)+1))))}) hit'.typeIs ?_)))
 show wpAny _ _ (pure es[i].key) _ _ _;exact wpAny_pure (wpAny_pure ⟨_,rfl,wpAny_pure (hQ _ hit' (Heap.SameBut.update ..))⟩)
theorem pyNext_dent_end {Q:Option Value->Shared->Prop}(hh:A.handled=none)(hit:s.heap.IsKeyIter it d i es.size ep)(hm:s.heap.DEnt d es ep)(hge:es.size<=i)
  (hQ:∀h',Heap.ExtBut it s.heap h'->Q none {s with heap:=h' }):wpAny (model prog w) A (pyNext (.ref it)) Q E s:=by
 obtain⟨o,ho,hc,hd⟩:=id hit
 obtain⟨od,hod,hcd,hdd⟩:=id hm
 have hown:Builtin.Dict_items.ownsTuple "dict_keyiterator"=false:=by decide
 unfold pyNext
 refine wpAny_bind (wpAny_attempt (wpAny_callSpecial?_slot (name:=Str.ofString "__next__") hit.typeIs F.slot_dict_keyiterator_next (wpAny_call_entry F.slot_dict_keyiterator_next hit.typeIs F.entry_dict_keyiterator_next ?_ (F.args_dict_keyiterator_next_1 _))))
 refine wpAny_bind (wpAny_pure (wpAny_bind (wpAny_bind ?_)))
 first|refine wpAny_bind (wpAny_typeNameOfWhole_keyiter hit.typeIs (wpAny_pure (wpAny_bind (wpAny_fieldsOf ho hd ?_))))|refine wpAny_bind (wpAny_typeNameOf_keyiter hit.typeIs (wpAny_pure (wpAny_bind (wpAny_fieldsOf ho hd ?_))))
 simp only[hown,Bool.false_eq_true,if_false];show wpAny _ _ (if (Value.ref d==Value.none)=true then _ else _) _ _ s
 rw[if_neg (show ¬ ((Value.ref d==Value.none)=true) from fun z=>Bool.false_ne_true z)]
 refine wpAny_bind (wpAny_pure (wpAny_bind (wpAny_dictEntries hod hdd ?_)))
 rw[if_neg (by simp)];refine wpAny_bind (wpAny_pure (wpAny_bind (wpAny_dictEpoch hod hdd ?_)))
 rw[if_neg (by simp)];refine wpAny_pure ?_
 simp only[show ¬ ((i:Int)<0) from by omega,if_false,Int.toNat_natCast,Array.getElem?_eq_none hge];refine wpAny_bind ?_
 first|refine wpAny_bind (wpAny_typeNameOfWhole_keyiter hit.typeIs (wpAny_pure ?_))|refine wpAny_bind (wpAny_typeNameOf_keyiter hit.typeIs (wpAny_pure ?_))
 show wpAny _ _ (setField (.ref it) 0 .none >>= _) _ _ s;refine wpAny_bind (wpAny_setField ho hd (by simp) ?_)
 show wpAny _ _ (newExc (.type "StopIteration") [] >>= _) _ _ _;refine wpAny_bind ?_
 simp only[newExc,newTuple];refine wpAny_bind (wpAny_newObj_type ?_ (by size_fits))
 refine wpAny_bind (m:=firstArgMember _ _) (wpAny_of_eq (a:=Value.none) (by first|rfl|(simp only[firstArgMember];rfl)) (wpAny_newObj_type ?_ (by size_fits)))
 simp only[raiseNew];refine wpAny_bind (wpAny_handled ?_)
 rw[show A.in1.handled=none from hh];refine wpAny_bind (wpAny_pure (wpAny_throw ?_))
 refine wpAny_bind (wpAny_isInstance (T := "StopIteration") (b:=true) ⟨_,Heap.get?_push_size _ rfl,rfl⟩ isSubtype_stop (wpAny_pure (hQ _ (((Heap.SameBut.update ..).extBut.push _).push _))))
theorem Walks.dent (hh:A.handled=none)(I:Addr)(hne:d≠I):Walks prog w A I [I,d] [I] es.size (fun i v=>∃e,es[i]?=some e/\v=e.key) (fun i h=>h.IsKeyIter I d i es.size ep/\h.DEnt d es ep) where
 sub:=fun b hb=>by simp at hb;simp[hb]
 frame:=fun _ _ _ st hk=>⟨st.1.at fun o e=>hk I (by simp) o e,st.2.at fun o e=>hk d (by simp) o e⟩
 item:=fun i s Q E hi st hQ=>by
  refine pyNext_dent_item st.1 st.2 hi fun h' hit' hs'=>?_
  exact hQ _ h' s.toks ⟨es[i],by simp[hi],rfl⟩ ⟨hit',st.2.at fun o e=>hs'.extBut d o hne e⟩ fun b o hb e=>hs'.extBut b o (fun z=>hb (by simp[z])) e
 done:=fun s Q E st hQ=>pyNext_dent_end hh st.1 st.2 (Nat.le_refl _) fun h' he'=>hQ h' s.toks fun b o hb e=>he' b o (fun z=>hb (by simp[z])) e
 self:=fun _ _ _ _ st hQ=>wpAny_pyIter_keyiter st.1 hQ
theorem kdl_dent (lo:(d==sysModules)=false):PySem.W.KdlSrc prog w "dict" d d es.size (fun i v=>∃e,es[i]?=some e/\v=e.key) (fun h=>h.DEnt d es ep) where
 type:=fun _ hm=>hm.typeIs
 there:=fun _ hm=>⟨hm.lt_size,hm.lt_size⟩
 keep:=fun _ _ hm hk=>hm.at fun o e=>hk d (.inl rfl) o e
 notList:=by decide
 notTuple:=by decide
 hint:=fun _ _ _ _ hm hq=>PySem.W.kdl_hint_dict hm.typeIs hq
 iter:=fun _ _ hh hm=>⟨_,_,(fun _ _ hq=>pyIter_dent lo hm hq),Walks.dent hh _ (Nat.ne_of_lt hm.lt_size),⟨⟨_,Heap.get?_push_size _ rfl,rfl,rfl⟩,hm.at fun o e=>Heap.get?_push_of_some _ e⟩⟩
end
end PySem
namespace L2
open PySem PySem.Spec PyProof.Rows
theorem paired_get {α β:Type}{F:α->β->Prop}:∀{l:List α} {m:List β} {i:Nat} {a:α},Paired F l m->l[i]?=some a->∃b,m[i]?=some b/\F a b
 |_,_,_,_,.nil,e=>by simp at e
 |_,_,0,_,.cons r _,e=>by simp at e;subst e;exact⟨_,rfl,r⟩
 |_,_,i+1,a,.cons _ t,e=>by
  obtain⟨b,h1,h2⟩:=paired_get (i:=i) (a:=a) t (by simpa using e)
  exact⟨b,by simpa using h1,h2⟩
theorem dent_of {P:Program}{w:World}{H:Hp}{h:Heap}{a:Addr}{kvs:List (List Key×V)}(ok:HOk P w H h)(e:Rd H a (.dT kvs)):
  ∃o es ep,h.get? a=some o/\o.ExactDict/\o.data=.dict es ep/\es.size=kvs.length/\(a==sysModules)=false/\kvs.length<=sizeLine /\
   ∀(i:Nat) (k:List Key) (v:V),kvs[i]?=some (k,v)->∃b en,es[i]?=some en/\en.key=.ref b/\H b=some (.tup (k.map kV)):=by
 obtain⟨z,y,xs,r,o,es,ep,h1,h2,h3,h4,h5⟩:=(show ObjOk P w H h a (.dT kvs) from rd_of ok e)
 have hl:=Paired.length r
 have hs:es.size=kvs.length:=by rw[<-Array.length_toList,h4,List.length_map,hl]
 refine⟨o,es,ep,h1,h2,h3,hs,y,z,fun i k v hk=>?_⟩
 obtain⟨q,hq,e1,e2,_⟩:=paired_get r hk
 refine⟨q.2.1,entryOfKey (tupleKind (mixKind P w)) q,?_,rfl,e2⟩
 rw[<-Array.getElem?_toList,h4,List.getElem?_map,hq];rfl
section
variable {X:Cx} {pins:List (Addr×Obj)} {σ:St} {H:Hp} {s:Shared} {a:Addr}
theorem Inv.freeze {kvs:List (List Key×V)}{o:Obj}(I:Inv X pins σ H s)(e:H a=some (.dT kvs))(ho:s.heap.get? a=some o):Inv X pins σ (upd H a (.frz o (.dT kvs))) s:=by
 refine d_write (h':=s.heap) (t':=s.toks) I (by rw[e];exact True.intro) ⟨rfl,fun _ _=>rfl⟩ ⟨o,ho⟩ ?_
 obtain⟨z,y,xs,r,q⟩:=(show ObjOk X.prog X.w H s.heap a (.dT kvs) from I.hok a _ e)
 refine⟨ho,z,y,xs,Paired.mapP r fun p x hx=>⟨hx.1,?_,hx.2.2⟩,q⟩
 rw[upd_ne (fun z=>by have h1:=hx.2.1;rw[z,e]at h1;cases h1)]
 exact hx.2.1
end
theorem call_list_dictT {X:Cx}(hc:X.calm=true):CallR X (.type "list") (fun xs H Q=>∃p kvs,xs=[.ref p]/\Rd H p (.dT kvs)/\∀l rs,H l=none->rs.length=kvs.length ->
  (∀(i:Nat) (k:List Key) (v:V),kvs[i]?=some (k,v)->∃b,rs[i]?=some (V.ref b)/\H b=some (.tup (k.map kV)))->Q (.ref l) (upd H l (.lst rs))):=by
 intro pins s σ H xs us Q I r h
 obtain⟨p,kvs,rfl,hp,q⟩:=h
 obtain⟨u,rfl,rx⟩:=vals1 r
 cases rx
 obtain⟨o,es,ep,g1,g2,g3,g4,g5,g6,g7⟩:=dent_of I.hok hp
 refine PySem.W.kdl_call (kdl_dent (es:=es) (ep:=ep) g5) (I.ok.hd hc) ⟨o,g1,g2,g3⟩ (by omega) fun h' tk acc' c' hk hD hacc=>?_
 let f:DictEntry->V:=fun e=>match e.key with | .ref b=>V.ref b|_=>.non
 have hat:∀(i:Nat) (k:List Key) (v:V),kvs[i]?=some (k,v)->∃b,(es.toList.map f)[i]?=some (V.ref b)/\H b=some (.tup (k.map kV)):=fun i k v hkv=>by
  obtain⟨b,en,e1,e2,e3⟩:=g7 i k v hkv
  refine⟨b,?_,e3⟩
  rw[List.getElem?_map,Array.getElem?_toList,e1]
  show some (f en)=_
  simp only[f,e2]
 have hlen:(es.toList.map f).length=kvs.length:=by rw[List.length_map,Array.length_toList,g4]
 have hv:Vals (es.toList.map f) acc'.toList:=by
  refine Vals.ofIx (by rw[hlen,<-g4];simpa using hacc.1) fun i v hv=>?_
  obtain⟨e,he,rfl⟩:=hacc.2 i v (by simpa using hv)
  have hi:i<kvs.length:=by rw[<-g4];exact (Array.getElem?_eq_some_iff.mp he).1
  obtain⟨b,en,e1,e2,e3⟩:=g7 i kvs[i].1 kvs[i].2 (by simp[hi])
  rw[he]at e1
  cases e1
  refine⟨V.ref b,?_,by rw[e2];rfl⟩
  rw[List.getElem?_map,Array.getElem?_toList,he]
  show some (f e)=_
  simp only[f,e2]
 exact⟨.ref _,_,I.laid (t':=tk) hk (Nat.le_refl _) (show ObjOk X.prog X.w _ h' _ (.lst (es.toList.map f)) from ⟨by rw[hlen];exact g6,acc'.toList,c',hv,by simpa using hD⟩),rfl,q _ _ (I.hok.fresh (Nat.le_refl _)) hlen hat⟩
end L2
namespace GB
open GW
variable {α:Type} [DecidableEq α]
def walkF (step:α->Int->α)(a:α)(ws:List Int):α:=ws.foldl step a
def put (step:α->Int->α)(r:α)(w:List Int)(ents:List (α×List Int))(x:Nat):List (α×List Int):=if step r x∈ents.map (·.1) then ents else ents++[(step r x,w++[(x:Int)])]
structure B (L:Int)(step:α->Int->α)(st:α)(ok:α->Prop)(ents:List (α×List Int))(i:Nat)(top:Int):Prop where
 hd:ents[0]?=some (st,[])
 il:i<=ents.length
 sh:∀(j:Nat) (e:α×List Int),ents[j]?=some e->e.2.length<=j
 nod:(ents.map (·.1)).Nodup
 rng:∀e∈ents,ok e.1
 wd:∀e∈ents,isW L e.2=true/\walkF step st e.2=e.1
 inc:∀(j k:Nat) (a b:α×List Int),j<k->ents[j]?=some a->ents[k]?=some b->place L a.2<place L b.2
 bnd:∀e∈ents,place L e.2<top
 don:∀j,j<i->∀e,ents[j]?=some e->∀x:Int,0<=x->x<L->∃e'∈ents,e'.1=step e.1 x/\place L e'.2<=place L (e.2++[x])
variable {L:Int} {step:α->Int->α} {st:α} {ok:α->Prop} {ents:List (α×List Int)} {i:Nat} {top:Int}
def walkR (ways:List (List Int))(r:Int)(ws:List Int):Int:=ws.foldl (stepW ways) r
theorem walkR_zero (ways:List (List Int))(ws:List Int):walkR ways 0 ws=walkW ways ws:=rfl
theorem walkR_cons (ways:List (List Int))(r x:Int)(ws:List Int):walkR ways r (x::ws)=walkR ways (stepW ways r x) ws:=rfl
theorem walkR_snoc (ways:List (List Int))(r x:Int)(ws:List Int):walkR ways r (ws++[x])=stepW ways (walkR ways r ws) x:=by
 unfold walkR
 rw[List.foldl_append];rfl
theorem walkR_take {ways:List (List Int)}{ws:List Int}{i:Nat}{x r:Int}(h:ws[i]?=some x):walkR ways r (ws.take (i+1))=stepW ways (walkR ways r (ws.take i)) x:=by
 rw[List.take_add_one,h]
 exact walkR_snoc _ _ _ _
theorem walkR_in {L:Int}{marks:List Int}{ways:List (List Int)}(wf:Wf L marks ways):∀(ws:List Int) {r:Int},isW L ws=true->0<=r->r<marks.length->0<=walkR ways r ws/\walkR ways r ws<marks.length
 |[],r,_,h0,h1=>⟨h0,h1⟩
 |x::ws,r,hv,h0,h1=>by
  have hx:=isW_iff.mp hv x List.mem_cons_self
  obtain⟨_,g,_,_,h,g0,g1⟩:=wf.step h0 h1 hx.1 hx.2
  rw[walkR_cons,h]
  exact walkR_in wf ws (isW_iff.mpr fun y hy=>isW_iff.mp hv y (List.mem_cons_of_mem _ hy)) g0 g1
end GB
namespace L2
open PySem PySem.Spec PyProof.Rows GW GB
def TK (H H':Hp):Prop:=∀b xs,H b=some (.tup xs)->H' b=some (.tup xs)
theorem TK.of {H H':Hp}(s:Same H H'):TK H H':=fun b xs h=>s b _ h
theorem TK.new {H:Hp}{p:Addr}{o:HO}(h:H p=none):TK H (upd H p o):=TK.of (Same.new h)
theorem TK.lst {H:Hp}{p:Addr}{o:HO}{xs:List V}(h:H p=some (.lst xs)):TK H (upd H p o):=fun b ys e=>by rw[upd_ne (fun z=>by rw[z,h]at e;cases e)];exact e
end L2
namespace L2
theorem r_dnewT {σ:St}{H:Hp}{Q:VK}:tDNewT σ H Q=∀p,H p=none->Q (.ref p) (upd H p (.dT [])):=rfl
end L2
namespace GB
open GW
theorem isW_take {L:Int}{w:List Int}(h:isW L w=true)(j:Nat):isW L (w.take j)=true:=isW_iff.mpr fun x hx=>isW_iff.mp h x (List.mem_of_mem_take hx)
theorem isW_app {L:Int}{v w:List Int}(h:isW L v=true)(g:isW L w=true):isW L (v++w)=true:=isW_iff.mpr fun x hx=>(List.mem_append.mp hx).elim (isW_iff.mp h x) (isW_iff.mp g x)
end GB
namespace L2
open PySem PySem.Spec PyProof.Rows GW
theorem Same.none {H H':Hp}(s:Same H H'){p:Addr}(h:H' p=none):H p=none:=by
 cases e:H p with
 |none=>rfl
 |some u=>rw[s _ _ e]at h;cases h
def WordsT (K:PySem.W.Frag)(H:Hp)(xs:List V)(ws:List (List Int)):Prop:=xs.length=ws.length/\∀(i:Nat) (w:List Int),ws[i]?=some w->∃t,xs[i]?=some (.ref t)/\H t=some (.tup (w.map V.int))
theorem WordsT.nil {K:PySem.W.Frag}{H:Hp}:WordsT K H [] []:=⟨rfl,fun i w h=>by simp at h⟩
theorem WordsT.mono {K:PySem.W.Frag}{H H':Hp}{xs:List V}{ws:List (List Int)}(h:WordsT K H xs ws)(k:TK H H'):WordsT K H' xs ws:=by
 refine⟨h.1,fun i w hw=>?_⟩
 obtain⟨t,a,b⟩:=h.2 i w hw
 exact⟨t,a,k _ _ b⟩
theorem WordsT.snoc {K:PySem.W.Frag}{H:Hp}{xs:List V}{ws:List (List Int)}(h:WordsT K H xs ws){t:Addr}{w:List Int}(ht:H t=some (.tup (w.map V.int))):WordsT K H (xs++[.ref t]) (ws++[w]):=by
 refine⟨by rw[List.length_append,List.length_append,h.1];rfl,fun i v hi=>?_⟩
 by_cases hil:i<ws.length
 ·rw[List.getElem?_append_left hil]at hi
  rw[List.getElem?_append_left (by rw[h.1];exact hil)]
  exact h.2 i v hi
 ·have:=(List.getElem?_eq_some_iff.mp hi).1
  rw[List.length_append,List.length_singleton]at this
  have ei:i=ws.length:=by omega
  subst ei
  rw[List.getElem?_append_right (Nat.le_refl _),Nat.sub_self]at hi
  simp at hi
  subst hi
  refine⟨t,?_,ht⟩
  rw[List.getElem?_append_right (by rw[h.1];exact Nat.le_refl _),h.1,Nat.sub_self];rfl
theorem WordsT.at {K:PySem.W.Frag}{H:Hp}{xs:List V}{ws:List (List Int)}(h:WordsT K H xs ws){i:Nat}{x:V}(hx:xs[i]?=some x):∃t w,ws[i]?=some w/\x=.ref t/\H t=some (.tup (w.map V.int)):=by
 have hi:i<ws.length:=by rw[<-h.1];exact (List.getElem?_eq_some_iff.mp hx).1
 obtain⟨t,a,b⟩:=h.2 i ws[i] (by simp[hi])
 rw[hx]at a
 exact⟨t,ws[i],by simp[hi],Option.some.inj a,b⟩
def rInW (K:PySem.W.Frag)(neg:Bool):R2:=fun x y H Q=>∃p t xs w ws,y=.ref p/\x=.ref t/\SqL K H p xs/\WordsT K H xs ws/\SqT K H t (w.map V.int)/\Q (.bl (if neg then !decide (w∈ws) else decide (w∈ws))) H
theorem r_inW {K:PySem.W.Frag}{neg:Bool}{x y:V}{H:Hp}{Q:VK}:rInW K neg x y H Q=∃p t xs w ws,y=.ref p/\x=.ref t/\SqL K H p xs/\WordsT K H xs ws/\SqT K H t (w.map V.int)/\Q (.bl (if neg then !decide (w∈ws) else decide (w∈ws))) H:=rfl
theorem inW_core {X:Cx}{pins:List (Addr×Obj)}{σ:St}{H:Hp}{s:Shared}{p t:Addr}{xs:List V}{w:List Int}{ws:List (List Int)}(hu:X.A.units+8<cLine)(I:Inv X pins σ H s)(hp:SqL X.K H p xs)(hw:WordsT X.K H xs ws)(ht:SqT X.K H t (w.map V.int)):
  ∃(its:Array Value) (e:Value->Bool),s.heap.IsList p its/\(∀y,y∈its->SeqAt.EqAt X.A.in1 s y (.ref t) (e y))/\its.any e=decide (w∈ws):=by
 obtain⟨its,r,pl,_⟩:=I.list hp
 have hl:=r.length
 let e:Value->Bool:=fun y => @decide (∃(i:Nat) (a:Addr),y=.ref a/\xs[i]?=some (.ref a)/\ws[i]?=some w) (Classical.propDecidable _)
 have ee:∀(i:Nat) (a:Addr) (v:List Int),xs[i]?=some (.ref a)->ws[i]?=some v->e (.ref a)=decide (v=w):=fun i a v hx hv=>by
  obtain⟨a',a1,a2⟩:=hw.2 i v hv
  rw[hx]at a1
  cases a1
  rw[Bool.eq_iff_iff]
  show @decide _ (Classical.propDecidable _)=true↔_
  rw[@decide_eq_true_iff _ (Classical.propDecidable _),decide_eq_true_eq]
  constructor
  ·rintro⟨j,b,hb,hxj,hwj⟩
   cases hb
   obtain⟨b',b1,b2⟩:=hw.2 j w hwj
   rw[hxj]at b1
   cases b1
   rw[a2]at b2
   have:=Option.some.inj b2
   injection this with this
   exact (List.map_inj_right (fun x y z=>V.int.inj z)).mp this
  ·rintro rfl
   exact⟨i,a,rfl,hx,hv⟩
 refine⟨its.toArray,e,pl.isList,fun y hy=>?_,?_⟩
 ·have hy':y∈its:=by simpa using hy
  obtain⟨i,hi,ei⟩:=List.getElem_of_mem hy'
  have hix:i<xs.length:=by omega
  obtain⟨u,hu',ru⟩:=r.get (i:=i) (x:=xs[i]) (by simp[hix])
  rw[List.getElem?_eq_getElem hi,ei]at hu'
  cases hu'
  obtain⟨a,v,e1,e2,e3⟩:=hw.at (i:=i) (x:=xs[i]) (by simp[hix])
  rw[e2]at ru
  cases ru
  rw[ee i a v (by rw[List.getElem?_eq_getElem hix,e2]) e1]
  exact (EqD.at (x:=V.ref a) (y:=V.ref t) I 2 X.A.in1 (by rw[in1_units];omega) rfl rfl (EqD.ints (xs:=v) (ys:=w) (.inr ⟨SqT.of e3,ht⟩) 1)).1
 ·rw[Bool.eq_iff_iff,decide_eq_true_eq]
  rw[show its.toArray.any e=its.any e by simp,List.any_eq_true]
  constructor
  ·rintro⟨y,hy,hey⟩
   obtain⟨j,b,_,_,hwj⟩:=(@decide_eq_true_iff _ (Classical.propDecidable _)).mp hey
   exact List.mem_of_getElem? hwj
  ·intro hm
   obtain⟨i,hi,ei⟩:=List.getElem_of_mem hm
   obtain⟨a,a1,a2⟩:=hw.2 i w (by rw[List.getElem?_eq_getElem hi,ei])
   obtain⟨u,hu',ru⟩:=r.get a1
   cases ru
   refine⟨.ref a,List.mem_of_getElem? hu',?_⟩
   rw[ee i a w a1 (by rw[List.getElem?_eq_getElem hi,ei])]
   simp
theorem op_notInW {X:Cx}(hu:X.A.units+8<cLine):OpR X (compareOp .NotIn) (rInW X.K true):=by
 intro pins s σ H x y v u Q I rx ry h
 obtain⟨p,t,xs,w,ws,rfl,rfl,hp,hw,ht,q⟩:=h
 cases ry
 cases rx
 obtain⟨its,e,h1,h2,h3⟩:=inW_core hu I hp hw ht
 refine SeqAt.notIn_listAt e h1 h2 ⟨.bl _,H,I,rfl,?_⟩
 rw[h3]
 exact q
theorem rCatT2.ofS {K:PySem.W.Frag}{H:Hp}{Q:VK}{a b:Addr}{xs ys:List V}(ha:H a=some (.tup xs))(hb:H b=some (.tup ys))(hz:xs.length+ys.length<=sizeLine)(h:∀p H',Same H H'->H' p=some (.tup (xs++ys))->Q (.ref p) H'):rCatT2 K (.ref a) (.ref b) H Q:=by
 refine⟨a,b,xs,ys,rfl,rfl,SqT.of ha,SqT.of hb,hz,fun e=>?_,fun _ e=>?_,fun _ _ p hp=>h p _ (Same.new hp) upd_same⟩
 ·subst e;exact h b H (Same.refl _) (by simpa using hb)
 ·subst e;exact h a H (Same.refl _) (by simpa using ha)
theorem Inv.unL {X:Cx}{pins:List (Addr×Obj)}{σ:St}{H:Hp}{s:Shared}{h':Heap}{fp:List Addr}(I:Inv X pins σ H s)(k:∀b o,b∉fp->s.heap.get? b=some o->h'.get? b=some o)(f:∀b∈fp,FpOk X pins H b):Un (frs X.stack) fp H H s.heap h'/\HOk X.prog X.w H h':=by
 have ne:∀b u,H b=some u->b∉fp:=fun b u q hb=>by rw[(f b hb).1]at q;cases q
 refine⟨⟨fun b o q _ _ hb=>k b o hb q,fun b o q _ _ hb=>⟨o.slots,k b o hb q⟩,fun _ _ _ n _=>n,fun b o q hb=>⟨o,k b o hb q⟩,fun _ _ q=>q,fun _ _ _ q=>q,fun b ps q=>⟨#[],by rw[q];simp⟩⟩,fun b u q=>?_⟩
 refine (I.hok b u q).stay (fun c v hc qv=>?_) (fun _ q=>q) fun _ _ q=>q
 have hne:c∉fp:=by
  rcases hc with rfl|hc
  ·exact ne _ _ q
  ·exact ne _ _ hc
 exact k c v hne qv
end L2
namespace GW
def ins (s:List (List Int))(w:List Int):List (List Int):=if w∈s then s else s++[w]
theorem ins_len (s:List (List Int))(w:List Int):(ins s w).length<=s.length+1:=by
 unfold ins;split
 ·omega
 ·simp
theorem insAll_len:∀(l s:List (List Int)),(l.foldl ins s).length<=s.length+l.length
 |[],s=>by simp
 |w::l,s=>by
  have h1:=insAll_len l (ins s w)
  have h2:=ins_len s w
  rw[List.foldl_cons,List.length_cons];omega
def extW (n:Nat)(w:List Int):List (List Int):=(List.range n).map fun x:Nat=>w++[(x:Int)]
def rowsW (n:Nat)(acc:List (List Int)):List (List Int):=(acc.flatMap (extW n)).foldl ins (acc.foldl ins [])
end GW
namespace L2
open PySem PySem.Spec PyProof.Rows GW
def wkey (w:List Int):List Key:=w.map Sum.inl
theorem wkey_kV (w:List Int):(wkey w).map kV=w.map V.int:=by unfold wkey;rw[List.map_map];rfl
theorem wkey_inj {v w:List Int}(h:wkey v=wkey w):v=w:=(List.map_inj_right (fun x y z=>Sum.inl.inj z)).mp h
def KeysW (ws:List (List Int))(kvs:List (List Key×V)):Prop:=kvs.map (·.1)=ws.map wkey
theorem KeysW.len {ws:List (List Int)}{kvs:List (List Key×V)}(h:KeysW ws kvs):kvs.length=ws.length:=by
 have:=congrArg List.length h
 simpa using this
theorem KeysW.some_iff {ws:List (List Int)}{kvs:List (List Key×V)}(h:KeysW ws kvs)(w:List Int):(valV kvs (wkey w)).isSome=decide (w∈ws):=by
 rw[<-valV_any,Bool.eq_iff_iff,decide_eq_true_eq,List.any_eq_true]
 constructor
 ·rintro⟨kv,hkv,e⟩
  have e:=of_decide_eq_true e
  have:wkey w∈ws.map wkey:=by rw[<-h,<-e];exact List.mem_map.mpr ⟨kv,hkv,rfl⟩
  obtain⟨q,hq,e2⟩:=List.mem_map.mp this
  exact wkey_inj e2 ▸ hq
 ·intro hw
  have:wkey w∈kvs.map (·.1):=by rw[h];exact List.mem_map.mpr ⟨w,hw,rfl⟩
  obtain⟨kv,hkv,e⟩:=List.mem_map.mp this
  exact⟨kv,hkv,decide_eq_true e⟩
theorem KeysW.put {ws:List (List Int)}{kvs:List (List Key×V)}(h:KeysW ws kvs)(w:List Int)(v:V):KeysW (ins ws w) (putK kvs (wkey w) v):=by
 have hs:=h.some_iff w
 unfold putK ins
 rw[valV_any,hs]
 by_cases hw:w∈ws
 ·rw[if_pos hw,if_pos (show decide (w∈ws)=true from decide_eq_true hw)]
  unfold KeysW
  rw[<-h,List.map_map]
  refine List.map_congr_left fun kv _=>?_
  show (if kv.1=wkey w then (kv.1,v) else kv).1=kv.1
  split<;>rfl
 ·rw[if_neg hw,if_neg (show ¬ decide (w∈ws)=true by simp[hw])]
  unfold KeysW
  rw[List.map_append,List.map_append,h];rfl
theorem KeysW.nil:KeysW [] []:=rfl
theorem KeysW.words {K:PySem.W.Frag}{H:Hp}{ws:List (List Int)}{kvs:List (List Key×V)}{rs:List V}(h:KeysW ws kvs)(hl:rs.length=kvs.length)(hr:∀(i:Nat) (k:List Key) (v:V),kvs[i]?=some (k,v)->∃b,rs[i]?=some (V.ref b)/\H b=some (.tup (k.map kV))):WordsT K H rs ws:=by
 refine⟨by rw[hl,h.len],fun i w hw=>?_⟩
 have hi:i<kvs.length:=by rw[h.len];exact (List.getElem?_eq_some_iff.mp hw).1
 have e:(kvs.map (·.1))[i]?=some (wkey w):=by rw[h,List.getElem?_map,hw];rfl
 rw[List.getElem?_map,List.getElem?_eq_getElem hi]at e
 have e:kvs[i].1=wkey w:=Option.some.inj e
 obtain⟨b,b1,b2⟩:=hr i kvs[i].1 kvs[i].2 (by simp[hi])
 exact⟨b,b1,by rw[b2,e,wkey_kV]⟩
end L2
namespace PySem.W
open PySem PySem.Calls PyProof.Rows PyProof.V PySem.Spec
section
variable {prog:Program} {w:World} {A:Around} {E:Value->Shared->Prop} {s:Shared}
abbrev itO (x:Value)(f:Bool)(d:Addr)(i n ep:Nat)(ok ov:Value):Obj:={cls:=.type "dict_itemiterator",dict:=none,data:=.fields #[x,.bool f,.ref d,.int i 0,.int n 0,.int ep 0,ok,ov],slots := #[]}
abbrev tpO (e:DictEntry):Obj:={cls:=.type "tuple",data:=.seq #[e.key,e.val]}
theorem itm_pair {it d:Addr}{i n ep:Nat}{x:Value}{f:Bool}{ok ov:Value}{e:DictEntry}{Q:Value->Shared->Prop}(g1:s.heap.get? it=some (itO x f d i n ep ok ov))
  (hx:x=.none \/ ∃a:Addr,∃o,x=rawInt a/\s.heap.get? a=some o/\a≠it)
  (hQ:∀h' x' f' ok' ov',h'.get? it=some (itO x' f' d i n ep ok' ov')->(x=.none->x'=rawInt s.heap.objs.size/\f'=false/\ok'=e.key/\ov'=e.val)->(x ≠ .none->x'=x)->h'.get? s.heap.objs.size=some (tpO e)->h'.objs.size=s.heap.objs.size+1->(∀b o,b≠it->s.heap.get? b=some o->h'.get? b=some o) ->
   Q (.ref s.heap.objs.size) {s with heap:=h' }):wpAny (model prog w) A (Builtin.Dict_items.pairFromOwner (.ref it) 6 e.key e.val) Q E s:=by
 have hl:=Heap.lt_size g1
 obtain⟨hp,gs,dr,tk,os⟩:=s
 wp_walk using newT
 ·show 2<=sizeLine;decide
 intro h2 g
 have k2:∀b o,hp.get? b=some o->h2.get? b=some o:=fun b o q=>by rw[<-g];exact Heap.get?_push_of_some _ q
 have g2:=k2 it _ g1
 have g0:h2.get? hp.objs.size=some (tpO e):=by rw[<-g];exact Heap.get?_push_size _ rfl
 have gz:h2.objs.size=hp.objs.size+1:=by rw[<-g];exact Heap.size_push ..
 rcases hx with rfl|⟨a,o,rfl,ha,hne⟩
 ·(wp_walk using wpAny_setField_rec g2;(focus simp);intro _ g3 k3)
  (wp_walk using wpAny_setField_rec g3;(focus simp);intro _ g4 k4)
  (wp_walk using wpAny_setField_rec g4;(focus simp);intro _ g5 k5)
  (wp_walk using wpAny_setField_rec g5;(focus simp);intro _ g6 k6)
  wp_walk
  have kk:=((k3.extBut.trans k4.extBut).trans k5.extBut).trans k6.extBut
  exact hQ _ _ _ _ _ g6 (fun _=>⟨rfl,rfl,rfl,rfl⟩) (fun z=>absurd rfl z) (kk _ _ (Nat.ne_of_gt hl) g0) ((k6.1.trans (k5.1.trans (k4.1.trans k3.1))).trans gz) fun b o n q=>kk b o n (k2 b o q)
 ·have g7:=k2 a o ha
  have e:((a:Int)).toNat=a:=Int.toNat_natCast a
  wp_walk
  refine kdx_alive (a:=(a:Int).toNat) (by rw[e];exact g7) ?_
  cases f
  ·(wp_walk using wpAny_setField_rec g2;(focus simp);intro _ g3 k3)
   wp_walk
   exact hQ _ _ _ _ _ g3 (fun z=>by cases z) (fun _=>rfl) (k3.extBut _ _ (Nat.ne_of_gt hl) g0) (k3.1.trans gz) fun b o n q=>k3.extBut b o n (k2 b o q)
  ·wp_walk
   exact hQ _ _ _ _ _ g2 (fun z=>by cases z) (fun _=>rfl) g0 gz fun b o n q=>k2 b o q
theorem itm {it d:Addr}{i ep:Nat}{es:Array DictEntry}{od:Obj}{x:Value}{f:Bool}{ok ov:Value}{Q:Option Value->Shared->Prop}(hh:A.handled=none)(hit:s.heap.get? it=some (itO x f d i es.size ep ok ov))
  (hod:s.heap.get? d=some od) (hdd:od.data=.dict es ep) (hx:x=.none \/ ∃a:Addr,∃o,x=rawInt a/\s.heap.get? a=some o/\a≠it)
  (hQ:∀e h' x' f' ok' ov',es[i]?=some e->h'.get? it=some (itO x' f' d (i+1) es.size ep ok' ov')->(x=.none->x'=rawInt s.heap.objs.size/\f'=false/\ok'=e.key/\ov'=e.val)->(x ≠ .none->x'=x)->h'.get? s.heap.objs.size=some (tpO e)->h'.objs.size=s.heap.objs.size+1->(∀b o,b≠it->s.heap.get? b=some o->h'.get? b=some o) ->
   Q (some (.ref s.heap.objs.size)) {s with heap:=h' })
  (hN:es[i]?=none->∀h',Heap.ExtBut it s.heap h'->Q none {s with heap:=h' }):wpAny (model prog w) A (pyNext (.ref it)) Q E s:=by
 have hT:s.TypeIs (.ref it) "dict_itemiterator" := ⟨_,hit,rfl⟩
 have e1:=PySem.F.slot_dict_itemiterator_next
 have h1:A.in1.handled=none:=hh
 obtain⟨c,dc,da,sl⟩:=od
 replace hdd:da=_:=hdd
 subst hdd
 unfold pyNext
 refine wpAny_bind (wpAny_attempt (wpAny_callSpecial?_slot hT e1 (wpAny_call_entry e1 hT PySem.F.entry_dict_itemiterator_next ?_ (PySem.F.args_dict_itemiterator_next_1 _))))
 wp_walk using wpAny_typeNameOfWhole_itemiter hT,wpAny_fieldsOf hit rfl
 cases hi:es[i]? with
 |some e=>
  simp only[show ¬ ((i:Int)<0) from by omega,if_false,Int.toNat_natCast,hi]
  wp_walk using wpAny_typeNameOfWhole_itemiter hT,wpAny_isOneOf_itemiter hT,wpAny_setField_rec hit
  ·exact Nat.lt_of_sub_eq_succ rfl
  intro h1 g1 k1
  replace g1:h1.get? it=some (itO x f d (i+1) es.size ep ok ov):=g1
  have hT1:Shared.TypeIs {s with heap:=h1} (.ref it) "dict_itemiterator" := ⟨_,g1,rfl⟩
  have z1:h1.objs.size=s.heap.objs.size:=k1.1
  wp_walk using wpAny_isOneOf_itemiter hT1,itm_pair g1
  ·rcases hx with hx|⟨a,o,hx,ha,n⟩
   ·exact .inl hx
   ·exact .inr ⟨a,o,hx,k1.extBut a o n ha,n⟩
  intro h' x' f' ok' ov' q1 q2 q3 q4 q5 q6
  wp_walk
  simp only[z1]at q2 q4 q5 ⊢
  exact⟨_,rfl,wpAny_pure (hQ e h' x' f' ok' ov' hi q1 q2 q3 q4 q5 fun b o n q=>q6 b o n (k1.extBut b o n q))⟩
 |none=>
  simp only[show ¬ ((i:Int)<0) from by omega,if_false,Int.toNat_natCast,hi]
  wp_walk using wpAny_typeNameOfWhole_itemiter hT,wpAny_setField_rec hit
  ·exact Nat.lt_of_sub_eq_succ rfl
  intro h1 g1 k1
  wp_walk
  exact wpAny_raiseNew_none hh (wpAny_bind (wpAny_isInstance (T := "StopIteration") (b:=true) ⟨_,Heap.get?_push_size _ rfl,rfl⟩ isSubtype_stop (wpAny_pure (hN hi _ ((k1.extBut.push _).push _)))))
end
section
variable {prog:Program} {w:World} {A:Around} {E:Value->Shared->Prop} {s:Shared} {r d:Addr} {es:Array DictEntry} {ep:Nat} {od:Obj}
theorem itm_iter {v:Addr}{Q:Value->Shared->Prop}(hv:s.heap.IsItemsView v d)(hod:s.heap.get? d=some od)(hdd:od.data=.dict es ep)
  (h:Q (.ref s.heap.objs.size) {s with heap:=s.heap.push (itO .none false d 0 es.size ep .none .none)}):wpAny (model prog w) A (pyIter (.ref v)) Q E s:=by
 have hT:=hv.typeIs
 obtain⟨⟨c1,d1,a1,s1⟩,hv1,hc,hv2⟩:=hv
 replace hv2:a1=_:=hv2
 obtain⟨c,dc,da,sl⟩:=od
 replace hdd:da=_:=hdd
 subst hdd hv2
 have e1:=PySem.F.slot_dict_items_iter
 refine wpAny_pyIter_slot hT e1 (wpAny_call_entry e1 hT PySem.F.entry_dict_items_iter ?_ (PySem.F.args_dict_items_iter_1 _))
 wp_walk
 exact⟨_,rfl,_,_,⟨_,Heap.get?_push_size _ rfl,rfl⟩,PySem.F.slot_dict_itemiterator_next.lookup,h⟩
end
end PySem.W
namespace L2
open PySem PySem.Spec PyProof.Rows
theorem dent_of2 {P:Program}{w:World}{H:Hp}{h:Heap}{a:Addr}{kvs:List (List Key×V)}(ok:HOk P w H h)(e:Rd H a (.dT kvs)):
  ∃o es ep,h.get? a=some o/\o.ExactDict/\o.data=.dict es ep/\es.size=kvs.length/\(a==sysModules)=false/\kvs.length<=sizeLine /\
   ∀(i:Nat) (k:List Key) (v:V),kvs[i]?=some (k,v)->∃b en,es[i]?=some en/\en.key=.ref b/\H b=some (.tup (k.map kV))/\RelV v en.val:=by
 obtain⟨z,y,xs,r,o,es,ep,h1,h2,h3,h4,h5⟩:=(show ObjOk P w H h a (.dT kvs) from rd_of ok e)
 have hl:=Paired.length r
 have hs:es.size=kvs.length:=by rw[<-Array.length_toList,h4,List.length_map,hl]
 refine⟨o,es,ep,h1,h2,h3,hs,y,z,fun i k v hk=>?_⟩
 obtain⟨q,hq,e1,e2,e3⟩:=paired_get r hk
 refine⟨q.2.1,entryOfKey (tupleKind (mixKind P w)) q,?_,rfl,e2,e3⟩
 rw[<-Array.getElem?_toList,h4,List.getElem?_map,hq];rfl
def ents (es:List (List Int×Int)):List (List Key×V):=es.map fun e=>(wkey e.1,V.int e.2)
theorem ents_keys (es:List (List Int×Int)):KeysW (es.map (·.1)) (ents es):=by unfold KeysW ents;rw[List.map_map,List.map_map];rfl
theorem ents_none {es:List (List Int×Int)}{w:List Int}(h:w∉es.map (·.1)):valV (ents es) (wkey w)=none:=by
 have:=(ents_keys es).some_iff w
 rw[decide_eq_false h]at this
 cases q:valV (ents es) (wkey w) with
 |none=>rfl
 |some v=>rw[q]at this;cases this
theorem ents_get:∀{es:List (List Int×Int)} {w:List Int} {m:Int},(es.map (·.1)).Nodup->(w,m)∈es->valV (ents es) (wkey w)=some (.int m)
 |[],_,_,_,h=>by cases h
 |e::r,w,m,nd,h=>by
  rw[List.map_cons,List.nodup_cons]at nd
  unfold valV ents
  rw[List.map_cons,List.find?_cons]
  by_cases hw:e.1=w
  ·have hem:e.2=m:=by
    rcases List.mem_cons.mp h with q|q
    ·rw[<-q]
    ·exact absurd (List.mem_map.mpr ⟨_,q,hw.symm⟩) nd.1
   rw[show decide ((wkey e.1,V.int e.2).1=wkey w)=true from decide_eq_true (by rw[hw]),<-hem];rfl
  ·rw[show decide ((wkey e.1,V.int e.2).1=wkey w)=false from decide_eq_false fun z=>hw (wkey_inj z)]
   rcases List.mem_cons.mp h with q|q
   ·exact absurd (by rw[<-q]) hw
   ·exact ents_get nd.2 q
theorem ents_put {es:List (List Int×Int)}{w:List Int}{m:Int}(h:w∉es.map (·.1)):putK (ents es) (wkey w) (.int m)=ents (es++[(w,m)]):=by
 unfold putK
 rw[valV_any,ents_none h,if_neg (by simp)]
 unfold ents
 rw[List.map_append];rfl
end L2
namespace PrimeO
def NoDiv (p:Nat):Prop:=∀d,2<=d->d<p->p%d≠0
def Pr (p:Int):Prop:=2<=p/\p<1000000000000000000/\NoDiv p.toNat
end PrimeO
namespace L2
open PySem PySem.Spec PyProof.Rows
theorem r_iRng2 {A:TA}{σ:St}{H:Hp}{Z:It->Hp->Prop}:iRng2 A σ H Z=A σ H fun vs H1=>∃i j:Int,vs=[.int i,.int j]/\(-(2 ^ 62)<=i/\i<2 ^ 62 /\ -(2 ^ 62)<=j/\j<2 ^ 62)/\Z (Itr i (j-i).toNat) H1:=rfl
end L2
namespace L2
open PySem PySem.Spec PyProof.Rows GW
def rInsert:V->List V->Hp->VK->Prop:=fun x vs H Q=>∃l xs k y,x=.ref l/\vs=[.int k,y]/\H l=some (.lst xs)/\0<=k/\k<=xs.length/\xs.length<sizeLine/\Q .non (upd H l (.lst (xs.take k.toNat++y::xs.drop k.toNat)))
theorem r_insert {x:V}{vs:List V}{H:Hp}{Q:VK}:rInsert x vs H Q=∃l xs k y,x=.ref l/\vs=[.int k,y]/\H l=some (.lst xs)/\0<=k/\k<=xs.length/\xs.length<sizeLine/\Q .non (upd H l (.lst (xs.take k.toNat++y::xs.drop k.toNat))):=rfl
theorem mt_insert {X:Cx}:MtM X "list.insert" rInsert:=by
 intro pins s σ H x vs v us Q I rx rv h
 obtain⟨l,xs,k,y,rfl,rfl,hH,h0,h1,hz,q⟩:=h
 cases rx
 cases rv with
 |cons r1 rr=>cases rr with
  |cons r2 rr=>
   cases rr
   obtain⟨t,rfl⟩:=r1
   obtain⟨z,its,n,r,hl,e⟩:=I.lstM hH
   have hlen:=r.length
   have hb:k<2 ^ 63:=by have:sizeLine=2 ^ 24:=rfl;omega
   refine call_meets F.slot_list_insert ⟨_,e,rfl⟩ F.entry_list_insert (F.args_list_insert_3 _ _ _)
    (AutoListH.list_insert_list_int_val_1 l its.toArray n k t _ (by simp[Builtin.List.listFitsIndex];omega) (by rw[List.size_toArray];omega)) ⟨e,?_⟩
   refine⟨.non,_,I.lset (its':=its.take k.toNat++_::its.drop k.toNat) hH e ?_ ((r.take _).append (.cons r2 (r.drop _))) ?_,rfl,q⟩
   ·have hk:min k.toNat its.length=k.toNat:=by omega
    simp[show ¬ k<0 by omega,hk]
    exact List.take_of_length_le (by rw[List.length_drop];exact Nat.le_refl _)
   ·rw[List.length_append,List.length_cons,List.length_take,List.length_drop];omega
end L2
namespace Nest
def sl (row:List Int)(b i:Nat):List Int:=(row.take i).drop b
def outF (p e:Int)(s:List Int×Int)(x:Int):List Int×Int:=if x=e then (s.1,s.2-1) else (if s.2=0 then s.1++[x] else s.1,if p<=x then s.2+1 else s.2)
def outS (p e:Int)(l:List Int):List Int×Int:=l.foldl (outF p e) ([],0)
def outW (p e:Int)(l:List Int):List Int:=(outS p e l).1
def wd (p e:Int)(row:List Int)(i a:Nat):List Int:=outW p e (sl row (a+1) i)
def gt (p:Int)(row:List Int)(a:Nat):Int:=row.getD a 0-p
end Nest
namespace L2
open PySem PySem.Spec PyProof.Rows GW
theorem pg_tupK {X:Cx}{K:PySem.W.Frag}{es:List Expr}{k:Nat}{t:TGs}{n:Nat}{pos:Pos}(hK:X.K=K)(hc:X.calm=true)(h:PGs X es t)
  (hn:(assignEach es X.env).length=n:=by rfl) (hst:(assignEach es X.env).findIdx? (·.1)=none:=by rfl):PG X (.Tuple es k pos) (gTup K n t):=by
 subst hK
 exact pg_tup hc h hn hst
end L2
namespace HT
open PySem PySem.Spec PyProof.Rows L2
section
variable {prog:Program} {w:World} {A:Around} {E:Value->Shared->Prop} {s:Shared}
theorem getItem_tuple_whole {t sl:Addr}{items:Array Value}{vl vu:Value}{lo hi:Option Int}{Q:Value->Shared->Prop}(ht:IsTup s.heap t items)(hs:s.heap.IsSliceOf sl vl vu .none)(pl:IsPart vl lo)(pu:IsPart vu hi)
  (hw:sIx items.size 0 lo=0/\sIx items.size items.size hi=items.size) (h:Q (.ref t) s):wpAny (model prog w) A (getItem (.ref t) (.ref sl)) Q E s:=by
 obtain⟨os,hos,hcs,hds⟩:=id hs
 have hTs:s.TypeIs (.ref sl) "slice" := ⟨os,hos,hcs⟩
 unfold getItem
 try with_reducible refine wpAny_holding ?_
 first|refine wpAny_bind (wpAny_pure ?_)|skip
 refine wpAny_bind (wpAny_sequenceKey ht.typeIs (by decide) ?_)
 refine wpAny_bind (wpAny_callSpecial?_slot (name:=Str.ofString "__getitem__") ht.typeIs PyProof.Rows.slot_tuple_getitem
  (wpAny_call_entry PyProof.Rows.slot_tuple_getitem ht.typeIs entry_tuple_getitem ?_ (args_tuple_getitem _ _)))
 show wpAny _ _ (Builtin.Tuple.tupleItemsOf (.ref t) >>= _) _ _ s
 refine wpAny_bind (tupleItemsOf_ ht ?_)
 refine wpAny_bind (wpAny_typeOf hTs ?_)
 rw[if_pos (by decide)]
 refine wpAny_bind (sliceApplied_gen hs pl pu ?_)
 rw[hw.1,hw.2]
 show wpAny _ _ (if ((((0:Nat):Int)==0&&(1:Int)==1&&(items.size-0)==items.size)=true) then _ else _) _ _ s
 rw[if_pos (by simp)]
 refine wpAny_bind ?_
 unfold Builtin.Tuple.tupleIsExact
 refine wpAny_bind (wpAny_typeOf ht.typeIs (wpAny_pure ?_))
 rw[if_pos (by decide)]
 refine wpAny_bind (wpAny_rule ?_)
 exact wpAny_pure ⟨_,rfl,wpAny_pure h⟩
end
end HT
namespace L2
open PySem PySem.Spec PyProof.Rows GW
def rSlT2 (K:PySem.W.Frag):V->Option Int->Option Int->Hp->VK->Prop:=fun x lo hi H Q=>∃a xs,x=.ref a/\SqT K H a xs/\∀p H',Same H H'->SqT K H' p (cutV xs lo hi)->Q (.ref p) H'
theorem r_slT2 {K:PySem.W.Frag}{x:V}{lo hi:Option Int}{H:Hp}{Q:VK}:rSlT2 K x lo hi H Q=∃a xs,x=.ref a/\SqT K H a xs/\∀p H',Same H H'->SqT K H' p (cutV xs lo hi)->Q (.ref p) H':=rfl
theorem sl_tup2 {X:Cx}:SlR X (rSlT2 X.K):=by
 intro pins s σ H x v vl vu lo hi sl Q I rx hs pl pu h
 obtain⟨a,xs,rfl,hx,q⟩:=h
 by_cases hw:HT.sIx xs.length 0 lo=0/\HT.sIx xs.length xs.length hi=xs.length
 ·cases rx
  obtain⟨its,r,ht,hz⟩:=I.tuple hx
  have hlen:its.toArray.size=xs.length:=by rw[List.size_toArray];exact r.length.symm
  refine⟨"tuple",_,PyProof.Rows.slot_tuple_getitem.lookup,ht.typeIs,?_⟩
  refine HT.getItem_tuple_whole ht hs pl pu (by rw[hlen];exact hw) ⟨.ref a,H,I,rfl,q a H (Same.refl _) ?_⟩
  unfold cutV
  rw[hw.1,hw.2,List.drop_zero,Nat.sub_zero,List.take_length]
  exact hx
 ·exact sl_tup pins s σ H (.ref a) v vl vu lo hi sl Q I rx hs pl pu ⟨a,xs,rfl,hx,hw,fun p hp=>q p _ (Same.new hp) (SqT.of upd_same)⟩
theorem sl_tup2K {X:Cx}{K:PySem.W.Frag}(h:X.K=K):SlR X (rSlT2 K):=by subst h;exact sl_tup2
end L2
namespace L2
open PySem PySem.Spec PyProof.Rows
theorem op_catT2K {X:Cx}{K:PySem.W.Frag}(h:X.K=K):OpR X (binaryOp .Add) (rCatT2 K):=by subst h;exact op_catT2
end L2
namespace L2
open PySem PySem.W PySem.Spec PySem.Calls PyProof.Rows
theorem meets_lenH {prog:Program}{w:World}{κ:Type}[DecidableEq κ](knd:HeapKind prog w κ){d:Addr}(hd:(d==sysModules)=false):
  MeetsIn prog w (Builtin.«dict.__len__» ⟨[.ref d],[]⟩) (fun _ R s=>∃xs,s.heap.DictOfH knd d xs/\R (.ok (.ret (.int (xs.length:Nat) s.toks))) {s with toks:=s.toks+1}):=
 .of_wp fun A R s ⟨xs,⟨o,es,ep,ho,_,hdat,he,_⟩,h⟩=>by
  show wpAny _ _ (dictSize d >>= _) _ _ s
  unfold dictSize
  refine wpAny_bind (wpAny_bind (wpAny_dictEntries ho hdat (wpAny_pure ?_)))
  refine wpAny_bind (wpAny_pendingCount_other hd (wpAny_ret_mkInt ?_))
  rw[Nat.add_zero,size_of_entries he]
  exact h
theorem len_dT {prog:Program}{w:World}{κ:Type}[DecidableEq κ]{knd:HeapKind prog w κ}{A:Around}{E:Value->Shared->Prop}{s:Shared}{d:Addr}{xs:List (κ×Addr×Value)}{Q:Value->Shared->Prop}(hd:(d==sysModules)=false)(hm:s.heap.DictOfH knd d xs)(hfit:(xs.length:Int)<2 ^ 63)
  (h:Q (.int xs.length (s.toks+1)) {s with toks:=s.toks+1+1}):wpAny (model prog w) A (call (.builtin "len") [.ref d]) Q E s:=by
 refine Calls.call_function_entry kind_len plain_len entry_len (args_len1 _) ?_
 unfold Builtin.«len»
 refine wpAny_bind (m:=oneArg "len" _) (wpAny_pure (wpAny_bind (m:=callSpecial? (.ref d) (Str.ofString "__len__")) (wpAny_callSpecial?_slot (name:=Str.ofString "__len__") hm.typeIs F.slot_dict_len (call_meetsIn F.slot_dict_len hm.typeIs F.entry_dict_len (F.args_dict_len_1 _) (meets_lenH knd hd) ⟨xs,hm,?_⟩))))
 show wpAny _ _ _ _ _ {s with toks:=s.toks+1}
 refine wpAny_bind (wpAny_holding (wpAny_pure (wpAny_bind (wpAny_letGo ?_))))
 show wpAny _ _ (if ((xs.length:Nat):Int)<0 then _ else _) _ _ _
 rw[if_neg (by omega)]
 show wpAny _ _ (if ((xs.length:Nat):Int) >= 2 ^ 63 then _ else _) _ _ _
 rw[if_neg (by omega)]
 exact wpAny_bind (wpAny_mkInt (wpAny_pure ⟨_,rfl,h⟩))
theorem call_len_dictT {X:Cx}:CallR X (.builtin "len") (fun xs H Q=>∃p kvs,xs=[.ref p]/\H p=some (.dT kvs)/\Q (.int kvs.length) H):=by
 intro pins s σ H xs us Q I r h
 obtain⟨p,kvs,rfl,e,q⟩:=h
 obtain⟨u,rfl,rx⟩:=vals1 r
 cases rx
 obtain⟨z,hd,xs,rel,dd⟩:=dt_of I.hok e
 have hn:=line63
 have hlen:kvs.length=xs.length:=rel.length
 exact len_dT hd dd (by omega) ⟨.int kvs.length,H,I.tok _,⟨_,by rw[hlen]⟩,q⟩
def WordsL (K:PySem.W.Frag)(H:Hp)(xs:List V)(ws:List (List Int)):Prop:=xs.length=ws.length/\∀(i:Nat) (w:List Int),ws[i]?=some w->∃t,xs[i]?=some (.ref t)/\H t=some (.lst (w.map V.int))
theorem WordsL.at {K:PySem.W.Frag}{H:Hp}{xs:List V}{ws:List (List Int)}(h:WordsL K H xs ws){i:Nat}{x:V}(hx:xs[i]?=some x):∃t w,ws[i]?=some w/\x=.ref t/\H t=some (.lst (w.map V.int)):=by
 have hi:i<ws.length:=by rw[<-h.1];exact (List.getElem?_eq_some_iff.mp hx).1
 obtain⟨t,a,b⟩:=h.2 i ws[i] (by simp[hi])
 rw[hx]at a
 exact⟨t,ws[i],by simp[hi],Option.some.inj a,b⟩
def rInL (K:PySem.W.Frag)(neg:Bool):R2:=fun x y H Q=>∃p t xs w ws,y=.ref p/\x=.ref t/\SqL K H p xs/\WordsL K H xs ws/\SqL K H t (w.map V.int)/\Q (.bl (if neg then !decide (w∈ws) else decide (w∈ws))) H
theorem r_inL {K:PySem.W.Frag}{neg:Bool}{x y:V}{H:Hp}{Q:VK}:rInL K neg x y H Q=∃p t xs w ws,y=.ref p/\x=.ref t/\SqL K H p xs/\WordsL K H xs ws/\SqL K H t (w.map V.int)/\Q (.bl (if neg then !decide (w∈ws) else decide (w∈ws))) H:=rfl
theorem inL_core {X:Cx}{pins:List (Addr×Obj)}{σ:St}{H:Hp}{s:Shared}{p t:Addr}{xs:List V}{w:List Int}{ws:List (List Int)}(hu:X.A.units+8<cLine)(I:Inv X pins σ H s)(hp:SqL X.K H p xs)(hw:WordsL X.K H xs ws)(ht:SqL X.K H t (w.map V.int)):
  ∃(its:Array Value) (e:Value->Bool),s.heap.IsList p its/\(∀y,y∈its->SeqAt.EqAt X.A.in1 s y (.ref t) (e y))/\its.any e=decide (w∈ws):=by
 obtain⟨its,r,pl,_⟩:=I.list hp
 have hl:=r.length
 let e:Value->Bool:=fun y => @decide (∃(i:Nat) (a:Addr),y=.ref a/\xs[i]?=some (.ref a)/\ws[i]?=some w) (Classical.propDecidable _)
 have ee:∀(i:Nat) (a:Addr) (v:List Int),xs[i]?=some (.ref a)->ws[i]?=some v->e (.ref a)=decide (v=w):=fun i a v hx hv=>by
  obtain⟨a',a1,a2⟩:=hw.2 i v hv
  rw[hx]at a1
  cases a1
  rw[Bool.eq_iff_iff]
  show @decide _ (Classical.propDecidable _)=true↔_
  rw[@decide_eq_true_iff _ (Classical.propDecidable _),decide_eq_true_eq]
  constructor
  ·rintro⟨j,b,hb,hxj,hwj⟩
   cases hb
   obtain⟨b',b1,b2⟩:=hw.2 j w hwj
   rw[hxj]at b1
   cases b1
   rw[a2]at b2
   have:=Option.some.inj b2
   injection this with this
   exact (List.map_inj_right (fun x y z=>V.int.inj z)).mp this
  ·rintro rfl
   exact⟨i,a,rfl,hx,hv⟩
 refine⟨its.toArray,e,pl.isList,fun y hy=>?_,?_⟩
 ·have hy':y∈its:=by simpa using hy
  obtain⟨i,hi,ei⟩:=List.getElem_of_mem hy'
  have hix:i<xs.length:=by omega
  obtain⟨u,hu',ru⟩:=r.get (i:=i) (x:=xs[i]) (by simp[hix])
  rw[List.getElem?_eq_getElem hi,ei]at hu'
  cases hu'
  obtain⟨a,v,e1,e2,e3⟩:=hw.at (i:=i) (x:=xs[i]) (by simp[hix])
  rw[e2]at ru
  cases ru
  rw[ee i a v (by rw[List.getElem?_eq_getElem hix,e2]) e1]
  exact (EqD.at (x:=V.ref a) (y:=V.ref t) I 2 X.A.in1 (by rw[in1_units];omega) rfl rfl (EqD.ints (xs:=v) (ys:=w) (.inl ⟨SqL.of e3,ht⟩) 1)).1
 ·rw[Bool.eq_iff_iff,decide_eq_true_eq]
  rw[show its.toArray.any e=its.any e by simp,List.any_eq_true]
  constructor
  ·rintro⟨y,hy,hey⟩
   obtain⟨j,b,_,_,hwj⟩:=(@decide_eq_true_iff _ (Classical.propDecidable _)).mp hey
   exact List.mem_of_getElem? hwj
  ·intro hm
   obtain⟨i,hi,ei⟩:=List.getElem_of_mem hm
   obtain⟨a,a1,a2⟩:=hw.2 i w (by rw[List.getElem?_eq_getElem hi,ei])
   obtain⟨u,hu',ru⟩:=r.get a1
   cases ru
   refine⟨.ref a,List.mem_of_getElem? hu',?_⟩
   rw[ee i a w a1 (by rw[List.getElem?_eq_getElem hi,ei])]
   simp
theorem op_notInL {X:Cx}(hu:X.A.units+8<cLine):OpR X (compareOp .NotIn) (rInL X.K true):=by
 intro pins s σ H x y v u Q I rx ry h
 obtain⟨p,t,xs,w,ws,rfl,rfl,hp,hw,ht,q⟩:=h
 cases ry
 cases rx
 obtain⟨its,e,h1,h2,h3⟩:=inL_core hu I hp hw ht
 refine SeqAt.notIn_listAt e h1 h2 ⟨.bl _,H,I,rfl,?_⟩
 rw[h3]
 exact q
end L2
set_option maxHeartbeats 1000000
set_option maxHeartbeats 4000000
namespace L2
section
variable {α:Type} [DecidableEq α]
def ins1 (acc:List α)(x:α):List α:=if x∈acc then acc else acc++[x]
def firstsA (acc row:List α):List α:=row.foldl ins1 acc
def firsts (row:List α):List α:=firstsA [] row
theorem mem_ins1 {acc:List α}{x y:α}:y∈ins1 acc x↔y∈acc\/y=x:=by
 unfold ins1
 split
 ·rename_i h
  constructor
  ·exact .inl
  ·rintro (h' | rfl)
   ·exact h'
   ·exact h
 ·simp
theorem mem_firstsA:∀{row acc:List α} {y:α},y∈firstsA acc row↔y∈acc\/y∈row
 |[],acc,y=>by simp[firstsA]
 |x::row,acc,y=>by
  show y∈firstsA (ins1 acc x) row↔_
  rw[mem_firstsA,mem_ins1,List.mem_cons,or_assoc]
theorem mem_firsts {row:List α}{y:α}:y∈firsts row↔y∈row:=by
 unfold firsts
 rw[mem_firstsA];simp
theorem nodup_ins1 {acc:List α}{x:α}(h:acc.Nodup):(ins1 acc x).Nodup:=by
 unfold ins1
 split
 ·exact h
 ·rename_i hx
  exact List.nodup_append.mpr ⟨h,by simp,fun a ha b hb z=>by simp at hb;subst z hb;exact hx ha⟩
theorem nodup_firstsA:∀{row acc:List α},acc.Nodup->(firstsA acc row).Nodup
 |[],acc,h=>h
 |x::row,acc,h=>nodup_firstsA (row:=row) (nodup_ins1 h)
theorem nodup_firsts (row:List α):(firsts row).Nodup:=nodup_firstsA List.nodup_nil
theorem idx_inj {l:List α}{x y:α}(hx:x∈l)(hy:y∈l)(h:l.idxOf x=l.idxOf y):x=y:=by
 have h1:=List.idxOf_lt_length_of_mem hx
 have h2:=List.idxOf_lt_length_of_mem hy
 have e1:l[l.idxOf x]=x:=List.getElem_idxOf h1
 have e2:l[l.idxOf y]=y:=List.getElem_idxOf h2
 rw[<-e1,<-e2]
 congr 1
def num (row:List α):List Int:=row.map fun x=>((firsts row).idxOf x:Int)
theorem firstsA_map {β:Type}[DecidableEq β](f:α->β):∀(row acc:List α),(∀x y,x∈acc\/x∈row->y∈acc\/y∈row->f x=f y->x=y)->firstsA (acc.map f) (row.map f)=(firstsA acc row).map f
 |[],acc,_=>rfl
 |x::row,acc,h=>by
  show firstsA (ins1 (acc.map f) (f x)) (row.map f)=(firstsA (ins1 acc x) row).map f
  have e:ins1 (acc.map f) (f x)=(ins1 acc x).map f:=by
   unfold ins1
   by_cases hx:x∈acc
   ·rw[if_pos hx,if_pos (List.mem_map_of_mem hx)]
   ·rw[if_neg hx,if_neg,List.map_append];rfl
    intro z
    obtain⟨y,hy,e⟩:=List.mem_map.mp z
    have:=h y x (.inl hy) (.inr (List.mem_cons_self ..)) e
    subst this
    exact hx hy
  rw[e]
  refine firstsA_map f row _ fun a b ha hb=>h a b ?_ ?_
  ·rcases ha with ha|ha
   ·rcases mem_ins1.mp ha with ha|rfl
    ·exact .inl ha
    ·exact .inr (List.mem_cons_self ..)
   ·exact .inr (List.mem_cons_of_mem _ ha)
  ·rcases hb with hb|hb
   ·rcases mem_ins1.mp hb with hb|rfl
    ·exact .inl hb
    ·exact .inr (List.mem_cons_self ..)
   ·exact .inr (List.mem_cons_of_mem _ hb)
def ncl (row:List α):Nat:=(firsts row).length
theorem ncl_num (row:List α):ncl (num row)=ncl row:=by
 unfold ncl num firsts
 have:=firstsA_map (fun x=>((firsts row).idxOf x:Int)) row [] (fun x y hx hy e=>by
  simp at hx hy
  exact idx_inj (mem_firsts.mpr hx) (mem_firsts.mpr hy) (by omega))
 unfold firsts at this
 simp only[List.map_nil]at this
 rw[this,List.length_map]
theorem num_lt {row:List α}{n:Int}(h:n∈num row):0<=n/\n<ncl row:=by
 unfold num at h
 obtain⟨x,hx,rfl⟩:=List.mem_map.mp h
 have:=List.idxOf_lt_length_of_mem (mem_firsts.mpr hx)
 exact⟨by omega,by unfold ncl;omega⟩
theorem num_top {row:List α}(h:row ≠ []):((ncl row:Int)-1)∈num row:=by
 have hne:firsts row ≠ []:=fun z=>by
  cases row with
  |nil=>exact h rfl
  |cons x row=>
   have:x∈firsts (x::row):=mem_firsts.mpr (List.mem_cons_self ..)
   rw[z]at this;cases this
 have hpos:0<(firsts row).length:=List.length_pos_iff.mpr hne
 have hlt:(firsts row).length-1<(firsts row).length:=by omega
 refine List.mem_map.mpr ⟨(firsts row)[(firsts row).length-1],mem_firsts.mp (List.getElem_mem hlt),?_⟩
 have e:=(nodup_firsts row).idxOf_getElem _ hlt
 rw[e]
 unfold ncl
 omega
theorem ncl_pos {row:List α}(h:row ≠ []):1<=ncl row:=by
 have h1:=num_top h
 have:=num_lt h1
 omega
theorem ncl_le (row:List α):ncl row<=row.length:=by
 unfold ncl
 have:∀(row acc:List α),(firstsA acc row).length<=acc.length+row.length:=fun row=>by
  induction row with
  |nil=>intro acc;exact Nat.le_refl _
  |cons x row ih=>
   intro acc
   have:=ih (ins1 acc x)
   have h2:(ins1 acc x).length<=acc.length+1:=by unfold ins1;split<;>simp
   show (firstsA (ins1 acc x) row).length<=_
   rw[List.length_cons];omega
 have:=this row []
 simpa [firsts] using this
end
theorem nod_sub' {α:Type}[DecidableEq α]:∀{l m:List α},l.Nodup->(∀x∈l,x∈m)->l.length<=m.length
 |[],m,_,_=>Nat.zero_le _
 |x::l,m,hn,h=>by
  have hx:=h x (List.mem_cons_self ..)
  have h1:=List.nodup_cons.mp hn
  have:=nod_sub' (m:=m.erase x) h1.2 fun y hy=>by
   have hne:y≠x:=fun z=>h1.1 (z ▸ hy)
   exact (List.mem_erase_of_ne hne).mpr (h y (List.mem_cons_of_mem _ hy))
  rw[List.length_erase_of_mem hx]at this
  have hp:0<m.length:=List.length_pos_of_mem hx
  rw[List.length_cons];omega
theorem inj_of_len {α β:Type}[DecidableEq α][DecidableEq β](f:α->β){l:List α}{m:List β}(hl:l.Nodup)(hm:m.Nodup)(hs:∀y∈m,∃x∈l,f x=y)(hlen:l.length<=m.length){x y:α}(hx:x∈l)(hy:y∈l)(e:f x=f y):x=y:=by
 refine Decidable.byContradiction fun hne=>?_
 have hsub:∀z∈m,z∈(l.erase y).map f:=fun z hz=>by
  obtain⟨u,hu,rfl⟩:=hs z hz
  by_cases huy:u=y
  ·subst huy
   exact List.mem_map.mpr ⟨x,(List.mem_erase_of_ne hne).mpr hx,e⟩
  ·exact List.mem_map.mpr ⟨u,(List.mem_erase_of_ne huy).mpr hu,rfl⟩
 have:=nod_sub' hm hsub
 rw[List.length_map,List.length_erase_of_mem hy]at this
 have hp:0<l.length:=List.length_pos_of_mem hy
 omega
theorem finer_same {α β:Type}[DecidableEq α][DecidableEq β]{row:List (α×β)}(h:ncl row<=ncl (row.map (·.1))){x y:α×β}(hx:x∈row)(hy:y∈row)(e:x.1=y.1):x.2=y.2:=by
 have h':(firsts row).length<=(firsts (row.map fun p:α×β=>p.1)).length:=h
 have:=inj_of_len (fun p:α×β=>p.1) (nodup_firsts row) (nodup_firsts (row.map fun p:α×β=>p.1)) (fun z hz=>by
  obtain⟨p,hp,rfl⟩:=List.mem_map.mp (mem_firsts.mp hz)
  exact⟨p,mem_firsts.mpr hp,rfl⟩) h' (mem_firsts.mpr hx) (mem_firsts.mpr hy) e
 rw[this]
def rowB (n:Nat)(b:List Int->Nat->Int)(w:List Int):List Int:=(List.range n).map (b w)
theorem idx_map {α β:Type}[DecidableEq α][DecidableEq β](f:α->β):∀(l:List α) (x:α),(∀y∈l,f y=f x->y=x)->(l.map f).idxOf (f x)=l.idxOf x
 |[],x,_=>rfl
 |a::l,x,h=>by
  rw[List.map_cons,List.idxOf_cons,List.idxOf_cons,idx_map f l x fun y hy=>h y (List.mem_cons_of_mem _ hy)]
  by_cases e:a=x
  ·subst e;simp
  ·have:¬ f a=f x:=fun z=>e (h a (List.mem_cons_self ..) z)
   rw[show (a==x)=false by simpa using e,show (f a==f x)=false by simpa using this]
theorem num_map {α β:Type}[DecidableEq α][DecidableEq β](f:α->β){row:List α}(h:∀x∈row,∀y∈row,f x=f y->x=y):num (row.map f)=num row:=by
 have e:firsts (row.map f)=(firsts row).map f:=by
  unfold firsts
  have:=firstsA_map f row [] (fun x y hx hy e=>h x (hx.resolve_left (by simp)) y (hy.resolve_left (by simp)) e)
  simpa using this
 unfold num
 rw[List.map_map,e]
 refine List.map_congr_left fun x hx=>?_
 show (((firsts row).map f).idxOf (f x):Int)=_
 rw[idx_map f _ _ fun y hy e=>h y (mem_firsts.mp hy) x hx e]
theorem ncl_map {α β:Type}[DecidableEq α][DecidableEq β](f:α->β){row:List α}(h:∀x∈row,∀y∈row,f x=f y->x=y):ncl (row.map f)=ncl row:=by
 rw[<-ncl_num,num_map f h,ncl_num]
abbrev StC:=List (List Int)×List Int
def stepC (n:Nat)(b:List Int->Nat->Int)(w:List Int)(st:StC)(x:Nat):StC:=if ncl st.2<ncl (st.2.zip (rowB n b ((x:Int)::w))) then (st.1++[(x:Int)::w],num (st.2.zip (rowB n b ((x:Int)::w)))) else st
def innerC (n:Nat)(b:List Int->Nat->Int)(w:List Int)(L:Nat)(st:StC):StC:=(List.range L).foldl (stepC n b w) st
def outerC (n:Nat)(b:List Int->Nat->Int)(L:Nat):Nat->Nat->StC->StC
 |0,_,st=>st
 |f+1,k,st=>if k<st.1.length then outerC n b L f (k+1) (innerC n b (st.1.getD k []) L st) else st
section
variable {n L:Nat} {b:List Int->Nat->Int} {w:List Int} {st:StC}
def wcOf (n L:Nat)(b:List Int->Nat->Int):StC:=outerC n b L 41 0 ([[]],num (rowB n b []))
end
theorem ncl_eq {α β:Type}[DecidableEq α][DecidableEq β]{l:List α}{m:List β}(hlen:l.length=m.length)(h:∀r s:Nat,r<l.length->s<l.length->(l[r]?=l[s]? ↔ m[r]?=m[s]?)):ncl l=ncl m:=by
 have key:∀p∈l.zip m,∃r:Nat,r<l.length/\l[r]?=some p.1/\m[r]?=some p.2:=fun p hp=>by
  obtain⟨r,hr⟩:=List.mem_iff_getElem?.mp hp
  have:=List.getElem?_zip_eq_some.mp (show (l.zip m)[r]?=some (p.1,p.2) from hr)
  exact⟨r,(List.getElem?_eq_some_iff.mp this.1).1,this.1,this.2⟩
 have h1:ncl ((l.zip m).map fun p=>p.1)=ncl (l.zip m):=ncl_map _ fun p hp q hq e=>by
  obtain⟨r,r0,r1,r2⟩:=key p hp
  obtain⟨s,s0,s1,s2⟩:=key q hq
  have:=(h r s r0 s0).mp (by rw[r1,s1,e])
  rw[r2,s2]at this
  exact Prod.ext e (Option.some.inj this)
 have h2:ncl ((l.zip m).map fun p=>p.2)=ncl (l.zip m):=ncl_map _ fun p hp q hq e=>by
  obtain⟨r,r0,r1,r2⟩:=key p hp
  obtain⟨s,s0,s1,s2⟩:=key q hq
  have:=(h r s r0 s0).mpr (by rw[r2,s2,e])
  rw[r1,s1]at this
  exact Prod.ext (Option.some.inj this) e
 have e1:((l.zip m).map fun p=>p.1)=l:=List.map_fst_zip (by omega)
 have e2:((l.zip m).map fun p=>p.2)=m:=List.map_snd_zip (by omega)
 rw[e1]at h1
 rw[e2]at h2
 rw[h1,h2]
end L2
namespace L2
open GW GB
def bW (marks:List Int)(ways:List (List Int))(w:List Int)(r:Nat):Int:=marks.getD (walkR ways (r:Int) w).toNat 0
def cf (c:List Int)(r:Int):Int:=c.getD r.toNat 0
def hm (c R:List Int)(r:Int):Int:=(((firsts (R.map (cf c))).idxOf (cf c r):Nat):Int)
def cOf (L:Nat)(marks:List Int)(ways:List (List Int)):List Int:=(wcOf marks.length L (bW marks ways)).2
def rOf (ways:List (List Int)):List Int:=(wordsIn ways).map (·.1)
def hO (L:Nat)(marks:List Int)(ways:List (List Int))(r:Int):Int:=hm (cOf L marks ways) (rOf ways) r
section
variable {L:Nat} {marks:List Int} {ways:List (List Int)}
def wi (ways:List (List Int))(r:Int):List Int:=(((wordsIn ways).find? fun e=>decide (e.1=r)).map (·.2)).getD []
end
theorem walkR_app (ways:List (List Int))(r:Int)(u v:List Int):walkR ways r (u++v)=walkR ways (walkR ways r u) v:=by unfold walkR;rw[List.foldl_append]
end L2
set_option maxHeartbeats 1000000
namespace L2
open PySem PySem.Spec PyProof.Rows
def nt (n:Int):Str:=Str.ofString (toString n)
def jn (c:Nat):List (List Nat)->List Nat
 |[]=>[]
 |[p]=>p
 |p::q::r=>p++c::jn c (q::r)
end L2
set_option maxHeartbeats 4000000
namespace L2
open PySem PySem.Spec PyProof.Rows
theorem call_tuple_L {X:Cx}:CallR X (.type "tuple") (fun xs H Q=>∃p ys,xs=[.ref p]/\((SqL X.K H p ys/\∀l,H l=none->Q (.ref l) (upd H l (.tup ys)))\/False)):=fun pins s σ H xs us Q I r h=>by
 obtain⟨p,ys,e,h|h⟩:=h
 ·exact call_tuple_of pins s σ H xs us Q I r ⟨p,ys,e,.inl h⟩
 ·exact h.elim
theorem len1 {α:Type}{us:List α}(h:us.length=1):∃a,us=[a]:=by match us,h with|[a],_=>exact⟨a,rfl⟩
theorem len2 {α:Type}{us:List α}(h:us.length=2):∃a b,us=[a,b]:=by match us,h with|[a,b],_=>exact⟨a,b,rfl⟩
theorem len3 {α:Type}{us:List α}(h:us.length=3):∃a b c,us=[a,b,c]:=by match us,h with|[a,b,c],_=>exact⟨a,b,c,rfl⟩
end L2
set_option maxHeartbeats 1000000
set_option maxHeartbeats 4000000
namespace PySem.W
open PySem PySem.Calls PyProof.Rows PyProof.V PySem.Spec
end PySem.W
namespace L2
open PySem PySem.W PySem.Spec PySem.Calls PyProof.Rows
def vD:Option (Option V)->(V->Prop)->Prop
 |some (some v),q=>q v
 |_,_=>False
theorem vD_some {v:V}{q:V->Prop}:vD (some (some v)) q=q v:=rfl
theorem vD_ex {o:Option (Option V)}{q:V->Prop}(h:vD o q):∃v,o=some (some v)/\q v:=by
 match o,h with
 |some (some v),h=>exact⟨v,rfl,h⟩
def tVarD (i:Nat):TE:=fun σ H Q=>vD σ[i]? fun v=>Q v H
theorem r_varD {i:Nat}{σ:St}{H:Hp}{Q:VK}:tVarD i σ H Q=vD σ[i]? fun v=>Q v H:=rfl
theorem pvD {X:Cx}(i:Nat){x:Str}{pos:Pos}(hN:X.N[i]?=some x:=by rfl)(hv:Vis X.env.scope x:=by first|exact Or.inl rfl|exact Or.inr (Or.inl rfl)|exact Or.inr (Or.inr rfl))(hd:(x==("__debug__" : Str))=false:=by decide)
  (hcd:(x==("__classdict__" : Str))=false:=by decide):PE X (.Name x pos) (tVarD i):=fun pins s σ H Q I h=>pv i hN hv hd hcd pins s σ H Q I (vD_ex h)
def iD:V->V->(Int->Int->Prop)->Prop
 |.int i,.int j,q=>q i j
 |x,y,q=>∃i j,x=.int i/\y=.int j/\q i j
theorem iD_int {i j:Int}{q:Int->Int->Prop}:iD (.int i) (.int j) q=q i j:=rfl
theorem iD_ex {x y:V}{q:Int->Int->Prop}:iD x y q=∃i j,x=.int i/\y=.int j/\q i j:=by
 cases x<;>cases y<;>first|rfl|(simp[iD])
def rID (C:Int->Int->Prop)(g:Int->Int->V):R2:=fun x y H Q=>iD x y fun i j=>C i j/\Q (g i j) H
def rI0D (g:Int->Int->V):R2:=fun x y H Q=>iD x y fun i j=>Q (g i j) H
theorem r_ID {C:Int->Int->Prop}{f:Int->Int->V}{x y:V}{H:Hp}{Q:VK}:rID C f x y H Q=iD x y fun i j=>C i j/\Q (f i j) H:=rfl
theorem r_I0D {f:Int->Int->V}{x y:V}{H:Hp}{Q:VK}:rI0D f x y H Q=iD x y fun i j=>Q (f i j) H:=rfl
theorem rID_eq {C:Int->Int->Prop}{g:Int->Int->V}:rID C g=rI C g:=by
 funext x y H Q;exact iD_ex
theorem rI0D_eq {g:Int->Int->V}:rI0D g=rI0 g:=by
 funext x y H Q;exact iD_ex
theorem opD {X:Cx}{f:Value->Value->Sem Value}{C:Int->Int->Prop}{g:Int->Int->V}(h:OpR X f (rI C g)):OpR X f (rID C g):=by rw[rID_eq];exact h
theorem opD0 {X:Cx}{f:Value->Value->Sem Value}{g:Int->Int->V}(h:OpR X f (rI0 g)):OpR X f (rI0D g):=by rw[rI0D_eq];exact h
def bD:V->(Bool->Prop)->Prop
 |.bl c,q=>q c
 |x,q=>∃c,x=.bl c/\q c
theorem bD_bl {c:Bool}{q:Bool->Prop}:bD (.bl c) q=q c:=rfl
theorem bD_ex {x:V}{q:Bool->Prop}:bD x q=∃c,x=.bl c/\q c:=by
 cases x<;>first|rfl|(simp[bD])
def tBD (t:TE):TT:=fun σ H Q=>t σ H fun x H1=>bD x fun c=>Q c H1
theorem r_BD {te:TE}{σ:St}{H:Hp}{R:Bool->Hp->Prop}:tBD te σ H R=te σ H fun x H1=>bD x fun c=>R c H1:=rfl
theorem tBD_eq {t:TE}:tBD t=tB t:=by
 funext σ H Q
 show t σ H _=t σ H _
 congr 1
 funext x H1;exact bD_ex
theorem tBD_eqT {t:TE}:tBD t=tTest t:=tBD_eq
theorem ptB {X:Cx}{e:Expr}{t:TE}(h:PT X e (tB t)):PT X e (tBD t):=by rw[tBD_eq];exact h
theorem ptT {X:Cx}{e:Expr}{t:TE}(h:PT X e (tTest t)):PT X e (tBD t):=by rw[tBD_eqT];exact h
def eD:V->V->Prop->Prop
 |.int _,.int _,q=>q
 |.str _,.str _,q=>q
 |.non,.non,q=>q
 |.bl _,.bl _,q=>q
 |x,y,q=>scal x y=true/\q
theorem eD_int {i j:Int}{q:Prop}:eD (.int i) (.int j) q=q:=rfl
theorem eD_str {i j:Str}{q:Prop}:eD (.str i) (.str j) q=q:=rfl
theorem eD_non {q:Prop}:eD .non .non q=q:=rfl
theorem eD_bl {i j:Bool}{q:Prop}:eD (.bl i) (.bl j) q=q:=rfl
theorem eD_ex {x y:V}{q:Prop}:eD x y q=(scal x y=true/\q):=by
 cases x<;>cases y<;>first|rfl|(simp[eD,scal])
def rEqF:R2:=fun x y H Q=>eD x y (Q (.bl (decide (x=y))) H)
def rNeF:R2:=fun x y H Q=>eD x y (Q (.bl (!decide (x=y))) H)
theorem r_EqF {x y:V}{H:Hp}{Q:VK}:rEqF x y H Q=eD x y (Q (.bl (decide (x=y))) H):=rfl
theorem r_NeF {x y:V}{H:Hp}{Q:VK}:rNeF x y H Q=eD x y (Q (.bl (!decide (x=y))) H):=rfl
theorem rEqF_eq:rEqF=rEq:=by funext x y H Q;exact eD_ex
theorem rNeF_eq:rNeF=rNe:=by funext x y H Q;exact eD_ex
theorem opE {X:Cx}{f:Value->Value->Sem Value}(h:OpR X f rEq):OpR X f rEqF:=by rw[rEqF_eq];exact h
theorem opN {X:Cx}{f:Value->Value->Sem Value}(h:OpR X f rNe):OpR X f rNeF:=by rw[rNeF_eq];exact h
def aD:V->(Addr->Prop)->Prop
 |.ref a,q=>q a
 |x,q=>∃a,x=.ref a/\q a
theorem aD_ref {a:Addr}{q:Addr->Prop}:aD (.ref a) q=q a:=rfl
theorem aD_ex {x:V}{q:Addr->Prop}:aD x q=∃a,x=.ref a/\q a:=by
 cases x<;>first|rfl|(simp[aD])
def nD:V->(Int->Prop)->Prop
 |.int a,q=>q a
 |x,q=>∃a,x=.int a/\q a
theorem nD_int {a:Int}{q:Int->Prop}:nD (.int a) q=q a:=rfl
theorem nD_ex {x:V}{q:Int->Prop}:nD x q=∃a,x=.int a/\q a:=by
 cases x<;>first|rfl|(simp[nD])
def rIxTD (K:PySem.W.Frag):R2:=fun x y H Q=>aD x fun p=>∃xs,nD y fun i=>SqT K H p xs/\∃v,atI xs i=some v/\Q v H
def rIxLD (K:PySem.W.Frag):R2:=fun x y H Q=>aD x fun p=>∃xs,nD y fun i=>SqL K H p xs/\∃v,atI xs i=some v/\Q v H
theorem r_ixTD {K:PySem.W.Frag}{x y:V}{H:Hp}{Q:VK}:rIxTD K x y H Q=aD x fun p=>∃xs,nD y fun i=>SqT K H p xs/\∃v,atI xs i=some v/\Q v H:=rfl
theorem r_ixLD {K:PySem.W.Frag}{x y:V}{H:Hp}{Q:VK}:rIxLD K x y H Q=aD x fun p=>∃xs,nD y fun i=>SqL K H p xs/\∃v,atI xs i=some v/\Q v H:=rfl
theorem rIxTD_eq {K:PySem.W.Frag}:rIxTD K=rIxT K:=by
 funext x y H Q
 show aD x _=∃p xs i v,_
 rw[aD_ex]
 refine propext ⟨fun ⟨p,e,h⟩=>?_,fun ⟨p,xs,i,v,e1,e2,e3,e4,e5⟩=>⟨p,e1,?_⟩⟩
 ·obtain⟨xs,h⟩:=h
  rw[nD_ex]at h
  obtain⟨i,e2,e3,v,e4,e5⟩:=h
  exact⟨p,xs,i,v,e,e2,e3,e4,e5⟩
 ·refine⟨xs,?_⟩
  rw[nD_ex]
  exact⟨i,e2,e3,v,e4,e5⟩
theorem rIxLD_eq {K:PySem.W.Frag}:rIxLD K=rIxL K:=by
 funext x y H Q
 show aD x _=∃p xs i v,_
 rw[aD_ex]
 refine propext ⟨fun ⟨p,e,h⟩=>?_,fun ⟨p,xs,i,v,e1,e2,e3,e4,e5⟩=>⟨p,e1,?_⟩⟩
 ·obtain⟨xs,h⟩:=h
  rw[nD_ex]at h
  obtain⟨i,e2,e3,v,e4,e5⟩:=h
  exact⟨p,xs,i,v,e,e2,e3,e4,e5⟩
 ·refine⟨xs,?_⟩
  rw[nD_ex]
  exact⟨i,e2,e3,v,e4,e5⟩
theorem ixTD {X:Cx}{K:PySem.W.Frag}(h:IxR X (rIxT K)):IxR X (rIxTD K):=by rw[rIxTD_eq];exact h
theorem ixLD {X:Cx}{K:PySem.W.Frag}(h:IxR X (rIxL K)):IxR X (rIxLD K):=by rw[rIxLD_eq];exact h
def lD1:List V->(V->Prop)->Prop
 |[x],q=>q x
 |xs,q=>∃x,xs=[x]/\q x
theorem lD1_one {x:V}{q:V->Prop}:lD1 [x] q=q x:=rfl
theorem lD1_ex {xs:List V}{q:V->Prop}:lD1 xs q=∃x,xs=[x]/\q x:=by
 match xs with
 |[]=>rfl
 |[x]=>simp[lD1]
 |x::y::r=>rfl
def rLenD (K:PySem.W.Frag):List V->Hp->VK->Prop:=fun xs H Q=>lD1 xs fun x=>aD x fun p=>∃ys,(SqL K H p ys\/SqT K H p ys)/\Q (.int ys.length) H
theorem r_lenD {K:PySem.W.Frag}{xs:List V}{H:Hp}{Q:VK}:rLenD K xs H Q=lD1 xs fun x=>aD x fun p=>∃ys,(SqL K H p ys\/SqT K H p ys)/\Q (.int ys.length) H:=rfl
theorem lenD {X:Cx}{K:PySem.W.Frag}{f:Value}(h:CallR X f (fun xs H Q=>∃p ys,xs=[.ref p]/\(SqL K H p ys\/SqT K H p ys)/\Q (.int ys.length) H)):CallR X f (rLenD K):=by
 have e:rLenD K=fun xs H Q=>∃p ys,xs=[.ref p]/\(SqL K H p ys\/SqT K H p ys)/\Q (.int ys.length) H:=by
  funext xs H Q
  show lD1 xs _=_
  rw[lD1_ex]
  refine propext ⟨fun ⟨x,e,h⟩=>?_,fun ⟨p,ys,e,h1,h2⟩=>⟨_,e,ys,h1,h2⟩⟩
  rw[aD_ex]at h
  obtain⟨p,rfl,ys,h1,h2⟩:=h
  exact⟨p,ys,e,h1,h2⟩
 rw[e];exact h
theorem ps_setL {X:Cx}{i:Nat}{x:Str}{e:Expr}{te:TE}{pos pos':Pos}(hN:X.N.Nodup)(he:PE X e te)(hi:X.N[i]?=some x:=by rfl)(hx:Loc X.env.scope x:=by exact Or.inl rfl)(hs:swapsWith e (some (.Name x pos')) pos.line X.env=pure false:=by rfl)(hf:X.fn x=true\/X.env.scope.names.lookup x=some .local:=by first|exact .inl rfl|exact .inr rfl|assumption):PS X (.Assign [.Name x pos'] e pos) (tAsg te (gName i)):=ps_set hN hi hx he hs hf
theorem pe_ixA {X:Cx}{r:R2}{a b:Expr}{ta tb:TE}{pos:Pos}(hr:IxR X r)(ha:PE X a ta)(hb:PE X b tb)(hs:PlainIx b:=by exact fun _ _=>rfl):PE X (.Subscript a b pos) (tOp r ta tb):=pe_ix hr ha hb hs
end L2
namespace PySem
open Sem (wp)
structure VKind (prog:Program)(w:World)(K:Type)[DecidableEq K] where
 is:Heap->K->Value->Prop
 hash:K->Int
 draws:K->Nat
 room:Around->Prop
 inj:∀{h:Heap} {a:Value} {x y:K},is h x a->is h y a->x=y
 keeps:∀{h h':Heap} {k:K} {a:Value} {d:Addr} {o:Obj} {es ep},is h k a->h.get? d=some o->o.data=.dict es ep->Heap.SameBut d h h'->is h' k a
 pyHash:∀{A:Around} {E:Value->Shared->Prop} {s:Shared} {k:K} {a:Addr} {Q:Int->Shared->Prop},room A->is s.heap k (.ref a)->Q (hash k) {s with toks:=s.toks+draws k}->wpAny (model prog w) A (PySem.pyHash (.ref a)) Q E s
 eqBool:∀{A:Around} {E:Value->Shared->Prop} {s:Shared} {x y:K} {u:Value} {b:Addr} {Q:Bool->Shared->Prop},room A->is s.heap x u->is s.heap y (.ref b)->Q (decide (x=y)) s->wpAny (model prog w) A (PySem.eqBool u (.ref b)) Q E s
 quiet:∀{A:Around} {E:Value->Shared->Prop} {s:Shared} {k:K} {a:Value} {Q:Bool->Shared->Prop},room A->is s.heap k a->Q true s->wpAny (model prog w) A (eqIsQuiet 8 a) Q E s
abbrev NI:=Int ⊕ List Int
abbrev NK:=Option (List NI)
def isNon:Value->Bool
 |.none=>true
 |_=>false
theorem isNon_shape {v:Value}(h:isNon v=true):v=.none:=by
 cases v<;>first|rfl|exact nomatch h
theorem wpAny_pyHash_none {prog:Program}{w:World}{A:Around}{E:Value->Shared->Prop}{s:Shared}{Q:Int->Shared->Prop}(h:Q 0xFCA86420 {s with toks:=s.toks+1}):wpAny (model prog w) A (pyHash .none) Q E s:=by
 have hT:s.TypeIs .none "NoneType" := rfl
 unfold pyHash
 first|unfold pyHashByItsType|skip
 have hv:[Value.none].any Value.onHeap=false:=rfl
 refine wpAny_bind ?_
 rw[cRoomFor,if_neg (by rw[hv];exact Bool.false_ne_true)];refine wpAny_pure ?_
 refine wpAny_bind (wpAny_specialOf hT F.slot_NoneType_hash.lookup ?_)
 show wpAny _ _ (if (some (Value.builtin "NoneType.__hash__")==some Value.none)=true then _ else _) Q E s
 rw[if_neg (by rw[beq_builtin_none];exact Bool.false_ne_true)]
 refine wpAny_bind (wpAny_specialOf hT F.slot_NoneType_hash.lookup ?_)
 show wpAny _ _ (callSpecialIfBoundUnlessNone? .none "__hash__" _ >>= _) Q E s
 refine wpAny_bind (wpAny_callSpecialIfBoundUnlessNone?_slot hT F.slot_NoneType_hash
  (wpAny_call_entry F.slot_NoneType_hash hT F.entry_NoneType_hash
   (show wpAny _ _ (do ret ( <- mkInt 0xFCA86420)) _ _ s from wpAny_ret_mkInt ?_) (F.args_NoneType_hash_1 _)))
 show wpAny _ _ (if (decide (-(2:Int) ^ 63<=0xFCA86420)&&decide ((0xFCA86420:Int)<2 ^ 63))=true then _ else _) Q E _
 rw[if_pos (by decide)]
 exact wpAny_pure h
def noneKind (prog:Program)(w:World):KeyKind prog w Unit where
 is:=fun _ v=>isNon v
 hash:=fun _=>0xFCA86420
 inj:=fun _ _ _ _ _=>rfl
 byValue:=fun k v h=>by cases isNon_shape h;rfl
 pyHash:=fun hv h=>by cases isNon_shape hv;exact wpAny_pyHash_none h
 eqBool:=fun {A E s a b u v Q} hu hv h=>by
  cases isNon_shape hu
  cases isNon_shape hv
  unfold eqBool
  try with_reducible refine wpAny_holding ?_
  show wpAny _ _ (if (Value.none==Value.none)=true then _ else _) Q E s
  rw[if_pos (show (Value.none==Value.none)=true from rfl)]
  exact wpAny_bind (wpAny_rule (wpAny_pure (by simpa using h)))
 «strs» := fun k x t v h=>(nomatch h)
end PySem
namespace S64
open PySem PyProof.Rows
def KE (κ:KeyKind)(x:Keyed):κ.α:=(κ.keyOf x.1).getD κ.dflt
def NI (κ:KeyKind)(xs:Array Keyed)(lo hi:Nat):Prop:=∀i j,lo<=i->i<=j->j<hi->κ.kle (KK κ xs j) (KK κ xs i)
def gallop':Bool->Keyed->Array Keyed->Nat->Nat->Nat->StateT SortSt Sem (Option Nat):=sortPriv% PySem.Builtin.gallop
def setMinGallop':Nat->StateT SortSt Sem Unit:=sortPriv% PySem.Builtin.setMinGallop
def doneL (a b out:Array Keyed)(ia ib:Nat):Array Keyed:=out++a.extract ia a.size++b.extract ib b.size
def lastA (a b out:Array Keyed)(ia ib:Nat):Array Keyed:=out++b.extract ib b.size++a.extract ia a.size
abbrev G5:=Option (Array Keyed)×Array Keyed×Nat×Nat×Nat
abbrev G6:=Option (Array Keyed)×Array Keyed×Nat×Nat×Nat×Nat
abbrev G7:=Option (Array Keyed)×Array Keyed×Nat×Nat×Nat×Nat×Nat
def PC (a b out:Array Keyed)(ia ib mg ac bc:Nat):StateT SortSt Sem (ForInStep G7):=do
 let y <- elem' a ia
 if (ia+1+1==a.size)=true then pure (.done (some (lastA a b (out.push y) (ia+1) ib),out.push y,ia+1,ib,mg,ac,bc))
 else if (decide (ac<7)&&decide (bc<7))=true then pure (.done (none,out.push y,ia+1,ib,mg,ac,bc)) else pure (.yield (none,out.push y,ia+1,ib,mg,ac,bc))
def PB (a b out:Array Keyed)(ia ib mg ac bc:Nat):StateT SortSt Sem (ForInStep G7):=do
 let y <- elem' b ib
 if (ib+1==b.size)=true then pure (.done (some (doneL a b (out.push y) ia (ib+1)),out.push y,ia,ib+1,mg,ac,bc))
 else do
  let z <- elem' a ia
  let x <- gallop' true z b (ib+1) (b.size-(ib+1)) 0
  match x with
  |some k=>if k > 0 then (if (ib+1+k==b.size)=true then pure (.done (some (doneL a b (out.push y++b.extract (ib+1) (ib+1+k)) ia (ib+1+k)),out.push y++b.extract (ib+1) (ib+1+k),ia,ib+1+k,mg,ac,k)) else PC a b (out.push y++b.extract (ib+1) (ib+1+k)) ia (ib+1+k) mg ac k) else PC a b (out.push y) ia (ib+1) mg ac k
  |_=>pure (.done (some (doneL a b (out.push y) ia (ib+1)),out.push y,ia,ib+1,mg,ac,bc))
def PA (a b out:Array Keyed)(ia ib mg ac bc:Nat):StateT SortSt Sem (ForInStep G7):=do
 setMinGallop' mg
 let y <- elem' b ib
 let x <- gallop' false y a ia (a.size-ia) 0
 match x with
 |some k=>if k > 0 then (if (ia+k+1==a.size)=true then pure (.done (some (lastA a b (out++a.extract ia (ia+k)) (ia+k) ib),out++a.extract ia (ia+k),ia+k,ib,mg,k,bc)) else if (ia+k==a.size)=true then pure (.done (some (doneL a b (out++a.extract ia (ia+k)) (ia+k) ib),out++a.extract ia (ia+k),ia+k,ib,mg,k,bc)) else PB a b (out++a.extract ia (ia+k)) (ia+k) ib mg k bc) else PB a b out ia ib mg k bc
 |_=>pure (.done (some (doneL a b out ia ib),out,ia,ib,mg,ac,bc))
def P1 (a b:Array Keyed)(mg:Nat)(c:G6):StateT SortSt Sem (ForInStep G6):=do
 let y <- elem' b c.2.2.2.1
 let z <- elem' a c.2.2.1
 let x <- lt' y z
 match x with
 |some bWins=>
  if bWins=true then
   elem' b c.2.2.2.1 >>= fun y=>
   if (c.2.2.2.1+1==b.size)=true then pure (.done (some (doneL a b (c.2.1.push y) c.2.2.1 (c.2.2.2.1+1)),c.2.1.push y,c.2.2.1,c.2.2.2.1+1,0,c.2.2.2.2.2+1))
   else if c.2.2.2.2.2+1 >= mg then pure (.done (none,c.2.1.push y,c.2.2.1,c.2.2.2.1+1,0,c.2.2.2.2.2+1)) else pure (.yield (none,c.2.1.push y,c.2.2.1,c.2.2.2.1+1,0,c.2.2.2.2.2+1))
  else
   elem' a c.2.2.1 >>= fun y=>
   if (c.2.2.1+1+1==a.size)=true then pure (.done (some (lastA a b (c.2.1.push y) (c.2.2.1+1) c.2.2.2.1),c.2.1.push y,c.2.2.1+1,c.2.2.2.1,c.2.2.2.2.1+1,0))
   else if c.2.2.2.2.1+1 >= mg then pure (.done (none,c.2.1.push y,c.2.2.1+1,c.2.2.2.1,c.2.2.2.2.1+1,0)) else pure (.yield (none,c.2.1.push y,c.2.2.1+1,c.2.2.2.1,c.2.2.2.2.1+1,0))
 |_=>pure (.done (some (doneL a b c.2.1 c.2.2.1 c.2.2.2.1),c.2.1,c.2.2.1,c.2.2.2.1,c.2.2.2.2.1,c.2.2.2.2.2))
def P2 (a b:Array Keyed)(c:G7):StateT SortSt Sem (ForInStep G7):=if c.2.2.2.2.1 > 1 then PA a b c.2.1 c.2.2.1 c.2.2.2.1 (c.2.2.2.2.1-1) c.2.2.2.2.2.1 c.2.2.2.2.2.2 else PA a b c.2.1 c.2.2.1 c.2.2.2.1 c.2.2.2.2.1 c.2.2.2.2.2.1 c.2.2.2.2.2.2
def PO (a b:Array Keyed)(c:G5):StateT SortSt Sem (ForInStep G5):=do
 let d <- forIn [0:a.size+b.size] ((none,c.2.1,c.2.2.1,c.2.2.2.1,0,0):G6) fun _ d=>P1 a b c.2.2.2.2 d
 match d.1 with
 |some r=>pure (.done (some r,d.2.1,d.2.2.1,d.2.2.2.1,c.2.2.2.2))
 |none=>do
  liftM (rule "list.sort.gallop")
  let e <- forIn [0:a.size+b.size] ((none,d.2.1,d.2.2.1,d.2.2.2.1,c.2.2.2.2+1,d.2.2.2.2.1,d.2.2.2.2.2):G7) fun _ e=>P2 a b e
  match e.1 with
  |some r=>pure (.done (some r,e.2.1,e.2.2.1,e.2.2.2.1,e.2.2.2.2.1))
  |none=>do
   setMinGallop' (e.2.2.2.2.1+1)
   pure (.yield (none,e.2.1,e.2.2.1,e.2.2.2.1,e.2.2.2.2.1+1))
def doneH (a b out:Array Keyed)(na nb:Nat):Array Keyed:=a.extract 0 na++b.extract 0 nb++out.reverse
def firstB (a b out:Array Keyed)(na nb:Nat):Array Keyed:=b.extract 0 nb++a.extract 0 na++out.reverse
abbrev H5:=Option (Array Keyed)×Nat×Nat×Array Keyed×Nat
abbrev H6:=Option (Array Keyed)×Nat×Nat×Array Keyed×Nat×Nat
abbrev H7:=Option (Array Keyed)×Nat×Nat×Array Keyed×Nat×Nat×Nat
def HC (a b out:Array Keyed)(na nb mg ac bc:Nat):StateT SortSt Sem (ForInStep H7):=do
 let y <- elem' a (na-1)
 if (na-1==0)=true then pure (.done (some (doneH a b (out.push y) (na-1) nb),na-1,nb,out.push y,mg,ac,bc))
 else if (decide (ac<7)&&decide (bc<7))=true then pure (.done (none,na-1,nb,out.push y,mg,ac,bc)) else pure (.yield (none,na-1,nb,out.push y,mg,ac,bc))
def HB (a b out:Array Keyed)(na nb mg ac bc:Nat):StateT SortSt Sem (ForInStep H7):=do
 let y <- elem' b (nb-1)
 if (nb-1==1)=true then pure (.done (some (firstB a b (out.push y) na (nb-1)),na,nb-1,out.push y,mg,ac,bc))
 else do
  let z <- elem' a (na-1)
  let x <- gallop' true z b 0 (nb-1) (nb-1-1)
  match x with
  |some t=>if nb-1-t > 0 then (if (t==1)=true then pure (.done (some (firstB a b (out.push y++(b.extract t (nb-1)).reverse) na t),na,t,out.push y++(b.extract t (nb-1)).reverse,mg,ac,nb-1-t)) else if (t==0)=true then pure (.done (some (doneH a b (out.push y++(b.extract t (nb-1)).reverse) na t),na,t,out.push y++(b.extract t (nb-1)).reverse,mg,ac,nb-1-t)) else HC a b (out.push y++(b.extract t (nb-1)).reverse) na t mg ac (nb-1-t)) else HC a b (out.push y) na (nb-1) mg ac (nb-1-t)
  |_=>pure (.done (some (doneH a b (out.push y) na (nb-1)),na,nb-1,out.push y,mg,ac,bc))
def HA (a b out:Array Keyed)(na nb mg ac bc:Nat):StateT SortSt Sem (ForInStep H7):=do
 setMinGallop' mg
 let y <- elem' b (nb-1)
 let x <- gallop' false y a 0 na (na-1)
 match x with
 |some t=>if na-t > 0 then (if (t==0)=true then pure (.done (some (doneH a b (out++(a.extract t na).reverse) t nb),t,nb,out++(a.extract t na).reverse,mg,na-t,bc)) else HB a b (out++(a.extract t na).reverse) t nb mg (na-t) bc) else HB a b out na nb mg (na-t) bc
 |_=>pure (.done (some (doneH a b out na nb),na,nb,out,mg,ac,bc))
def H1 (a b:Array Keyed)(mg:Nat)(c:H6):StateT SortSt Sem (ForInStep H6):=do
 let y <- elem' b (c.2.2.1-1)
 let z <- elem' a (c.2.1-1)
 let x <- lt' y z
 match x with
 |some aWins=>
  if aWins=true then
   elem' a (c.2.1-1) >>= fun y=>
   if (c.2.1-1==0)=true then pure (.done (some (doneH a b (c.2.2.2.1.push y) (c.2.1-1) c.2.2.1),c.2.1-1,c.2.2.1,c.2.2.2.1.push y,c.2.2.2.2.1+1,0))
   else if c.2.2.2.2.1+1 >= mg then pure (.done (none,c.2.1-1,c.2.2.1,c.2.2.2.1.push y,c.2.2.2.2.1+1,0)) else pure (.yield (none,c.2.1-1,c.2.2.1,c.2.2.2.1.push y,c.2.2.2.2.1+1,0))
  else
   elem' b (c.2.2.1-1) >>= fun y=>
   if (c.2.2.1-1==1)=true then pure (.done (some (firstB a b (c.2.2.2.1.push y) c.2.1 (c.2.2.1-1)),c.2.1,c.2.2.1-1,c.2.2.2.1.push y,0,c.2.2.2.2.2+1))
   else if c.2.2.2.2.2+1 >= mg then pure (.done (none,c.2.1,c.2.2.1-1,c.2.2.2.1.push y,0,c.2.2.2.2.2+1)) else pure (.yield (none,c.2.1,c.2.2.1-1,c.2.2.2.1.push y,0,c.2.2.2.2.2+1))
 |_=>pure (.done (some (doneH a b c.2.2.2.1 c.2.1 c.2.2.1),c.2.1,c.2.2.1,c.2.2.2.1,c.2.2.2.2.1,c.2.2.2.2.2))
def H2 (a b:Array Keyed)(c:H7):StateT SortSt Sem (ForInStep H7):=if c.2.2.2.2.1 > 1 then HA a b c.2.2.2.1 c.2.1 c.2.2.1 (c.2.2.2.2.1-1) c.2.2.2.2.2.1 c.2.2.2.2.2.2 else HA a b c.2.2.2.1 c.2.1 c.2.2.1 c.2.2.2.2.1 c.2.2.2.2.2.1 c.2.2.2.2.2.2
def HO (a b:Array Keyed)(c:H5):StateT SortSt Sem (ForInStep H5):=do
 let d <- forIn [0:a.size+b.size] ((none,c.2.1,c.2.2.1,c.2.2.2.1,0,0):H6) fun _ d=>H1 a b c.2.2.2.2 d
 match d.1 with
 |some r=>pure (.done (some r,d.2.1,d.2.2.1,d.2.2.2.1,c.2.2.2.2))
 |none=>do
  liftM (rule "list.sort.gallop")
  let e <- forIn [0:a.size+b.size] ((none,d.2.1,d.2.2.1,d.2.2.2.1,c.2.2.2.2+1,d.2.2.2.2.1,d.2.2.2.2.2):H7) fun _ e=>H2 a b e
  match e.1 with
  |some r=>pure (.done (some r,e.2.1,e.2.2.1,e.2.2.2.1,e.2.2.2.2.1))
  |none=>do
   setMinGallop' (e.2.2.2.2.1+1)
   pure (.yield (none,e.2.1,e.2.2.1,e.2.2.2.1,e.2.2.2.2.1+1))
def wr (a:Array Keyed)(base:Nat)(r:List Keyed)(n:Nat):Array Keyed:=(r.zipIdx n).foldl (fun a (p,j)=>a.setIfInBounds (base+j) p) a
end S64
namespace S64
open PySem PyProof.Rows L2
abbrev Wd:=Addr×List Int
def wv (ws:List Wd):List V:=ws.map fun w=>V.ref w.1
section
variable {X:Cx} {pins:List (Addr×Obj)} {σ:L2.St} {H H0:Hp} {s:Shared} {A:Around} {E:Value->Shared->Prop} {ws:List Wd} {ts:List Addr} {a kT:Addr} {e1:Nat} {P:PySem.Fin->Shared->Prop} {f:Value}
def Turn (X:Cx)(pins:List (Addr×Obj))(σ:L2.St)(A:Around)(f:Value)(ws:List Wd)(H0:Hp):Prop:=∀w∈ws,∀(H':Hp) (s':Shared),Inv X pins σ H' s'->Same H0 H' ->
 wpAny (model X.prog X.w) A (call f [.ref w.1]) (EP X pins σ (fun k H''=>∃t,k=.ref t/\Same H' H''/\SqT X.K H'' t [.int w.2.length,.ref w.1])) (fun _ _=>False) s'
end
end S64
namespace L2
open PySem PySem.Spec PyProof.Rows
def EqsD (K:PySem.W.Frag)(H:Hp)(n:Nat)(xs:List V)(x:V)(e:Nat->Bool):Prop:=(∀(i:Nat) (v:V),xs[i]?=some v->∃a,v=.ref a/\EqD K H n v x (e i))/\∀(i j:Nat) (v:V),xs[i]?=some v->xs[j]?=some v->e i=e j
noncomputable def evG (xs:List V)(e:Nat->Bool)(y:Value):Bool := @decide (∃(i:Nat) (a:Addr),y=.ref a/\xs[i]?=some (.ref a)/\e i=true) (Classical.propDecidable _)
theorem evG_at {K:PySem.W.Frag}{H:Hp}{n:Nat}{xs:List V}{x:V}{e:Nat->Bool}(h:EqsD K H n xs x e){i:Nat}{a:Addr}(hx:xs[i]?=some (.ref a)):evG xs e (.ref a)=e i:=by
 rw[Bool.eq_iff_iff]
 unfold evG
 rw[@decide_eq_true_iff _ (Classical.propDecidable _)]
 constructor
 ·rintro⟨j,b,hb,hxj,hej⟩
  cases hb
  rw[h.2 i j _ hx hxj];exact hej
 ·intro he
  exact⟨i,a,rfl,hx,he⟩
def rInG (K:PySem.W.Frag)(n:Nat)(neg:Bool):R2:=fun x y H Q=>∃p t xs e,y=.ref p/\x=.ref t/\SqL K H p xs/\EqsD K H n xs x e/\Q (.bl (if neg then !((List.range xs.length).any e) else (List.range xs.length).any e)) H
theorem r_inG {K:PySem.W.Frag}{n:Nat}{neg:Bool}{x y:V}{H:Hp}{Q:VK}:rInG K n neg x y H Q=∃p t xs e,y=.ref p/\x=.ref t/\SqL K H p xs/\EqsD K H n xs x e/\Q (.bl (if neg then !((List.range xs.length).any e) else (List.range xs.length).any e)) H:=rfl
theorem inG_core {X:Cx}{pins:List (Addr×Obj)}{σ:St}{H:Hp}{s:Shared}{p t:Addr}{xs:List V}{n:Nat}{e:Nat->Bool}(hu:X.A.units+n+1<cLine)(I:Inv X pins σ H s)(hp:SqL X.K H p xs)(hE:EqsD X.K H n xs (.ref t) e):
  ∃(its:Array Value),s.heap.IsList p its/\(∀y,y∈its->SeqAt.EqAt X.A.in1 s y (.ref t) (evG xs e y))/\its.any (evG xs e)=(List.range xs.length).any e:=by
 obtain⟨its,r,pl,_⟩:=I.list hp
 have hl:=r.length
 refine⟨its.toArray,pl.isList,fun y hy=>?_,?_⟩
 ·have hy':y∈its:=by simpa using hy
  obtain⟨i,hi,ei⟩:=List.getElem_of_mem hy'
  have hix:i<xs.length:=by omega
  obtain⟨u,hu',ru⟩:=r.get (i:=i) (x:=xs[i]) (by simp[hix])
  rw[List.getElem?_eq_getElem hi,ei]at hu'
  cases hu'
  obtain⟨a,e2,e3⟩:=hE.1 i xs[i] (by simp[hix])
  rw[e2]at ru e3
  cases ru
  rw[evG_at hE (i:=i) (by rw[List.getElem?_eq_getElem hix,e2])]
  exact (EqD.at (x:=V.ref a) (y:=V.ref t) I n X.A.in1 (by rw[in1_units];omega) rfl rfl e3).1
 ·rw[show its.toArray.any (evG xs e)=its.any (evG xs e) by simp,Bool.eq_iff_iff,List.any_eq_true,List.any_eq_true]
  constructor
  ·rintro⟨y,hy,hey⟩
   obtain⟨j,b,_,hxj,hej⟩:=(@decide_eq_true_iff _ (Classical.propDecidable _)).mp hey
   exact⟨j,List.mem_range.mpr (List.getElem?_eq_some_iff.mp hxj).1,hej⟩
  ·rintro⟨i,hi,hei⟩
   have hi:=List.mem_range.mp hi
   obtain⟨a,e2,e3⟩:=hE.1 i xs[i] (by simp[hi])
   have hx:xs[i]?=some (.ref a):=by rw[List.getElem?_eq_getElem hi,e2]
   obtain⟨u,hu',ru⟩:=r.get hx
   cases ru
   exact⟨.ref a,List.mem_of_getElem? hu',by rw[evG_at hE hx];exact hei⟩
theorem hu45 {u:Nat}(h:u+8<cLine):u+4+1<cLine:=by omega
theorem hu46 {u:Nat}(h:u+8<cLine):u+4+2<cLine:=by omega
theorem op_notInG {X:Cx}(n:Nat)(hu:X.A.units+n+1<cLine):OpR X (compareOp .NotIn) (rInG X.K n true):=by
 intro pins s σ H x y v u Q I rx ry h
 obtain⟨p,t,xs,e,rfl,rfl,hp,hw,q⟩:=h
 cases ry
 cases rx
 obtain⟨its,h1,h2,h3⟩:=inG_core hu I hp hw
 refine SeqAt.notIn_listAt _ h1 h2 ⟨.bl _,H,I,rfl,?_⟩
 rw[h3]
 exact q
def rIndexG (K:PySem.W.Frag)(n:Nat):V->List V->Hp->VK->Prop:=fun x vs H Q=>∃l xs t e m,x=.ref l/\vs=[.ref t]/\H l=some (.lst xs)/\EqsD K H n xs (.ref t) e/\m<xs.length/\e m=true/\(∀j,j<m->e j=false)/\xs.length<1000000/\Q (.int (m:Nat)) H
theorem r_indexG {K:PySem.W.Frag}{n:Nat}{x:V}{vs:List V}{H:Hp}{Q:VK}:rIndexG K n x vs H Q=∃l xs t e m,x=.ref l/\vs=[.ref t]/\H l=some (.lst xs)/\EqsD K H n xs (.ref t) e/\m<xs.length/\e m=true/\(∀j,j<m->e j=false)/\xs.length<1000000/\Q (.int (m:Nat)) H:=rfl
theorem mt_indexG {X:Cx}(n:Nat)(hu:X.A.units+n+2<cLine):MtM X "list.index" (rIndexG X.K n):=by
 intro pins s σ H x vs v us Q I rx rv h
 obtain⟨l,xs,t,e,m,rfl,rfl,hH,hE,hm,hem,hej,hlt,q⟩:=h
 cases rx
 obtain⟨u,rfl,ry⟩:=vals1 rv
 cases ry
 obtain⟨zz,its,k,r,hl,eo⟩:=I.lstM hH
 have hrl:xs.length=its.length:=r.length
 have get:∀(j:Nat) (hj:j<its.toArray.size),∃(a:Addr),its.toArray[j]=.ref a/\xs[j]?=some (.ref a)/\EqD X.K H n (.ref a) (.ref t) (e j):=fun j hj=>by
  have hj':j<xs.length:=by rw[List.size_toArray]at hj;omega
  obtain⟨a,e2,e3⟩:=hE.1 j xs[j] (by simp[hj'])
  rw[e2]at e3
  have hx:xs[j]?=some (.ref a):=by rw[List.getElem?_eq_getElem hj',e2]
  obtain⟨w',f1,f2⟩:=r.get hx
  have e4:its.toArray[j]=w':=by
   have:its[j]?=some its.toArray[j]:=by simp at hj;simp[hj]
   rw[f1]at this
   exact (Option.some.inj this).symm
  cases f2
  exact⟨a,e4,hx,e3⟩
 have hjs:m<its.toArray.size:=by rw[List.size_toArray];omega
 refine call_meets F.slot_list_index ⟨_,eo,rfl⟩ F.entry_list_index (F.args_list_index_2 _ _) (SeqAt.list_indexAt l its.toArray k none #[] (.ref t) (evG xs e) m hjs (by omega) ?_ fun j hj hjm=>?_) ⟨eo,fun y hy=>?_,?_⟩
 ·obtain⟨a,e1,e2,e3⟩:=get _ hjs
  rw[e1,evG_at hE e2];exact hem
 ·obtain⟨a,e1,e2,e3⟩:=get j hj
  rw[e1,evG_at hE e2];exact hej j hjm
 ·obtain⟨j,hj,ej⟩:=List.getElem_of_mem (show y∈its by simpa using hy)
  obtain⟨a,e1,e2,e3⟩:=get j (by rw[List.size_toArray];exact hj)
  have:y=.ref a:=by rw[<-ej,<-e1];simp
  rw[this,evG_at hE e2]
  exact (EqD.at (x:=V.ref a) (y:=V.ref t) I n _ (by rw[in1_units];omega) rfl rfl e3).1
 ·exact⟨.int (m:Nat),H,I.tok _,⟨_,rfl⟩,q⟩
theorem mt_indexGK {X:Cx}{K:PySem.W.Frag}(h:X.K=K)(n:Nat)(hu:X.A.units+n+2<cLine):MtR X "list.index" (rIndexG K n):=by subst h;exact mt_indexG n hu
structure Cal (P:Program)(w:World)(K:PySem.W.Frag)(mg:Str->Option Value)(base:Heap)(CX:CXT)(k:Nat)(x:Str)(st:Stmt)(ps:List Str)(sp:Sp)(f:Addr)(fd:FuncData):Prop where
 g:FnOk P w K mg base CX k f fd ps sp
 F:Fun K x x st f fd
 b:Binds K fd ps []
 m:mg x=some (.ref f)
theorem Room.d {j k:Nat}{A:Around}(r:Room k A)(h:j<=k:=by decide):Room j A:=r.mono h
theorem pe_callQ {X:Cx}{CX:CXT}{k:Nat}{f:Addr}{fd:FuncData}{ps:List Str}{sp:Sp}{E:XK}{x:Str}{st:Stmt}{p pos:Pos}{e:Expr}{es:List Expr}{t:TA}(q:Cal X.prog X.w X.K X.mg X.base CX k x st ps sp f fd)(hr:Room k X.A)(hx:Passes CX X E)
  (ha:PA X (e::es) t) (hg:Gl X x:=by rfl) (hdb:(x==("__debug__" : Str))=false:=by decide) (he:starEach (e::es) X.env=(false,eval e X.env)::starEach es X.env:=by rfl) (hpl:(backTo pos (starEach es X.env)).any (·.1)=false:=by rfl):
  PE X (.Call (.Name x p) (e::es) [] pos) (tCall sp [] E t):=pe_call q.g hr hg q.m q.F.kp q.b .nil hx ha hdb he hpl
abbrev HA (K:PySem.W.Frag)(x:Str)(f:Addr):Prop:=PySem.W.nsIn K mainGlobals x=some (some (.ref f))
structure HF (K:PySem.W.Frag)(x:Str)(st:Stmt)(f:Addr)(fd:FuncData):Prop where
 a:PySem.W.nsIn K mainGlobals x=some (some (.ref f))
 F:Fun K x x st f fd
structure Wh (P:Program)(w:World)(K:PySem.W.Frag)(mg:Str->Option Value)(base:Heap):Prop where
 m:∀(x:Str) (f:Addr),PySem.W.nsIn K mainGlobals x=some (some (.ref f))->mg x=some (.ref f)
theorem HF.c {P:Program}{w:World}{K:PySem.W.Frag}{mg:Str->Option Value}{base:Heap}{CX:CXT}{k:Nat}{x:Str}{st:Stmt}{ps:List Str}{sp:Sp}{f:Addr}{fd:FuncData}(h:HF K x st f fd)(Z:Wh P w K mg base)(g:FnOk P w K mg base CX k f fd ps sp)
  (e:∀(kV doc pm:Value) (an:Option Addr) (cdv ct:Value) (us:List Value),us.length=ps.length->bindArgs (PySem.W.fnOf x x (defArgs st) (defBody st) (defScope st) .none kV doc pm an cdv ct) ⟨us,[]⟩=pure (ps.zip us):=by
   intro _ _ _ _ _ _ us hl;first|(obtain⟨_,rfl⟩:=len1 hl;rfl)|(obtain⟨_,_,rfl⟩:=len2 hl;rfl)|(obtain⟨_,_,_,rfl⟩:=len3 hl;rfl)|(obtain⟨_,_,_,_,rfl⟩:=len4 hl;rfl)):Cal P w K mg base CX k x st ps sp f fd:=⟨g,h.F,h.F.binds e,Z.m _ _ h.a⟩
theorem HF.b {K:PySem.W.Frag}{x p:Str}{st:Stmt}{f:Addr}{fd:FuncData}(h:HF K x st f fd)(e:∀(kV doc pm:Value) (an:Option Addr) (cdv ct v:Value),bindArgs (PySem.W.fnOf x x (defArgs st) (defBody st) (defScope st) .none kV doc pm an cdv ct) ⟨[v],[]⟩=pure [(p,v)])(s:Shared)(v:Value):BindsTo s fd ⟨[v],[]⟩ [(p,v)]:=by
 obtain⟨_,_,_,_,_,_,_,_,_,rfl,_,_⟩:=h.F.ex
 exact .of_eq (e _ _ _ _ _ _ _)
end L2
namespace PySem
theorem code_meets {prog:Program}{w:World}{A:Around}{s:Shared}{R:Result->Shared->Prop}{T:String}{name:Str}{id:String}{B:Builtin}{self:Value}{rest:List Value}{S:Spec}(slot:Slot T name id)(hT:s.TypeIs self T)(entry:entryFor table id=some B)(args:argsOk id ⟨self::rest,[]⟩)(g:Meets (B ⟨self::rest,[]⟩) S)(h:S A R s):codeAny (model prog w) A (.call (.builtin id) ⟨self::rest,[]⟩) R s:=
 codeAny_call_builtin slot.plain entry (slot.check _ _ _ _ _ _ _ _ hT args (g prog w A R s h))
theorem getAttrQ_miss_tuple {prog:Program}{w:World}{A:Around}{E:Value->Shared->Prop}{s:Shared}{a:Addr}{o:Obj}{xs:Array Value}{k:Nat}{name:Str}{Q:Option Value->Shared->Prop}
  (hx:s.heap.get? a=some o) (hc:o.cls=.type "tuple") (hdat:o.data=.seq xs k) (hd:o.dict=none) (hmiss:typeLookup (.type "tuple") name=pure none) (hname:(["__module__","__name__","__qualname__","__doc__","__annotations__"]:List Str).contains name=false) (hA:A.handled=none)
  (h:∀h' tk e,Heap.NewExcOf s.heap h' e "AttributeError" -> Q none {s with heap:=h',toks:=tk}) (hsz:name.length+100<=sizeLine:=by size_fits):wpAny (model prog w) A (getAttr? (.ref a) name) Q E s:=by
 obtain⟨c,dct,dat,sl⟩:=o
 obtain rfl:c=_:=hc
 obtain rfl:dat=_:=hdat
 obtain rfl:dct=_:=hd
 obtain⟨hp,g,d,tk,os⟩:=s
 have T:∀tk,Shared.TypeIs ⟨hp,g,d,tk,os⟩ (.ref a) "tuple" := fun _=>⟨_,hx,rfl⟩
 have e:=F.slot_tuple_getattribute
 have f1:=sub_AttributeError
 have f4:=e.bind (.ref a)
 have f5:=am_tuple_getattr_none
 unfold getAttr? getAttrBy? getAttrBy
 wp_walk
 refine wpAny_of_eq e.lookup ?_
 wp_walk
 refine code_meets e (T _) am_entry_tuple_getattribute (F.args_tuple_getattribute_2 _ _) (meets_getattribute_miss_tuple a xs k sl name _ hmiss hname hsz) ⟨hx,hA,fun h' tk' e' hx'=>?_⟩
 obtain⟨t',u',he⟩:=hx'.there
 wp_walk
 exact h _ _ _ hx'.of
end PySem
namespace L2
open PySem PySem.Spec PyProof.Rows
namespace DP
theorem entry_loop:entryFor table "dict.update.loop"=some Builtin.«dict.update.loop» := entryFor_of_tree (by kernel_rfl)
theorem plain_loop:plainId "dict.update.loop"=true:=by decide +kernel
end DP
def putAll (kvs:List (List Key×V))(ps:List (List Key×V)):List (List Key×V):=ps.foldl (fun acc p=>putK acc p.1 p.2) kvs
theorem Rd.upd_dT {H:Hp}{d a:Addr}{u:HO}{kvs kvs':List (List Key×V)}(hd:H d=some (.dT kvs))(h:Rd H a u)(hu:∀z,u ≠ .dT z):Rd (upd H d (.dT kvs')) a u:=by
 have hne:a≠d:=by
  rintro rfl
  rcases h with h|⟨o,h⟩<;>rw[hd]at h<;>injection h with h
  ·exact hu _ h.symm
  ·cases h
 unfold Rd;rw[upd_ne hne];exact h
section
variable {X:Cx} {pins:List (Addr×Obj)} {σ:St}
def PrsAt (H:Hp)(ts:List Addr)(ps:List (List Key×V)):Prop:=
 ts.length=ps.length/\∀(j:Nat) (p:List Key×V) (q:Addr),ps[j]?=some p->ts[j]?=some q->∃b,Rd H q (.tup [.ref b,p.2])/\H b=some (.tup (p.1.map kV))
theorem upd_loop {A:Around}{R:Result->Shared->Prop}{d a it:Addr}{ts:List Addr}{ps:List (List Key×V)}(hu:A.units+20<cLine)(hh:A.handled=none):
  ∀(n i:Nat) (s:Shared) (H:Hp) (kvs:List (List Key×V)) (t:Tok),ps.length-i=n->i<=ps.length->Inv X pins σ H s->H d=some (.dT kvs)->kvs.length+n<sizeLine->s.heap.IsTupleIter it a i->FpOk X pins H it->Rd H a (.tup (ts.map V.ref))->PrsAt H ts ps ->
   (∀s',Inv X pins σ (upd H d (.dT (putAll kvs (ps.drop i)))) s'->R (.ok (.ret .none)) s') ->
   codeAny (model X.prog X.w) A (.builtin "dict.update.loop" ⟨[.ref d,.ref it,.int i t,.none],[]⟩) R s:=by
 intro n
 induction n with
 |zero=>
  intro i s H kvs t hn hi I hd hz st hF hS hP hR
  have hin:i=ps.length:=by omega
  subst hin
  obtain⟨f0,f1,f2,f3,f4,f5⟩:=hF
  obtain⟨its,rv,p,hz'⟩:=I.tuple (.inl hS)
  have hl:=rv.length
  refine codeAny_builtin DP.entry_loop ?_
  rw[Around.under_plainId DP.plain_loop _]
  show wpAny _ A.in1 (pyNext (.ref it) >>= _) _ _ s
  refine wpAny_bind (wpAny_pyNext_tuple_end hh st (show s.heap.IsTuple a its.toArray from p) (by have:=hP.1;simp at hl ⊢;omega) fun h' eb=>?_)
  have I1:Inv X pins σ H {s with heap:=h' }:=I.turned (t':=s.toks) (fun b o hb e=>eb b o hb e) f0 f1 f3 f4 f5
  have e0:upd H d (.dT (putAll kvs (ps.drop ps.length)))=H:=by
   rw[List.drop_length];show upd H d (.dT kvs)=H
   funext b;unfold upd;split
   ·rename_i q;rw[q];exact hd.symm
   ·rfl
  rw[e0]at hR
  exact wpAny_bind (wpAny_pure (wpAny_pure (hR _ I1)))
 |succ n ih=>
  intro i s H kvs t hn hi I hd hz st hF hS hP hR
  obtain⟨f0,f1,f2,f3,f4,f5⟩:=id hF
  obtain⟨its,rv,p,hz'⟩:=I.tuple (.inl hS)
  have hil:i<ps.length:=by omega
  have hit:i<ts.length:=by rw[hP.1];exact hil
  obtain⟨u,hu',ru⟩:=rv.get (i:=i) (x:=V.ref ts[i]) (by simp[hit])
  cases (show u=Value.ref ts[i] from ru)
  obtain⟨b,hq,hb⟩:=hP.2 i ps[i] ts[i] (by simp) (by simp)
  refine codeAny_builtin DP.entry_loop ?_
  rw[Around.under_plainId DP.plain_loop _]
  show wpAny _ A.in1 (pyNext (.ref it) >>= _) _ _ s
  refine wpAny_bind (wpAny_pyNext_tuple_item st (show s.heap.IsTuple a its.toArray from p) (x:=.ref ts[i]) (by simpa using hu') fun h' st' sb=>?_)
  have I1:Inv X pins σ H {s with heap:=h' }:=I.turned (t':=s.toks) (fun b o hb e=>(sb.2 b hb).trans e) f0 f1 f3 f4 f5
  refine wpAny_bind (wpAny_holding ?_)
  obtain⟨its2,rv2,⟨o2,ho2,hc2,k2,hd2⟩,_⟩:=I1.tuple (.inl hq)
  refine wpAny_bind (wpAny_tryCatch ?_)
  unfold Builtin.Dict.pairItems
  refine wpAny_bind (wpAny_typeOf ⟨o2,ho2,hc2⟩ ?_)
  rw[if_pos (by decide)]
  refine wpAny_bind (wpAny_seqItems ho2 hd2 (wpAny_pure ?_))
  cases rv2 with
  |cons r1 t2=>
  cases t2 with
  |cons r2 t3=>
  cases t3
  rename_i u1 u2
  cases (show u1=Value.ref b from r1)
  refine wpAny_holding ?_
  obtain⟨z,hd',xs,rel,dd⟩:=dt_of I1.hok hd
  have hzx:xs.length<=sizeLine:=by rw[<-Paired.length rel];exact z
  have hl:(putK kvs ps[i].1 ps[i].2).length<=kvs.length+1:=length_putK kvs _ _
  refine wpAny_dictSet_heap (hsz:=hzx) (tupleKind_room_in1 (by omega)) (key_of I1.hok hb) dd fun h2 dd' hs=>?_
  obtain⟨q,es,ep,hq',h2',h3,h4,_,h5⟩:=dd'
  have I2:=fun t'=>d_write (t':=t') (ob:=.dT (putK kvs ps[i].1 ps[i].2)) I1 (by rw[hd];exact True.intro) hs ⟨q,hq'⟩ ⟨by omega,hd',_,(rel.put ps[i].1 hb r2).keeps fun c ys ec=>by
   rw[upd_ne (ne_of ec hd (fun z=>nomatch z))]
   exact ec,q,es,ep,hq',h2',h3,h4,h5⟩
  refine wpAny_pure ⟨plainId_quiet DP.plain_loop _,?_⟩
  have hdit:d≠it:=ne_of_none hd f0
  refine ih (i+1) _ _ (putK kvs ps[i].1 ps[i].2) _ (by omega) (by omega) (I2 _) (by unfold upd;rw[if_pos rfl]) (by omega) ?_ ?_ (hS.upd_dT hd (fun z e=>nomatch e)) ⟨hP.1,fun j p' q' hj hj'=>?_⟩ ?_
  ·obtain⟨o,ho,r⟩:=st'
   exact⟨o,(hs.2 it (Ne.symm hdit)).trans ho,r⟩
  ·exact⟨by rw[upd_ne (Ne.symm hdit)];exact f0,f1,f2,f3,f4,f5⟩
  ·obtain⟨b',hb1,hb2⟩:=hP.2 j p' q' hj hj'
   exact⟨b',hb1.upd_dT hd (fun z e=>nomatch e),by rw[upd_ne (ne_of hb2 hd (fun z=>nomatch z))];exact hb2⟩
  ·intro s' I'
   refine hR s' ?_
   have e1:putAll kvs (ps.drop i)=putAll (putK kvs ps[i].1 ps[i].2) (ps.drop (i+1)):=by
    rw[List.drop_eq_getElem_cons hil];rfl
   have e2:upd (upd H d (.dT (putK kvs ps[i].1 ps[i].2))) d (.dT (putAll (putK kvs ps[i].1 ps[i].2) (ps.drop (i+1))))=upd H d (.dT (putAll kvs (ps.drop i))):=by
    rw[e1];funext c;unfold upd;split<;>rfl
   rw[<-e2];exact I'
end
end L2
namespace L2
open PySem PySem.Spec PyProof.Rows
namespace DP
theorem keys_none:typeLookup (.type "tuple") "keys"=pure none:=by rw[typeLookup_type,builtinLookup_eq_fast];kernel_rfl
end DP
section
variable {X:Cx} {pins:List (Addr×Obj)} {σ:St} {H:Hp} {s:Shared} {A:Around} {E:Value->Shared->Prop}
theorem call_dictP {a:Addr}{o:Obj}{ts:List Addr}{ps:List (List Key×V)}{Q:Value->Shared->Prop}(I:Inv X pins σ H s)(ha:H a=some (.frz o (.tup (ts.map V.ref))))(hod:o.dict=none)(hP:PrsAt H ts ps)(hl:ps.length<sizeLine)(hu:A.units+30<cLine)(hh:A.handled=none)
  (h:∀s',Inv X pins σ (upd H s.heap.objs.size (.dT (putAll [] ps))) s'->Q (.ref s.heap.objs.size) s'):wpAny (model X.prog X.w) A (call (.type "dict") [.ref a]) Q E s:=by
 refine callType_codes (Q₁:=fun obj s₁=>obj=.ref s.heap.objs.size/\s₁={s with heap:=s.heap.push {cls:=.type "dict",data:=.dict #[]} }) F.kt_called_dict (F.kt_typeCall_dict_1 _) F.entry_dict_init (kt_code_dict_new _ ⟨rfl,rfl⟩) ?_
 rintro obj s₁ ⟨rfl,rfl⟩
 have I1:Inv X pins σ (upd H s.heap.objs.size (.dT [])) {s with heap:=s.heap.push {cls:=.type "dict",data:=.dict #[]} }:=I.laid (a:=s.heap.objs.size) (o:=.dT []) (t':=s.toks) (fun _ _ q=>Heap.get?_push_of_some _ q) (Nat.le_refl _) (dt_empty s.heap I.big)
 have hf:H s.heap.objs.size=none:=I.hok.fresh (Nat.le_refl _)
 have hT:Shared.TypeIs {s with heap:=s.heap.push {cls:=.type "dict",data:=.dict #[]} } (.ref s.heap.objs.size) "dict" := ⟨_,Heap.get?_push_size _ rfl,rfl⟩
 obtain⟨ho,hz,its,rv,o',ho',hc',k',hd'⟩:=(show ObjOk X.prog X.w H s.heap a (.frz o (.tup (ts.map V.ref))) from I.hok a _ ha)
 rw[ho]at ho';cases ho'
 have hoP:(s.heap.push {cls:=.type "dict",data:=.dict #[]}).get? a=some o:=Heap.get?_push_of_some _ ho
 refine⟨hT,F.args_dict_init_2 _ _,?_⟩
 unfold Builtin.«dict.__init__»
 refine wpAny_bind ?_
 unfold Builtin.Dict.selfAndRest
 refine wpAny_bind (wpAny_notOrdered_dict hT ?_)
 show wpAny _ _ (pure (s.heap.objs.size,[Value.ref a])) _ _ _
 refine wpAny_pure ?_
 show wpAny _ _ (Builtin.Dict.updateFrom "dict.__init__" s.heap.objs.size (.ref a) [] .none) _ _ _
 unfold Builtin.Dict.updateFrom
 refine wpAny_bind (wpAny_typeOf ⟨o,hoP,hc'⟩ ?_)
 rw[if_pos (by decide)]
 refine wpAny_bind ?_
 refine getAttrQ_miss_tuple (A:=A.in1.in1) (s:={s with heap:=s.heap.push {cls:=.type "dict",data:=.dict #[]} }) hoP hc' hd' hod DP.keys_none (by decide) (show A.in1.in1.handled=none from hh) fun h2 tk e hx=>?_
 rw[if_pos (show (none:Option Value).isNone=true from rfl)]
 refine wpAny_bind (wpAny_rule (wpAny_bind ?_))
 have I2:Inv X pins σ (upd H s.heap.objs.size (.dT [])) {s with heap:=h2,toks:=tk}:=I1.kept (t':=tk) (fun b u q=>hx.keeps b u q)
 have hoP2:h2.get? a=some o:=hx.keeps _ _ hoP
 refine wpAny_pyIter_tuple (s:={s with heap:=h2,toks:=tk}) ⟨o,hoP2,hc',_,hd'⟩ ?_
 have I3:Inv X pins σ (upd H s.heap.objs.size (.dT [])) {s with heap:=h2.push {cls:=.type "tuple_iterator",data:=.fields #[.ref a,.int 0 0]},toks:=tk}:=I2.kept (t':=tk) (fun b u q=>Heap.get?_push_of_some _ q)
 refine wpAny_pure ⟨plainId_quiet DP.plain_loop _,?_⟩
 have hne:∀b,H b≠none->b≠s.heap.objs.size:=fun b hb e=>hb (by rw[e];exact hf)
 refine upd_loop (A:=A.in1) (a:=a) (ts:=ts) (ps:=ps) (by show A.units+1+20<cLine;omega) (show A.in1.handled=none from hh) ps.length 0 _ _ [] _ (by omega) (by omega) I3 (by unfold upd;rw[if_pos rfl]) (by simpa using hl) ⟨_,Heap.get?_push_size _ rfl,rfl,rfl⟩ (I2.fpOk (Nat.le_refl _) ?_) ?_ ⟨hP.1,fun j p q hj hq=>?_⟩ fun s' I'=>?_
 ·exact I2.hok.fresh (Nat.le_refl _)
 ·exact .inr ⟨o,by rw[upd_ne (hne a (by rw[ha];exact fun z=>nomatch z))];exact ha⟩
 ·obtain⟨b,h1,h2⟩:=hP.2 j p q hj hq
  refine⟨b,?_,by rw[upd_ne (hne b (by rw[h2];exact fun z=>nomatch z))];exact h2⟩
  unfold Rd
  rw[upd_ne (hne q (by rcases h1 with h1|⟨o1,h1⟩<;>rw[h1]<;>exact fun z=>nomatch z))]
  exact h1
 ·refine⟨rfl,h s' ?_⟩
  have e2:upd (upd H s.heap.objs.size (.dT [])) s.heap.objs.size (.dT (putAll [] (ps.drop 0)))=upd H s.heap.objs.size (.dT (putAll [] ps)):=by
   rw[List.drop_zero];funext c;unfold upd;split<;>rfl
  rw[<-e2];exact I'
end
end L2
namespace L2
open PySem PySem.Spec PyProof.Rows
section
variable {X:Cx}
theorem call_tuple_F:CallR X (.type "tuple") (fun xs H Q=>∃p ys,xs=[.ref p]/\SqL X.K H p ys/\∀l o,H l=none->o.dict=none->Q (.ref l) (upd H l (.frz o (.tup ys)))):=by
 intro pins s σ H xs us Q I r h
 obtain⟨p,ys,rfl,hq,q⟩:=h
 obtain⟨u,rfl,rx⟩:=vals1 r
 cases rx
 obtain⟨its,r',pl,hz⟩:=I.list hq
 have hlen:=r'.length
 refine call_tuple_list pl.isList (fun h' kp=>?_) (by simp only[List.size_toArray]<;>omega)
 have I1:Inv X pins σ H {s with heap:=h' }:=I.kept (t':=s.toks) kp
 have I2:Inv X pins σ (upd H h'.objs.size (.frz {cls:=.type "tuple",data:=.seq its.toArray} (.tup ys))) {s with heap:=h'.push {cls:=.type "tuple",data:=.seq its.toArray} }:=
  I1.laid (t':=s.toks) (fun b o e=>Heap.get?_push_of_some _ e) (Nat.le_refl _) (show ObjOk X.prog X.w _ _ _ (.frz _ (.tup ys)) from ⟨Heap.get?_push_size _ rfl,hz,its,r',IsTup.new _ _⟩)
 exact⟨.ref h'.objs.size,_,I2,rfl,q _ _ (I1.hok.fresh (Nat.le_refl _)) rfl⟩
abbrev rDictP:List V->Hp->VK->Prop:=fun xs H Q=>∃(a:Addr) (o:Obj) (ts:List Addr) (ps:List (List Key×V)),xs=[.ref a]/\H a=some (.frz o (.tup (ts.map V.ref)))/\o.dict=none/\PrsAt H ts ps/\ps.length<sizeLine/\∀p,H p=none->Q (.ref p) (upd H p (.dT (putAll [] ps)))
theorem call_dictPR {k:Nat}(hc:X.calm=true)(hr:Room k X.A):CallR X (.type "dict") rDictP:=by
 intro pins s σ H xs us Q I r h
 obtain⟨a,o,ts,ps,rfl,ha,hod,hP,hl,q⟩:=h
 obtain⟨u,rfl,rx⟩:=vals1 r
 cases rx
 exact call_dictP I ha hod hP hl (by have:=hr.units;omega) (I.ok.hd hc) fun s' I'=>⟨.ref s.heap.objs.size,_,I',rfl,q _ (I.hok.fresh (Nat.le_refl _))⟩
end
theorem putAll_nodup:∀(ps kvs:List (List Key×V)),((kvs++ps).map (·.1)).Nodup->putAll kvs ps=kvs++ps
 |[],kvs,_=>by simp[putAll]
 |p::ps,kvs,h=>by
  have hp:putK kvs p.1 p.2=kvs++[p]:=by
   unfold putK
   rw[if_neg]
   intro hx
   rw[List.any_eq_true]at hx
   obtain⟨q,hq,e⟩:=hx
   have e:=of_decide_eq_true e
   rw[List.map_append,List.map_cons,List.nodup_append]at h
   exact h.2.2 q.1 (List.mem_map.mpr ⟨q,hq,rfl⟩) p.1 (by simp) e
  show putAll (putK kvs p.1 p.2) ps=kvs++p::ps
  rw[hp,putAll_nodup ps (kvs++[p]) (by simpa using h)]
  simp
end L2
namespace L2
open PySem PySem.Spec PyProof.Rows
theorem dentV {P:Program}{w:World}{H:Hp}{h:Heap}{a:Addr}{kvs:List (List Key×V)}(ok:HOk P w H h)(e:Rd H a (.dT kvs)):
  ∃o es ep,h.get? a=some o/\o.ExactDict/\o.data=.dict es ep/\(a==sysModules)=false/\es.size=kvs.length/\∀(i:Nat) (k:List Key) (v:V),kvs[i]?=some (k,v)->∃b en,es[i]?=some en/\en.key=.ref b/\H b=some (.tup (k.map kV))/\RelV v en.val:=by
 obtain⟨o,es,ep,g1,g2,g3,g4,g5,g6,g7⟩:=dent_of2 ok e
 exact⟨o,es,ep,g1,g2,g3,g5,g4,g7⟩
def ItiT (o:Obj)(a:Addr)(kvs:List (List Key×V)):It:=⟨fun i H=>i<kvs.length/\H a=some (.frz o (.dT kvs)),fun i H x H'=>∃t b k v,H t=none/\kvs[i]?=some (k,v)/\H b=some (.tup (k.map kV))/\x=.ref t/\H'=upd H t (.tup [.ref b,v]),fun i H=>kvs.length<=i/\H a=some (.frz o (.dT kvs))⟩
theorem turn_itemsT {P:Program}{w:World}{K:PySem.W.Frag}{elts:List Expr}{x1}{tpos:Pos}{o:Obj}{a it:Addr}{kvs:List (List Key×V)}{es:Array DictEntry}{ep:Nat}(hai:a≠it)(hd:o.data=.dict es ep):
  Turn P w K (.Tuple elts x1 tpos) (ItiT o a kvs) [it] it (fun i h=>∃ok ov,IsItemIter h it a i kvs.length ep ok ov) where
 mem:=by simp
 obj:=fun i h st b hb=>by
  have e:b=it:=by simpa using hb
  subst e
  obtain⟨ok,ov,e⟩:=st
  exact⟨_,e,fun v z=>by cases z⟩
 keep:=fun i h h' st k=>by
  obtain⟨ok,ov,e⟩:=st
  exact⟨ok,ov,k it (by simp) _ e⟩
 item:=by
  intro X hP hw hK hcm i pins s σ H E I hf st hg
  subst hP hw hK
  obtain⟨hi,hq⟩:=hg
  obtain⟨ok,ov,st⟩:=st
  obtain⟨o',es',ep',g1,g2,g3,g5,hl,g7⟩:=dentV I.hok (.inr ⟨o,hq⟩)
  obtain⟨hko,_⟩:=(show ObjOk X.prog X.w H s.heap a (.frz o (.dT kvs)) from I.hok a _ hq)
  rw[hko]at g1
  cases g1
  rw[hd]at g3
  cases g3
  obtain⟨kv,hkv⟩:∃kv,kvs[i]?=some kv:=⟨kvs[i],by simp[hi]⟩
  obtain⟨k,v⟩:=kv
  obtain⟨b,en,hu,eb,hb3,ru⟩:=g7 i k v hkv
  refine PySem.W.itm (I.ok.hd hcm) (by rw[hl];exact st) hko hd (.inl rfl) (fun e h' x' f' ok' ov' q0 g1 q2 _ g5 gsz gk=>?_) (fun z=>by rw[hu]at z;cases z)
  rw[hu]at q0
  cases q0
  obtain⟨rfl,rfl,rfl,rfl⟩:=q2 rfl
  rw[hl]at g1
  have hTz:s.heap.objs.size≠it:=Nat.ne_of_gt (Heap.lt_size st)
  refine⟨_,rfl,wpAny_letOwnedTupleGo_items g1 fun h2' e1 hs2=>?_⟩
  have hk2:∀b o,b ∉ [it]->s.heap.get? b=some o->h2'.get? b=some o:=fun b o hb q=>by
   simp only[List.mem_singleton]at hb
   exact (hs2.2 b hb).trans (gk b o hb q)
  obtain⟨un,hok⟩:=I.unL hk2 hf
  have hn:H s.heap.objs.size=none:=I.hok.fresh (Nat.le_refl _)
  have new:ObjOk X.prog X.w (upd H s.heap.objs.size (.tup [.ref b,v])) h2' s.heap.objs.size (.tup [.ref b,v]):=⟨by have:=line1000;simp;omega,[.ref b,en.val],.cons rfl (.cons ru .nil),_,(hs2.2 _ hTz).trans g5,rfl,0,by simp[eb]⟩
  refine⟨.ref s.heap.objs.size,upd H s.heap.objs.size (.tup [.ref b,v]),I.call' (s':={s with heap:=h2' }) (ch:=[it]) rfl (un.track (Nat.le_refl _) hn) (hok.track hn new) I.bare (fun b hb=>(hf b hb).ch),rfl,⟨_,b,k,v,hn,hkv,hb3,rfl,rfl⟩,⟨_,_,e1⟩,fun b hb=>?_⟩
  have hb':=hf b hb
  have e:b=it:=by simpa using hb
  subst e
  rw[upd_ne (Nat.ne_of_lt (Heap.lt_size st))]
  exact hb'.1
 done:=by
  intro X hP hw hK hcm i pins s σ H E I hf st hg
  subst hP hw hK
  obtain⟨hi,hq⟩:=hg
  obtain⟨ok,ov,st⟩:=st
  obtain⟨o',es',ep',g1,g2,g3,g5,hl,g7⟩:=dentV I.hok (.inr ⟨o,hq⟩)
  obtain⟨hko,_⟩:=(show ObjOk X.prog X.w H s.heap a (.frz o (.dT kvs)) from I.hok a _ hq)
  rw[hko]at g1
  cases g1
  rw[hd]at g3
  cases g3
  refine PySem.W.itm (I.ok.hd hcm) (by rw[hl];exact st) hko hd (.inl rfl) (fun e _ _ _ _ _ q=>by have:=(Array.getElem?_eq_some_iff.mp q).1;omega) fun _ h' eb=>⟨rfl,?_⟩
  obtain⟨f0,f1,f2,f3,f4,f5⟩:=hf it (by simp)
  exact I.turned (t':=s.toks) (fun b o hb e=>eb b o hb e) f0 f1 f3 f4 f5
 self:=fun A i s Q E st h=>by
  obtain⟨ok,ov,st⟩:=st
  exact PySem.W.kcp_self st h
def iItemsT (td:TE):TI:=fun σ H R=>td σ H fun x H1=>∃a kvs,x=.ref a/\H1 a=some (.dT kvs)/\∀o,R (ItiT o a kvs) (upd H1 a (.frz o (.dT kvs)))
theorem r_iItemsT {te:TE}{σ:St}{H:Hp}{Z:It->Hp->Prop}:iItemsT te σ H Z=te σ H fun x H1=>∃a kvs,x=.ref a/\H1 a=some (.dT kvs)/\∀o,Z (ItiT o a kvs) (upd H1 a (.frz o (.dT kvs))):=rfl
theorem pi_itemsT {X:Cx}{elts:List Expr}{x1}{tpos:Pos}{o:Expr}{td:TE}{apos cpos:Pos}(ho:PE X o td)(hbase:attributeBase o "items" X.env (eval o X.env)=eval o X.env:=by rfl)(hline:(apos.endLine==cpos.line)=true:=by rfl):PI X (.Tuple elts x1 tpos) (.Call (.Attribute o "items" apos) [] [] cpos) (iItemsT td):=by
 intro pins s σ H R I h
 refine wpAny_Call_method0_late hbase hline (thn (ho pins s σ H _ I h) fun v s1 ⟨x,H1,I1,r1,q1⟩=>?_)
 obtain⟨a,kvs,e,hq,q⟩:=q1
 subst e
 obtain rfl:v=Value.ref a:=r1
 obtain⟨od,es,ep,g1,g2,g3,g5,hlen,g7⟩:=dentV I1.hok (.inl hq)
 have I2:=I1.freeze hq g1
 have hT:s1.TypeIs (.ref a) "dict" := ⟨od,g1,g2.1⟩
 refine⟨"dict","dict.items",PySem.F.plainAttrs_dict,PySem.F.slot_dict_items,PySem.F.type_dict_items,hT,fun b e=>?_,Calls.callWith_builtin rfl (PySem.evalArgs_none ?_)⟩
 ·cases e
  exact⟨od,g1,g2.2.1⟩
 refine wpAny_call_entry PySem.F.slot_dict_items hT PySem.F.entry_dict_items (?_:wpAny _ _ (Builtin.«dict.items» _) _ _ s1) (PySem.F.args_dict_items_1 _)
 unfold Builtin.«dict.items»
 refine wpAny_bind ?_
 unfold Builtin.Dict.noArgs
 refine wpAny_bind (wpAny_notOrdered_dict hT ?_)
 show wpAny _ _ (pure a) _ _ s1
 refine wpAny_pure ?_
 show wpAny _ _ (Builtin.Dict.showsAll a >>= _) _ _ s1
 unfold Builtin.Dict.showsAll
 rw[if_neg (by rw[g5];exact Bool.false_ne_true)]
 refine wpAny_bind (wpAny_pure ?_)
 refine wpAny_bind (wpAny_newObj_type (wpAny_pure ⟨_,rfl,?_⟩))
 have hk1:∀b u,s1.heap.get? b=some u->(s1.heap.push {cls:=.type "dict_items",data:=.fields #[.ref a]}).get? b=some u:=fun b u e=>Heap.get?_push_of_some _ e
 refine PySem.W.itm_iter (s:={s1 with heap:=s1.heap.push {cls:=.type "dict_items",data:=.fields #[.ref a]} }) ⟨_,Heap.get?_push_size _ rfl,rfl,rfl⟩ (hk1 a _ g1) g3 ?_
 have hle:s1.heap.objs.size<=(s1.heap.push {cls:=.type "dict_items",data:=.fields #[.ref a]}).objs.size:=by rw[Heap.size_push];exact Nat.le_succ _
 refine⟨_,[(s1.heap.push {cls:=.type "dict_items",data:=.fields #[.ref a]}).objs.size],_,_,_,rfl,I2.kept (t':=s1.toks) fun b u e=>Heap.get?_push_of_some _ (hk1 b u e),turn_itemsT (o:=od) (kvs:=kvs) (Nat.ne_of_lt (Nat.lt_of_lt_of_le (Heap.lt_size g1) hle)) g3,⟨.none,.none,?_⟩,fun b hb=>?_,q od⟩
 ·rw[<-hlen];exact Heap.get?_push_size _ rfl
 ·have e:b=(s1.heap.push {cls:=.type "dict_items",data:=.fields #[.ref a]}).objs.size:=by simpa using hb
  subst e
  exact I2.fpOk hle (I2.hok.fresh hle)
theorem compIT {cp:Caps}{g:TG}{tc:TT}{te:TE}{Q:VK}{σ:St}{H:Hp}{o:Obj}{a:Addr}{kvs:List (List Key×V)}(Pv:Nat->List V->St->Hp->Prop)(h0:Pv 0 [] (cp.st σ) H)(hz:kvs.length<sizeLine)
  (hl:∀i ys σ H,i<=kvs.length->Pv i ys σ H->H a=some (.frz o (.dT kvs))/\ys.length<=i)
  (hs:∀i k v t b ys σ H,kvs[i]?=some (k,v)->Pv i ys σ H->H t=none->H b=some (.tup (k.map kV))->g (.ref t) σ (upd H t (.tup [.ref b,v])) fun σ2 H2=>tc σ2 H2 fun b H3=>if b=true then te σ2 H3 fun v H4=>Pv (i+1) (ys++[v]) σ2 H4 else Pv (i+1) ys σ2 H3)
  (hd:∀ys σ H,Pv kvs.length ys σ H->∀D,H D=none->Q (.ref D) (upd H D (.lst ys))):CompW (ItiT o a kvs) cp g tc te σ H Q:=by
 refine⟨fun i m ys σ H=>m=kvs.length-i/\i<=kvs.length/\Pv i ys σ H,⟨kvs.length,by simp,Nat.zero_le _,h0⟩,?_⟩
 rintro i m ys σ H ⟨rfl,hi,p⟩
 obtain⟨q,ly⟩:=hl i ys σ H hi p
 refine⟨by omega,?_⟩
 by_cases hlt:i<kvs.length
 ·refine .inr ⟨⟨hlt,q⟩,Pv (i+1),fun zs σ' H' p'=>⟨kvs.length-(i+1),by omega,rfl,hlt,p'⟩,fun x H' y=>?_⟩
  obtain⟨t,b,k,v,ht,hk,hb,rfl,rfl⟩:=y
  exact hs i k v t b ys σ H hk p ht hb
 ·have e:i=kvs.length:=by omega
  subst e
  exact .inl ⟨⟨Nat.le_refl _,q⟩,fun D hD=>hd ys σ H p D hD⟩
end L2
namespace PySem
namespace TS
def it (m:Nat):Nat->Nat×Nat->Nat×Nat
 |0,x=>x
 |n+1,x=>it m n (SetTable.leap m x.1 x.2)
theorem it_succ (m:Nat):∀(n:Nat) (x:Nat×Nat),it m (n+1) x=SetTable.leap m (it m n x).1 (it m n x).2
 |0,x=>rfl
 |n+1,x=>by show it m (n+1) _=_;rw[it_succ m n];rfl
theorem it_add (m:Nat):∀(a b:Nat) (x:Nat×Nat),it m (a+b) x=it m b (it m a x)
 |0,b,x=>by rw[Nat.zero_add];rfl
 |a+1,b,x=>by rw[show a+1+b=(a+b)+1 by omega];exact it_add m a b _
theorem it_snd (m:Nat):∀(n:Nat) (x:Nat×Nat),(it m n x).2=x.2 / 32 ^ n
 |0,x=>by simp[it]
 |n+1,x=>by
  rw[it_succ]
  show (it m n x).2 / 32=_
  rw[it_snd m n,Nat.div_div_eq_div_mul,Nat.pow_succ]
theorem it_lt (m:Nat)(n:Nat)(x:Nat×Nat):(it m (n+1) x).1<m+1:=by
 rw[it_succ];exact Nat.mod_lt _ (Nat.succ_pos _)
theorem gone {p:Nat}(h:p<2 ^ 64):p / 32 ^ 13=0:=Nat.div_eq_of_lt (Nat.lt_of_lt_of_le h (by decide))
theorem reach7:∀i:_root_.Fin 8,∀j:_root_.Fin 8,(List.range 8).any fun n=>(it 7 n (i.val,0)).1==j.val:=by decide +kernel
theorem reach31:∀i:_root_.Fin 32,∀j:_root_.Fin 32,(List.range 32).any fun n=>(it 31 n (i.val,0)).1==j.val:=by decide +kernel
theorem visits7 {i p j:Nat}(hp:p<2 ^ 64)(hj:j<8):∃n,n<21/\(it 7 n (i,p)).1=j:=by
 have h1:(it 7 13 (i,p)).1<8:=it_lt 7 12 _
 have h2:(it 7 13 (i,p)).2=0:=by rw[it_snd];exact gone hp
 have h3:=reach7 ⟨_,h1⟩ ⟨j,hj⟩
 rw[List.any_eq_true]at h3
 obtain⟨n,hn,e⟩:=h3
 refine⟨13+n,by have:=List.mem_range.mp hn;omega,?_⟩
 rw[it_add]
 have e2:it 7 13 (i,p)=((it 7 13 (i,p)).1,0):=Prod.ext rfl h2
 rw[e2]
 simpa using e
theorem visits31 {i p j:Nat}(hp:p<2 ^ 64)(hj:j<32):∃n,n<45/\(it 31 n (i,p)).1=j:=by
 have h1:(it 31 13 (i,p)).1<32:=it_lt 31 12 _
 have h2:(it 31 13 (i,p)).2=0:=by rw[it_snd];exact gone hp
 have h3:=reach31 ⟨_,h1⟩ ⟨j,hj⟩
 rw[List.any_eq_true]at h3
 obtain⟨n,hn,e⟩:=h3
 refine⟨13+n,by have:=List.mem_range.mp hn;omega,?_⟩
 rw[it_add]
 have e2:it 31 13 (i,p)=((it 31 13 (i,p)).1,0):=Prod.ext rfl h2
 rw[e2]
 simpa using e
theorem bits_lt (h:Int):SetTable.bits h<2 ^ 64:=by unfold SetTable.bits;omega
theorem slot_cases {t:SetTable}(hd:t.dummies = #[])(j:Nat):t.slot j=.empty \/ ∃i,t.slot j=.live i/\t.place[i]?=some j:=by
 unfold SetTable.slot
 dsimp only
 by_cases h:t.place[SetTable.below t.place j]?=some j
 ·right
  refine⟨_,?_,h⟩
  rw[if_pos (by rw[h];simp)]
 ·left
  rw[if_neg (by simpa using h),hd]
  rfl
theorem least {p:Nat->Prop}:∀(n:Nat),p n->∃N,N<=n/\p N/\∀m,m<N->¬ p m:=by
 intro n
 induction n using Nat.strongRecOn with
 |_ n ih=>
  intro h
  by_cases hx:∃m,m<n/\p m
  ·obtain⟨m,h1,h2⟩:=hx
   obtain⟨N,a,b,c⟩:=ih m h1 h2
   exact⟨N,by omega,b,c⟩
  ·exact⟨n,Nat.le_refl _,h,fun m hm hp=>hx ⟨m,hm,hp⟩⟩
theorem below_go_le (xs:Array Nat)(j:Nat):∀(f lo hi:Nat),lo<=hi->SetTable.below.go xs j f lo hi<=hi
 |0,lo,hi,h=>by unfold SetTable.below.go;exact h
 |f+1,lo,hi,h=>by
  unfold SetTable.below.go
  split
  ·dsimp only
   split
   ·exact below_go_le xs j f _ _ (by omega)
   ·exact Nat.le_trans (below_go_le xs j f _ _ (by omega)) (by omega)
  ·exact h
theorem below_le (xs:Array Nat)(j:Nat):SetTable.below xs j<=xs.size:=below_go_le xs j _ _ _ (Nat.zero_le _)
theorem insertAt_size {α:Type}(xs:Array α)(p:Nat)(x:α):(SetTable.insertAt xs p x).size=xs.size+1:=by
 rw[<-Array.length_toList,(SetTable.insertAt_perm xs p x).length_eq];simp
end TS
end PySem
namespace PySem
namespace TS
theorem fmc {α β:Type}{f g:α->Option β}:∀{l:List α},(∀x∈l,f x=g x)->l.filterMap f=l.filterMap g
 |[],_=>rfl
 |x::r,h=>by
  rw[List.filterMap_cons,List.filterMap_cons,h x List.mem_cons_self,fmc fun y hy=>h y (List.mem_cons_of_mem _ hy)]
def cnt (o:Array (Option Nat)):Nat:=o.toList.countP Option.isSome
theorem free_of {o:Array (Option Nat)}:∀(F n i p:Nat) (_:n<F) (_:(o.getD (it 31 n (i,p)).1 (some 0)).isNone=true),∃j,SetTable.layClean.free 31 o F i p=some j/\(o.getD j (some 0)).isNone=true
 |0,n,i,p,h,_=>by omega
 |F+1,n,i,p,h,hn=>by
  unfold SetTable.layClean.free
  split
  ·rename_i k hk
   exact⟨_,rfl,List.find?_some (p:=fun k=>(o.getD (i+k) (some 0)).isNone) hk⟩
  ·rename_i hk
   cases n with
   |zero=>
    exfalso
    have:=List.find?_eq_none.mp hk 0 (List.mem_range.mpr (by unfold SetTable.runEnd;split<;>omega))
    exact this hn
   |succ n=>
    dsimp only
    exact free_of F n _ _ (by omega) hn
theorem isNone_at {o:Array (Option Nat)}{j:Nat}(h:(o.getD j (some 0)).isNone=true):∃hj:j<o.size,o[j]=none:=by
 unfold Array.getD at h
 split at h
 ·rename_i hj
  exact⟨hj,by simpa using h⟩
 ·cases h
theorem empty_at {o:Array (Option Nat)}(hs:o.size=32)(hc:cnt o<32):∃j,j<32/\(o.getD j (some 0)).isNone=true:=by
 by_cases h:∃j,j<32/\(o.getD j (some 0)).isNone=true
 ·exact h
 exfalso
 have:cnt o=o.toList.length:=by
  unfold cnt
  rw[List.countP_eq_length]
  intro x hx
  obtain⟨j,hj,e⟩:=List.getElem_of_mem hx
  rw[Array.length_toList]at hj
  cases hx':x with
  |some v=>rfl
  |none=>
   exfalso
   refine h ⟨j,by omega,?_⟩
   unfold Array.getD
   rw[dif_pos hj]
   rw[Array.getElem_toList]at e
   show o[j].isNone=true
   rw[e,hx'];rfl
 rw[Array.length_toList,hs]at this
 omega
theorem cnt_set {o:Array (Option Nat)}{j k:Nat}(h:(o.getD j (some 0)).isNone=true):cnt (o.setIfInBounds j (some k))=cnt o+1:=by
 obtain⟨hj,e⟩:=isNone_at h
 unfold cnt
 rw[Array.toList_setIfInBounds,List.countP_set]
 ·rw[Array.getElem_toList,e]
  simp
 ·rw[Array.length_toList];exact hj
def Lay (o:Array (Option Nat))(m:Nat):Prop:=o.size=32/\cnt o=m/\∀x∈o.toList,∀k,x=some k->k<m
theorem lay_start:Lay (Array.replicate (31+1) none) 0:=by
 refine⟨by simp,by unfold cnt;rw[Array.toList_replicate,List.countP_replicate];simp,fun x hx k ek=>?_⟩
 rw[Array.toList_replicate]at hx
 rw[(List.mem_replicate.mp hx).2]at ek
 cases ek
theorem pairs_len (o:List (Option Nat)):∀(a:Nat),((List.range' a o.length).filterMap fun j=>((o[j-a]?).getD none).map fun k=>(j,k)).length=o.countP Option.isSome/\∀q∈((List.range' a o.length).filterMap fun j=>((o[j-a]?).getD none).map fun k=>(j,k)),some q.2∈o:=by
 induction o with
 |nil=>intro a;exact⟨rfl,fun q hq=>by simp at hq⟩
 |cons x r ih=>
  intro a
  obtain⟨i1,i2⟩:=ih (a+1)
  rw[List.length_cons,List.range'_succ,List.filterMap_cons]
  have e:(List.range' (a+1) r.length).filterMap (fun j=>(((x::r)[j-a]?).getD none).map fun k=>(j,k))=(List.range' (a+1) r.length).filterMap (fun j=>((r[j-(a+1)]?).getD none).map fun k=>(j,k)):=by
   refine fmc fun j hj=>?_
   have:=List.mem_range'.mp hj
   have e3:j-a=(j-(a+1))+1:=by omega
   rw[e3,List.getElem?_cons_succ]
  rw[e,Nat.sub_self,List.getElem?_cons_zero]
  cases x with
  |none=>exact⟨by simpa using i1,fun q hq=>List.mem_cons_of_mem _ (i2 q (by simpa using hq))⟩
  |some k=>
   refine⟨by simpa using i1,fun q hq=>?_⟩
   simp only[Option.getD_some,Option.map_some,List.mem_cons]at hq
   rcases hq with rfl|hq
   ·exact List.mem_cons_self
   ·exact List.mem_cons_of_mem _ (i2 q hq)
theorem filterMap_size {es:Array (Int×Value)}{order:Array Nat}(h:∀i∈order.toList,i<es.size):(order.filterMap (es[·]?)).size=order.size:=by
 rw[<-Array.length_toList,Array.toList_filterMap,<-Array.length_toList]
 generalize order.toList=l at h
 induction l with
 |nil=>rfl
 |cons i r ih=>
  have hi:=h i List.mem_cons_self
  rw[List.filterMap_cons_some (b:=es[i]) (by simp[hi]),List.length_cons,List.length_cons,ih (fun j hj=>h j (List.mem_cons_of_mem _ hj))]
end TS
end PySem
namespace PySem
namespace TS
section
variable {prog:Program} {w:World} {K:Type} [DecidableEq K] {knd:KeyKind prog w K}
variable {A:Around} {E:Value->Shared->Prop} {s:Shared}
theorem state_of {a:Addr}{o:Obj}{es:Array (Int×Value)}{ep:Nat}{t:SetTable}{Q:(Array (Int×Value)×Nat×SetTable)->Shared->Prop}
  (ho:s.heap.get? a=some o) (hd:o.data=.set es ep t) (hf:t.fits es.size=true) (h:Q (es,ep,t) s):wpAny (model prog w) A (setState a) Q E s:=wpAny_setState_of ho hd hf h
theorem idle {α β:Type}{c:β}{f:α->β->Sem (ForInStep β)}:∀{l:List α},(∀v∈l,f v c=pure (.yield c))->forIn l c f=(pure c:Sem β)
 |[],_=>rfl
 |v::l,h=>by
  rw[List.forIn_cons,h v List.mem_cons_self]
  exact idle fun u m=>h u (List.mem_cons_of_mem _ m)
theorem oac {ks:List K}{b:Addr}{Q:Bool->Shared->Prop}(hk:IsTupleKey knd s.heap ks b)(h:Q false s):wpAny (model prog w) A (ofAClassStatement 8 (.ref b)) Q E s:=by
 have T:=hk.typeIs
 obtain⟨o,items,n,g,_,d,i⟩:=hk
 have none_:∀v∈items.toList,ofAClassStatement 7 v=pure false:=fun v m=>by
  have c:=i.byValue v m
  cases v<;>first|rfl|cases c
 unfold ofAClassStatement
 refine wpAny_bind (wpAny_typeOf T (wpAny_bind (wpAny_pure (wpAny_bind (wpAny_seqItems g d (wpAny_bind ?_))))))
 refine (?_:wpAny _ _ (forIn items _ _) _ _ s)
 rw[<-Array.forIn_toList,idle fun v m=>by rw[none_ v m];rfl]
 exact wpAny_pure (wpAny_pure h)
theorem seen_of {ks:List K}{b:Addr}{Q:Bool->Shared->Prop}(hk:IsTupleKey knd s.heap ks b)(st:List Value)(hst:∀y∈st,∃(k:List K) (c:Addr),y=.ref c/\IsTupleKey knd s.heap k c)(h:Q false s):wpAny (model prog w) A (searchCouldBeSeen (.ref b) st) Q E s:=by
 unfold searchCouldBeSeen
 refine wpAny_bind ?_
 refine wpAny_forIn_list _ (fun rest r s'=>r.1=none/\s'=s/\∀y∈rest,∃(k:List K) (c:Addr),y=.ref c/\IsTupleKey knd s.heap k c) _ ?_ ?_ _ _ ⟨rfl,rfl,hst⟩
 ·rintro v rest r s' ⟨hr,rfl,hall⟩
  obtain⟨k,c,rfl,hc⟩:=hall v List.mem_cons_self
  dsimp only
  have tl:∀u∈rest,∃(k:List K) (c:Addr),u=.ref c/\IsTupleKey knd s'.heap k c:=fun u hu'=>hall u (List.mem_cons_of_mem _ hu')
  split
  ·exact wpAny_pure ⟨rfl,rfl,tl⟩
  ·refine wpAny_bind (wpAny_eqIsQuiet_tuple hk ?_)
   simp only[Bool.not_true,Bool.false_eq_true,if_false]
   refine wpAny_bind (wpAny_eqIsQuiet_tuple hc ?_)
   simp only[Bool.not_true,Bool.false_eq_true,if_false]
   refine wpAny_bind (oac hk ?_)
   simp only[Bool.false_eq_true,if_false]
   refine wpAny_bind (oac hc ?_)
   simp only[Bool.false_eq_true,if_false]
   exact wpAny_pure ⟨rfl,rfl,tl⟩
 ·rintro⟨r1,r2⟩ s' ⟨hr,rfl,_⟩
  simp only at hr
  subst hr
  exact wpAny_pure h
end
end TS
end PySem
namespace PySem
namespace TS
section
variable {prog:Program} {w:World} {K:Type} [DecidableEq K] {knd:KeyKind prog w K}
variable {A:Around} {E:Value->Shared->Prop} {s:Shared}
theorem byValue_of {ks:List K}{b:Addr}{Q:Bool->Shared->Prop}(hk:IsTupleKey knd s.heap ks b)(h:∀r,Q r s):wpAny (model prog w) A (hashByValue 8 (.ref b)) Q E s:=by
 have hT:=hk.typeIs
 obtain⟨o,items,n,ho,hc,hd,hi⟩:=hk
 unfold hashByValue
 refine wpAny_bind (wpAny_specialOf hT F.slot_tuple_hash.lookup ?_)
 dsimp only
 refine wpAny_bind (wpAny_seqItems ho hd ?_)
 rw[Option.getD_some]
 refine wpAny_bind ?_
 show wpAny _ _ (forIn items _ _) _ _ s
 rw[<-Array.forIn_toList]
 refine wpAny_forIn_list _ (fun rest r s'=>r.1=none/\s'=s/\∀v∈rest,carriedByValue v=true) _ ?_ ?_ _ _ ⟨rfl,rfl,hi.byValue⟩
 ·rintro v rest r s' ⟨hr,rfl,hall⟩
  have hv:∃z,hashByValue 7 v=pure z:=by
   have:=hall v List.mem_cons_self
   cases v<;>first|exact⟨_,rfl⟩|cases this
  obtain⟨z,hv⟩:=hv
  rw[hv]
  refine wpAny_bind (wpAny_pure ?_)
  cases z
  ·exact wpAny_pure (wpAny_pure (h _))
  ·exact wpAny_pure ⟨rfl,rfl,fun u hu'=>hall u (List.mem_cons_of_mem _ hu')⟩
 ·rintro⟨r1,r2⟩ s' ⟨hr,rfl,_⟩
  simp only at hr
  subst hr
  exact wpAny_pure (h _)
def Cnt (h:Heap)(a:Addr)(n:Nat):Prop:=∃o es ep t,h.get? a=some o/\o.ExactSet/\o.data=.set es ep t/\t.fits es.size=true/\es.size=n
theorem stored {a:Addr}{o:Obj}{es es':Array (Int×Value)}{ep:Nat}{t t':SetTable}(ho:s.heap.get? a=some o)(hd:o.data=.set es ep t):(s.heap.update a (Obj.putSet es' t')).get? a=some {o with data:=.set es' (ep+1) t' }:=by
 have:=Heap.get?_update_self (Obj.putSet es' t') ho (by rw[putSet_of es' t' hd];rfl)
 rw[putSet_of es' t' hd]at this;exact this
theorem key_keeps {h h':Heap}{k:List K}{a b:Addr}{o:Obj}{es ep t}(x:IsTupleKey knd h k b)(ho:h.get? a=some o)(hd:o.data=.set es ep t)(hs:Heap.SameBut a h h'):IsTupleKey knd h' k b:=by
 obtain⟨o',items,n,h1,h2,h3,h4⟩:=x
 refine⟨o',items,n,?_,h2,h3,h4⟩
 have hne:b≠a:=fun z=>by rw[z,ho]at h1;cases h1;rw[hd]at h3;cases h3
 rw[hs.2 b hne];exact h1
theorem size20:SetTable.sizeAbove 20=32:=by decide +kernel
end
end TS
end PySem
namespace PySem
namespace TS
section
variable {prog:Program} {w:World} {K:Type} [DecidableEq K] {knd:KeyKind prog w K}
theorem keyAt {h h':Heap}{k:List K}{b:Addr}(x:IsTupleKey knd h k b)(e:∀o,h.get? b=some o->h'.get? b=some o):IsTupleKey knd h' k b:=by
 obtain⟨o',items,n,h1,h2⟩:=x
 exact⟨o',items,n,e _ h1,h2⟩
def Ks (knd:KeyKind prog w K)(keys:List (List K))(bs:List Addr)(h:Heap):Prop:=keys.length=bs.length/\∀(j:Nat) (k:List K) (b:Addr),keys[j]?=some k->bs[j]?=some b->IsTupleKey knd h k b
theorem Ks.keep {keys:List (List K)}{bs:List Addr}{h h':Heap}(x:Ks knd keys bs h)(e:∀b∈bs,∀o,h.get? b=some o->h'.get? b=some o):Ks knd keys bs h' :=
 ⟨x.1,fun j k b h1 h2=>keyAt (x.2 j k b h1 h2) (e b (List.mem_of_getElem? h2))⟩
variable {A:Around} {R:Result->Shared->Prop} {I:Addr} {fp wr:List Addr} {G:Array GenState->Array GenState->Prop} {n:Nat} {P:Nat->Value->Prop} {St:Nat->Shared->Prop}
theorem set_loop (W:WalksS prog w A.in1 I fp wr G n P St)(S:Addr)(o:S∉fp)(J:Nat->Heap->Prop)(keep:∀{i h h'},J i h->(∀b u,b∉wr->h.get? b=some u->h'.get? b=some u)->J i h')
    (step:∀{i v} {t:Shared} {Q:Bool->Shared->Prop} {E:Value->Shared->Prop},i<n->P i v->J i t.heap->(∀c h' k,J (i+1) h'->Heap.SameBut S t.heap h'->Q c {t with heap:=h',toks:=t.toks+k})->wpAny (model prog w) A.in1 (setAdd S v) Q E t)
    (i:Nat) (t:Shared) (le:i<=n) (st:St i t) (j:J i t.heap) (fin:∀t',Moved (S::wr) G t t'->J n t'.heap->R (.ok (.ret .none)) t'):codeAny (model prog w) A (.builtin "set.update.loop" ⟨[.ref S,.ref I],[]⟩) R t:=by
  have wide:∀{b},b∉S::wr->b≠S/\b∉wr:=fun h=>⟨fun e=>h (e ▸ List.mem_cons_self),fun m=>h (List.mem_cons_of_mem _ m)⟩
  refine codeAny_builtin PyProof.Rows.F.entry_set_update_loop ?_
  rw[Around.under_plainId PyProof.Rows.F.plain_set_update_loop _]
  refine wpAny_bind (m:=pyNext (.ref I)) ?_
  rcases Nat.eq_or_lt_of_le le with rfl|lt
  . exact W.done t _ _ st fun t' m=>wpAny_pure (fin t' (m.mono fun b=>List.mem_cons_of_mem _) (keep j m.heap))
  . refine W.item i t _ _ lt st fun v t' p st' m=>wpAny_bind (wpAny_holding (step lt p (keep j m.heap) fun c h' k j' same=>wpAny_pure ⟨plainId_quiet PyProof.Rows.F.plain_set_update_loop _,?_⟩))
    exact set_loop W S o J keep step (i+1) _ lt (W.frame _ t' _ _ st' (Nat.le_add_right _ _) fun b f u e=>(same.2 b fun z=>o (z ▸ f)).trans e) j' fun t2 m2 jn=>
      fin t2 (Moved.trans W.gtrans ((m.mono fun b=>List.mem_cons_of_mem _).then_heap (Nat.le_add_right _ _) fun b u f e=>(same.2 b (wide f).1).trans e) m2) jn
 termination_by n-i
end
end TS
end PySem
namespace PySem
section
variable {prog:Program} {w:World} {A:Around} {E:Value->Shared->Prop} {s:Shared}
abbrev TS.set0 (led:Bool):Obj:=⟨.type "set",none,.set #[] 0 (.fresh 0 0 led),#[]⟩
abbrev TS.it0 (l:Addr):Obj:=⟨.type "list_iterator",none,.fields #[.ref l,.int 0 0],#[]⟩
theorem TS.set_open {l:Addr}{items:Array Value}{Q:Value->Shared->Prop}(hh:A.handled=none)(hl:s.heap.IsList l items)
  (k:∀led,codeAny (model prog w) A.in1.in1 (.builtin "set.update.loop" ⟨[.ref s.heap.objs.size,.ref (s.heap.push (TS.set0 led)).objs.size],[]⟩) (wants (fun _ s'=>Q (.ref s.heap.objs.size) s') E) {s with heap:=(s.heap.push (TS.set0 led)).push (TS.it0 l)}):
  wpAny (model prog w) A (call (.type "set") [.ref l]) Q E s:=by
 have a1:=F.called_set.notType
 have a2:=F.called_set.canCreate
 have a3:=F.called_set.made
 have a4:=F.called_set.sub
 have a5:=F.typeCall_set_1 (.ref l)
 obtain⟨c,tl,a6⟩:=F.called_set.mro
 refine wpAny_call (codeAny_of_tree ?_)
 refine wpAny_pure ⟨Code.quiet_builtin _ (by decide +kernel),codeAny_builtin F.entry_type_call ?_⟩
 rw[Around.under_plain (weight_type_call_type "set" [.ref l] []) rfl]
 wp_walk
 refine codeAny_mono (code_set_new_1 (.ref l) (E:=E) (Q₁:=fun v t=>∃led,v=.ref s.heap.objs.size/\t={s with heap:=s.heap.push (TS.set0 led)}) fun led=>⟨led,rfl,rfl⟩) fun r t hr=>?_
 rcases r with e|f
 ·exact hr
 cases f<;>try exact hr
 obtain⟨led,rfl,rfl⟩:=hr
 have g:(s.heap.push (TS.set0 led)).get? s.heap.objs.size=some (TS.set0 led):=Heap.get?_push_size _ rfl
 have hT:Shared.TypeIs {s with heap:=s.heap.push (TS.set0 led)} (.ref s.heap.objs.size) "set" := ⟨_,g,rfl⟩
 have b1:=F.called_set.init.lookup
 have b2:=F.called_set.init.bind (.ref s.heap.objs.size)
 wp_walk
 refine codeAny_mono (codeAny_call_builtin (R:=wants (fun v t=>v=.none/\Q (.ref s.heap.objs.size) t) E) F.called_set.init.plain F.entry_set_init (check_set_init_1 hT ?_)) fun r t hr=>?_
 ·have hl2:(s.heap.push (TS.set0 led)).IsList l items:=hl.push _
  have c1:=F.sub_list_set
  have c2:=F.sub_list_frozenset
  obtain⟨⟨oc,od,ot,os⟩,ho,h3,n,h4⟩:=id hl2
  cases h3
  cases h4
  unfold Builtin.«set.__init__» Builtin.Frozenset.updateFrom
  wp_walk using wpAny_pyIter_list hl2
  exact codeAny_mono (k led) fun r t hr=>by
   rcases r with e|f
   ·exact hr
   cases f<;>try exact hr
   exact wpAny_pure (wpAny_pure ⟨rfl,hr⟩)
 ·rcases r with e|f
  ·exact hr
  cases f<;>try exact hr
  obtain⟨rfl,q⟩:=hr
  exact wpAny_pure (wpAny_pure q)
section
variable {K:Type} [DecidableEq K] {knd:KeyKind prog w K} {l:Addr} {items:Array Value} {keys:List (List K)} {bs:List Addr} {led:Bool}
theorem TS.at_of (hi:items=(bs.map Value.ref).toArray)(i:Nat)(v:Value)(q:items[i]?=some v):∃b,bs[i]?=some b/\v=.ref b:=by
 subst hi
 cases h:bs[i]? with
 |none=>simp[h]at q
 |some b=>exact⟨b,rfl,by simpa [h] using q.symm⟩
theorem TS.Ks.lt {h:Heap}(hK:TS.Ks knd keys bs h){b:Addr}(m:b∈bs):b<h.objs.size:=by
 obtain⟨j,o,rfl⟩:=List.mem_iff_getElem.mp m
 obtain⟨o',_,_,g,_⟩:=hK.2 j (keys[j]'(hK.1 ▸ o)) bs[j] (by simp) (by simp)
 exact Heap.lt_size g
theorem TS.old {b:Addr}(o:b<s.heap.objs.size):b ∉ [s.heap.objs.size,(s.heap.push (TS.set0 led)).objs.size]/\b ∉ [(s.heap.push (TS.set0 led)).objs.size]/\b≠s.heap.objs.size:=by
 rw[Heap.size_push]
 have n:=Nat.ne_of_lt (Nat.lt_succ_of_lt o)
 exact⟨fun m=>(List.mem_cons.mp m).elim (Nat.ne_of_lt o) fun m=>n (List.mem_singleton.mp m),fun m=>n (List.mem_singleton.mp m),Nat.ne_of_lt o⟩
end
end
end PySem
namespace L2
open PySem PySem.Spec PyProof.Rows
def setO (a:Addr)(n:Nat):HO:=.ext (fun h=>TS.Cnt h a n)
section
variable {X:Cx}
theorem call_lenSetT:CallR X (.builtin "len") (fun xs H Q=>∃p n,xs=[.ref p]/\H p=some (setO p n)/\n<=1000/\Q (.int n) H):=by
 intro pins s σ H xs us Q I r h
 obtain⟨p,n,rfl,hq,hz,q⟩:=h
 obtain⟨u,rfl,rx⟩:=vals1 r
 cases rx
 obtain⟨⟨o,es,ep,t,ho,hex,hd,hf,hn⟩,_⟩:=(show ObjOk X.prog X.w H s.heap p (setO p n) from I.hok _ _ hq)
 exact PySem.call_len_set ho hex hd hf (by omega) ⟨.int n,H,I.tok _,⟨s.toks+1,by rw[hn]⟩,q⟩
end
end L2
namespace L2
open PySem PySem.Spec PyProof.Rows
theorem op_in_seqK {X:Cx}{K:PySem.W.Frag}(h:X.K=K):OpR X (compareOp .In) (rIn K false):=by subst h;exact op_in_seq
def rInT (K:PySem.W.Frag):R2:=fun x y H Q=>∃p t xs w ws,y=.ref p/\x=.ref t/\SqT K H p xs/\WordsT K H xs ws/\SqT K H t (w.map V.int)/\Q (.bl (decide (w∈ws))) H
theorem r_inT {K:PySem.W.Frag}{x y:V}{H:Hp}{Q:VK}:rInT K x y H Q=∃p t xs w ws,y=.ref p/\x=.ref t/\SqT K H p xs/\WordsT K H xs ws/\SqT K H t (w.map V.int)/\Q (.bl (decide (w∈ws))) H:=rfl
theorem words_eqs {K:PySem.W.Frag}{H:Hp}{xs:List V}{ws:List (List Int)}{t:Addr}{w:List Int}(hw:WordsT K H xs ws)(ht:SqT K H t (w.map V.int)):EqsD K H 2 xs (.ref t) (fun i=>decide (ws[i]?=some w)):=by
 refine⟨fun i v hv=>?_,fun i j v hi hj=>?_⟩
 ·obtain⟨a,u,e1,rfl,e2⟩:=hw.at hv
  refine⟨a,rfl,?_⟩
  have:=EqD.ints (K:=K) (H:=H) (xs:=u) (ys:=w) (.inr ⟨SqT.of e2,ht⟩) 1
  show EqD K H 2 (.ref a) (.ref t) (decide (ws[i]?=some w))
  rw[show decide (ws[i]?=some w)=decide (u=w) by rw[e1];simp]
  exact this
 ·obtain⟨a,u,e1,rfl,e2⟩:=hw.at hi
  obtain⟨b,u',f1,z,f2⟩:=hw.at hj
  cases z
  rw[e2]at f2
  have:=Option.some.inj f2
  injection this with this
  have:=(List.map_inj_right (fun x y z=>V.int.inj z)).mp this
  show decide (ws[i]?=some w)=decide (ws[j]?=some w)
  rw[e1,f1,this]
theorem op_inT {X:Cx}(hu:X.A.units+8<cLine):OpR X (compareOp .In) (rInT X.K):=by
 intro pins s σ H x y v u Q I rx ry h
 obtain⟨p,t,xs,w,ws,rfl,rfl,hp,hw,ht,q⟩:=h
 cases ry
 cases rx
 have hE:=words_eqs hw ht
 obtain⟨its,r,pl,_⟩:=I.tuple hp
 have hl:=r.length
 refine SeqAt.in_tupleAt (evG xs fun i=>decide (ws[i]?=some w)) pl (fun y hy=>?_) ⟨.bl _,H,I,rfl,?_⟩
 ·have hy':y∈its:=by simpa using hy
  obtain⟨i,hi,ei⟩:=List.getElem_of_mem hy'
  have hix:i<xs.length:=by omega
  obtain⟨u,hu',ru⟩:=r.get (i:=i) (x:=xs[i]) (by simp[hix])
  rw[List.getElem?_eq_getElem hi,ei]at hu'
  cases hu'
  obtain⟨a,e2,e3⟩:=hE.1 i xs[i] (by simp[hix])
  rw[e2]at ru e3
  cases ru
  rw[evG_at hE (i:=i) (by rw[List.getElem?_eq_getElem hix,e2])]
  exact (EqD.at (x:=V.ref a) (y:=V.ref t) I 2 X.A.in1 (by rw[in1_units];omega) rfl rfl e3).1
 ·have:its.toArray.any (evG xs fun i=>decide (ws[i]?=some w))=decide (w∈ws):=by
   rw[show its.toArray.any (evG xs fun i=>decide (ws[i]?=some w))=its.any (evG xs fun i=>decide (ws[i]?=some w)) by simp,Bool.eq_iff_iff,List.any_eq_true,decide_eq_true_eq]
   constructor
   ·rintro⟨y,hy,hey⟩
    obtain⟨j,b,_,hxj,hej⟩:=(@decide_eq_true_iff _ (Classical.propDecidable _)).mp hey
    exact List.mem_of_getElem? (of_decide_eq_true hej)
   ·intro hm
    obtain⟨i,hi⟩:=List.mem_iff_getElem?.mp hm
    obtain⟨a,hx,_⟩:=hw.2 i w hi
    obtain⟨u,hu',ru⟩:=r.get hx
    cases ru
    exact⟨.ref a,List.mem_of_getElem? hu',by rw[evG_at hE hx];exact decide_eq_true hi⟩
  rw[this]
  exact q
theorem op_inTK {X:Cx}{K:PySem.W.Frag}(h:X.K=K)(hu:X.A.units+8<cLine):OpR X (compareOp .In) (rInT K):=by subst h;exact op_inT hu
theorem WordsT.append {K:PySem.W.Frag}{H:Hp}{xs ys:List V}{as bs:List (List Int)}(h:WordsT K H xs as)(g:WordsT K H ys bs):WordsT K H (xs++ys) (as++bs):=by
 refine⟨by rw[List.length_append,List.length_append,h.1,g.1],fun i u hu=>?_⟩
 by_cases hi:i<as.length
 ·rw[List.getElem?_append_left hi]at hu
  obtain⟨t,a,b⟩:=h.2 i u hu
  exact⟨t,by rw[List.getElem?_append_left (by rw[h.1];exact hi)];exact a,b⟩
 ·rw[List.getElem?_append_right (by omega)]at hu
  obtain⟨t,a,b⟩:=g.2 _ u hu
  exact⟨t,by rw[List.getElem?_append_right (by rw[h.1];omega),h.1];exact a,b⟩
theorem WordsT.takeN {K:PySem.W.Frag}{H:Hp}{xs:List V}{ws:List (List Int)}(h:WordsT K H xs ws)(n:Nat):WordsT K H (xs.take n) (ws.take n):=by
 refine⟨by rw[List.length_take,List.length_take,h.1],fun i u hu=>?_⟩
 rw[List.getElem?_take]at hu ⊢
 by_cases hi:i<n
 ·rw[if_pos hi]at hu ⊢;exact h.2 i u hu
 ·rw[if_neg hi]at hu;cases hu
theorem WordsT.rowsN {K:PySem.W.Frag}{H:Hp}{zs:List V}{ws:List (List Int)}(h:WordsT K H zs ws):∃ts:List Addr,zs=ts.map V.ref/\ts.length=ws.length/\∀(i:Nat) (t:Addr) (row:List Int),ts[i]?=some t->ws[i]?=some row->H t=some (.tup (row.map V.int)):=by
 refine⟨zs.map fun v=>match v with | .ref t=>t|_=>0,?_,by rw[List.length_map,h.1],fun i t row h1 h2=>?_⟩
 ·refine List.ext_getElem? fun i=>?_
  rw[List.map_map,List.getElem?_map]
  cases hz:zs[i]? with
  |none=>rfl
  |some v=>
   obtain⟨t,u,_,rfl,_⟩:=h.at hz
   rfl
 ·obtain⟨t',a,b⟩:=h.2 i row h2
  rw[List.getElem?_map,a]at h1
  cases h1
  exact b
end L2
namespace PySem
namespace TS
def Up (xs:Array Nat):Prop:=∀i j (hi:i<xs.size) (hj:j<xs.size),i<j->xs[i]<xs[j]
theorem below_go {xs:Array Nat}(up:Up xs)(v:Nat):∀(f lo hi:Nat),lo<=hi->hi<=xs.size->hi-lo<=f->(∀i (h:i<xs.size),i<lo->xs[i]<v)->(∀i (h:i<xs.size),hi<=i->v<=xs[i]) ->
  SetTable.below.go xs v f lo hi<=xs.size/\(∀i (h:i<xs.size),i<SetTable.below.go xs v f lo hi->xs[i]<v)/\(∀i (h:i<xs.size),SetTable.below.go xs v f lo hi<=i->v<=xs[i])
 |0,lo,hi,h1,h2,h3,h4,h5=>by
  unfold SetTable.below.go
  have:lo=hi:=by omega
  subst this
  exact⟨h2,h4,h5⟩
 |f+1,lo,hi,h1,h2,h3,h4,h5=>by
  unfold SetTable.below.go
  by_cases hlt:lo<hi
  ·rw[if_pos hlt]
   dsimp only
   have hm:(lo+hi) / 2<xs.size:=by omega
   have hg:xs.getD ((lo+hi) / 2) v=xs[(lo+hi) / 2]:=by unfold Array.getD;rw[dif_pos hm];rfl
   rw[hg]
   by_cases hv:xs[(lo+hi) / 2]<v
   ·rw[if_pos hv]
    refine below_go up v f _ _ (by omega) h2 (by omega) (fun i h hi'=>?_) h5
    rcases Nat.lt_or_ge i ((lo+hi) / 2) with hlt' | hge
    ·exact Nat.lt_trans (up i _ h hm hlt') hv
    ·have:i=(lo+hi) / 2:=by omega
     subst this;exact hv
   ·rw[if_neg hv]
    refine below_go up v f _ _ (by omega) (by omega) (by omega) h4 (fun i h hi'=>?_)
    rcases Nat.lt_or_ge ((lo+hi) / 2) i with hlt' | hge
    ·have:=up _ i hm h hlt';omega
    ·have:i=(lo+hi) / 2:=by omega
     subst this;omega
  ·rw[if_neg hlt]
   have:lo=hi:=by omega
   subst this
   exact⟨h2,h4,h5⟩
theorem below_of {xs:Array Nat}(up:Up xs)(v:Nat):SetTable.below xs v<=xs.size/\(∀i (h:i<xs.size),i<SetTable.below xs v->xs[i]<v)/\(∀i (h:i<xs.size),SetTable.below xs v<=i->v<=xs[i]):=
 below_go up v _ _ _ (Nat.zero_le _) (Nat.le_refl _) (by omega) (fun i h hi=>absurd hi (Nat.not_lt_zero _)) (fun i h hi=>by omega)
theorem below_mem {xs:Array Nat}(up:Up xs){v:Nat}(hv:v∈xs.toList):xs[SetTable.below xs v]?=some v:=by
 obtain⟨b1,b2,b3⟩:=below_of up v
 obtain⟨i,hi,e⟩:=List.getElem_of_mem hv
 rw[Array.length_toList]at hi
 rw[Array.getElem_toList]at e
 have h1:¬ i<SetTable.below xs v:=fun z=>by have:=b2 i hi z;omega
 have h2:SetTable.below xs v<xs.size:=by omega
 have h3:i=SetTable.below xs v:=by
  refine Decidable.byContradiction fun hne=>?_
  have h4:=up (SetTable.below xs v) i h2 hi (by omega)
  have h5:=b3 _ h2 (Nat.le_refl _)
  omega
 subst h3
 rw[Array.getElem?_eq_getElem hi,e]
theorem slot_mem {t:SetTable}(up:Up t.place)(hd:t.dummies = #[])(j:Nat):(j∈t.place.toList/\∃i,t.slot j=.live i/\t.place[i]?=some j)\/(j∉t.place.toList/\t.slot j=.empty):=by
 by_cases h:j∈t.place.toList
 ·left
  refine⟨h,SetTable.below t.place j,?_,below_mem up h⟩
  unfold SetTable.slot
  dsimp only
  rw[if_pos (by rw[below_mem up h];simp)]
 ·right
  refine⟨h,?_⟩
  rcases slot_cases hd j with e|⟨i,e,f⟩
  ·exact e
  ·rw[<-Array.getElem?_toList]at f
   exact absurd (List.mem_of_getElem? f) h
theorem insertAt_get {α:Type}(xs:Array α)(p:Nat)(hp:p<=xs.size)(x:α)(i:Nat):(SetTable.insertAt xs p x)[i]?=if i<p then xs[i]? else if i=p then some x else xs[i-1]?:=by
 rw[<-Array.getElem?_toList,SetTable.toList_insertAt]
 by_cases h1:i<p
 ·rw[if_pos h1,List.getElem?_append_left (by rw[List.length_take,Array.length_toList];omega),List.getElem?_take,if_pos h1,Array.getElem?_toList]
 ·rw[if_neg h1,List.getElem?_append_right (by rw[List.length_take,Array.length_toList];omega),List.length_take,Array.length_toList,Nat.min_eq_left hp]
  by_cases h2:i=p
  ·rw[if_pos h2,h2,Nat.sub_self,List.getElem?_cons_zero]
  ·rw[if_neg h2,show i-p=(i-p-1)+1 by omega,List.getElem?_cons_succ,List.getElem?_drop,Array.getElem?_toList]
   congr 1;omega
theorem Up.iff {xs:Array Nat}:Up xs ↔ ∀i j a b:Nat,xs[i]?=some a->xs[j]?=some b->i<j->a<b:=by
 constructor
 ·intro h i j a b ha hb hij
  obtain⟨h1,rfl⟩:=Array.getElem?_eq_some_iff.mp ha
  obtain⟨h2,rfl⟩:=Array.getElem?_eq_some_iff.mp hb
  exact h i j h1 h2 hij
 ·intro h i j hi hj hij
  exact h i j _ _ (Array.getElem?_eq_getElem hi) (Array.getElem?_eq_getElem hj) hij
theorem Up.ins {xs:Array Nat}(up:Up xs){v:Nat}(hv:v∉xs.toList):Up (SetTable.insertAt xs (SetTable.below xs v) v):=by
 obtain⟨b1,b2,b3⟩:=below_of up v
 have lt:∀i a,xs[i]?=some a->i<SetTable.below xs v->a<v:=fun i a ha hi=>by
  obtain⟨h1,rfl⟩:=Array.getElem?_eq_some_iff.mp ha
  exact b2 i h1 hi
 have gt:∀i a,xs[i]?=some a->SetTable.below xs v<=i->v<a:=fun i a ha hi=>by
  obtain⟨h1,rfl⟩:=Array.getElem?_eq_some_iff.mp ha
  have:=b3 i h1 hi
  rcases Nat.lt_or_ge v xs[i] with h|h
  ·exact h
  ·exact absurd (show v∈xs.toList by rw[show v=xs[i] by omega];exact Array.getElem_mem_toList h1) hv
 rw[Up.iff]at up ⊢
 intro i j a b ha hb hij
 rw[insertAt_get _ _ b1]at ha hb
 by_cases hi:i<SetTable.below xs v
 ·rw[if_pos hi]at ha
  by_cases hj:j<SetTable.below xs v
  ·rw[if_pos hj]at hb;exact up i j a b ha hb hij
  ·rw[if_neg hj]at hb
   by_cases hjp:j=SetTable.below xs v
   ·rw[if_pos hjp]at hb;cases hb;exact lt i a ha hi
   ·rw[if_neg hjp]at hb
    exact Nat.lt_trans (lt i a ha hi) (gt (j-1) b hb (by omega))
 ·rw[if_neg hi]at ha
  rw[if_neg (by omega),if_neg (by omega)]at hb
  by_cases hip:i=SetTable.below xs v
  ·rw[if_pos hip]at ha;cases ha;exact gt (j-1) b hb (by omega)
  ·rw[if_neg hip]at ha
   exact up (i-1) (j-1) a b ha hb (by omega)
theorem ins_mem {α:Type}{xs:Array α}{p:Nat}{x y:α}:y∈(SetTable.insertAt xs p x).toList↔y∈xs.toList\/y=x:=by
 rw[(SetTable.insertAt_perm xs p x).mem_iff,Array.toList_push,List.mem_append,List.mem_singleton]
def adv (m:Nat)(p:SetTable.Probe):SetTable.Probe:=if p.more > 0 then {p with j:=p.j+1,more:=p.more-1} else
 {p with j:=(SetTable.leap m p.i p.perturb).1,more:=SetTable.runEnd m (SetTable.leap m p.i p.perturb).1-(SetTable.leap m p.i p.perturb).1,i:=(SetTable.leap m p.i p.perturb).1,perturb:=(SetTable.leap m p.i p.perturb).2}
theorem adv_of (t:SetTable)(p:SetTable.Probe):t.advance p=adv t.mask p:=by
 unfold SetTable.advance adv
 split<;>rfl
def stt (m i perturb:Nat):SetTable.Probe:={j:=i,more:=SetTable.runEnd m i-i,i,perturb,dummy:=none}
def advs (m:Nat):Nat->SetTable.Probe->SetTable.Probe
 |0,p=>p
 |n+1,p=>advs m n (adv m p)
theorem advs_succ (m:Nat):∀(n:Nat) (p:SetTable.Probe),advs m (n+1) p=adv m (advs m n p)
 |0,p=>rfl
 |n+1,p=>by show advs m (n+1) _=_;rw[advs_succ m n];rfl
theorem advs_add (m:Nat):∀(a b:Nat) (p:SetTable.Probe),advs m (a+b) p=advs m b (advs m a p)
 |0,b,p=>by rw[Nat.zero_add];rfl
 |a+1,b,p=>by rw[show a+1+b=(a+b)+1 by omega];exact advs_add m a b _
theorem adv_dummy (m:Nat)(p:SetTable.Probe):(adv m p).dummy=p.dummy:=by unfold adv;split<;>rfl
theorem advs_dummy (m:Nat):∀(n:Nat) (p:SetTable.Probe),(advs m n p).dummy=p.dummy
 |0,p=>rfl
 |n+1,p=>by show (advs m n _).dummy=_;rw[advs_dummy m n,adv_dummy]
theorem run_at (m i q:Nat):∀k,k<=SetTable.runEnd m i-i->advs m k (stt m i q)={j:=i+k,more:=SetTable.runEnd m i-i-k,i,perturb:=q,dummy:=none}
 |0,_=>rfl
 |k+1,h=>by
  rw[advs_succ,run_at m i q k (by omega)]
  unfold adv
  rw[if_pos (by show SetTable.runEnd m i-i-k > 0;omega)]
  rfl
theorem run_on (m i q:Nat):advs m (SetTable.runEnd m i-i+1) (stt m i q)=stt m (SetTable.leap m i q).1 (SetTable.leap m i q).2:=by
 rw[advs_succ,run_at m i q _ (Nat.le_refl _)]
 unfold adv
 rw[if_neg (by show ¬ (SetTable.runEnd m i-i-(SetTable.runEnd m i-i) > 0);omega)]
 rfl
theorem run_le (m i:Nat):SetTable.runEnd m i-i<=9:=by unfold SetTable.runEnd;split<;>omega
theorem leap_at (m:Nat):∀(n i q:Nat),∃k,k<=10*n/\advs m k (stt m i q)=stt m (it m n (i,q)).1 (it m n (i,q)).2
 |0,i,q=>⟨0,by omega,rfl⟩
 |n+1,i,q=>by
  obtain⟨k,h1,h2⟩:=leap_at m n (SetTable.leap m i q).1 (SetTable.leap m i q).2
  have:=run_le m i
  refine⟨SetTable.runEnd m i-i+1+k,by omega,?_⟩
  rw[advs_add,run_on,h2];rfl
def pth (m:Nat)(h:Int)(n:Nat):Nat:=(advs m n (stt m (SetTable.bits h%(m+1)) (SetTable.bits h))).j
def prb (m:Nat)(h:Int)(n:Nat):SetTable.Probe:=advs m n (stt m (SetTable.bits h%(m+1)) (SetTable.bits h))
theorem prb_start (t:SetTable)(h:Int):t.probeStart h=prb t.mask h 0:=rfl
theorem prb_adv (t:SetTable)(h:Int)(n:Nat):t.advance (prb t.mask h n)=prb t.mask h (n+1):=by rw[adv_of];unfold prb;rw[advs_succ]
theorem prb_dummy (m:Nat)(h:Int)(n:Nat):(prb m h n).dummy=none:=by unfold prb;rw[advs_dummy];rfl
theorem free_path {m:Nat}{o:Array (Option Nat)}:∀(F i q j:Nat),SetTable.layClean.free m o F i q=some j->∃n,j=(advs m n (stt m i q)).j/\(o.getD j (some 0)).isNone=true/\∀k,k<n->(o.getD (advs m k (stt m i q)).j (some 0)).isNone=false
 |0,i,q,j,h=>by unfold SetTable.layClean.free at h;cases h
 |F+1,i,q,j,h=>by
  unfold SetTable.layClean.free at h
  split at h
  ·rename_i k hk
   cases h
   have h1:=List.find?_some (p:=fun k=>(o.getD (i+k) (some 0)).isNone) hk
   have h2:=List.mem_range.mp (List.mem_of_find?_eq_some hk)
   have hre:i<=SetTable.runEnd m i:=by unfold SetTable.runEnd;split<;>omega
   refine⟨k,by rw[run_at m i q k (by omega)],h1,fun k' hk'=>?_⟩
   rw[run_at m i q k' (by omega)]
   have:=List.find?_eq_some_iff_append.mp hk
   obtain⟨_,as,bs,e,hb⟩:=this
   have hm:k'∈as:=by
    have hl:as.length=k:=by
     have e2:=congrArg (fun l:List Nat=>l[as.length]?) e
     simp only[List.getElem?_append_right (Nat.le_refl _),Nat.sub_self,List.getElem?_cons_zero]at e2
     rw[List.getElem?_range]at e2
     ·exact Option.some.inj e2
     ·have:=congrArg List.length e
      rw[List.length_range,List.length_append,List.length_cons]at this
      omega
    have e3:=congrArg (fun l:List Nat=>l[k']?) e
    simp only[List.getElem?_append_left (show k'<as.length by omega)]at e3
    rw[List.getElem?_range (by omega)]at e3
    exact List.mem_of_getElem? e3.symm
   have:=hb k' hm
   simpa using this
  ·rename_i hk
   dsimp only at h
   obtain⟨n,h1,h2,h3⟩:=free_path F _ _ j h
   refine⟨SetTable.runEnd m i-i+1+n,by rw[advs_add,run_on];exact h1,h2,fun k hk'=>?_⟩
   by_cases hin:k<=SetTable.runEnd m i-i
   ·rw[run_at m i q k hin]
    have hre:i<=SetTable.runEnd m i:=by unfold SetTable.runEnd;split<;>omega
    have:=List.find?_eq_none.mp hk k (List.mem_range.mpr (by omega))
    show (o.getD (i+k) (some 0)).isNone=false
    exact Bool.eq_false_iff.mpr this
   ·obtain⟨k2,rfl⟩:∃k2,k=SetTable.runEnd m i-i+1+k2:=⟨k-(SetTable.runEnd m i-i+1),by omega⟩
    rw[advs_add,run_on]
    exact h3 k2 (by omega)
end TS
end PySem
namespace PySem
namespace TS
theorem not_all {m:Nat}{xs:Array Nat}(hs:xs.size<m):∃j,j<m/\j∉xs.toList:=by
 by_cases h:∃j,j<m/\j∉xs.toList
 ·exact h
 exfalso
 have hl:∀j,j<m->j∈xs.toList:=fun j hj=>Decidable.byContradiction fun hn=>h ⟨j,hj,hn⟩
 have:=(List.nodup_range (n:=m)).length_le_of_subset (fun j hj=>hl j (List.mem_range.mp hj))
 rw[List.length_range,Array.length_toList]at this
 omega
def Mk (m:Nat):Prop:=m=7\/m=31
theorem path_all {m:Nat}(hm:Mk m)(h:Int){j:Nat}(hj:j<m+1):∃n,n+10<10*SetTable.turns m/\pth m h n=j:=by
 rcases hm with rfl|rfl
 ·obtain⟨n,hn,en⟩:=visits7 (i:=SetTable.bits h%(7+1)) (bits_lt h) hj
  obtain⟨k,hk,ek⟩:=leap_at 7 n (SetTable.bits h%(7+1)) (SetTable.bits h)
  exact⟨k,by unfold SetTable.turns;omega,by unfold pth;rw[ek];exact en⟩
 ·obtain⟨n,hn,en⟩:=visits31 (i:=SetTable.bits h%(31+1)) (bits_lt h) hj
  obtain⟨k,hk,ek⟩:=leap_at 31 n (SetTable.bits h%(31+1)) (SetTable.bits h)
  exact⟨k,by unfold SetTable.turns;omega,by unfold pth;rw[ek];exact en⟩
def Fst (t:SetTable)(h:Int)(N:Nat):Prop:=pth t.mask h N∉t.place.toList/\∀n,n<N->pth t.mask h n∈t.place.toList
theorem fst_ex {t:SetTable}(hm:Mk t.mask)(hs:t.place.size<t.mask+1)(h:Int):∃N,N+10<10*SetTable.turns t.mask/\Fst t h N:=by
 obtain⟨j,hj,ej⟩:=not_all hs
 obtain⟨n,hn,en⟩:=path_all hm h hj
 obtain⟨N,h1,h2,h3⟩:=least (p:=fun N=>pth t.mask h N∉t.place.toList) n (by rw[en];exact ej)
 exact⟨N,by omega,h2,fun m hm=>Decidable.byContradiction fun hx=>h3 m hm hx⟩
theorem go3 {t:SetTable}(up:Up t.place)(hd:t.dummies = #[]){h:Int}{N:Nat}(ha:Fst t h N)(f:Nat->Int):∀(k n F:Nat),N-n=k->n<=N->k<F ->
  (SetTable.probe.go t f h F (prb t.mask h n)=some (.empty (pth t.mask h N) none)/\∀m,n<=m->m<N->∃i,t.place[i]?=some (pth t.mask h m)/\f i≠h) \/
  (∃m i,n<=m/\m<N/\t.slot (pth t.mask h m)=.live i/\t.place[i]?=some (pth t.mask h m)/\SetTable.probe.go t f h F (prb t.mask h n)=some (.candidate (pth t.mask h m) i (prb t.mask h (m+1)))/\∀m',n<=m'->m'<m->∃i,t.place[i]?=some (pth t.mask h m')/\f i≠h)
 |0,n,F,hk,hn,hF=>by
  have e:n=N:=by omega
  subst e
  obtain⟨F',rfl⟩:∃F',F=F'+1:=⟨F-1,by omega⟩
  left
  refine⟨?_,fun m h1 h2=>by omega⟩
  unfold SetTable.probe.go
  have:t.slot (prb t.mask h n).j=.empty:=by
   rcases slot_mem up hd (pth t.mask h n) with ⟨h1,_⟩|⟨_,h2⟩
   ·exact absurd h1 ha.1
   ·exact h2
  rw[this]
  dsimp only
  rw[prb_dummy];rfl
 |k+1,n,F,hk,hn,hF=>by
  obtain⟨F',rfl⟩:∃F',F=F'+1:=⟨F-1,by omega⟩
  have hin:=ha.2 n (by omega)
  rcases slot_mem up hd (pth t.mask h n) with ⟨_,i,hi,hp⟩|⟨h1,_⟩
  ·unfold SetTable.probe.go
   rw[show t.slot (prb t.mask h n).j=.live i from hi]
   dsimp only
   by_cases hf:f i=h
   ·right
    exact⟨n,i,Nat.le_refl _,by omega,hi,hp,by rw[if_pos (by simp[hf]),prb_adv];rfl,fun m' h1 h2=>by omega⟩
   ·rw[if_neg (by simpa using hf),prb_adv]
    have hst:∀m',n<=m'->m'<n+1->∃i,t.place[i]?=some (pth t.mask h m')/\f i≠h:=fun m' h1 h2=>by
     have:m'=n:=by omega
     subst this
     exact⟨i,hp,hf⟩
    rcases go3 up hd ha f k (n+1) F' (by omega) (by omega) (by omega) with ⟨h1,h2⟩|⟨m,i',h1,h2,h3,h4,h5,h6⟩
    ·exact .inl ⟨h1,fun m a b=>by
      by_cases hmn:m<n+1
      ·exact hst m a hmn
      ·exact h2 m (by omega) b⟩
    ·exact .inr ⟨m,i',by omega,h2,h3,h4,h5,fun m' a b=>by
      by_cases hmn:m'<n+1
      ·exact hst m' a hmn
      ·exact h6 m' (by omega) b⟩
  ·exact absurd hin h1
theorem go4 {t:SetTable}(up:Up t.place)(hd:t.dummies = #[]){h:Int}{N:Nat}(ha:Fst t h N){f:Nat->Int}{k n F:Nat}{r:Option SetTable.Met}(e:SetTable.probe.go t f h F (prb t.mask h n)=r)(hk:N-n=k)(hn:n<=N)(hF:k<F):
  (r=some (.empty (pth t.mask h N) none)/\∀m,n<=m->m<N->∃i,t.place[i]?=some (pth t.mask h m)/\f i≠h) \/
  (∃m i,n<=m/\m<N/\t.slot (pth t.mask h m)=.live i/\t.place[i]?=some (pth t.mask h m)/\r=some (.candidate (pth t.mask h m) i (prb t.mask h (m+1)))/\∀m',n<=m'->m'<m->∃i,t.place[i]?=some (pth t.mask h m')/\f i≠h):=by
 rcases go3 up hd ha f k n F hk hn hF with ⟨h1,h2⟩|⟨m,i,h1,h2,h3,h4,h5,h6⟩
 ·exact .inl ⟨e.symm.trans h1,h2⟩
 ·exact .inr ⟨m,i,h1,h2,h3,h4,e.symm.trans h5,h6⟩
section
variable {prog:Program} {w:World} {K:Type} [DecidableEq K] {knd:KeyKind prog w K}
variable {A:Around} {E:Value->Shared->Prop} {s:Shared}
structure Tb (knd:KeyKind prog w K)(B:Addr->Prop)(h:Heap)(a:Addr)(ks:List (List K))(o:Obj)(es:Array (Int×Value))(ep:Nat)(t:SetTable):Prop where
 ho:h.get? a=some o
 hx:o.ExactSet
 hd:o.data=.set es ep t
 hm:(t.mask=7/\es.size<5)\/(t.mask=31/\es.size<10)
 hz:t.dummies = #[]
 hs:t.place.size=es.size
 up:Up t.place
 hn:es.size=ks.length
 nd:ks.Nodup
 he:∀(i:Nat) (e:Int×Value) (p:Nat),es[i]?=some e->t.place[i]?=some p->∃k b,k∈ks/\e.1=tupleKeyHash knd k/\e.2=.ref b/\IsTupleKey knd h k b/\B b/\∃n,p=pth t.mask e.1 n/\∀m,m<n->pth t.mask e.1 m∈t.place.toList
 al:∀k∈ks,∃(i:Nat) (e:Int×Value) (b:Addr),es[i]?=some e/\e.1=tupleKeyHash knd k/\e.2=.ref b/\IsTupleKey knd h k b
theorem Tb.mk2 {B:Addr->Prop}{h:Heap}{a:Addr}{ks:List (List K)}{o:Obj}{es:Array (Int×Value)}{ep:Nat}{t:SetTable}(I:Tb knd B h a ks o es ep t):Mk t.mask:=by
 rcases I.hm with ⟨h,_⟩|⟨h,_⟩
 ·exact .inl h
 ·exact .inr h
theorem Tb.room {B:Addr->Prop}{h:Heap}{a:Addr}{ks:List (List K)}{o:Obj}{es:Array (Int×Value)}{ep:Nat}{t:SetTable}(I:Tb knd B h a ks o es ep t):t.place.size<t.mask:=by
 rw[I.hs]
 rcases I.hm with ⟨h,_⟩|⟨h,_⟩<;>omega
theorem Tb.fit {B:Addr->Prop}{h:Heap}{a:Addr}{ks:List (List K)}{o:Obj}{es:Array (Int×Value)}{ep:Nat}{t:SetTable}(I:Tb knd B h a ks o es ep t):t.fits es.size=true:=by
 have:=I.room
 unfold SetTable.fits SetTable.fill
 rw[I.hz,I.hs]
 rw[I.hs]at this
 simp
 omega
theorem srch {B:Addr->Prop}{a b:Addr}{ks:List (List K)}{k:List K}{o:Obj}{es:Array (Int×Value)}{ep:Nat}{t:SetTable}{Q:SetFound->Shared->Prop}(hu:A.units<cLine)(I:Tb knd B s.heap a ks o es ep t)(hk:IsTupleKey knd s.heap k b){N:Nat}(hN:N+10<10*SetTable.turns t.mask)(ha:Fst t (tupleKeyHash knd k) N)
  (h0:k∉ks->Q (.free (pth t.mask (tupleKeyHash knd k) N) false) s) (h1:k∈ks->Q (.there none) s):∀(c n F:Nat) (st:Option SetTable.Probe),N-n=c->n<=N->c<F->st.getD (t.probeStart (tupleKeyHash knd k))=prb t.mask (tupleKeyHash knd k) n ->
  (k∈ks->∃(n0 i:Nat) (e:Int×Value) (b':Addr),n<=n0/\n0<N/\t.place[i]?=some (pth t.mask (tupleKeyHash knd k) n0)/\es[i]?=some e/\e.1=tupleKeyHash knd k/\e.2=.ref b'/\IsTupleKey knd s.heap k b') ->
  wpAny (model prog w) A (setSearchFrom a (.ref b) (tupleKeyHash knd k) true F st) Q E s:=by
 have hfs:∀{i:Nat} {e:Int×Value},es[i]?=some e->∀{f:Nat->Int},(f=fun i=>((es[i]?.map (·.1)).getD 0))->f i=e.1:=fun {i e} he {f} hf=>by rw[hf];show (es[i]?.map _).getD 0=_;rw[he];rfl
 have uniq:∀{i j p:Nat},t.place[i]?=some p->t.place[j]?=some p->i=j:=fun {i j p} hi hj=>by
  have up:=Up.iff.mp I.up
  rcases Nat.lt_trichotomy i j with h|h|h
  ·have:=up i j p p hi hj h;omega
  ·exact h
  ·have:=up j i p p hj hi h;omega
 intro c
 induction c using Nat.strongRecOn with
 |_ c ih=>
  intro n F st hc hnN hF hst hto
  obtain⟨F',rfl⟩:∃F',F=F'+1:=⟨F-1,by omega⟩
  unfold setSearchFrom
  refine wpAny_bind (state_of I.ho I.hd I.fit ?_)
  dsimp only
  rw[if_neg (by unfold SetTable.gaveWay;rcases I.hm with ⟨h,_⟩|⟨h,_⟩<;>rw[h]<;>decide),hst]
  unfold SetTable.probe
  have hF':c<10*SetTable.turns t.mask:=by omega
  split
  case h_2 heq=>
   have key:∀{f:Nat->Int},(∀met,SetTable.probe.go t f (tupleKeyHash knd k) (10*SetTable.turns t.mask) (prb t.mask (tupleKeyHash knd k) n)=some met->False)->False:=fun {f} hf=>by
    rcases go3 I.up I.hz ha f c n _ hc hnN hF' with ⟨e,_⟩|⟨m,i,h1,h2,h3,h4,e,_⟩
    ·exact hf _ e
    ·exact hf _ e
   exact (key heq).elim
  rename_i met heq
  rcases go4 I.up I.hz ha heq hc hnN hF' with ⟨e,hno⟩|⟨m,i,h1',h2,h3,hpl,e,hno⟩
  ·cases e
   refine wpAny_pure (h0 fun hin=>?_)
   obtain⟨n0,i0,e0,b0,q1,hn0,q2,q3,q4,_⟩:=hto hin
   obtain⟨i1,z1,z2⟩:=hno n0 q1 hn0
   have:=uniq z1 q2
   subst this
   exact z2 ((hfs q3 rfl).trans q4)
  ·cases e
   dsimp only
   have hi:i<es.size:=by rw[<-I.hs];exact (Array.getElem?_eq_some_iff.mp hpl).1
   have hee:es[i]?=some es[i]:=Array.getElem?_eq_getElem hi
   obtain⟨k',c',q1,q2,q3,q4,_⟩:=I.he i es[i] _ hee hpl
   have rest:wpAny (model prog w) A (do
     let some (_,y):=es[i]? | unsupported "internal:set-entry"
     let equal <- holding [y] (eqBool y (.ref b))
     let (es',_,t') <- setState a
     if true&&equal then return .there none
     let some same:=t'.sameMemory t.moves t.mask|unsupported "set.changed-during-lookup:is-the-new-block-at-the-old-address"
     let still <- match (if same then t'.slot (pth t.mask (tupleKeyHash knd k) m) else .empty) with
      |.live i'=>match es'[i']? with
       |some (_,y')=>do pure (if <- isSame y' y then some i' else none)
       |none=>pure none
      |_=>pure none
     match still with
     |none=>rule "set.search.anew";setSearchFrom a (.ref b) (tupleKeyHash knd k) true F' none
     |some i'=>if equal then return .there (some i') else setSearchFrom a (.ref b) (tupleKeyHash knd k) true F' (some (prb t.mask (tupleKeyHash knd k) (m+1)))) Q E s:=by
    rw[hee]
    dsimp only
    rw[q3]
    refine wpAny_bind (wpAny_holding (wpAny_eqBool_tuple hu q4 hk ?_))
    by_cases hkk:k'=k
    ·rw[decide_eq_true hkk]
     refine wpAny_bind (state_of I.ho I.hd I.fit ?_)
     simp only[Bool.and_true,if_true]
     exact wpAny_pure (h1 (hkk ▸ q1))
    ·rw[decide_eq_false hkk]
     refine wpAny_bind (state_of I.ho I.hd I.fit ?_)
     simp only[Bool.and_false,Bool.false_eq_true,if_false]
     have hsm:t.sameMemory t.moves t.mask=some true:=by unfold SetTable.sameMemory;simp
     rw[hsm]
     dsimp only
     rw[if_pos rfl,h3]
     dsimp only
     rw[hee]
     dsimp only
     rw[q3]
     refine wpAny_bind (wpAny_isSame_ref_self (wpAny_bind (wpAny_pure ?_)))
     simp only[if_true]
     refine ih (N-(m+1)) (by omega) (m+1) F' _ rfl (by omega) (by omega) rfl fun hin=>?_
     obtain⟨n0,i0,e0,b0,w1,w2,w3,w4,w5,w6,w7⟩:=hto hin
     refine⟨n0,i0,e0,b0,?_,w2,w3,w4,w5,w6,w7⟩
     refine Decidable.byContradiction fun hlt=>?_
     rcases Nat.lt_or_ge n0 m with hl|hg
     ·obtain⟨i1,z1,z2⟩:=hno n0 w1 hl
      have:=uniq z1 w3
      subst this
      exact z2 ((hfs w4 rfl).trans w5)
     ·have:n0=m:=by omega
      subst this
      have:=uniq hpl w3
      subst this
      rw[hee]at w4
      cases w4
      rw[q3]at w6
      cases w6
      exact hkk (q4.inj w7)
   cases hl:t.led with
   |true=>
    simp only[Bool.not_true,Bool.false_eq_true,if_false]
    exact rest
   |false=>
    simp only[Bool.not_false,if_true]
    refine wpAny_bind (seen_of hk _ (fun y hy=>?_) ?_)
    ·obtain⟨e,he,rfl⟩:=List.mem_map.mp hy
     rw[Array.toList_filter]at he
     have he:=(List.mem_filter.mp he).1
     obtain⟨i2,hi2,e2⟩:=List.getElem_of_mem he
     rw[Array.length_toList]at hi2
     rw[Array.getElem_toList]at e2
     have hp2:i2<t.place.size:=by rw[I.hs];exact hi2
     obtain⟨k'',c'',_,_,z3,z4,_⟩:=I.he i2 es[i2] t.place[i2] (Array.getElem?_eq_getElem hi2) (Array.getElem?_eq_getElem hp2)
     rw[e2]at z3
     exact⟨k'',c'',z3,z4⟩
    ·simp only[Bool.false_eq_true,if_false]
     exact rest
theorem Tb.to {B:Addr->Prop}{h:Heap}{a:Addr}{ks:List (List K)}{o:Obj}{es:Array (Int×Value)}{ep:Nat}{t:SetTable}(I:Tb knd B h a ks o es ep t){k:List K}{N:Nat}(ha:Fst t (tupleKeyHash knd k) N)(hk:k∈ks):∃(n0 i:Nat) (e:Int×Value) (b':Addr),0<=n0/\n0<N/\t.place[i]?=some (pth t.mask (tupleKeyHash knd k) n0)/\es[i]?=some e/\e.1=tupleKeyHash knd k/\e.2=.ref b'/\IsTupleKey knd h k b':=by
 obtain⟨i,e,b,h1,h2,h3,h4⟩:=I.al k hk
 have hi:i<t.place.size:=by rw[I.hs];exact (Array.getElem?_eq_some_iff.mp h1).1
 obtain⟨k',b',_,_,_,_,_,n,hn,hm⟩:=I.he i e t.place[i] h1 (Array.getElem?_eq_getElem hi)
 rw[h2]at hn hm
 refine⟨n,i,e,b,Nat.zero_le _,?_,by rw[Array.getElem?_eq_getElem hi,hn],h1,h2,h3,h4⟩
 refine Decidable.byContradiction fun hge=>ha.1 ?_
 rcases Nat.lt_or_ge N n with hl|hg
 ·exact hm N hl
 ·have:n=N:=by omega
  rw[<-this,<-hn]
  exact Array.getElem_mem_toList hi
end
end TS
end PySem
namespace PySem
namespace TS
theorem adv_le {m:Nat}{p:SetTable.Probe}(h:p.j+p.more<=m):(adv m p).j+(adv m p).more<=m:=by
 unfold adv
 split
 ·dsimp only;omega
 ·dsimp only
  have h1:(SetTable.leap m p.i p.perturb).1<m+1:=Nat.mod_lt _ (Nat.succ_pos _)
  generalize (SetTable.leap m p.i p.perturb).1=i at h1
  unfold SetTable.runEnd
  split<;>omega
theorem advs_le {m:Nat}:∀(n:Nat) {p:SetTable.Probe},p.j+p.more<=m->(advs m n p).j+(advs m n p).more<=m
 |0,p,h=>h
 |n+1,p,h=>advs_le n (adv_le h)
theorem pth_lt (m:Nat)(h:Int)(n:Nat):pth m h n<m+1:=by
 have:=advs_le (m:=m) n (p:=stt m (SetTable.bits h%(m+1)) (SetTable.bits h)) (by
  unfold stt
  dsimp only
  have h1:SetTable.bits h%(m+1)<m+1:=Nat.mod_lt _ (Nat.succ_pos _)
  generalize SetTable.bits h%(m+1)=i at h1
  unfold SetTable.runEnd
  split<;>omega)
 unfold pth
 omega
def ow (o:Array (Option Nat))(j:Nat):Option Nat:=o.getD j none
theorem ow_some {o:Array (Option Nat)}(hs:o.size=32){j:Nat}(hj:j<32)(h:(o.getD j (some 0)).isNone=false):∃k,ow o j=some k:=by
 have hj':j<o.size:=by omega
 unfold ow
 unfold Array.getD at h ⊢
 rw[dif_pos hj']at h ⊢
 cases e:o[j] with
 |none=>rw[show o.getInternal j hj'=o[j] from rfl,e]at h;cases h
 |some k=>exact⟨k,e⟩
structure Ly (o:Array (Option Nat))(hs:List Int)(m:Nat):Prop where
 sz:o.size=32
 ct:cnt o=m
 at':∀j k,ow o j=some k->k<m/\∃h n,hs[k]?=some h/\j=pth 31 h n/\∀m',m'<n->∃k',ow o (pth 31 h m')=some k'
 al:∀k,k<m->∃j,ow o j=some k
theorem ow_set {o:Array (Option Nat)}{j:Nat}(hj:j<o.size)(k i:Nat):ow (o.setIfInBounds j (some k)) i=if i=j then some k else ow o i:=by
 unfold ow
 rw[Array.getD_eq_getD_getElem?,Array.getD_eq_getD_getElem?,Array.getElem?_setIfInBounds]
 by_cases h:j=i
 ·subst h
  rw[if_pos rfl,if_pos rfl,if_pos hj];rfl
 ·rw[if_neg h,if_neg (Ne.symm h)]
theorem ly_list (all:List Int):∀(hs:List Int) (o:Array (Option Nat)) (m:Nat),Ly o all m->(∀i h,hs[i]?=some h->all[m+i]?=some h)->m+hs.length<=5 ->
  ∃o',hs.foldl (fun acc h=>do
   let (owner,k) <- acc
   let j <- SetTable.layClean.free 31 owner (SetTable.turns 31) (SetTable.bits h%(31+1)) (SetTable.bits h)
   pure (owner.setIfInBounds j (some k),k+1)) (some (o,m))=some (o',m+hs.length)/\Ly o' all (m+hs.length)
 |[],o,m,L,_,_=>⟨o,rfl,L⟩
 |h::hs,o,m,L,hal,hm=>by
  rw[List.length_cons]at hm
  obtain⟨j,hj,ej⟩:=empty_at L.sz (by have:=L.ct;omega)
  obtain⟨n,hn,en⟩:=visits31 (i:=SetTable.bits h%(31+1)) (bits_lt h) hj
  obtain⟨j',e',f'⟩:=free_of (o:=o) (SetTable.turns 31) n (SetTable.bits h%(31+1)) (SetTable.bits h) (by unfold SetTable.turns;omega) (by rw[en];exact ej)
  obtain⟨np,p1,p2,p3⟩:=free_path _ _ _ _ e'
  obtain⟨hj',hjn⟩:=isNone_at f'
  have hown:ow o j'=none:=by unfold ow Array.getD;rw[dif_pos hj'];exact hjn
  have keep:∀{i k:Nat},ow o i=some k->ow (o.setIfInBounds j' (some m)) i=some k:=fun {i k} h=>by
   rw[ow_set hj',if_neg (fun z=>by rw[z,hown]at h;cases h)];exact h
  have L':Ly (o.setIfInBounds j' (some m)) all (m+1):=⟨by rw[Array.size_setIfInBounds];exact L.sz,by rw[cnt_set f',L.ct],fun i k hik=>by
   rw[ow_set hj']at hik
   by_cases hij:i=j'
   ·rw[if_pos hij]at hik
    cases hik
    refine⟨by omega,h,np,by have:=hal 0 h rfl;simpa using this,by rw[hij];exact p1,fun m' hm'=>?_⟩
    obtain⟨k',hk'⟩:=ow_some L.sz (pth_lt 31 h m') (p3 m' hm')
    exact⟨k',keep hk'⟩
   ·rw[if_neg hij]at hik
    obtain⟨h1,h',n',a1,a2,a3⟩:=L.at' i k hik
    exact⟨by omega,h',n',a1,a2,fun m' hm'=>let ⟨k',hk'⟩:=a3 m' hm';⟨k',keep hk'⟩⟩,fun k hk=>by
   by_cases hkm:k<m
   ·obtain⟨i,hi⟩:=L.al k hkm
    exact⟨i,keep hi⟩
   ·have:k=m:=by omega
    subst this
    exact⟨j',by rw[ow_set hj',if_pos rfl]⟩⟩
  obtain⟨o',e1,e2⟩:=ly_list all hs _ _ L' (fun i h' hi=>by have:=hal (i+1) h' (by simpa using hi);rw[show m+1+i=m+(i+1) by omega];exact this) (by omega)
  refine⟨o',?_,?_⟩
  ·rw[List.foldl_cons]
   show List.foldl _ (do let j <- SetTable.layClean.free 31 o (SetTable.turns 31) (SetTable.bits h%(31+1)) (SetTable.bits h);pure (o.setIfInBounds j (some m),m+1)) hs=_
   rw[e']
   refine Eq.trans e1 ?_
   rw[show m+1+hs.length=m+(h::hs).length by rw[List.length_cons];omega]
  ·rw[show m+(h::hs).length=m+1+hs.length by rw[List.length_cons];omega];exact e2
theorem ly_start (all:List Int):Ly (Array.replicate (31+1) none) all 0:=by
 obtain⟨a,b,_⟩:=lay_start
 refine⟨a,b,fun j k h=>?_,fun k hk=>absurd hk (Nat.not_lt_zero _)⟩
 unfold ow at h
 rw[Array.getD_eq_getD_getElem?,Array.getElem?_replicate]at h
 split at h<;>cases h
def livs (o:Array (Option Nat)):List (Nat×Nat):=(List.range (31+1)).filterMap fun j=>(o.getD j none).map fun x=>(j,x)
theorem livs_mem {o:Array (Option Nat)}(hs:o.size=32){j k:Nat}:(j,k)∈livs o↔ow o j=some k:=by
 unfold livs
 rw[List.mem_filterMap]
 constructor
 ·rintro⟨j',_,e⟩
  obtain⟨x,hx,e2⟩:=Option.map_eq_some_iff.mp e
  cases e2
  exact hx
 ·intro h
  refine⟨j,List.mem_range.mpr ?_,by rw[show o.getD j none=some k from h];rfl⟩
  refine Decidable.byContradiction fun hj=>?_
  unfold ow at h
  rw[Array.getD_eq_getD_getElem?,Array.getElem?_eq_none (by omega)]at h
  cases h
theorem livs_up (o:Array (Option Nat)):(livs o).Pairwise fun a b=>a.1<b.1:=by
 unfold livs
 refine List.Pairwise.filterMap _ (fun a a' h b hb b' hb'=>?_) List.pairwise_lt_range
 obtain⟨x,_,rfl⟩:=Option.map_eq_some_iff.mp hb
 obtain⟨y,_,rfl⟩:=Option.map_eq_some_iff.mp hb'
 exact h
theorem relaid2 {t:SetTable}{hs:Array Int}{n:Nat}(h:hs.size<=5)(hw:SetTable.sizeAbove n=32):∃t' order,t.relaid hs n=some (t',order)/\t'.place.size=hs.size/\t'.dummies = #[]/\t'.mask=31/\Up t'.place/\order.size=hs.size /\
  (∀(i k p:Nat),order[i]?=some k->t'.place[i]?=some p->∃g n,hs[k]?=some g/\p=pth 31 g n/\∀m,m<n->pth 31 g m∈t'.place.toList)/\∀k,k<hs.size->∃i:Nat,order[i]?=some k:=by
 obtain⟨o,e1,L⟩:=ly_list hs.toList hs.toList _ 0 (ly_start hs.toList) (fun i h hi=>by rw[Nat.zero_add];exact hi) (by rw[Array.length_toList];omega)
 rw[Nat.zero_add,Array.length_toList]at e1 L
 have e:SetTable.layClean 31 hs=some o:=by
  unfold SetTable.layClean
  rw[<-Array.foldl_toList]
  rw[show (List.foldl _ _ hs.toList)=some (o,hs.size) from e1]
  rfl
 have hlen:(livs o).length=hs.size:=by
  obtain⟨p1,_⟩:=pairs_len o.toList 0
  have eq:livs o=(List.range' 0 o.toList.length).filterMap fun j=>((o.toList[j-0]?).getD none).map fun k=>(j,k):=by
   unfold livs
   rw[Array.length_toList,L.sz,List.range_eq_range']
   refine fmc fun j hj=>?_
   rw[Nat.sub_zero,Array.getElem?_toList,Array.getD_eq_getD_getElem?]
  rw[eq,p1]
  exact L.ct
 unfold SetTable.relaid
 rw[hw]
 unfold SetTable.laid
 rw[show (32:Nat)-1=31 from rfl,e]
 refine⟨_,_,rfl,?_⟩
 dsimp only
 show ((livs o).map (·.1)).toArray.size=_/\_/\_/\Up ((livs o).map (·.1)).toArray/\((livs o).map (·.2)).toArray.size=_/\(∀(i k p:Nat),((livs o).map (·.2)).toArray[i]?=some k->((livs o).map (·.1)).toArray[i]?=some p->∃g n,hs[k]?=some g/\p=pth 31 g n/\∀m,m<n->pth 31 g m∈(((livs o).map (·.1)).toArray).toList)/\∀k,k<hs.size->∃i:Nat,((livs o).map (·.2)).toArray[i]?=some k
 refine⟨by rw[List.size_toArray,List.length_map,hlen],rfl,rfl,?_,by rw[List.size_toArray,List.length_map,hlen],fun i k p hk hp=>?_,fun k hk=>?_⟩
 ·rw[Up.iff]
  intro i j a b ha hb hij
  rw[List.getElem?_toArray,List.getElem?_map]at ha hb
  obtain⟨x,hx,rfl⟩:=Option.map_eq_some_iff.mp ha
  obtain⟨y,hy,rfl⟩:=Option.map_eq_some_iff.mp hb
  obtain⟨hi,rfl⟩:=List.getElem?_eq_some_iff.mp hx
  obtain⟨hj,rfl⟩:=List.getElem?_eq_some_iff.mp hy
  exact List.pairwise_iff_getElem.mp (livs_up o) i j hi hj hij
 ·rw[List.getElem?_toArray,List.getElem?_map]at hk hp
  obtain⟨x,hx,rfl⟩:=Option.map_eq_some_iff.mp hk
  rw[hx]at hp
  cases hp
  have hm:(x.1,x.2)∈livs o:=List.mem_of_getElem? hx
  obtain⟨_,g,n,a1,a2,a3⟩:=L.at' _ _ ((livs_mem L.sz).mp hm)
  refine⟨g,n,by rw[<-Array.getElem?_toList];exact a1,a2,fun m hm'=>?_⟩
  obtain⟨k',hk'⟩:=a3 m hm'
  exact List.mem_map.mpr ⟨_,(livs_mem L.sz).mpr hk',rfl⟩
 ·obtain⟨j,hj⟩:=L.al k hk
  obtain⟨i,hi⟩:=List.mem_iff_getElem?.mp ((livs_mem L.sz).mpr hj)
  exact⟨i,by rw[List.getElem?_toArray,List.getElem?_map,hi];rfl⟩
theorem fm_get {es:Array (Int×Value)}{order:Array Nat}(h:∀i∈order.toList,i<es.size)(i:Nat):(order.filterMap (es[·]?))[i]?=(order[i]?).bind (es[·]?):=by
 rw[<-Array.getElem?_toList,Array.toList_filterMap,<-Array.getElem?_toList]
 generalize order.toList=l at h
 induction l generalizing i with
 |nil=>rfl
 |cons x r ih=>
  have hx:=h x List.mem_cons_self
  rw[List.filterMap_cons_some (b:=es[x]) (by simp[hx])]
  cases i with
  |zero=>simp[hx]
  |succ i=>
   rw[List.getElem?_cons_succ,List.getElem?_cons_succ]
   exact ih i (fun j hj=>h j (List.mem_cons_of_mem _ hj))
end TS
end PySem
namespace PySem
namespace TS
section
variable {prog:Program} {w:World} {K:Type} [DecidableEq K] {knd:KeyKind prog w K}
variable {A:Around} {E:Value->Shared->Prop} {s:Shared}
structure En (knd:KeyKind prog w K)(B:Addr->Prop)(h:Heap)(ks:List (List K))(es:Array (Int×Value)):Prop where
 hn:es.size=ks.length
 he:∀(i:Nat) (e:Int×Value),es[i]?=some e->∃k b,k∈ks/\e.1=tupleKeyHash knd k/\e.2=.ref b/\IsTupleKey knd h k b/\B b
 al:∀k∈ks,∃(i:Nat) (e:Int×Value) (b:Addr),es[i]?=some e/\e.1=tupleKeyHash knd k/\e.2=.ref b/\IsTupleKey knd h k b
def Pa (t:SetTable)(es:Array (Int×Value)):Prop:=∀(i:Nat) (e:Int×Value) (p:Nat),es[i]?=some e->t.place[i]?=some p->∃n,p=pth t.mask e.1 n/\∀m,m<n->pth t.mask e.1 m∈t.place.toList
theorem Tb.en {B:Addr->Prop}{h:Heap}{a:Addr}{ks:List (List K)}{o:Obj}{es:Array (Int×Value)}{ep:Nat}{t:SetTable}(I:Tb knd B h a ks o es ep t):En knd B h ks es/\Pa t es:=by
 refine⟨⟨I.hn,fun i e he=>?_,I.al⟩,fun i e p he hp=>?_⟩
 ·have hi:i<t.place.size:=by rw[I.hs];exact (Array.getElem?_eq_some_iff.mp he).1
  obtain⟨k,b,h1,h2,h3,h4,h5,_⟩:=I.he i e _ he (Array.getElem?_eq_getElem hi)
  exact⟨k,b,h1,h2,h3,h4,h5⟩
 ·obtain⟨k,b,_,_,_,_,_,h6⟩:=I.he i e p he hp
  exact h6
theorem Tb.of {B:Addr->Prop}{h:Heap}{a:Addr}{ks:List (List K)}{o:Obj}{es:Array (Int×Value)}{ep:Nat}{t:SetTable}(ho:h.get? a=some o)(hx:o.ExactSet)(hd:o.data=.set es ep t)(hm:(t.mask=7/\es.size<5)\/(t.mask=31/\es.size<10))(hz:t.dummies = #[])(hs:t.place.size=es.size)(up:Up t.place)(nd:ks.Nodup)(en:En knd B h ks es)(pa:Pa t es):Tb knd B h a ks o es ep t:=
 ⟨ho,hx,hd,hm,hz,hs,up,en.hn,nd,fun i e p he hp=>by
  obtain⟨k,b,h1,h2,h3,h4,h5⟩:=en.he i e he
  exact⟨k,b,h1,h2,h3,h4,h5,pa i e p he hp⟩,en.al⟩
theorem En.heap {B:Addr->Prop}{h h':Heap}{ks:List (List K)}{es:Array (Int×Value)}(en:En knd B h ks es)(hk:∀k b,IsTupleKey knd h k b->IsTupleKey knd h' k b):En knd B h' ks es:=
 ⟨en.hn,fun i e he=>let ⟨k,b,h1,h2,h3,h4,h5⟩:=en.he i e he;⟨k,b,h1,h2,h3,hk _ _ h4,h5⟩,fun k hk'=>let ⟨i,e,b,h1,h2,h3,h4⟩:=en.al k hk';⟨i,e,b,h1,h2,h3,hk _ _ h4⟩⟩
theorem En.ins {B:Addr->Prop}{h:Heap}{ks:List (List K)}{es:Array (Int×Value)}(en:En knd B h ks es){p:Nat}(hp:p<=es.size){k:List K}{b:Addr}(hk:IsTupleKey knd h k b)(hb:B b):En knd B h (ks++[k]) (SetTable.insertAt es p (tupleKeyHash knd k,.ref b)):=by
 refine⟨by rw[insertAt_size,en.hn,List.length_append];rfl,fun i e he=>?_,fun k' hk'=>?_⟩
 ·rw[insertAt_get _ _ hp]at he
  have old:∀i,es[i]?=some e->∃k' b',k'∈ks++[k]/\e.1=tupleKeyHash knd k'/\e.2=.ref b'/\IsTupleKey knd h k' b'/\B b':=fun i he=>by
   obtain⟨k',b',h1,h2⟩:=en.he i e he
   exact⟨k',b',List.mem_append_left _ h1,h2⟩
  split at he
  ·exact old _ he
  ·split at he
   ·cases he
    exact⟨k,b,by simp,rfl,rfl,hk,hb⟩
   ·exact old _ he
 ·rcases List.mem_append.mp hk' with hk' | hk'
  ·obtain⟨i,e,b',h1,h2⟩:=en.al k' hk'
   by_cases hi:i<p
   ·exact⟨i,e,b',by rw[insertAt_get _ _ hp,if_pos hi];exact h1,h2⟩
   ·exact⟨i+1,e,b',by rw[insertAt_get _ _ hp,if_neg (by omega),if_neg (by omega),Nat.add_sub_cancel];exact h1,h2⟩
  ·rw[List.mem_singleton.mp hk']
   exact⟨p,_,b,by rw[insertAt_get _ _ hp,if_neg (by omega),if_pos rfl],rfl,rfl,hk⟩
theorem Pa.ins {t:SetTable}{es:Array (Int×Value)}(pa:Pa t es)(hs:t.place.size=es.size)(up:Up t.place){h:Int}{x:Value}{N:Nat}(hf:Fst t h N){t':SetTable}(hm:t'.mask=t.mask)(hpl:t'.place=SetTable.insertAt t.place (SetTable.below t.place (pth t.mask h N)) (pth t.mask h N)):Pa t' (SetTable.insertAt es (SetTable.below t.place (pth t.mask h N)) (h,x)):=by
 have hp:=(below_of up (pth t.mask h N)).1
 have hin:∀j,j∈t.place.toList->j∈t'.place.toList:=fun j hj=>by rw[hpl];exact ins_mem.mpr (.inl hj)
 intro i e p he hpi
 rw[hpl]at hpi
 rw[insertAt_get _ _ (by rw[<-hs];exact hp)]at he
 rw[insertAt_get _ _ hp]at hpi
 have old:∀i,es[i]?=some e->t.place[i]?=some p->∃n,p=pth t'.mask e.1 n/\∀m,m<n->pth t'.mask e.1 m∈t'.place.toList:=fun i a b=>by
  obtain⟨n,h1,h2⟩:=pa i e p a b
  rw[hm]
  exact⟨n,h1,fun m hm'=>hin _ (h2 m hm')⟩
 by_cases h1:i<SetTable.below t.place (pth t.mask h N)
 ·rw[if_pos h1]at he hpi;exact old i he hpi
 ·rw[if_neg h1]at he hpi
  by_cases h2:i=SetTable.below t.place (pth t.mask h N)
  ·rw[if_pos h2]at he hpi
   cases he;cases hpi
   rw[hm]
   exact⟨N,rfl,fun m hm'=>hin _ (hf.2 m hm')⟩
  ·rw[if_neg h2]at he hpi;exact old _ he hpi
theorem addB {B:Addr->Prop}{a b:Addr}{ks:List (List K)}{k:List K}{o:Obj}{es:Array (Int×Value)}{ep:Nat}{t:SetTable}{Q:Bool->Shared->Prop}(hu:A.units<cLine)(hB:B b)(I:Tb knd B s.heap a ks o es ep t)(h8:es.size<8)(hk:IsTupleKey knd s.heap k b)
  (h1:k∈ks->Q false s)
  (h0:k∉ks->∀h',Heap.SameBut a s.heap h'->(∃o' es' ep' t',Tb knd B h' a (ks++[k]) o' es' ep' t')->Q true {s with heap:=h' }):
  wpAny (model prog w) A (setAddHashed a (.ref b) (tupleKeyHash knd k)) Q E s:=by
 have hks:=I.hn
 obtain⟨N,hN,ha⟩:=fst_ex I.mk2 (by have:=I.room;omega) (tupleKeyHash knd k)
 unfold setAddHashed setAddHashedIn
 refine wpAny_holding (wpAny_bind (wpAny_setState_of I.ho I.hd I.fit ?_))
 dsimp only
 rw[if_neg (by unfold byScan Value.scannable;simp)]
 have htu:SetTable.turns t.mask<=1000:=by unfold SetTable.turns;rcases I.hm with ⟨h,_⟩|⟨h,_⟩<;>omega
 refine wpAny_bind (srch hu I hk hN ha (fun hnk=>?_) (fun hik=>wpAny_pure (h1 hik)) N 0 100000 none (by omega) (by omega) (by omega) (by rw[Option.getD_none];exact prb_start t _) (fun hik=>I.to ha hik))
 have h0:=h0 hnk
 dsimp only
 refine wpAny_bind (wpAny_setState_of I.ho I.hd I.fit ?_)
 dsimp only
 obtain⟨p,hp⟩:∃p,p=SetTable.below t.place (pth t.mask (tupleKeyHash knd k) N):=⟨_,rfl⟩
 have hpl:p<=es.size:=by rw[hp,<-I.hs];exact below_le _ _
 have hput:t.put (pth t.mask (tupleKeyHash knd k) N)=({t with place:=SetTable.insertAt t.place p (pth t.mask (tupleKeyHash knd k) N),dummies := #[]},p):=by
  unfold SetTable.put
  dsimp only
  rw[<-hp,I.hz]
  rfl
 rw[hput]
 dsimp only
 obtain⟨en,pa⟩:=I.en
 have hz1:(SetTable.insertAt es p (tupleKeyHash knd k,Value.ref b)).size=ks.length+1:=by rw[insertAt_size,I.hn]
 have nd':(ks++[k]).Nodup:=by
  rw[List.nodup_append]
  exact⟨I.nd,by simp,fun x hx y hy z=>by rw[List.mem_singleton.mp hy]at z;rw[z]at hx;exact hnk hx⟩
 have go:∀pl:Bool,wpAny (model prog w) A (do
   storeSet a (SetTable.insertAt es p (tupleKeyHash knd k,Value.ref b)) ({t with place:=SetTable.insertAt t.place p (pth t.mask (tupleKeyHash knd k) N),dummies := #[],plain:=pl})
   if !false&&({t with place:=SetTable.insertAt t.place p (pth t.mask (tupleKeyHash knd k) N),dummies := #[],plain:=pl}:SetTable).tooFull then setRelay a (SetTable.grown (es.size+1))
   return true) Q E s:=fun pl=>by
  obtain⟨t1,ht1⟩:∃t1:SetTable,t1={t with place:=SetTable.insertAt t.place p (pth t.mask (tupleKeyHash knd k) N),dummies := #[],plain:=pl}:=⟨_,rfl⟩
  obtain⟨es1,hes1⟩:∃es1,es1=SetTable.insertAt es p (tupleKeyHash knd k,Value.ref b):=⟨_,rfl⟩
  rw[<-ht1,<-hes1]
  rw[<-hes1]at hz1
  have m1:t1.mask=t.mask:=by rw[ht1]
  have d1:t1.dummies = #[]:=by rw[ht1]
  have p1:t1.place=SetTable.insertAt t.place p (pth t.mask (tupleKeyHash knd k) N):=by rw[ht1]
  have ps1:t1.place.size=es1.size:=by rw[p1,hes1,insertAt_size,insertAt_size,I.hs]
  have up1:Up t1.place:=by rw[p1,hp];exact I.up.ins ha.1
  have en1:En knd B s.heap (ks++[k]) es1:=by rw[hes1];exact en.ins hpl hk hB
  have pa1:Pa t1 es1:=by rw[hes1,hp];exact pa.ins I.hs I.up ha m1 (by rw[p1,hp])
  clear ht1 hes1 p1
  refine wpAny_bind (wpAny_storeSet_of I.ho I.hd ?_ (by rw[hz1];have:=sizeLine_eq;omega))
  have hg:=stored (es':=es1) (t':=t1) I.ho I.hd
  have hsb:=Heap.SameBut.update s.heap a (Obj.putSet es1 t1)
  have hkk:∀k' b',IsTupleKey knd s.heap k' b'->IsTupleKey knd (s.heap.update a (Obj.putSet es1 t1)) k' b':=fun k' b' h=>key_keeps h I.ho I.hd hsb
  have hfill:t1.fill=ks.length+1:=by unfold SetTable.fill;rw[d1,ps1,hz1];rfl
  have hfit:t1.fits es1.size=true:=by
   unfold SetTable.fits
   rw[hfill,ps1,m1]
   have:=I.room
   rw[I.hs]at this
   simp
   omega
  by_cases hf:t1.tooFull=true
  ·rw[if_pos (by rw[hf];rfl)]
   have h7:t.mask=7/\es.size+1=5:=by
    have hf:=of_decide_eq_true hf
    rw[hfill,m1]at hf
    rcases I.hm with ⟨h,h5⟩|⟨h,h5⟩
    ·rw[h]at hf;exact⟨h,by omega⟩
    ·rw[h]at hf;omega
   refine wpAny_bind ?_
   unfold setRelay
   refine wpAny_bind (wpAny_setState_of hg rfl hfit ?_)
   dsimp only
   have hgr:SetTable.grown (es.size+1)=20:=by rw[h7.2];rfl
   rw[hgr,if_neg (by rw[size20];have:=sizeLine_eq;omega)]
   obtain⟨t',order,e1,e2,e3,e4,eu,e5,e6,e7⟩:=relaid2 (t:=t1) (hs:=es1.map (·.1)) (n:=20) (by rw[Array.size_map,hz1];omega) size20
   rw[Array.size_map]at e2 e5 e7
   have e8:∀i∈order.toList,i<es1.size:=fun i hi=>by
    obtain⟨j,hj⟩:=List.mem_iff_getElem?.mp hi
    rw[Array.getElem?_toList]at hj
    have hjp:j<t'.place.size:=by rw[e2,<-e5];exact (Array.getElem?_eq_some_iff.mp hj).1
    obtain⟨g,n,h1,_⟩:=e6 j i _ hj (Array.getElem?_eq_getElem hjp)
    have:=(Array.getElem?_eq_some_iff.mp h1).1
    rw[Array.size_map]at this
    exact this
   have hfm:=filterMap_size (es:=es1) e8
   refine wpAny_bind ?_
   rw[e1]
   show wpAny _ _ (if ((order.filterMap (es1[·]?)).size != _)=true then _ else _) _ _ _
   rw[if_neg (by rw[hfm,e5];simp)]
   refine wpAny_pure ?_
   dsimp only
   refine wpAny_storeSet_of (s:={s with heap:=_}) hg rfl ?_ (by rw[hfm,e5,hz1];have:=sizeLine_eq;omega)
   have hg2:=stored (s:={s with heap:=s.heap.update a (Obj.putSet es1 t1)}) (es':=order.filterMap (es1[·]?)) (t':=t') hg rfl
   have hsb2:=Heap.SameBut.update (s.heap.update a (Obj.putSet es1 t1)) a (Obj.putSet (order.filterMap (es1[·]?)) t')
   refine wpAny_pure (h0 _ (hsb.trans hsb2) ⟨_,_,_,_,Tb.of hg2 I.hx rfl (.inr ⟨e4,by rw[hfm,e5,hz1];omega⟩) e3 (by rw[e2,hfm,e5]) eu nd' ?_ ?_⟩)
   ·have en2:=en1.heap (fun k' b' h=>key_keeps (hkk k' b' h) hg rfl hsb2)
    refine⟨by rw[hfm,e5,en2.hn],fun i e he=>?_,fun k' hk'=>?_⟩
    ·rw[fm_get e8]at he
     obtain⟨j,_,hj⟩:=Option.bind_eq_some_iff.mp he
     exact en2.he j e hj
    ·obtain⟨j,e,b',h1,h2⟩:=en2.al k' hk'
     obtain⟨i,hi⟩:=e7 j (Array.getElem?_eq_some_iff.mp h1).1
     exact⟨i,e,b',by rw[fm_get e8,hi];exact h1,h2⟩
   ·intro i e q he hq
    rw[fm_get e8]at he
    obtain⟨j,hj,hje⟩:=Option.bind_eq_some_iff.mp he
    obtain⟨g,n,a1,a2,a3⟩:=e6 i j q hj hq
    rw[Array.getElem?_map,hje]at a1
    cases a1
    rw[e4]
    exact⟨n,a2,a3⟩
  ·rw[if_neg (by simpa using hf)]
   have hsz:es1.size=es.size+1:=by rw[hz1,I.hn]
   refine wpAny_pure (h0 _ hsb ⟨_,_,_,_,Tb.of hg I.hx rfl ?_ d1 ps1 up1 nd' (en1.heap hkk) pa1⟩)
   rw[m1,hsz]
   rcases I.hm with ⟨h,h5⟩|⟨h,h5⟩
   ·refine .inl ⟨h,?_⟩
    refine Decidable.byContradiction fun hge=>hf (decide_eq_true ?_)
    rw[hfill,m1,h]
    omega
   ·exact .inr ⟨h,by omega⟩
 cases hpn:t.plain with
 |true=>
  simp only[if_true]
  refine wpAny_bind (byValue_of hk fun r=>?_)
  cases r with
  |true=>exact go true
  |false=>exact go false
 |false=>
  simp only[Bool.false_eq_true,if_false]
  refine wpAny_bind (wpAny_pure ?_)
  exact go false
end
end TS
end PySem
namespace PySem
namespace TS
section
variable {prog:Program} {w:World} {K:Type} [DecidableEq K] {knd:KeyKind prog w K}
def HasB (knd:KeyKind prog w K)(keys:List (List K))(bs:List Addr)(S:Addr)(i:Nat)(h:Heap):Prop:=
 ∃ks o es ep t,Tb knd (· ∈ bs) h S ks o es ep t/\(∀x,x∈ks↔x∈keys.take i)/\ks.length<=i
theorem HasB.keep {keys:List (List K)}{bs:List Addr}{S:Addr}{i:Nat}{h h':Heap}(x:HasB knd keys bs S i h)(e:∀b∈bs,∀o,h.get? b=some o->h'.get? b=some o)(eS:∀o,h.get? S=some o->h'.get? S=some o):HasB knd keys bs S i h':=by
 obtain⟨ks,o,es,ep,t,I,h1,h2⟩:=x
 refine⟨ks,o,es,ep,t,⟨eS _ I.ho,I.hx,I.hd,I.hm,I.hz,I.hs,I.up,I.hn,I.nd,fun i en p he hp=>?_,fun k hk=>?_⟩,h1,h2⟩
 ·obtain⟨k,b,q1,q2,q3,q4,q5,q6⟩:=I.he i en p he hp
  exact⟨k,b,q1,q2,q3,keyAt q4 (e b q5),q5,q6⟩
 ·obtain⟨i,en,b,q1,q2,q3,q4⟩:=I.al k hk
  have hi:i<t.place.size:=by rw[I.hs];exact (Array.getElem?_eq_some_iff.mp q1).1
  obtain⟨_,b',_,_,r3,_,r5,_⟩:=I.he i en _ q1 (Array.getElem?_eq_getElem hi)
  rw[q3]at r3
  cases r3
  exact⟨i,en,b,q1,q2,q3,keyAt q4 (e b r5)⟩
theorem HasB.cnt {keys:List (List K)}{bs:List Addr}{S:Addr}{i:Nat}{h:Heap}(x:HasB knd keys bs S i h):∃ks:List (List K),ks.Nodup/\(∀x,x∈ks↔x∈keys.take i)/\Cnt h S ks.length:=by
 obtain⟨ks,o,es,ep,t,I,h1,h2⟩:=x
 exact⟨ks,I.nd,h1,o,es,ep,t,I.ho,I.hx,I.hd,I.fit,I.hn⟩
theorem hasB0 {keys:List (List K)}{bs:List Addr}{S:Addr}{h:Heap}{led:Bool}(hg:h.get? S=some {cls:=.type "set",dict:=none,data:=.set #[] 0 (.fresh 0 0 led)}):HasB knd keys bs S 0 h:=
 ⟨[],_,_,_,_,⟨hg,⟨rfl,rfl,rfl⟩,rfl,.inl ⟨rfl,by show 0<5;omega⟩,rfl,rfl,fun i j hi=>absurd hi (Nat.not_lt_zero _),rfl,List.Pairwise.nil,fun i e p he=>by simp at he,fun k hk=>by cases hk⟩,fun x=>by simp,Nat.le_refl _⟩
variable {A:Around} {R:Result->Shared->Prop} {I:Addr} {fp wr:List Addr} {G:Array GenState->Array GenState->Prop} {n:Nat} {P:Nat->Value->Prop} {St:Nat->Shared->Prop}
theorem loopB (W:WalksS prog w A.in1 I fp wr G n P St)(S:Addr)(hSf:S∉fp)(hu:A.in1.units<cLine){keys:List (List K)}{bs:List Addr}(hP:∀i v,P i v->∃b,bs[i]?=some b/\v=.ref b)(hn:keys.length=n)(h7:n<=7)(hw:∀b∈bs,b∉wr/\b≠S)
  (s:Shared) (st:St 0 s) (hK:Ks knd keys bs s.heap) (hH:HasB knd keys bs S 0 s.heap) (hR:∀s' (ks:List (List K)),Moved (S::wr) G s s'->ks.Nodup->(∀x,x∈ks↔x∈keys)->Cnt s'.heap S ks.length->R (.ok (.ret .none)) s'):
  codeAny (model prog w) A (.builtin "set.update.loop" ⟨[.ref S,.ref I],[]⟩) R s:=by
 refine set_loop W S hSf (fun i h=>Ks knd keys bs h/\HasB knd keys bs S i h) (fun x e=>⟨x.1.keep fun b m u g=>e b u (hw b m).1 g,x.2.keep (fun b m u g=>e b u (hw b m).1 g) fun u g=>e S u (fun m=>hSf (W.sub _ m)) g⟩) (fun {i v t Q E} lt p x k=>?_) 0 s (Nat.zero_le _) st ⟨hK,hH⟩ fun t' m x=>?_
 ·obtain⟨b,hb,rfl⟩:=hP i v p
  have lk:i<keys.length:=hn ▸ lt
  have key:=x.1.2 i keys[i] b (List.getElem?_eq_getElem lk) hb
  obtain⟨ks,o,es,ep,tb,J,j1,j2⟩:=x.2
  have et:keys.take (i+1)=keys.take i++[keys[i]]:=(List.take_append_getElem lk).symm
  unfold setAdd
  refine wpAny_holding (wpAny_bind (wpAny_pyHash_tuple hu key (addB (s:={t with toks:=t.toks+(keys[i].length+1)}) hu (List.mem_of_getElem? hb) J (by rw[J.hn];omega) key (fun old=>?_) fun new h' same hI=>?_)))
  ·refine k _ t.heap _ ⟨x.1,ks,o,es,ep,tb,J,fun y=>?_,by omega⟩ (Heap.SameBut.refl S t.heap)
   rw[et,List.mem_append,List.mem_singleton,j1]
   exact⟨.inl,fun z=>z.elim id fun z=>z ▸ (j1 _).mp old⟩
  ·obtain⟨o',es',ep',tb',J'⟩:=hI
   refine k _ h' _ ⟨x.1.keep fun b m u g=>(same.2 b (hw b m).2).trans g,_,o',es',ep',tb',J',fun y=>?_,by rw[List.length_append,List.length_singleton];omega⟩ same
   rw[et,List.mem_append,List.mem_append,j1]
 ·obtain⟨ks,k1,k2,k3⟩:=x.2.cnt
  rw[<-hn,List.take_length]at k2
  exact hR t' ks m k1 k2 k3
end
end TS
end PySem
namespace PySem
section
variable {prog:Program} {w:World} {A:Around} {E:Value->Shared->Prop} {s:Shared}
theorem call_set_tupsB {K:Type}[DecidableEq K]{knd:KeyKind prog w K}{l:Addr}{items:Array Value}{keys:List (List K)}{bs:List Addr}{Q:Value->Shared->Prop}
  (hh:A.handled=none) (hl:s.heap.IsList l items) (hu:A.units+10<cLine) (hK:TS.Ks knd keys bs s.heap) (hi:items=(bs.map Value.ref).toArray) (hb:items.size<=7)
  (h:∀(h':Heap) (tk:Nat),(∃ks:List (List K),ks.Nodup/\(∀x,x∈ks↔x∈keys)/\TS.Cnt h' s.heap.objs.size ks.length) ->
   (∀b o,b<s.heap.objs.size->s.heap.get? b=some o->h'.get? b=some o)->Q (.ref s.heap.objs.size) {s with heap:=h',toks:=tk}):
  wpAny (model prog w) A (call (.type "set") [.ref l]) Q E s:=by
 refine TS.set_open hh hl fun led=>?_
 obtain⟨ol,gl,_⟩:=id hl
 have ll:=Heap.lt_size gl
 have n1:l≠(s.heap.push (TS.set0 led)).objs.size:=by rw[Heap.size_push];exact Nat.ne_of_lt (Nat.lt_succ_of_lt ll)
 have n2:s.heap.objs.size ∉ [(s.heap.push (TS.set0 led)).objs.size,l]:=by rw[Heap.size_push];exact fun m=>(List.mem_cons.mp m).elim (Nat.ne_of_lt (Nat.lt_succ_self _)) fun m=>Nat.ne_of_gt ll (List.mem_singleton.mp m)
 have gS:((s.heap.push (TS.set0 led)).push (TS.it0 l)).get? s.heap.objs.size=some (TS.set0 led):=Heap.get?_push_of_some _ (Heap.get?_push_size _ rfl)
 have up:∀b o,s.heap.get? b=some o->((s.heap.push (TS.set0 led)).push (TS.it0 l)).get? b=some o:=fun b o e=>Heap.get?_push_of_some _ (Heap.get?_push_of_some _ e)
 refine TS.loopB (knd:=knd) ((Walks.list (show A.in1.in1.in1.handled=none from hh) _ l n1 items).toS) s.heap.objs.size n2 (by show A.units+3<cLine;omega) (TS.at_of hi) (by rw[hK.1,hi];simp) hb (fun b m=>(TS.old (hK.lt m)).2)
  _ ⟨⟨_,Heap.get?_push_size _ rfl,rfl,rfl⟩,(hl.push _).push _⟩ (hK.keep fun b _ o e=>up b o e) ?_ fun t ks hm k1 k2 k3=>?_
 ·exact TS.hasB0 gS
 ·obtain⟨h',g',d',tk',os'⟩:=t
  cases (show g'=s.gens from hm.gens)
  cases (show d'=s.drawn from hm.drawn)
  cases (show os'=s.os from hm.os)
  exact h h' tk' ⟨ks,k1,k2,k3⟩ fun b o lt e=>hm.heap b o (TS.old lt).1 (up b o e)
end
end PySem
namespace L2
open PySem PySem.Spec PyProof.Rows
def okIs:Option Key->Value->Bool
 |none,v=>isNon v
 |some k,v=>keyIs k v
theorem ok_cases {k:Option Key}{v:Value}(h:okIs k v=true):(k=none/\v=.none)\/(∃i t,k=some (.inl i)/\v=.int i t) \/ ∃x t,k=some (.inr x)/\v=.str x t:=by
 cases k with
 |none=>exact .inl ⟨rfl,isNon_shape h⟩
 |some k=>
  rcases keyIs_shape (show keyIs k v=true from h) with ⟨i,t,rfl,rfl⟩|⟨x,t,rfl,rfl⟩
  ·exact .inr (.inl ⟨i,t,rfl,rfl⟩)
  ·exact .inr (.inr ⟨x,t,rfl,rfl⟩)
def optKind (prog:Program)(w:World):KeyKind prog w (Option Key) where
 is:=okIs
 hash:=fun k=>match k with|none=>0xFCA86420|some k=>keyH w k
 inj:=fun v a b ha hb=>by
  rcases ok_cases ha with ⟨rfl,rfl⟩|⟨i,t,rfl,rfl⟩|⟨x,t,rfl,rfl⟩<;>rcases ok_cases hb with ⟨rfl,e⟩|⟨j,u,rfl,e⟩|⟨y,u,rfl,e⟩<;>first|rfl|cases e<;>rfl
 byValue:=fun k v h=>by
  rcases ok_cases h with ⟨rfl,rfl⟩|⟨i,t,rfl,rfl⟩|⟨x,t,rfl,rfl⟩<;>rfl
 pyHash:=fun hv h=>by
  rcases ok_cases hv with ⟨rfl,rfl⟩|⟨i,t,rfl,rfl⟩|⟨x,t,rfl,rfl⟩
  ·exact wpAny_pyHash_none h
  ·exact wpAny_pyHash_int h
  ·exact wpAny_pyHash_str h
 eqBool:=fun {A E s a b u v Q} hu hv h=>by
  rcases ok_cases hu with ⟨rfl,rfl⟩|⟨i,t,rfl,rfl⟩|⟨x,t,rfl,rfl⟩<;>rcases ok_cases hv with ⟨rfl,rfl⟩|⟨j,u',rfl,rfl⟩|⟨y,u',rfl,rfl⟩
  ·exact (noneKind prog w).eqBool (a:=()) (b:=()) rfl rfl (by simpa using h)
  ·exact SeqAt.EqAt.none_int j u' _ _ _ _ (by simpa using h)
  ·exact SeqAt.EqAt.none_str y u' _ _ _ _ (by simpa using h)
  ·exact SeqAt.EqAt.int_none i t _ _ _ _ (by simpa using h)
  ·refine (mixKind prog w).eqBool (a:=.inl i) (b:=.inl j) (keyIs_int i t) (keyIs_int j u') ?_
   simpa using h
  ·refine (mixKind prog w).eqBool (a:=.inl i) (b:=.inr y) (keyIs_int i t) (keyIs_str y u') ?_
   simpa using h
  ·exact SeqAt.EqAt.str_none x t _ _ _ _ (by simpa using h)
  ·refine (mixKind prog w).eqBool (a:=.inr x) (b:=.inl j) (keyIs_str x t) (keyIs_int j u') ?_
   simpa using h
  ·refine (mixKind prog w).eqBool (a:=.inr x) (b:=.inr y) (keyIs_str x t) (keyIs_str y u') ?_
   simpa using h
 «strs» := fun k x t v h=>by
  rcases ok_cases h with ⟨rfl,e⟩|⟨i,u,rfl,e⟩|⟨y,u,rfl,e⟩
  ·exact nomatch e
  ·exact nomatch e
  ·injection e with e1 _
   subst e1
   cases v<;>rfl
def oK:Option Key->V
 |none=>.non
 |some k=>kV k
theorem items_some {P:Program}{w:World}:∀{ks:List Key} {vs:List Value},ItemsAre (mixKind P w) ks vs->ItemsAre (optKind P w) (ks.map some) vs
 |_,_,.nil=>.nil
 |_,_,.cons h r=>.cons h (items_some r)
theorem hash_some {P:Program}{w:World}(ks:List Key):tupleKeyHash (optKind P w) (ks.map some)=tupleKeyHash (mixKind P w) ks:=by
 unfold tupleKeyHash
 rw[List.map_map];rfl
theorem items_opt {P:Program}{w:World}{H:Hp}{h:Heap}(ok:HOk P w H h){b:Addr}{ks:List (Option Key)}(hb:H b=some (.tup (ks.map oK))):IsTupleKey (optKind P w) h ks b:=by
 obtain⟨z,its,rv,o,ho,hc,n,hd⟩:=(show ObjOk P w H h b (.tup (ks.map oK)) from ok b _ hb)
 refine⟨o,its.toArray,n,ho,hc,hd,?_⟩
 clear hb ho hc hd z
 rw[List.toList_toArray]
 induction ks generalizing its with
 |nil=>cases rv;exact .nil
 |cons k ks ih=>
  cases rv with
  |cons h1 h2=>
   rename_i u us
   refine .cons ?_ (ih _ h2)
   cases k with
   |none=>cases (show u=Value.none from h1);rfl
   |some k=>exact kV_is (P:=P) (w:=w) h1
theorem dict_opt {P:Program}{w:World}{h:Heap}{a:Addr}{xs:List (List Key×Addr×Value)}(d:h.DictOfH (tupleKind (mixKind P w)) a xs):h.DictOfH (tupleKind (optKind P w)) a (xs.map fun x=>(x.1.map some,x.2)):=by
 obtain⟨o,es,ep,h1,h2,h3,h4,h5,h6⟩:=d
 refine⟨o,es,ep,h1,h2,h3,?_,fun x hx=>?_,?_⟩
 ·rw[h4,List.map_map]
  refine List.map_congr_left fun x _=>?_
  show (⟨_,_,_⟩:DictEntry)=⟨_,_,_⟩
  congr 1
  exact (hash_some x.1).symm
 ·obtain⟨y,hy,rfl⟩:=List.mem_map.mp hx
  obtain⟨o',items,n,a1,a2,a3,a4⟩:=h5 y hy
  exact⟨o',items,n,a1,a2,a3,items_some a4⟩
 ·rw[List.map_map]
  have:((fun x:List (Option Key)×Addr×Value=>x.1) ∘ fun x:List Key×Addr×Value=>(x.1.map some,x.2))=(fun l:List Key=>l.map some) ∘ fun x=>x.1:=rfl
  rw[this,<-List.map_map]
  exact List.Pairwise.map _ (fun x y hne z=>hne ((List.map_inj_right (fun a b e=>Option.some.inj e)).mp z)) h6
def DGetO (H:Hp)(a:Addr)(y:V)(r:Option V):Prop:=DGet H a y r \/ ∃(kvs:List (List Key×V)) (b:Addr) (ks:List (Option Key)),Rd H a (.dT kvs)/\y=.ref b/\H b=some (.tup (ks.map oK))/\none∈ks/\r=none
def tDGetO (td ty:TE):TE:=fun σ H Q=>td σ H fun x H1=>∃a,x=.ref a/\IsD H1 a/\ty σ H1 fun y H2=>∃o,DGetO H2 a y o/\Q (o.getD .non) H2
theorem r_dgetO {td ty:TE}{σ:St}{H:Hp}{Q:VK}:tDGetO td ty σ H Q=td σ H fun x H1=>∃a,x=.ref a/\IsD H1 a/\ty σ H1 fun y H2=>∃o,DGetO H2 a y o/\Q (o.getD .non) H2:=rfl
theorem d_getO {X:Cx}{pins:List (Addr×Obj)}{σ:St}{H:Hp}{s:Shared}{A:Around}{E:Value->Shared->Prop}{a:Addr}{y:V}{u:Value}{o:Option V}{Q:Value->Shared->Prop}(hu:A.units+1<cLine)(I:Inv X pins σ H s)(g:DGetO H a y o)(ry:RelV y u)(h:∀w' s',Inv X pins σ H s'->RelV (o.getD .non) w'->Q w' s'):
  wpAny (model X.prog X.w) A (call (.builtin "dict.get") [.ref a,u]) Q E s:=by
 rcases g with g|⟨kvs,b,ks,e,ey,eb,hn,l⟩
 ·exact d_get1 hu I g ry h
 ·subst ey
  cases (show u=Value.ref b from ry)
  obtain⟨z,hd,xs,rel,dd⟩:=dt_rd I.hok e
  refine call_meetsIn PySem.F.slot_dict_get dd.typeIs PySem.F.entry_dict_get (PySem.F.args_dict_get_2 _ _) (meetsH_dict_get (tupleKind (optKind X.prog X.w)) a b hd) ⟨show _<cLine from (by have:A.in1.units=A.units+1:=rfl;omega),ks,_,items_opt I.hok eb,dict_opt dd,h _ _ (I.tok _) ?_⟩
  rw[l]
  have:atKey (xs.map fun x=>(x.1.map some,x.2)) ks=none:=by
   unfold atKey
   rw[List.find?_eq_none.mpr fun x hx z=>?_];rfl
   obtain⟨y,_,rfl⟩:=List.mem_map.mp hx
   have:=of_decide_eq_true z
   rw[<-this]at hn
   obtain⟨_,_,e⟩:=List.mem_map.mp hn
   cases e
  rw[this]
  rfl
theorem pe_dgetO {X:Cx}{o e:Expr}{td ty:TE}{apos cpos:Pos}(hu:X.A.units+1<cLine)(ho:PE X o td)(he:PE X e ty)(m:M1 X o "get" apos e cpos):PE X (.Call (.Attribute o "get" apos) [e] [] cpos) (tDGetO td ty):=by
 intro pins s σ H Q I h
 refine wpAny_Call_method m.base m.few m.line PySem.F.plainAttrs_dict PySem.F.slot_dict_get PySem.F.type_dict_get (thn (ho pins s σ H _ I h) fun u s1 ⟨x,H1,I1,rx,a,ex,d,q1⟩=>?_)
 subst ex
 obtain rfl:u=Value.ref a:=rx
 obtain⟨t1,t2,_⟩:=isD_at I1 d
 refine⟨t1,t2,?_⟩
 rw[m.trees]
 refine Calls.callWith_builtin rfl (Calls.evalArgs_plain (Calls.spliced_cons (thn (he pins s1 σ H1 _ I1 q1) fun iv s2 ⟨y,H2,I2,ry,ov,g,q2⟩=>Calls.spliced_nil ?_)))
 exact d_getO hu I2 g ry fun w' s3 I3 rw'=>⟨_,H2,I3,rw',q2⟩
section
variable {X:Cx}
theorem call_setB {k:Nat}(hc:X.calm=true)(hr:Room k X.A):CallR X (.type "set") (fun xs H Q=>∃(p:Addr) (ts:List Addr) (keys:List (List Key)),xs=[.ref p]/\SqL X.K H p (ts.map V.ref)/\keys.length=ts.length/\(∀(j:Nat) (q:List Key) (b:Addr),keys[j]?=some q->ts[j]?=some b->H b=some (.tup (q.map kV)))/\keys.length<=7/\∀a (ks:List (List Key)),H a=none->ks.Nodup->(∀x,x∈ks↔x∈keys)->Q (.ref a) (upd H a (setO a ks.length))):=by
 intro pins s σ H xs us Q I r h
 obtain⟨p,ts,keys,rfl,hq,hkl,hK,h5,q⟩:=h
 obtain⟨u,rfl,rx⟩:=vals1 r
 cases rx
 obtain⟨its,r',pl,_⟩:=I.list hq
 have hits:its=ts.map Value.ref:=by
  clear hq hkl hK h5 pl q
  generalize ts=l at r'
  induction l generalizing its with
  |nil=>cases r';rfl
  |cons a l ih=>
   cases r' with
   |cons h1 h2=>
    rename_i u us
    rw[show u=Value.ref a from h1]
    rw[List.map_cons,ih _ h2]
 refine PySem.call_set_tupsB (knd:=mixKind X.prog X.w) (items:=its.toArray) (keys:=keys) (bs:=ts) (I.ok.hd hc) pl.isList (by have:=hr.units;omega) ⟨hkl,fun j q b h1 h2=>key_of I.hok (hK j q b h1 h2)⟩ (by rw[hits]) (by rw[hits];simp;omega) fun h' tk ⟨ks,k1,k2,hC⟩ hk=>?_
 exact⟨.ref _,_,I.laid (t':=tk) (o:=setO s.heap.objs.size ks.length) (fun b o hb=>hk b o (Heap.lt_size hb) hb) (Nat.le_refl _) ⟨hC,(let ⟨o,_,_,_,h1,_⟩:=hC;⟨o,h1⟩),fun h1 h2 ⟨o,es,ep,t,e,r⟩ k=>⟨o,es,ep,t,k o e,r⟩⟩,rfl,q _ ks (I.hok.fresh (Nat.le_refl _)) k1 k2⟩
end
end L2
namespace Mine
open PySem L2 GW GB
local macro_rules | `(tactic| walk_at "rd") => `(tactic| (try dsimp only[↓r_varD,vD_some,↓r_ID,↓r_I0D,iD_int,↓r_BD,bD_bl,↓r_EqF,↓r_NeF,eD_int,eD_str,eD_non,eD_bl,↓r_ixTD,↓r_ixLD,aD_ref,nD_int,↓r_lenD,lD1_one,↓r_seq,↓r_next,↓r_asg,↓r_gname,↓r_var,↓r_c,↓r_op,↓r_un,↓r_I,↓r_I0,↓r_U,↓r_call,↓r_cons,↓r_nil,↓r_ret,↓r_drop,↓r_if,↓r_B,↓r_test,↓r_or,↓r_not,↓r_andV,↓r_notV,↓r_chain,↓r_CB,↓r_lst,↓r_tup,↓r_ixL,↓r_ixT,↓r_sl,↓r_part,↓r_nopart,↓r_slL,↓r_slT,↓r_BM,↓r_append,↓r_gsub,↓r_setL,↓r_Eq,↓r_Ne,↓r_eqD,↓r_iList,↓r_iTup,↓r_iRng1,↓r_true,↓r_comp,↓r_for,↓r_cat,↓r_raise,↓r_callE,↓r_try,↓r_unnx,↓r_unrt,↓r_iEnumT,↓r_neD,↓r_gTup,↓r_gCons,↓r_gNil,↓r_dget,↓r_dput,↓r_dget1,↓r_in,↓r_popAt,↓r_isB,↓r_notB,r_inG,r_indexG,↓r_iItemsT,↓r_dgetO,↓r_inT,↓r_dnewT,↓r_inW,r_inL,↓r_iRng2,↓r_insert,↓r_slT2,r_cxK,L2.start,List.map_cons,List.map_nil,List.length_cons,List.length_nil,List.cons_append,List.nil_append,List.replicate,List.getElem?_cons_zero,List.getElem?_cons_succ,List.set_cons_zero,List.set_cons_succ,scal])<;>(try simp only[↓r_varD,vD_some,↓r_ID,↓r_I0D,iD_int,↓r_BD,bD_bl,↓r_EqF,↓r_NeF,eD_int,eD_str,eD_non,eD_bl,↓r_ixTD,↓r_ixLD,aD_ref,nD_int,↓r_lenD,lD1_one,iD_ex,bD_ex,eD_ex,aD_ex,nD_ex,↓r_seq,↓r_next,↓r_asg,↓r_gname,↓r_var,↓r_c,↓r_op,↓r_un,↓r_I,↓r_I0,↓r_U,↓r_call,↓r_cons,↓r_nil,↓r_ret,↓r_drop,↓r_if,↓r_B,↓r_test,↓r_or,↓r_not,↓r_andV,↓r_notV,↓r_chain,↓r_CB,↓r_lst,↓r_tup,↓r_ixL,↓r_ixT,↓r_sl,↓r_part,↓r_nopart,↓r_slL,↓r_slT,↓r_BM,↓r_append,↓r_gsub,↓r_setL,↓r_Eq,↓r_Ne,↓r_eqD,↓r_iList,↓r_iTup,↓r_iRng1,↓r_true,↓r_comp,↓r_for,↓r_cat,↓r_raise,↓r_callE,↓r_try,↓r_unnx,↓r_unrt,↓r_iEnumT,↓r_neD,↓r_gTup,↓r_gCons,↓r_gNil,↓r_dget,↓r_dput,↓r_dget1,↓r_in,↓r_popAt,↓r_isB,↓r_notB,r_inG,r_indexG,↓r_iItemsT,↓r_dgetO,↓r_inT,↓r_dnewT,↓r_inW,r_inL,↓r_iRng2,↓r_insert,↓r_slT2,r_cxK,L2.start,List.map_cons,List.map_nil,List.length_cons,List.length_nil,List.cons_append,List.nil_append,List.append_nil,List.replicate,List.getElem?_cons_zero,List.getElem?_cons_succ,List.set_cons_zero,List.set_cons_succ,Option.some.injEq,V.int.injEq,V.str.injEq,V.ref.injEq,V.bl.injEq,List.cons.injEq,and_true,true_and,and_assoc,exists_and_left,exists_eq_left',exists_eq_left,exists_eq_right,exists_eq,if_true,if_false,Bool.false_eq_true,decide_eq_true_eq,scal,Nat.reduceAdd,Nat.reduceSub,reduceCtorEq,Bool.not_true,Bool.not_false]))
local macro_rules | `(tactic| walk_at "sc") => `(tactic| exact⟨rfl,rfl,rfl,by decide +kernel,rfl,by decide +kernel,by decide +kernel⟩)
def top (i:Nat):Stmt:=PySem.Challenge.pw_guessroom_k49_papers_judged.main.body.getD i (.Pass ⟨0,0,0,0⟩)
abbrev s_is_word:Stmt:=top 5
theorem sc_is_word:FnScope ["letters","word"] ["letters","word"] (defScope s_is_word):=by walk_at "sc"
abbrev s_rows_of:Stmt:=top 7
theorem sc_rows_of:FnScope ["letters","access","rows","word","letter"] ["letters","access"] (defScope s_rows_of):=by walk_at "sc"
abbrev s_ways_by_marks:Stmt:=top 8
theorem sc_ways_by_marks:FnScope ["letters","access","marks","rooms","room","word","ways"] ["letters","access","marks"] (defScope s_ways_by_marks):=by walk_at "sc"
abbrev s_has_letters_alone:Stmt:=top 10
theorem sc_has_letters_alone:FnScope ["letters","parts","words"] ["letters","parts"] (defScope s_has_letters_alone):=by walk_at "sc"
abbrev s_marks_heard:Stmt:=top 11
theorem sc_marks_heard:FnScope ["heard","word","ends"] ["heard","word","ends"] (defScope s_marks_heard):=by walk_at "sc"
abbrev s_tells_apart:Stmt:=top 12
theorem sc_tells_apart:FnScope ["paper","heard","rows"] ["paper"] (defScope s_tells_apart):=by walk_at "sc"
abbrev s_at_least:Stmt:=top 13
theorem sc_at_least:FnScope ["paper"] ["paper"] (defScope s_at_least):=by walk_at "sc"
abbrev s_are_access_words:Stmt:=top 14
theorem sc_are_access_words:FnScope ["words"] ["words"] (defScope s_are_access_words):=by walk_at "sc"
abbrev s_ways_heard:Stmt:=top 15
theorem sc_ways_heard:FnScope ["paper","heard","marks","row"] ["paper"] (defScope s_ways_heard):=by walk_at "sc"
abbrev s_judged:Stmt:=top 16
theorem sc_judged:FnScope ["paper","ways","heard"] ["paper"] (defScope s_judged):=by walk_at "sc"
abbrev s__law_cell_at:Stmt:=top 18
theorem sc__law_cell_at:FnScope ["script","k"] ["script","k"] (defScope s__law_cell_at):=by walk_at "sc"
abbrev s__law_whole:Stmt:=top 19
theorem sc__law_whole:FnScope ["found"] ["found"] (defScope s__law_whole):=by walk_at "sc"
abbrev s__law_draw:Stmt:=top 20
theorem sc__law_draw:FnScope ["flow","k","many","cell","mixed"] ["flow","k","many"] (defScope s__law_draw):=by walk_at "sc"
abbrev s__law_hidden:Stmt:=top 21
theorem sc__law_hidden:FnScope ["flow","letters","rooms","marks","ways","k","at","mark"] ["flow","letters","rooms"] (defScope s__law_hidden):=by walk_at "sc"
abbrev s__law_answer:Stmt:=top 22
theorem sc__law_answer:FnScope ["house","word","room","letter"] ["house","word"] (defScope s__law_answer):=by walk_at "sc"
abbrev s__law_row_at:Stmt:=top 23
theorem sc__law_row_at:FnScope ["house","room","ends","row","end","at","letter"] ["house","room","ends"] (defScope s__law_row_at):=by walk_at "sc"
abbrev s__law_one_more:Stmt:=top 24
theorem sc__law_one_more:FnScope ["house","ends","one","two","letter","ahead","behind","k"] ["house","ends"] (defScope s__law_one_more):=by walk_at "sc"
abbrev s__law_ends_of:Stmt:=top 25
theorem sc__law_ends_of:FnScope ["house","ends","turn","end"] ["house"] (defScope s__law_ends_of):=by walk_at "sc"
abbrev s__law_access_of:Stmt:=top 26
theorem sc__law_access_of:FnScope ["house","ends","access","rooms","rows","at","letter","room","row"] ["house","ends"] (defScope s__law_access_of):=by walk_at "sc"
abbrev s__law_note_of:Stmt:=top 27
theorem sc__law_note_of:FnScope ["house","long_word","turns","ends","access","told","word","end","letter","longer","couples","cut"] ["house","long_word","turns"] (defScope s__law_note_of):=by walk_at "sc"
abbrev s__law_spoiled_words:Stmt:=top 28
theorem sc__law_spoiled_words:FnScope ["note","way","cell","letters","access","ends","heard","words","spot"] ["note","way","cell"] (defScope s__law_spoiled_words):=by walk_at "sc"
abbrev s__law_spoiled_pairs:Stmt:=top 29
theorem sc__law_spoiled_pairs:FnScope ["note","way","cell","letters","access","ends","heard","couples","spot","word","mark"] ["note","way","cell"] (defScope s__law_spoiled_pairs):=by walk_at "sc"
abbrev s__law_spoiled_rest:Stmt:=top 30
theorem sc__law_spoiled_rest:FnScope ["note","way","cell","letters","access","ends","heard","spot"] ["note","way","cell"] (defScope s__law_spoiled_rest):=by walk_at "sc"
abbrev s__law_marks:Stmt:=top 31
theorem sc__law_marks:FnScope ["note","told","word","mark"] ["note"] (defScope s__law_marks):=by walk_at "sc"
abbrev s__law_row:Stmt:=top 32
theorem sc__law_row:FnScope ["note","word","told"] ["note","word"] (defScope s__law_row):=by walk_at "sc"
abbrev s__law_apart:Stmt:=top 33
theorem sc__law_apart:FnScope ["note","letters","access","ends","heard","word","number","rows","k","mark","other"] ["note"] (defScope s__law_apart):=by walk_at "sc"
abbrev s__law_house:Stmt:=top 34
theorem sc__law_house:FnScope ["note","letters","access","ends","heard","k","rows","ways","word","way","letter","row"] ["note"] (defScope s__law_house):=by walk_at "sc"
abbrev s__law_same:Stmt:=top 35
theorem sc__law_same:FnScope ["found","due","row","number"] ["found","due"] (defScope s__law_same):=by walk_at "sc"
abbrev s__law_asked:Stmt:=top 36
theorem sc__law_asked:FnScope ["note","which","caught","found","e"] ["note","which"] (defScope s__law_asked):=by walk_at "sc"
abbrev s_law:Stmt:=top 37
theorem sc_law:FnScope ["script","letters","cut","house","cell","note","way","told","due"] ["script"] (defScope s_law):=by walk_at "sc"
def c_is_word_0:Caps:=[("letter",none),("letters",some 0)]
theorem nd_c_is_word_0:(Caps.names c_is_word_0).Nodup:=by decide +kernel
def c_ways_by_marks_3:Caps:=[("letter",none),("rooms",some 3),("marks",some 2),("word",some 5)]
theorem nd_c_ways_by_marks_3:(Caps.names c_ways_by_marks_3).Nodup:=by decide +kernel
def c_has_letters_alone_0:Caps:=[("pair",none)]
theorem nd_c_has_letters_alone_0:(Caps.names c_has_letters_alone_0).Nodup:=by decide +kernel
def c_has_letters_alone_1:Caps:=[("word",none),("letters",some 0)]
theorem nd_c_has_letters_alone_1:(Caps.names c_has_letters_alone_1).Nodup:=by decide +kernel
def c_marks_heard_3:Caps:=[("end",none),("heard",some 0),("word",some 1)]
theorem nd_c_marks_heard_3:(Caps.names c_marks_heard_3).Nodup:=by decide +kernel
def c_tells_apart_0:Caps:=[("word",none),("heard",some 1),("paper",some 0)]
theorem nd_c_tells_apart_0:(Caps.names c_tells_apart_0).Nodup:=by decide +kernel
def c_tells_apart_1:Caps:=[("row",none)]
theorem nd_c_tells_apart_1:(Caps.names c_tells_apart_1).Nodup:=by decide +kernel
def c_are_access_words_0:Caps:=[("place",none),("words",some 0)]
theorem nd_c_are_access_words_0:(Caps.names c_are_access_words_0).Nodup:=by decide +kernel
def c_judged_0:Caps:=[("goals",none)]
theorem nd_c_judged_0:(Caps.names c_judged_0).Nodup:=by decide +kernel
def c_judged_4:Caps:=[("word",none),("heard",some 2)]
theorem nd_c_judged_4:(Caps.names c_judged_4).Nodup:=by decide +kernel
def c__law_hidden_3:Caps:=[("letter",none),("flow",some 0),("rooms",some 2),("at",some 6)]
theorem nd_c__law_hidden_3:(Caps.names c__law_hidden_3).Nodup:=by decide +kernel
def c__law_note_of_0:Caps:=[("word",none),("mark",none)]
theorem nd_c__law_note_of_0:(Caps.names c__law_note_of_0).Nodup:=by decide +kernel
def c__law_row_0:Caps:=[("end",none),("told",some 2),("word",some 1)]
theorem nd_c__law_row_0:(Caps.names c__law_row_0).Nodup:=by decide +kernel
def c__law_apart_0:Caps:=[("pair",none)]
theorem nd_c__law_apart_0:(Caps.names c__law_apart_0).Nodup:=by decide +kernel
def c__law_apart_1:Caps:=[("word",none),("note",some 0)]
theorem nd_c__law_apart_1:(Caps.names c__law_apart_1).Nodup:=by decide +kernel
def c__law_house_0:Caps:=[("word",none),("note",some 0)]
theorem nd_c__law_house_0:(Caps.names c__law_house_0).Nodup:=by decide +kernel
def c__law_house_4:Caps:=[("row",none)]
theorem nd_c__law_house_4:(Caps.names c__law_house_4).Nodup:=by decide +kernel
def c_law_3:Caps:=[("number",none),("letters",some 1)]
theorem nd_c_law_3:(Caps.names c_law_3).Nodup:=by decide +kernel
structure Txt (mg:Str->Option Value):Prop where
 all:mg "all"=none
 any:mg "any"=none
 bool:mg "bool"=none
 dict:mg "dict"=none
 enumerate:mg "enumerate"=none
 int:mg "int"=none
 isinstance:mg "isinstance"=none
 len:mg "len"=none
 list:mg "list"=none
 max:mg "max"=none
 min:mg "min"=none
 range:mg "range"=none
 set:mg "set"=none
 tuple:mg "tuple"=none
structure Exs (K:PySem.W.Frag)(mg:Str->Option Value)(C_AskError C_NoPaper C_NoText:Addr):Prop where
 m_AskError:mg "AskError"=some (.ref C_AskError)
 m_NoPaper:mg "NoPaper"=some (.ref C_NoPaper)
 m_NoText:mg "NoText"=some (.ref C_NoText)
 x_NoPaper:PySem.W.excIn K C_NoPaper bmV "ValueError.__new__"=true
 c_NoPaper:ExcCls K C_NoPaper
 e_NoPaper:PySem.W.exmOne K (.ref C_NoPaper) (.ref C_AskError)=some true
 v_NoPaper:PySem.W.kitOne K (.ref C_NoPaper) (.type "ValueError")=some true
 k_NoPaper_AskError:PySem.W.kitOne K (.ref C_NoPaper) (.ref C_AskError)=some true
 k_NoPaper_NoPaper:PySem.W.kitOne K (.ref C_NoPaper) (.ref C_NoPaper)=some true
 k_NoPaper_NoText:PySem.W.kitOne K (.ref C_NoPaper) (.ref C_NoText)=some false
section
variable {P:Program} {w:World} {K:PySem.W.Frag} {mg:Str->Option Value} {base:Heap}
variable {C_AskError C_NoPaper C_NoText:Addr}
def sp_is_word (K:PySem.W.Frag):Sp:=fun vs H Q _=>∃(L:Int) (a:Addr) (ws:List Int),vs=[.int L,.ref a]/\SqT K H a (ws.map V.int)/\ws.length<=1000/\∀H',Same H H'->Q (.bl (isW L ws)) H'
theorem ok_is_word {f:Addr}{fd:FuncData}(F:Fun K "is_word" "is_word" s_is_word f fd)(T:Txt mg)
  (Z:Exs K mg C_AskError C_NoPaper C_NoText)
  : FnOk P w K mg base CX0 1 f fd ["letters","word"] (sp_is_word K):=by
 refine F.ok sc_is_word (fun vs H Q E h=>?_) (fun cdv A outer s H vs Q E hr h=>?_)
 ·obtain⟨L,a,ws,rfl,_⟩:=h;rfl
 ·obtain⟨L,a,ws,rfl,hw,hz,k⟩:=h
  have hl:=line1000
  refine⟨_,(pss_one (ps_ret (pe_callB (call_all rfl) rfl T.all PyProof.Rows.boot_all (pa_cons (pe_comp rfl (blk_mk rfl) (cp:=c_is_word_0) ⟨⟨rfl,rfl⟩,True.intro⟩ (pi_tup (pvD 1)) (fun _ _ _ _=>(pg_name (i:=0) nd_c_is_word_0 rfl (Or.inl rfl))) (fun _ _ _ _=>pf_nil) (fun _ _ _ _=>(pe_chain op_le op_lt pe_int (pvD 0) (pvD 1)))) pa_nil)))),?_⟩
  walk_at "rd"
  refine⟨⟨_,hw⟩,compMapT (σ':=[some (.int L)]) (fun x=>match x with | .int n=>.bl (inW L n)|_=>.non) rfl hw (by rw[List.length_map];omega) (fun x hx R hR=>?_) (fun D hD=>?_)⟩
  ·obtain⟨n,_,rfl⟩:=mem_mapI hx
   walk_at "rd"
   by_cases h0:0<=n
   ·simp only[h0,if_true]
    simpa [inW,h0] using hR
   ·simp only[h0,if_false]
    simpa [inW,h0] using hR
  ·refine⟨D,rfl,ws.map (inW L),.inl (.inl ?_),?_⟩
   ·rw[upd_same,List.map_map,List.map_map];rfl
   ·have:=k _ (Same.new hD (o:=.lst ((ws.map V.int).map fun x=>match x with | .int n=>.bl (inW L n)|_=>.non)))
    simpa [isW,List.all_map] using this
def mkO (es:List (List Int×Int))(w:List Int):Option Int:=(es.find? fun e=>decide (e.1=w)).map (·.2)
def oV:Option Int->V
 |some m=>.int m
 |none=>.non
theorem mkO_some:∀{es:List (List Int×Int)} {w:List Int} {m:Int},(es.map (·.1)).Nodup->(w,m)∈es->mkO es w=some m
 |[],_,_,_,h=>by cases h
 |e::es,w,m,nd,h=>by
  rw[List.map_cons,List.nodup_cons]at nd
  unfold mkO
  rw[List.find?_cons]
  rcases List.mem_cons.mp h with h|h
  ·subst h
   simp
  ·have hne:e.1≠w:=fun z=>nd.1 (by rw[z];exact List.mem_map_of_mem (f:=(·.1)) h)
   rw[decide_eq_false hne]
   exact mkO_some nd.2 h
theorem mkO_none {es:List (List Int×Int)}{w:List Int}(h:w∉es.map (·.1)):mkO es w=none:=by
 unfold mkO
 rw[List.find?_eq_none.mpr fun e he z=>h (by have:=of_decide_eq_true z;rw[<-this];exact List.mem_map_of_mem (f:=(·.1)) he)]
 rfl
def MarksD (H:Hp)(f:List Int->List V)(ks:List (List Int))(kvs:List (List Key×V)):Prop:=kvs.length=ks.length/\∀(i:Nat) (w:List Int),ks[i]?=some w->∃t,kvs[i]?=some (wkey w,.ref t)/\H t=some (.tup (f w))
theorem MarksD.nil {H:Hp}{f:List Int->List V}:MarksD H f [] []:=⟨rfl,fun i w h=>by simp at h⟩
theorem MarksD.mono {H H':Hp}{f:List Int->List V}{ks:List (List Int)}{kvs:List (List Key×V)}(h:MarksD H f ks kvs)(s:∀t ys,H t=some (.tup ys)->H' t=some (.tup ys)):MarksD H' f ks kvs:=⟨h.1,fun i w hi=>by
 obtain⟨t,a,b⟩:=h.2 i w hi
 exact⟨t,a,s _ _ b⟩⟩
theorem MarksD.snoc {H:Hp}{f:List Int->List V}{ks:List (List Int)}{kvs:List (List Key×V)}{w:List Int}{t:Addr}(h:MarksD H f ks kvs)(ht:H t=some (.tup (f w))):MarksD H f (ks++[w]) (kvs++[(wkey w,.ref t)]):=by
 refine⟨by simp[h.1],fun i r hi=>?_⟩
 by_cases hl:i<ks.length
 ·rw[List.getElem?_append_left hl]at hi
  rw[List.getElem?_append_left (by rw[h.1];exact hl)]
  exact h.2 i r hi
 ·have:=(List.getElem?_eq_some_iff.mp hi).1
  rw[List.length_append,List.length_singleton]at this
  have e:i=ks.length:=by omega
  subst e
  rw[List.getElem?_append_right (Nat.le_refl _),Nat.sub_self]at hi
  simp at hi
  subst hi
  exact⟨t,by rw[<-h.1];simp,ht⟩
theorem MarksD.keys {H:Hp}{f:List Int->List V}{ks:List (List Int)}{kvs:List (List Key×V)}(h:MarksD H f ks kvs):KeysW ks kvs:=by
 refine List.ext_getElem? fun i=>?_
 rw[List.getElem?_map,List.getElem?_map]
 cases e:ks[i]? with
 |none=>
  have:kvs[i]?=none:=List.getElem?_eq_none (by rw[h.1];exact List.getElem?_eq_none_iff.mp e)
  rw[this];rfl
 |some w=>
  obtain⟨t,a,_⟩:=h.2 i w e
  rw[a];rfl
theorem ins_nodup {s:List (List Int)}{w:List Int}(h:s.Nodup):(ins s w).Nodup:=by
 unfold ins
 split
 ·exact h
 ·rename_i hw
  rw[List.nodup_append]
  refine⟨h,by simp,fun a ha b hb z=>?_⟩
  rw[List.mem_singleton.mp hb]at z
  exact hw (z ▸ ha)
theorem insAll_nodup:∀{l s:List (List Int)},s.Nodup->(l.foldl ins s).Nodup
 |[],_,h=>h
 |w::l,s,h=>by rw[List.foldl_cons];exact insAll_nodup (ins_nodup h)
theorem rowsW_nodup (n:Nat)(acc:List (List Int)):(rowsW n acc).Nodup:=insAll_nodup (insAll_nodup List.nodup_nil)
theorem ext_len (n:Nat):∀(acc:List (List Int)),(acc.flatMap (extW n)).length<=acc.length*n
 |[]=>by simp
 |w::acc=>by
  rw[List.flatMap_cons,List.length_append,List.length_cons,Nat.succ_mul]
  have h1:=ext_len n acc
  have h2:(extW n w).length=n:=by unfold extW;simp
  omega
theorem rowsW_len (n:Nat)(acc:List (List Int)):(rowsW n acc).length<=acc.length+acc.length*n:=by
 unfold rowsW
 have h1:=insAll_len (acc.flatMap (extW n)) (acc.foldl ins [])
 have h2:=insAll_len acc []
 have h3:=ext_len n acc
 simp at h2
 omega
theorem ins_wlen {s:List (List Int)}{w:List Int}{m:Nat}(h:∀v∈s,v.length<=m)(hw:w.length<=m):∀v∈ins s w,v.length<=m:=fun v hv=>by
 unfold ins at hv
 split at hv
 ·exact h v hv
 ·rcases List.mem_append.mp hv with hv|hv
  ·exact h v hv
  ·rw[List.mem_singleton.mp hv];exact hw
theorem insAll_wlen {m:Nat}:∀{l s:List (List Int)},(∀v∈s,v.length<=m)->(∀v∈l,v.length<=m)->∀v∈l.foldl ins s,v.length<=m
 |[],_,h,_=>h
 |w::l,s,h,hl=>by rw[List.foldl_cons];exact insAll_wlen (ins_wlen h (hl w (by simp))) (fun v hv=>hl v (by simp[hv]))
theorem rowsW_wlen {n m:Nat}{acc:List (List Int)}(h:∀w∈acc,w.length<=m):∀w∈rowsW n acc,w.length<=m+1:=by
 unfold rowsW
 refine insAll_wlen (insAll_wlen (by simp) fun v hv=>by have:=h v hv;omega) fun v hv=>?_
 obtain⟨u,hu,hv⟩:=List.mem_flatMap.mp hv
 unfold extW at hv
 obtain⟨x,_,rfl⟩:=List.mem_map.mp hv
 have:=h u hu
 rw[List.length_append,List.length_singleton]
 omega
theorem MarksD.get {H:Hp}{f:List Int->List V}{ks:List (List Int)}{kvs:List (List Key×V)}(h:MarksD H f ks kvs){w:List Int}(hw:w∈ks):∃t,valV kvs (wkey w)=some (.ref t)/\H t=some (.tup (f w)):=by
 have hs:=h.keys.some_iff w
 rw[decide_eq_true hw]at hs
 unfold valV at hs ⊢
 cases e:kvs.find? (fun kv=>decide (kv.1=wkey w)) with
 |none=>rw[e]at hs;cases hs
 |some kv=>
  have h1:kv.1=wkey w:=by have:=List.find?_some e;simpa using this
  obtain⟨i,hi,ei⟩:=List.getElem_of_mem (List.mem_of_find?_eq_some e)
  have hi':i<ks.length:=by rw[<-h.1];exact hi
  obtain⟨t,a,b⟩:=h.2 i ks[i] (by simp[hi'])
  rw[List.getElem?_eq_getElem hi,ei]at a
  have ea:=Option.some.inj a
  rw[ea]at h1
  have:ks[i]=w:=wkey_inj h1
  rw[this]at b
  exact⟨t,by rw[ea];rfl,b⟩
theorem mem_insW {s:List (List Int)}{w v:List Int}:v∈ins s w↔v∈s\/v=w:=by
 unfold ins
 split
 ·rename_i h
  exact⟨.inl,fun z=>z.elim id fun e=>e ▸ h⟩
 ·simp
theorem mem_insAllW:∀{l s:List (List Int)} {v:List Int},v∈l.foldl ins s↔v∈s\/v∈l
 |[],s,v=>by simp
 |w::l,s,v=>by
  rw[List.foldl_cons,mem_insAllW,mem_insW,List.mem_cons,or_assoc]
theorem acc_in_rows {n:Nat}{acc:List (List Int)}{w:List Int}(h:w∈acc):w∈rowsW n acc:=by
 unfold rowsW
 exact mem_insAllW.mpr (.inl (mem_insAllW.mpr (.inr h)))
def sp_rowsofT (K:PySem.W.Frag):Sp:=fun vs H Q _=>∃(L:Nat) (a:Addr) (xs:List V) (acc:List (List Int)),vs=[.int L,.ref a]/\L<=6/\SqT K H a xs/\WordsT K H xs acc/\acc.length<=100/\(∀w∈acc,w.length<=100)/\∀l rs H',Same H H'->H l=none->H' l=some (.lst rs)->WordsT K H' rs (rowsW L acc)->Q (.ref l) H'
theorem ok_rows_of {f:Addr}{fd:FuncData}(F:Fun K "rows_of" "rows_of" s_rows_of f fd)(T:Txt mg)
  (Z:Exs K mg C_AskError C_NoPaper C_NoText)
  : FnOk P w K mg base CX0 1 f fd ["letters","access"] (sp_rowsofT K):=by
 refine F.ok sc_rows_of (fun vs H Q E h=>?_) (fun cdv A outer s H vs Q E hr h=>?_)
 ·obtain⟨L,a,xs,acc,rfl,_⟩:=h;rfl
 ·obtain⟨L,a,xs,acc,rfl,hL,ha,hw,hal,hwl,k⟩:=h
  have hl:=line1000
  refine⟨_,(pss_cons (ps_set (i:=2) sc_rows_of.nd rfl (Or.inl rfl) pe_dnewT)
   (pss_cons (ps_for PassesOwn.never rfl (pi_tup (pvD 1)) (pg_name (i:=3) sc_rows_of.nd rfl (Or.inl rfl))
   (pss_one (ps_dput (hu_of hr) (pvD 2) (pvD 3) pe_bl rfl)))
   (pss_cons (ps_for PassesOwn.never rfl (pi_tup (pvD 1)) (pg_name (i:=3) sc_rows_of.nd rfl (Or.inl rfl))
   (pss_one (ps_for PassesOwn.never rfl (pi_range1 rfl T.range (pa_cons (pvD 0) pa_nil)) (pg_name (i:=4) sc_rows_of.nd rfl (Or.inl rfl))
   (pss_one (ps_dput (hu_of hr) (pvD 2) (pe_op op_catT2 (pvD 3) (pe_tup (pa_cons (pvD 4) pa_nil))) pe_bl rfl)))))
   (pss_one (ps_ret (pe_callTy (call_list_dictT rfl) rfl T.list PyProof.Rows.boot_list (pa_cons (pvD 2) pa_nil))))))),?_⟩
  walk_at "rd"
  intro p hp
  have sp:=Same.new (o:=.dT []) hp
  refine⟨⟨_,sp.seqT ha⟩,?_⟩
  obtain⟨Pv,hPv⟩:∃Pv:Nat->St->Hp->Prop,∀i σ' H',Pv i σ' H'↔(∃(kvs:List (List Key×V)) (o:Option V),Same H H'/\H' p=some (.dT kvs)/\KeysW ((acc.take i).foldl ins []) kvs/\σ'=[some (.int L),some (.ref a),some (.ref p),o,none]):=⟨_,fun _ _ _=>Iff.rfl⟩
  refine forT (xs:=xs) Pv ((hPv _ _ _).mpr ⟨[],none,sp,upd_same,by rw[List.take_zero];exact KeysW.nil,rfl⟩) (fun i σ' H' _ h'=>by obtain⟨_,_,s',_⟩:=(hPv _ _ _).mp h';exact s'.seqT ha) (fun i x σ' H' hx h'=>?_) (fun σ' H' h'=>?_)
  ·obtain⟨kvs,o,s',hd,hk,rfl⟩:=(hPv _ _ _).mp h'
   obtain⟨t,w,hwi,rfl,ht⟩:=hw.at hx
   have hlen:kvs.length<=100:=by
    have:=insAll_len (acc.take i) []
    rw[hk.len];simp at this ⊢;omega
   walk_at "rd"
   refine⟨_,DPut.t (k:=wkey w) hd (by rw[wkey_kV];exact s' _ _ ht) (by omega),(hPv _ _ _).mpr ⟨_,_,s'.over hp,upd_same,?_,rfl⟩⟩
   rw[List.take_add_one,hwi,Option.toList_some,List.foldl_append]
   exact hk.put w _
  ·obtain⟨kvs,o,s',hd,hk,rfl⟩:=(hPv _ _ _).mp h'
   rw[hw.1,List.take_length]at hk
   walk_at "rd"
   refine⟨⟨_,s'.seqT ha⟩,?_⟩
   obtain⟨Pw,hPw⟩:∃Pv:Nat->St->Hp->Prop,∀i σ' H',Pv i σ' H'↔(∃(kvs:List (List Key×V)) (o o':Option V),Same H H'/\H' p=some (.dT kvs)/\KeysW (((acc.take i).flatMap (extW L)).foldl ins (acc.foldl ins [])) kvs/\σ'=[some (.int L),some (.ref a),some (.ref p),o,o']):=⟨_,fun _ _ _=>Iff.rfl⟩
   refine forT (xs:=xs) Pw ((hPw _ _ _).mpr ⟨kvs,_,_,s',hd,by rw[List.take_zero];exact hk,rfl⟩) (fun i σ' H' _ h'=>by obtain⟨_,_,_,s',_⟩:=(hPw _ _ _).mp h';exact s'.seqT ha) (fun i x σ2 H2 hx h2=>?_) (fun σ2 H2 h2=>?_)
   ·obtain⟨kvs,o,o',s2,hd,hk,rfl⟩:=(hPw _ _ _).mp h2
    obtain⟨t,w,hwi,rfl,ht⟩:=hw.at hx
    have hwlen:=hwl w (List.mem_of_getElem? hwi)
    have ht2:=s2 _ _ ht
    walk_at "rd"
    refine⟨by omega,by omega,?_⟩
    rw[Int.toNat_natCast]
    obtain⟨Py,hPy⟩:∃Pv:Nat->St->Hp->Prop,∀j σ' H',Pv j σ' H'↔(∃(kvs:List (List Key×V)) (o':Option V),Same H H'/\H' p=some (.dT kvs)/\KeysW (((List.range j).map fun x:Nat=>w++[(x:Int)]).foldl ins (((acc.take i).flatMap (extW L)).foldl ins (acc.foldl ins []))) kvs/\σ'=[some (.int L),some (.ref a),some (.ref p),some (.ref t),o']):=⟨_,fun _ _ _=>Iff.rfl⟩
    refine forR Py ((hPy _ _ _).mpr ⟨kvs,_,s2,hd,hk,rfl⟩) (fun j σ3 H3 hj h3=>?_) (fun σ3 H3 h3=>?_)
    ·obtain⟨kvs,o',s3,hd,hk,rfl⟩:=(hPy _ _ _).mp h3
     have ej:(0:Int)+(j:Nat)=(j:Int):=by omega
     rw[ej]
     have ht3:=s3 _ _ ht
     have hlen:kvs.length<=10000:=by
      have h1:=insAll_len ((List.range j).map fun x:Nat=>w++[(x:Int)]) (((acc.take i).flatMap (extW L)).foldl ins (acc.foldl ins []))
      have h2:=insAll_len ((acc.take i).flatMap (extW L)) (acc.foldl ins [])
      have h3:=insAll_len acc []
      have h4:((acc.take i).flatMap (extW L)).length<=600:=by
       rw[List.length_flatMap]
       have:(acc.take i).map (fun a=>(extW L a).length)=(acc.take i).map (fun _=>L):=List.map_congr_left fun a _=>by simp[extW]
       rw[this,List.map_const',List.sum_replicate_nat]
       have:(acc.take i).length<=100:=by rw[List.length_take];omega
       exact Nat.le_trans (Nat.mul_le_mul this hL) (by omega)
      rw[hk.len]
      simp at h1 h3
      omega
     walk_at "rd"
     refine⟨by omega,fun p1 hp1=>?_⟩
     refine rCatT2.ofS (Same.new hp1 _ _ ht3) upd_same (by simp;omega) fun q H4 s4 hq=>?_
     have s34:=(Same.new (o:=.tup [V.int (j:Int)]) hp1).trans s4
     have hq':H4 q=some (.tup ((wkey (w++[(j:Int)])).map kV)):=by rw[wkey_kV,hq];simp
     refine⟨_,DPut.t (k:=wkey (w++[(j:Int)])) (s34 _ _ hd) hq' (by omega),(hPy _ _ _).mpr ⟨_,_,(s3.trans s34).over hp,upd_same,?_,rfl⟩⟩
     rw[List.range_succ,List.map_append,List.foldl_append]
     exact hk.put _ _
    ·obtain⟨kvs,o',s3,hd,hk,rfl⟩:=(hPy _ _ _).mp h3
     refine (hPw _ _ _).mpr ⟨kvs,_,_,s3,hd,?_,rfl⟩
     rw[List.take_add_one,hwi,Option.toList_some,List.flatMap_append,List.foldl_append]
     simpa [extW] using hk
   ·obtain⟨kvs,o,o',s2,hd,hk,rfl⟩:=(hPw _ _ _).mp h2
    rw[hw.1,List.take_length]at hk
    walk_at "rd"
    refine⟨kvs,.inl hd,fun l rs hln hrl hrs=>?_⟩
    exact k l rs _ (s2.newT hln) (Same.none s2 hln) upd_same ((hk.words (K:=K) hrl hrs).mono (TK.new hln))
theorem cutV_take50 (xs:List V)(m:Nat):cutV xs none (some (m:Int))=xs.take m:=by
 unfold cutV
 rw[HT.sIx_nat,HT.sIx_none,List.drop_zero,Nat.sub_zero,List.take_eq_take_iff]
 omega
theorem cutV_init49 (u:List Int):cutV (u.map V.int) none (some (-1))=u.dropLast.map V.int:=by
 unfold cutV
 rw[HT.sIx_none,List.drop_zero,Nat.sub_zero]
 have:HT.sIx (u.map V.int).length (u.map V.int).length (some (-1))=u.length-1:=by
  unfold HT.sIx
  simp
  omega
 rw[this,List.dropLast_eq_take,List.map_take]
theorem ents_oV {es:List (List Int×Int)}(nd:(es.map (·.1)).Nodup)(w:List Int):(valV (ents es) (wkey w)).getD V.non=oV (mkO es w):=by
 by_cases h:w∈es.map (·.1)
 ·obtain⟨e,he,rfl⟩:=List.mem_map.mp h
  rw[ents_get nd (show (e.1,e.2)∈es from he),mkO_some nd (show (e.1,e.2)∈es from he)];rfl
 ·rw[ents_none h,mkO_none h];rfl
theorem mkO_mem50 {es:List (List Int×Int)}{v:List Int}{m:Int}(h:mkO es v=some m):(v,m)∈es:=by
 unfold mkO at h
 cases hf:es.find? fun e=>decide (e.1=v) with
 |none=>rw[hf]at h;cases h
 |some e=>
  rw[hf]at h
  cases h
  have h1:=List.mem_of_find?_eq_some hf
  have h2:e.1=v:=of_decide_eq_true (List.find?_some (p:=fun e:List Int×Int=>decide (e.1=v)) hf)
  rw[<-h2];exact h1
def rowO (es:List (List Int×Int))(ends:List (List Int))(u:List Int):List (Option Int):=ends.map fun e=>mkO es (u++e)
def gI (es:List (List Int×Int))(ends:List (List Int))(u:List Int):List Int:=ends.map fun e=>(mkO es (u++e)).getD 0
def Ful (es:List (List Int×Int))(ends:List (List Int))(u:List Int):Prop:=∀e∈ends,(mkO es (u++e)).isSome=true
theorem ful_row {es:List (List Int×Int)}{ends:List (List Int)}{u:List Int}(h:Ful es ends u):(rowO es ends u).map oV=(gI es ends u).map V.int:=by
 unfold rowO gI
 rw[List.map_map,List.map_map]
 refine List.map_congr_left fun e he=>?_
 obtain⟨m,hm⟩:=Option.isSome_iff_exists.mp (h e he)
 show oV (mkO es (u++e))=V.int ((mkO es (u++e)).getD 0)
 rw[hm];rfl
theorem ful_iff {es:List (List Int×Int)}{ends:List (List Int)}{u:List Int}:Ful es ends u↔none∉rowO es ends u:=by
 unfold rowO
 constructor
 ·intro h z
  obtain⟨e,he,e2⟩:=List.mem_map.mp z
  have:=h e he
  rw[e2]at this;cases this
 ·intro h e he
  cases hm:mkO es (u++e) with
  |some m=>rfl
  |none=>exact absurd (List.mem_map.mpr ⟨e,he,hm⟩) h
instance (es:List (List Int×Int)) (ends:List (List Int)) (u:List Int):Decidable (Ful es ends u):=decidable_of_iff _ ful_iff.symm
theorem inV_oV (l:List (Option Int)):inV .non (l.map oV)=decide (none∈l):=by
 unfold inV
 rw[List.any_map,Bool.eq_iff_iff,List.any_eq_true,decide_eq_true_eq]
 constructor
 ·rintro⟨x,hx,e⟩
  cases x with
  |none=>exact hx
  |some m=>cases e
 ·intro h
  exact⟨none,h,rfl⟩
theorem flat_oV (l:List (Option Int)):(l.map oV).all flatV=true:=by
 rw[List.all_map,List.all_eq_true]
 intro x _
 cases x<;>rfl
def sp_mheard (K:PySem.W.Frag):Sp:=fun vs H Q _=>∃(d t a:Addr) (w:List Int) (es:List (List Int×Int)) (xs:List V) (ends:List (List Int)),vs=[.ref d,.ref t,.ref a]/\H d=some (.dT (ents es))/\(es.map (·.1)).Nodup/\H t=some (.tup (w.map V.int))/\w.length<=100/\SqT K H a xs/\WordsT K H xs ends/\ends.length<=100/\(∀e∈ends,e.length<=500)/\∀l H',Same H H'->H' l=some (.tup ((rowO es ends w).map oV))->Q (.ref l) H'
theorem ok_marks_heard {f:Addr}{fd:FuncData}(F:Fun K "marks_heard" "marks_heard" s_marks_heard f fd)(T:Txt mg)
  (Z:Exs K mg C_AskError C_NoPaper C_NoText)
  : FnOk P w K mg base CX0 1 f fd ["heard","word","ends"] (sp_mheard K):=by
 refine F.ok sc_marks_heard (fun vs H Q E h=>?_) (fun cdv A outer s H vs Q E hr h=>?_)
 ·obtain⟨d,t,a,wd,es,xs,ends,rfl,_⟩:=h;rfl
 ·obtain⟨d,t,a,wd,es,xs,ends,rfl,hd,nd,ht,hwl,ha,hE,hel,hew,k⟩:=h
  have hl:=line1000
  refine⟨_,(pss_one (ps_ret (pe_callTy call_tuple_L rfl T.tuple PyProof.Rows.boot_tuple (pa_cons (pe_comp rfl (blk_mk rfl) (cp:=c_marks_heard_3) ⟨⟨rfl,rfl⟩,⟨⟨rfl,rfl⟩,True.intro⟩⟩ (pi_tup (pvD 2)) (fun _ _ _ _=>(pg_name (i:=0) nd_c_marks_heard_3 rfl (Or.inl rfl))) (fun _ _ _ _=>pf_nil) (fun _ _ _ _=>(pe_dget1 (hu_of hr) (pvD 1) (pe_op (op_catT2K (K:=K) rfl) (pvD 2) (pvD 0)) ⟨by rfl,by rfl,by rfl,by rfl⟩))) pa_nil)))),?_⟩
  walk_at "rd"
  refine⟨⟨_,ha⟩,compT (xs:=xs) (fun i ys σ' H'=>Same H H'/\ys=(ends.take i).map (fun e=>oV (mkO es (wd++e)))/\∃o,σ'=[o,some (.ref d),some (.ref t)]) ⟨Same.refl _,rfl,none,rfl⟩ (by rw[hE.1];omega) (fun i ys σ' H' hi h'=>⟨h'.1.seqT ha,by rw[h'.2.1,List.length_map,List.length_take];omega⟩) (fun i x ys σ' H' hx h'=>?_) (fun ys σ' H' h' D hD=>?_)⟩
  ·obtain⟨s1,rfl,o,rfl⟩:=h'
   obtain⟨te,e,hei,rfl,hte⟩:=hE.at hx
   have hel':=hew e (List.mem_of_getElem? hei)
   have et:ends.take (i+1)=ends.take i++[e]:=by rw[List.take_add_one,hei];rfl
   walk_at "rd"
   refine⟨.inr ⟨_,.inl (s1 _ _ hd)⟩,rCatT2.ofS (s1 _ _ ht) (s1 _ _ hte) (by simp;omega) fun q H2 s2 hq=>?_⟩
   have s12:=s1.trans s2
   refine⟨_,DGet.t (k:=wkey (wd++e)) (s12 _ _ hd) (by rw[wkey_kV,List.map_append];exact hq),s12,?_,_,rfl⟩
   rw[et,List.map_append,List.map_singleton,ents_oV nd]
  ·obtain⟨s1,rfl,o,rfl⟩:=h'
   rw[hE.1,List.take_length]
   refine⟨D,rfl,_,.inl ⟨SqL.of upd_same,fun l hl'=>k l _ ((s1.newT hD).newT hl') ?_⟩⟩
   rw[upd_same]
   unfold rowO
   rw[List.map_map];rfl
def Ppr (K:PySem.W.Frag)(H:Hp)(a:Addr)(L:Int)(xs ys:List V)(acc ends:List (List Int))(es:List (List Int×Int)):Prop:=∃(ta te th:Addr) (o:Obj) (ts:List Addr),SqT K H a [.int L,.ref ta,.ref te,.ref th]/\SqT K H ta xs/\WordsT K H xs acc/\SqT K H te ys/\WordsT K H ys ends/\H th=some (.frz o (.tup (ts.map V.ref)))/\o.dict=none/\PrsAt H ts (ents es)
theorem _root_.L2.PrsAt.mono {H H':Hp}{ts:List Addr}{ps:List (List Key×V)}(h:PrsAt H ts ps)(s:Same H H'):PrsAt H' ts ps:=⟨h.1,fun j p q a b=>by
 obtain⟨c,e1,e2⟩:=h.2 j p q a b
 refine⟨c,?_,s _ _ e2⟩
 rcases e1 with e1|⟨o,e1⟩
 ·exact .inl (s _ _ e1)
 ·exact .inr ⟨o,s _ _ e1⟩⟩
theorem Ppr.mono {K:PySem.W.Frag}{H H':Hp}{a:Addr}{L:Int}{xs ys:List V}{acc ends:List (List Int)}{es:List (List Int×Int)}(h:Ppr K H a L xs ys acc ends es)(s:Same H H'):Ppr K H' a L xs ys acc ends es:=by
 obtain⟨ta,te,th,o,ts,h1,h2,h3,h4,h5,h6,h7,h8⟩:=h
 exact⟨ta,te,th,o,ts,s.seqT h1,s.seqT h2,h3.mono (TK.of s),s.seqT h4,h5.mono (TK.of s),s _ _ h6,h7,h8.mono s⟩
theorem ents_all {es:List (List Int×Int)}(nd:(es.map (·.1)).Nodup):putAll [] (ents es)=ents es:=by
 rw[putAll_nodup _ _ ?_,List.nil_append]
 rw[List.nil_append]
 unfold ents
 rw[List.map_map]
 have:((fun x:List Key×V=>x.1) ∘ fun e:List Int×Int=>(wkey e.1,V.int e.2))=wkey ∘ fun e=>e.1:=rfl
 rw[this,<-List.map_map]
 exact List.Pairwise.map _ (fun a b h z=>h (wkey_inj z)) nd
theorem putAll_len:∀(ps kvs:List (List Key×V)),(putAll kvs ps).length<=kvs.length+ps.length
 |[],kvs=>by simp[putAll]
 |p::ps,kvs=>by
  have h1:=putAll_len ps (putK kvs p.1 p.2)
  have h2:=length_putK kvs p.1 p.2
  show (putAll (putK kvs p.1 p.2) ps).length<=_
  rw[List.length_cons];omega
theorem putAll_less:∀(ps kvs:List (List Key×V)),(kvs.map (·.1)).Nodup->¬ ((kvs++ps).map (·.1)).Nodup->(putAll kvs ps).length<kvs.length+ps.length
 |[],kvs,h1,h2=>absurd (by rw[List.append_nil];exact h1) h2
 |p::ps,kvs,h1,h2=>by
  by_cases hp:p.1∈kvs.map (·.1)
  ·have e1:(putK kvs p.1 p.2).length=kvs.length:=by
    obtain⟨q,hq,e⟩:=List.mem_map.mp hp
    unfold putK
    rw[if_pos (List.any_eq_true.mpr ⟨q,hq,decide_eq_true e⟩),List.length_map]
   have:=putAll_len ps (putK kvs p.1 p.2)
   show (putAll (putK kvs p.1 p.2) ps).length<_
   rw[List.length_cons];omega
  ·have e1:putK kvs p.1 p.2=kvs++[p]:=by
    unfold putK
    rw[if_neg]
    intro hx
    obtain⟨q,hq,e⟩:=List.any_eq_true.mp hx
    exact hp (List.mem_map.mpr ⟨q,hq,of_decide_eq_true e⟩)
   have:=putAll_less ps (kvs++[p]) (by
    rw[List.map_append,List.nodup_append]
    exact⟨h1,by simp,fun a ha b hb z=>by
     simp only[List.map_cons,List.map_nil,List.mem_singleton]at hb
     rw[z,hb]at ha
     exact hp ha⟩) (by rw[List.append_assoc];exact h2)
   show (putAll (putK kvs p.1 p.2) ps).length<_
   rw[e1,List.length_cons]
   rw[List.length_append,List.length_singleton]at this
   omega
theorem ents_nd {es:List (List Int×Int)}:((ents es).map (·.1)).Nodup↔(es.map (·.1)).Nodup:=by
 unfold ents
 rw[List.map_map]
 have:((fun x:List Key×V=>x.1) ∘ fun e:List Int×Int=>(wkey e.1,V.int e.2))=wkey ∘ fun e=>e.1:=rfl
 rw[this,<-List.map_map]
 constructor
 ·intro h
  exact List.Pairwise.imp (fun h z=>h (by rw[z])) (List.pairwise_map.mp h)
 ·intro h
  exact List.Pairwise.map _ (fun a b h z=>h (wkey_inj z)) h
structure B49 (N:Nat)(acc ends:List (List Int))(es:List (List Int×Int)):Prop where
 n1:1<=N
 n6:N<=6
 al:acc.length<=6
 el:ends.length<=12
 hl:es.length<=505
 wa:∀w∈acc,w.length<=60
 we:∀e∈ends,e.length<=60
 wh:∀p∈es,p.1.length<=510
def Lal (N:Nat)(acc ends:List (List Int))(es:List (List Int×Int)):Prop:=∀u∈acc++ends++es.map (·.1),isW N u=true
def Tt (N:Nat)(acc ends:List (List Int))(es:List (List Int×Int)):Prop:=acc ≠ []/\(es.map (·.1)).Nodup/\Lal N acc ends es/\(∀u∈acc,Ful es ends u)/\(acc.map (gI es ends)).Nodup
def sp_hla49 (K:PySem.W.Frag):Sp:=fun vs H Q _=>∃(N:Nat) (a ta te th:Addr) (xs ys:List V) (acc ends:List (List Int)) (es:List (List Int×Int)) (ts:List Addr),vs=[.int N,.ref a]/\SqT K H a [.ref ta,.ref te,.ref th]/\SqT K H ta xs/\WordsT K H xs acc/\SqT K H te ys/\WordsT K H ys ends/\SqT K H th (ts.map V.ref)/\PrsAt H ts (ents es)/\B49 N acc ends es/\(∀H',Same H H'->Lal N acc ends es->Q (.bl true) H')/\(∀H',Same H H'->¬ Lal N acc ends es->Q (.bl false) H')
theorem ok_has_letters_alone {f:Addr}{fd:FuncData}(F:Fun K "has_letters_alone" "has_letters_alone" s_has_letters_alone f fd)(T:Txt mg)
  (Z:Exs K mg C_AskError C_NoPaper C_NoText)
  {f_is_word:Addr} {fd_is_word:FuncData} (q_is_word:Cal P w K mg base CX0 1 "is_word" s_is_word ["letters","word"] (sp_is_word K) f_is_word fd_is_word)
  : FnOk P w K mg base CX0 2 f fd ["letters","parts"] (sp_hla49 K):=by
 refine F.ok sc_has_letters_alone (fun vs H Q E h=>?_) (fun cdv A outer s H vs Q E hr h=>?_)
 ·obtain⟨N,a,ta,te,th,xs,ys,acc,ends,es,ts,rfl,_⟩:=h;rfl
 ·obtain⟨N,a,ta,te,th,xs,ys,acc,ends,es,ts,rfl,q1,ha,hA,hb,hB,hc,hP,B,k1,k0⟩:=h
  have hl:=line1000
  have b1:=B.al
  have b2:=B.el
  have b3:=B.hl
  refine⟨_,(pss_cons (ps_setL (i:=2) sc_has_letters_alone.nd (pe_op op_cat (pe_callTy call_list_of rfl T.list PyProof.Rows.boot_list (pa_cons (pe_op op_catT2 (pe_ixA (ixTD ix_tup) (pvD 1) pe_int) (pe_ixA (ixTD ix_tup) (pvD 1) pe_int)) pa_nil)) (pe_comp rfl (blk_mk rfl) (cp:=c_has_letters_alone_0) True.intro (pi_tup (pe_ixA (ixTD ix_tup) (pvD 1) pe_int)) (fun _ _ _ _=>(pg_name (i:=0) nd_c_has_letters_alone_0 rfl (Or.inl rfl))) (fun _ _ _ _=>pf_nil) (fun _ _ _ _=>(pe_ixA (ixTD (ix_tupK (K:=K) rfl)) (pvD 0) pe_int)))))
   (pss_one (ps_ret (pe_callB (call_all rfl) rfl T.all PyProof.Rows.boot_all (pa_cons (pe_comp rfl (blk_mk rfl) (cp:=c_has_letters_alone_1) ⟨⟨rfl,rfl⟩,True.intro⟩ (pi_list (pvD 2)) (fun _ _ _ _=>(pg_name (i:=0) nd_c_has_letters_alone_1 rfl (Or.inl rfl))) (fun _ _ _ _=>pf_nil) (fun _ _ _ _=>(pe_callQ q_is_word hr.d pass0 (pa_cons (pvD 1) (pa_cons (pvD 0) pa_nil))))) pa_nil))))),?_⟩
  walk_at "rd"
  refine⟨_,q1,_,rfl,_,q1,_,rfl,rCatT2.of ha hb (by rw[hA.1,hB.1];omega) fun p1 H1 s1 h1=>⟨p1,rfl,_,.inr h1,fun l hln=>⟨_,(s1.newT hln).seqT q1,_,rfl,th,rfl,⟨_,(s1.newT hln).seqT hc⟩,?_⟩⟩⟩
  have s2:=s1.newT hln (o:=.lst (xs++ys))
  have hpl:ts.length=es.length:=by rw[hP.1];unfold ents;rw[List.length_map]
  have hat:∀(i:Nat) (x:V),(ts.map V.ref)[i]?=some x->∃(q b:Addr) (p:List Int×Int),x=.ref q/\es[i]?=some p/\Rd H q (.tup [.ref b,.int p.2])/\H b=some (.tup (p.1.map V.int)):=fun i x hx=>by
   rw[List.getElem?_map]at hx
   cases ht:ts[i]? with
   |none=>rw[ht]at hx;cases hx
   |some q=>
    rw[ht]at hx
    have hi:i<es.length:=by rw[<-hpl];exact (List.getElem?_eq_some_iff.mp ht).1
    obtain⟨b,e1,e2⟩:=hP.2 i (wkey es[i].1,.int es[i].2) q (by unfold ents;rw[List.getElem?_map,List.getElem?_eq_getElem hi];rfl) ht
    rw[wkey_kV]at e2
    exact⟨q,b,es[i],(Option.some.inj hx).symm,List.getElem?_eq_getElem hi,e1,e2⟩
  obtain⟨Pc,hPc⟩:∃Pc:Nat->List V->St->Hp->Prop,∀i us σ' H',Pc i us σ' H'↔(H'=upd H1 l (.lst (xs++ys))/\WordsT K H' us ((es.take i).map (·.1))/\∃o,σ'=[o]):=⟨_,fun _ _ _ _=>Iff.rfl⟩
  refine compT (xs:=ts.map V.ref) Pc ((hPc _ _ _ _).mpr ⟨rfl,WordsT.nil,none,rfl⟩) (by rw[List.length_map];omega) (fun i us σ' H' hi h'=>?_) (fun i x us σ' H' hx h'=>?_) (fun us σ' H' h' D hD=>?_)
  ·obtain⟨rfl,hW,_⟩:=(hPc _ _ _ _).mp h'
   exact⟨s2.seqT hc,by rw[hW.1,List.length_map,List.length_take];omega⟩
  ·obtain⟨rfl,hW,o,rfl⟩:=(hPc _ _ _ _).mp h'
   obtain⟨q,b,p,rfl,hp,e1,e2⟩:=hat i x hx
   have et:es.take (i+1)=es.take i++[p]:=by rw[List.take_add_one,hp];rfl
   walk_at "rd"
   refine⟨_,s2.seqT (.inl e1),_,rfl,(hPc _ _ _ _).mpr ⟨rfl,?_,_,rfl⟩⟩
   rw[et,List.map_append]
   exact hW.snoc (s2 _ _ e2)
  ·obtain⟨rfl,hW,o,rfl⟩:=(hPc _ _ _ _).mp h'
   rw[List.length_map,hpl,List.take_length]at hW
   have sD:=Same.new hD (o:=.lst us)
   refine⟨D,rfl,xs++ys,sD _ _ upd_same,us,upd_same,by rw[List.length_append,hA.1,hB.1,hW.1,List.length_map];omega,fun p hp=>⟨⟨_,SqL.of upd_same⟩,?_⟩⟩
   have s3:=s2.trans (sD.newT hp (o:=.lst (xs++ys++us)))
   have s3':=sD.newT hp (o:=.lst (xs++ys++us))
   have hall:WordsT K (upd (upd (upd H1 l (.lst (xs++ys))) D (.lst us)) p (.lst (xs++ys++us))) (xs++ys++us) (acc++ends++es.map (·.1)):=((hA.mono (TK.of s3)).append (hB.mono (TK.of s3))).append (hW.mono (TK.of s3'))
   have hlen':∀u∈acc++ends++es.map (·.1),u.length<=510:=fun u hu=>by
    rcases List.mem_append.mp hu with hu|hu
    ·rcases List.mem_append.mp hu with hu|hu
     ·have:=B.wa u hu;omega
     ·have:=B.we u hu;omega
    ·obtain⟨p,hp,rfl⟩:=List.mem_map.mp hu
     exact B.wh p hp
   have hlen:(xs++ys++us).length<=600:=by rw[hall.1,List.length_append,List.length_append,List.length_map];omega
   unfold Lal at k1 k0
   generalize xs++ys++us=zs' at hall hlen s3 s3' ⊢
   generalize acc++ends++es.map (·.1)=ws' at hall hlen' k1 k0
   generalize hH5:upd (upd (upd H1 l (.lst (xs++ys))) D (.lst us)) p (.lst zs')=H5 at hall s3 s3' ⊢
   have hp5:H5 p=some (.lst zs'):=by rw[<-hH5];exact upd_same
   obtain⟨Pd,hPd⟩:∃Pc:Nat->List V->St->Hp->Prop,∀i us σ' H',Pc i us σ' H'↔(Same H5 H'/\us=((ws'.take i).map (isW (N:Int))).map V.bl/\∃o,σ'=[o,some (.int N)]):=⟨_,fun _ _ _ _=>Iff.rfl⟩
   refine compL (xs:=zs') Pd ((hPd _ _ _ _).mpr ⟨Same.refl _,rfl,none,rfl⟩) (by omega) (fun i us σ' H' hi h'=>?_) (fun i x us σ' H' hx h'=>?_) (fun us σ' H' h' D2 hD2=>?_)
   ·obtain⟨s6,rfl,_⟩:=(hPd _ _ _ _).mp h'
    exact⟨SqL.of (s6 _ _ hp5),by rw[List.length_map,List.length_map,List.length_take];omega⟩
   ·obtain⟨s6,rfl,o,rfl⟩:=(hPd _ _ _ _).mp h'
    obtain⟨t,u,hu,rfl,ht⟩:=hall.at hx
    have u1:=hlen' u (List.mem_of_getElem? hu)
    have et:ws'.take (i+1)=ws'.take i++[u]:=by rw[List.take_add_one,hu];rfl
    walk_at "rd"
    refine⟨N,t,u,rfl,SqT.of (s6 _ _ ht),by omega,fun H' s7=>(hPd _ _ _ _).mpr ⟨s6.trans s7,?_,_,rfl⟩⟩
    rw[et,List.map_append,List.map_append];rfl
   ·obtain⟨s6,rfl,o,rfl⟩:=(hPd _ _ _ _).mp h'
    rw[hall.1,List.take_length]
    refine⟨D2,rfl,_,SqL.of upd_same,?_⟩
    cases hq:((ws'.map (isW (N:Int))).all id) with
    |true=>
     refine k1 _ ((s3.trans s6).newT hD2) fun u hu=>?_
     rw[List.all_map,List.all_eq_true]at hq
     exact hq u hu
    |false=>
     refine k0 _ ((s3.trans s6).newT hD2) fun hx=>?_
     rw[List.all_map]at hq
     have:ws'.all (id ∘ isW (N:Int))=true:=List.all_eq_true.mpr hx
     rw[this]at hq
     cases hq
theorem nodup_len_iff {α:Type}[DecidableEq α]{ks l:List α}(nd:ks.Nodup)(hm:∀x,x∈ks↔x∈l):ks.length=l.length↔l.Nodup:=by
 constructor
 ·intro h
  have key:∀(n:Nat) (ks l:List α),l.length=n->ks.Nodup->(∀x∈ks,x∈l)->ks.length=l.length->l.Nodup:=by
   intro n
   induction n with
   |zero=>intro ks l hl _ _ _;rw[List.length_eq_zero_iff.mp hl];exact List.Pairwise.nil
   |succ n ih=>
    intro ks l hl nd hs he
    cases ks with
    |nil=>rw[List.length_nil]at he;omega
    |cons a r=>
     rw[List.nodup_cons]at nd
     have ha:=hs a List.mem_cons_self
     have hs':∀x∈r,x∈l.erase a:=fun x hx=>(List.mem_erase_of_ne (fun z=>nd.1 (by rw[<-z];exact hx))).mpr (hs x (List.mem_cons_of_mem _ hx))
     have hle:(l.erase a).length=n:=by rw[List.length_erase_of_mem ha];omega
     have h1:=ih r (l.erase a) hle nd.2 hs' (by rw[List.length_cons]at he;omega)
     have h2:a∉l.erase a:=fun z=>by
      have:(a::r).Nodup:=List.nodup_cons.mpr nd
      have:=this.length_le_of_subset (l₂:=l.erase a) (fun x hx=>by
       rcases List.mem_cons.mp hx with rfl|hx
       ·exact z
       ·exact hs' x hx)
      rw[List.length_cons]at this he
      omega
     exact (List.perm_cons_erase ha).nodup_iff.mpr (List.nodup_cons.mpr ⟨h2,h1⟩)
  exact key _ ks l rfl nd (fun x hx=>(hm x).mp hx) h
 ·intro hl
  have h1:=nd.length_le_of_subset (fun x hx=>(hm x).mp hx)
  have h2:=hl.length_le_of_subset (fun x hx=>(hm x).mpr hx)
  omega
def WV (H:Hp)(us:List V)(vss:List (List V)):Prop:=us.length=vss.length/\∀(i:Nat) (vs:List V),vss[i]?=some vs->∃t,us[i]?=some (.ref t)/\H t=some (.tup vs)
theorem WV.nil {H:Hp}:WV H [] []:=⟨rfl,fun i vs h=>by simp at h⟩
theorem WV.mono {H H':Hp}{us:List V}{vss:List (List V)}(h:WV H us vss)(s:∀t ys,H t=some (.tup ys)->H' t=some (.tup ys)):WV H' us vss:=⟨h.1,fun i vs hi=>let ⟨t,a,b⟩:=h.2 i vs hi;⟨t,a,s _ _ b⟩⟩
theorem WV.snoc {H:Hp}{us:List V}{vss:List (List V)}(h:WV H us vss){t:Addr}{vs:List V}(ht:H t=some (.tup vs)):WV H (us++[.ref t]) (vss++[vs]):=by
 refine⟨by rw[List.length_append,List.length_append,h.1];rfl,fun i v hv=>?_⟩
 by_cases hi:i<vss.length
 ·rw[List.getElem?_append_left hi]at hv
  obtain⟨t',a,b⟩:=h.2 i v hv
  exact⟨t',by rw[List.getElem?_append_left (by rw[h.1];exact hi)];exact a,b⟩
 ·rw[List.getElem?_append_right (by omega)]at hv
  have h0:i-vss.length=0:=by
   have:=(List.getElem?_eq_some_iff.mp hv).1
   simpa using this
  rw[h0]at hv
  have hv:vs=v:=by simpa using hv
  subst hv
  exact⟨t,by rw[List.getElem?_append_right (by rw[h.1];omega),h.1,h0];rfl,ht⟩
theorem WV.at {H:Hp}{us:List V}{vss:List (List V)}(h:WV H us vss){i:Nat}{x:V}(hx:us[i]?=some x):∃t vs,vss[i]?=some vs/\x=.ref t/\H t=some (.tup vs):=by
 have hi:i<vss.length:=by rw[<-h.1];exact (List.getElem?_eq_some_iff.mp hx).1
 obtain⟨t,a,b⟩:=h.2 i vss[i] (by simp[hi])
 rw[hx]at a
 exact⟨t,_,by simp[hi],Option.some.inj a,b⟩
theorem WV.words {K:PySem.W.Frag}{H:Hp}{us:List V}{ws:List (List Int)}(h:WV H us (ws.map fun u=>u.map V.int)):WordsT K H us ws:=⟨by rw[h.1,List.length_map],fun i u hu=>h.2 i _ (by rw[List.getElem?_map,hu];rfl)⟩
def sp_tells49 (K:PySem.W.Frag):Sp:=fun vs H Q _=>∃(a:Addr) (N:Nat) (xs ys:List V) (acc ends:List (List Int)) (es:List (List Int×Int)),vs=[.ref a]/\Ppr K H a N xs ys acc ends es/\B49 N acc ends es/\(∀H',Same H H'->Tt N acc ends es->Q (.bl true) H')/\(∀H',Same H H'->¬ Tt N acc ends es->Q (.bl false) H')
theorem ok_tells_apart {f:Addr}{fd:FuncData}(F:Fun K "tells_apart" "tells_apart" s_tells_apart f fd)(T:Txt mg)
  (Z:Exs K mg C_AskError C_NoPaper C_NoText)
  {f_has_letters_alone:Addr} {fd_has_letters_alone:FuncData} (q_has_letters_alone:Cal P w K mg base CX0 2 "has_letters_alone" s_has_letters_alone ["letters","parts"] (sp_hla49 K) f_has_letters_alone fd_has_letters_alone)
  {f_marks_heard:Addr} {fd_marks_heard:FuncData} (q_marks_heard:Cal P w K mg base CX0 1 "marks_heard" s_marks_heard ["heard","word","ends"] (sp_mheard K) f_marks_heard fd_marks_heard)
  : FnOk P w K mg base CX0 3 f fd ["paper"] (sp_tells49 K):=by
 refine F.ok sc_tells_apart (fun vs H Q E h=>?_) (fun cdv A outer s H vs Q E hr h=>?_)
 ·obtain⟨a,N,xs,ys,acc,ends,es,rfl,_⟩:=h;rfl
 ·obtain⟨a,N,xs,ys,acc,ends,es,rfl,P,G,k1,k0⟩:=h
  have hl:=line1000
  refine⟨_,(pss_cons (ps_set (i:=1) sc_tells_apart.nd rfl (Or.inr rfl) (pe_callTy (call_dictPR rfl hr) rfl T.dict PyProof.Rows.boot_dict (pa_cons (pe_ixA (ixTD ix_tup) (pvD 0) pe_int) pa_nil)))
   (pss_cons (ps_if (PW.pt (pw_or (ptT (pt_cmpR (opE op_eq) (pe_callB (lenD call_len_seq) (by rfl) T.len PySem.boot_len (pa_cons (pe_ixA (ixTD ix_tup) (pvD 0) pe_int) pa_nil)) pe_int (nomark _))) (pw_or (ptT (pt_cmpR (opD0 op_lt) (pe_callB call_len_dictT (by rfl) T.len PySem.boot_len (pa_cons (pvD 1) pa_nil)) (pe_callB (lenD call_len_seq) (by rfl) T.len PySem.boot_len (pa_cons (pe_ixA (ixTD ix_tup) (pvD 0) pe_int) pa_nil)) (nomark _))) (pw_or1 (pt_not (ptB (pt_val (pe_callQ q_has_letters_alone hr.d pass0 (pa_cons (pe_ixA (ixTD ix_tup) (pvD 0) pe_int) (pa_cons (pe_slice sl_tup2 (pvD 0) (po_some pe_int) po_none) pa_nil))))))))))
   (pss_one (ps_ret pe_bl))
   pss_nil)
   (pss_cons (ps_setC (i:=2) sc_tells_apart.nd rfl rfl rfl (blk_mk rfl) (cp:=c_tells_apart_0) ⟨⟨rfl,rfl⟩,⟨⟨rfl,rfl⟩,True.intro⟩⟩ (pi_tup (pe_ixA (ixTD ix_tup) (pvD 0) pe_int)) (fun _ _ _ _=>(pg_name (i:=0) nd_c_tells_apart_0 rfl (Or.inl rfl))) (fun _ _ _ _=>pf_nil) (fun _ _ _ _=>(pe_callQ q_marks_heard hr.d pass0 (pa_cons (pvD 1) (pa_cons (pvD 0) (pa_cons (pe_ixA (ixTD (ix_tupK (K:=K) rfl)) (pvD 2) pe_int) pa_nil))))))
   (pss_cons (ps_if (ptB (pt_val (pe_callB (call_any rfl) rfl T.any PyProof.Rows.boot_any (pa_cons (pe_comp rfl (blk_mk rfl) (cp:=c_tells_apart_1) True.intro (pi_list (pvD 2)) (fun _ _ _ _=>(pg_name (i:=0) nd_c_tells_apart_1 rfl (Or.inl rfl))) (fun _ _ _ _=>pf_nil) (fun _ _ _ _=>(pe_cmpR (op_in_seqK (K:=K) rfl) pe_non (pvD 0) rfl))) pa_nil))))
   (pss_one (ps_ret pe_bl))
   pss_nil)
   (pss_one (ps_ret (pe_cmpR (opE op_eq) (pe_callB call_lenSetT (by rfl) T.len PySem.boot_len (pa_cons (pe_callTy (call_setB rfl hr) rfl T.set PyProof.Rows.boot_set (pa_cons (pvD 2) pa_nil)) pa_nil)) (pe_callB (lenD call_len_seq) (by rfl) T.len PySem.boot_len (pa_cons (pvD 2) pa_nil)) (nomark _)))))))),?_⟩
  obtain⟨ta,te,th,o,ts,h1,h2,h3,h4,h5,h6,h7,h8⟩:=id P
  walk_at "rd"
  have hpl:ts.length=es.length:=by rw[h8.1];unfold ents;rw[List.length_map]
  have hel:=G.hl
  have hal:=G.al
  have hen:=G.el
  have hpal:=putAll_len (ents es) []
  have hentl:(ents es).length=es.length:=by unfold ents;rw[List.length_map]
  refine⟨_,h1,_,rfl,th,o,ts,ents es,rfl,h6,h7,h8,by omega,fun p hp=>?_⟩
  have s1:=Same.new hp (o:=.dT (putAll [] (ents es)))
  refine⟨_,s1.seqT h1,_,rfl,ta,rfl,_,.inr (s1.seqT h2),?_⟩
  by_cases hac:acc.length=0
  ·rw[if_pos (by rw[h3.1];omega)]
   exact k0 _ s1 fun z=>z.1 (List.length_eq_zero_iff.mp hac)
  rw[if_neg (by rw[h3.1];omega)]
  refine⟨p,rfl,_,upd_same,_,s1.seqT h1,_,rfl,th,rfl,ts.map V.ref,.inr (s1.seqT (.inl (.inr ⟨o,h6⟩))),?_⟩
  by_cases nd:(es.map (·.1)).Nodup
  rotate_left
  ·have:=putAll_less (ents es) [] List.Pairwise.nil (by rw[List.nil_append];exact fun z=>nd (ents_nd.mp z))
   rw[if_pos (by rw[List.length_map];simp at this;omega)]
   exact k0 _ s1 fun z=>nd z.2.1
  rw[ents_all nd]at s1 ⊢
  rw[if_neg (by rw[List.length_map];omega)]
  refine⟨_,s1.seqT h1,_,rfl,_,s1.seqT h1,fun p1 H1 s2 hp1=>?_⟩
  have s12:=s1.trans s2
  have hd1:H1 p=some (.dT (ents es)):=s2 _ _ upd_same
  refine⟨N,p1,ta,te,th,xs,ys,acc,ends,es,ts,rfl,hp1,s12.seqT h2,h3.mono (TK.of s12),s12.seqT h4,h5.mono (TK.of s12),s12.seqT (.inl (.inr ⟨o,h6⟩)),h8.mono s12,G,fun H2 s3 hL=>⟨true,rfl,?_⟩,fun H2 s3 hL=>⟨false,rfl,?_⟩⟩
  rotate_left
  ·rw[if_pos (by simp)]
   exact k0 _ (s12.trans s3) fun z=>hL z.2.2.1
  rw[if_neg (by simp)]
  have s13:=s12.trans s3
  refine⟨_,s13.seqT h1,_,rfl,ta,rfl,⟨_,s13.seqT h2⟩,?_⟩
  have hd2:H2 p=some (.dT (ents es)):=s3 _ _ hd1
  obtain⟨Pc,hPc⟩:∃Pc:Nat->List V->St->Hp->Prop,∀i us σ' H',Pc i us σ' H'↔(Same H2 H'/\WV H' us ((acc.take i).map fun u=>(rowO es ends u).map oV)/\∃o,σ'=[o,some (.ref p),some (.ref a)]):=⟨_,fun _ _ _ _=>Iff.rfl⟩
  refine compT (xs:=xs) Pc ((hPc _ _ _ _).mpr ⟨Same.refl _,WV.nil,none,rfl⟩) (by rw[h3.1];omega) (fun i us σ' H' hi h'=>?_) (fun i x us σ' H' hx h'=>?_) (fun us σ' H3 h' D hD=>?_)
  ·obtain⟨s4,hW,_⟩:=(hPc _ _ _ _).mp h'
   exact⟨(s13.trans s4).seqT h2,by rw[hW.1,List.length_map,List.length_take];omega⟩
  ·obtain⟨s4,hW,ov,rfl⟩:=(hPc _ _ _ _).mp h'
   have s14:=s13.trans s4
   obtain⟨tw,u,hu,rfl,htw⟩:=h3.at hx
   have hum:=List.mem_of_getElem? hu
   have hul:=G.wa u hum
   have et:acc.take (i+1)=acc.take i++[u]:=by rw[List.take_add_one,hu];rfl
   walk_at "rd"
   refine⟨_,s14.seqT h1,_,rfl,p,tw,te,u,es,ys,ends,rfl,s4 _ _ hd2,nd,s14 _ _ htw,by omega,s14.seqT h4,h5.mono (TK.of s14),by omega,fun e he=>by have:=G.we e he;omega,fun l H5 s5 hl5=>(hPc _ _ _ _).mpr ⟨s4.trans s5,?_,_,rfl⟩⟩
   rw[et,List.map_append]
   exact (hW.mono fun t ys e=>s5 _ _ e).snoc hl5
  ·obtain⟨s4,hW,ov,rfl⟩:=(hPc _ _ _ _).mp h'
   rw[h3.1,List.take_length]at hW
   have sD:=Same.new hD (o:=.lst us)
   have s5:=(s13.trans s4).trans sD
   have hWD:=hW.mono fun t ys e=>sD _ _ e
   have hul:us.length=acc.length:=by rw[hW.1,List.length_map]
   refine⟨D,rfl,⟨_,SqL.of upd_same⟩,?_⟩
   obtain⟨Pd,hPd⟩:∃Pc:Nat->List V->St->Hp->Prop,∀i vs σ' H',Pc i vs σ' H'↔(H'=upd H3 D (.lst us)/\vs=((acc.take i).map fun u=>decide (none∈rowO es ends u)).map V.bl/\∃o,σ'=[o]):=⟨_,fun _ _ _ _=>Iff.rfl⟩
   refine compL (xs:=us) Pd ((hPd _ _ _ _).mpr ⟨rfl,rfl,none,rfl⟩) (by omega) (fun i vs σ' H' hi h'=>?_) (fun i x vs σ' H' hx h'=>?_) (fun vs σ' H' h' D2 hD2=>?_)
   ·obtain⟨rfl,rfl,_⟩:=(hPd _ _ _ _).mp h'
    exact⟨SqL.of upd_same,by rw[List.length_map,List.length_map,List.length_take];omega⟩
   ·obtain⟨rfl,rfl,ov,rfl⟩:=(hPd _ _ _ _).mp h'
    obtain⟨tw,vs,hv,rfl,htw⟩:=hWD.at hx
    rw[List.getElem?_map]at hv
    obtain⟨u,hu,rfl⟩:=Option.map_eq_some_iff.mp hv
    have et:acc.take (i+1)=acc.take i++[u]:=by rw[List.take_add_one,hu];rfl
    walk_at "rd"
    refine⟨_,.inr (SqT.of htw),rfl,flat_oV _,(hPd _ _ _ _).mpr ⟨rfl,?_,_,rfl⟩⟩
    rw[inV_oV,et,List.map_append,List.map_append];rfl
   ·obtain⟨rfl,rfl,ov,rfl⟩:=(hPd _ _ _ _).mp h'
    rw[hul,List.take_length]
    refine⟨D2,rfl,_,SqL.of upd_same,?_⟩
    have s6:=Same.new hD2 (o:=.lst ((acc.map fun u=>decide (none∈rowO es ends u)).map V.bl))
    by_cases hF:∀u∈acc,Ful es ends u
    rotate_left
    ·rw[if_pos (by
      refine Decidable.byContradiction fun hx=>hF fun u hu=>ful_iff.mpr fun z=>hx ?_
      exact List.any_eq_true.mpr ⟨true,List.mem_map.mpr ⟨u,hu,decide_eq_true z⟩,rfl⟩)]
     exact k0 _ (s5.trans s6) fun z=>hF z.2.2.2.1
    rw[if_neg (by
     intro hx
     obtain⟨b,hb,e⟩:=List.any_eq_true.mp hx
     obtain⟨u,hu,rfl⟩:=List.mem_map.mp hb
     exact ful_iff.mp (hF u hu) (of_decide_eq_true e))]
    have hWg:WV (upd H3 D (.lst us)) us ((acc.map (gI es ends)).map fun u=>u.map V.int):=by
     have:(acc.map fun u=>(rowO es ends u).map oV)=(acc.map (gI es ends)).map fun u=>u.map V.int:=by
      rw[List.map_map]
      exact List.map_congr_left fun u hu=>ful_row (hF u hu)
     rw[<-this];exact hWD
    have hW6:=(hWg.mono fun t ys e=>s6 _ _ e).words (K:=K)
    obtain⟨ts',e1,e2,e3⟩:=hW6.rowsN
    have hDu:upd (upd H3 D (.lst us)) D2 (.lst ((acc.map fun u=>decide (none∈rowO es ends u)).map V.bl)) D=some (.lst us):=s6 _ _ upd_same
    refine⟨D,rfl,ts',by rw[<-e1];exact SqL.of hDu,(acc.map (gI es ends)).map wkey,by rw[List.length_map,e2],fun j q b hj hb=>?_,by rw[List.length_map,List.length_map];omega,fun a' ks ha' kn km=>?_⟩
    ·rw[List.getElem?_map]at hj
     cases hg:(acc.map (gI es ends))[j]? with
     |none=>rw[hg]at hj;cases hj
     |some u=>
      rw[hg]at hj
      cases hj
      rw[wkey_kV]
      exact e3 j b u hb hg
    ·have s7:=Same.new ha' (o:=setO a' ks.length)
     have hkl:ks.length<=6:=by
      have:=kn.length_le_of_subset (fun x hx=>(km x).mp hx)
      rw[List.length_map,List.length_map]at this
      omega
     refine⟨_,upd_same,by omega,D,rfl,us,.inl (SqL.of (s7 _ _ hDu)),?_⟩
     have hiff:=nodup_len_iff kn km
     rw[List.length_map,List.length_map]at hiff
     have hnd:((acc.map (gI es ends)).map wkey).Nodup↔(acc.map (gI es ends)).Nodup:=⟨fun h=>List.Pairwise.imp (fun h z=>h (by rw[z])) (List.pairwise_map.mp h),fun h=>List.Pairwise.map _ (fun a b h z=>h (wkey_inj z)) h⟩
     by_cases hN:(acc.map (gI es ends)).Nodup
     ·have:decide (((ks.length:Nat):Int)=(us.length:Int))=true:=decide_eq_true (by have:=hiff.mpr (hnd.mpr hN);omega)
      rw[this]
      exact k1 _ ((s5.trans s6).trans s7) ⟨fun z=>hac (by rw[z];rfl),nd,hL,hF,hN⟩
     ·have:decide (((ks.length:Nat):Int)=(us.length:Int))=false:=decide_eq_false (fun z=>hN (hnd.mp (hiff.mp (by omega))))
      rw[this]
      exact k0 _ ((s5.trans s6).trans s7) fun z=>hN z.2.2.2.2
def sp_least49 (K:PySem.W.Frag)(NP:Addr):Sp:=fun vs H Q E=>∃(a:Addr) (N:Nat) (xs ys:List V) (acc ends:List (List Int)) (es:List (List Int×Int)),vs=[.ref a]/\Ppr K H a N xs ys acc ends es/\B49 N acc ends es/\(∀H',Same H H'->Tt N acc ends es->Q (.int acc.length) H')/\(∀H',Same H H'->¬ Tt N acc ends es->E (.ref NP) none H')
theorem ok_at_least {f:Addr}{fd:FuncData}(F:Fun K "at_least" "at_least" s_at_least f fd)(T:Txt mg)
  (Z:Exs K mg C_AskError C_NoPaper C_NoText)
  {f_tells_apart:Addr} {fd_tells_apart:FuncData} (q_tells_apart:Cal P w K mg base CX0 3 "tells_apart" s_tells_apart ["paper"] (sp_tells49 K) f_tells_apart fd_tells_apart)
  : FnOk P w K mg base (CXe P w) 4 f fd ["paper"] (sp_least49 K C_NoPaper):=by
 refine F.okE sc_at_least (fun vs H Q E h=>?_) (fun cdv A outer s H vs Q E hr h=>?_)
 ·obtain⟨a,N,xs,ys,acc,ends,es,rfl,_⟩:=h;rfl
 ·obtain⟨a,N,xs,ys,acc,ends,es,rfl,P,G,k1,k0⟩:=h
  have hl:=line1000
  refine⟨_,(pss_cons (ps_if (pt_not (ptB (pt_val (pe_callQ q_tells_apart hr.d pass0 (pa_cons (pvD 0) pa_nil)))))
   (pss_one (ps_raise Z.m_NoPaper Z.x_NoPaper rfl rfl (pa_cons pe_str pa_nil)))
   pss_nil)
   (pss_one (ps_ret (pe_callB (lenD call_len_seq) (by rfl) T.len PySem.boot_len (pa_cons (pe_ixA (ixTD ix_tup) (pvD 0) pe_int) pa_nil))))),?_⟩
  walk_at "rd"
  refine⟨a,N,xs,ys,acc,ends,es,rfl,P,G,fun H1 s1 hT=>⟨true,rfl,?_⟩,fun H1 s1 hT=>⟨false,rfl,?_⟩⟩
  ·rw[if_neg (by simp)]
   obtain⟨ta,te,th,o,ts,h1,h2,h3,h4,h5,h6,h7,h8⟩:=id (P.mono s1)
   walk_at "rd"
   refine⟨_,h1,_,rfl,ta,rfl,_,.inr h2,?_⟩
   rw[h3.1]
   exact k1 _ s1 hT
  ·rw[if_pos (by simp)]
   exact⟨by omega,k0 _ s1 hT⟩
def Aw (acc:List (List Int)):Prop:=acc[0]?=some []/\∀(i:Nat) (u:List Int),0<i->acc[i]?=some u->u.dropLast∈acc.take i
def sp_areacc49 (K:PySem.W.Frag):Sp:=fun vs H Q _=>∃(a:Addr) (xs:List V) (acc:List (List Int)),vs=[.ref a]/\SqT K H a xs/\WordsT K H xs acc/\acc.length<=50/\acc ≠ []/\(∀H',Same H H'->Aw acc->Q (.bl true) H')/\(∀H',Same H H'->¬ Aw acc->Q (.bl false) H')
theorem ok_are_access_words {f:Addr}{fd:FuncData}(F:Fun K "are_access_words" "are_access_words" s_are_access_words f fd)(T:Txt mg)
  (Z:Exs K mg C_AskError C_NoPaper C_NoText)
  : FnOk P w K mg base CX0 1 f fd ["words"] (sp_areacc49 K):=by
 refine F.ok sc_are_access_words (fun vs H Q E h=>?_) (fun cdv A outer s H vs Q E hr h=>?_)
 ·obtain⟨a,xs,acc,rfl,_⟩:=h;rfl
 ·obtain⟨a,xs,acc,rfl,h1,h2,hal,hne,k1,k0⟩:=h
  have hl:=line1000
  refine⟨_,(pss_cons (ps_if (ptT (pt_cmpR (op_neD 8 (hu9 hr)) (pe_ixA (ixTD ix_tup) (pvD 0) pe_int) (pe_tup pa_nil) (nomark _)))
   (pss_one (ps_ret pe_bl))
   pss_nil)
   (pss_one (ps_ret (pe_callB (call_all rfl) rfl T.all PyProof.Rows.boot_all (pa_cons (pe_comp rfl (blk_mk rfl) (cp:=c_are_access_words_0) ⟨⟨rfl,rfl⟩,True.intro⟩ (pi_range2 rfl T.range (pa_cons pe_int (pa_cons (pe_callB (lenD call_len_seq) (by rfl) T.len PySem.boot_len (pa_cons (pvD 0) pa_nil)) pa_nil))) (fun _ _ _ _=>(pg_name (i:=0) nd_c_are_access_words_0 rfl (Or.inl rfl))) (fun _ _ _ _=>pf_nil) (fun _ _ _ _=>(pe_cmpR (op_inTK (K:=K) rfl (hu9 hr)) (pe_slice (sl_tup2K (K:=K) rfl) (pe_ixA (ixTD (ix_tupK (K:=K) rfl)) (pvD 1) (pvD 0)) po_none (po_some (pe_un un_neg pe_int))) (pe_slice (sl_tup2K (K:=K) rfl) (pvD 1) po_none (po_some (pvD 0))) rfl))) pa_nil))))),?_⟩
  walk_at "rd"
  have hac:0<acc.length:=List.length_pos_iff.mpr hne
  obtain⟨t0,e1,e2⟩:=h2.2 0 acc[0] (List.getElem?_eq_getElem hac)
  refine⟨_,h1,_,atI_nat (j:=0) e1,by omega,fun p hp=>⟨t0,rfl,_,EqD.ints (xs:=acc[0]) (ys:=[]) (.inr ⟨SqT.of (Same.new hp _ _ e2),SqT.of upd_same⟩) 7,?_⟩⟩
  have s1:=Same.new hp (o:=.tup [])
  by_cases h0:acc[0]=[]
  rotate_left
  ·rw[if_pos (by rw[decide_eq_false h0];rfl)]
   exact k0 _ s1 fun z=>h0 (by have:=z.1;rw[List.getElem?_eq_getElem hac]at this;exact Option.some.inj this)
  rw[if_neg (by rw[decide_eq_true h0];simp)]
  refine⟨_,.inr (s1.seqT h1),by decide,by decide,by omega,by rw[h2.1];omega,?_⟩
  have hn:((xs.length:Int)-1).toNat=acc.length-1:=by rw[h2.1];omega
  rw[hn]
  obtain⟨Pd,hPd⟩:∃Pc:Nat->List V->St->Hp->Prop,∀i vs σ' H',Pc i vs σ' H'↔(Same H H'/\vs=((List.range i).map fun j=>decide (((acc[1+j]?).getD []).dropLast∈acc.take (1+j))).map V.bl/\∃o,σ'=[o,some (.ref a)]):=⟨_,fun _ _ _ _=>Iff.rfl⟩
  refine compR Pd ((hPd _ _ _ _).mpr ⟨s1,rfl,none,rfl⟩) (by omega) (fun i vs σ' H' hi h'=>?_) (fun i vs σ' H' hi h'=>?_) (fun vs σ' H' h' D2 hD2=>?_)
  ·obtain⟨_,rfl,_⟩:=(hPd _ _ _ _).mp h'
   simp
  ·obtain⟨s2,rfl,ov,rfl⟩:=(hPd _ _ _ _).mp h'
   have hi1:1+i<acc.length:=by omega
   obtain⟨tu,f1,f2⟩:=h2.2 (1+i) acc[1+i] (List.getElem?_eq_getElem hi1)
   have ei:(1:Int)+(i:Int)=((1+i:Nat):Int):=by omega
   walk_at "rd"
   rw[ei]
   refine⟨_,s2.seqT h1,_,atI_nat f1,tu,rfl,_,s2.seqT (SqT.of f2),fun q1 H3 s3 hq1=>⟨_,(s2.trans s3).seqT h1,fun q2 H4 s4 hq2=>?_⟩⟩
   rw[cutV_init49]at hq1
   rw[cutV_take50]at hq2
   refine⟨_,hq2,acc[1+i].dropLast,acc.take (1+i),(h2.mono (TK.of ((s2.trans s3).trans s4))).takeN _,s4.seqT hq1,(hPd _ _ _ _).mpr ⟨(s2.trans s3).trans s4,?_,_,rfl⟩⟩
   rw[List.range_succ,List.map_append,List.map_append]
   show _=_++[V.bl (decide (((acc[1+i]?).getD []).dropLast∈acc.take (1+i)))]
   rw[List.getElem?_eq_getElem hi1];rfl
  ·obtain⟨s2,rfl,ov,rfl⟩:=(hPd _ _ _ _).mp h'
   refine⟨D2,rfl,_,SqL.of upd_same,?_⟩
   cases hq:(((List.range (acc.length-1)).map fun j=>decide (((acc[1+j]?).getD []).dropLast∈acc.take (1+j))).all id) with
   |true=>
    rw[List.all_map,List.all_eq_true]at hq
    refine k1 _ (s2.newT hD2) ⟨by rw[List.getElem?_eq_getElem hac,h0],fun i u hi hu=>?_⟩
    have hil:=(List.getElem?_eq_some_iff.mp hu).1
    have:=of_decide_eq_true (hq (i-1) (List.mem_range.mpr (by omega)))
    rw[show 1+(i-1)=i by omega,hu]at this
    exact this
   |false=>
    refine k0 _ (s2.newT hD2) fun z=>?_
    have:((List.range (acc.length-1)).map fun j=>decide (((acc[1+j]?).getD []).dropLast∈acc.take (1+j))).all id=true:=by
     rw[List.all_map,List.all_eq_true]
     intro j hj
     have hj:=List.mem_range.mp hj
     have hjl:1+j<acc.length:=by omega
     refine decide_eq_true ?_
     rw[List.getElem?_eq_getElem hjl]
     exact z.2 (1+j) _ (by omega) (List.getElem?_eq_getElem hjl)
    rw[this]at hq
    cases hq
def eI (g:List Int->List Int)(acc:List (List Int))(i:Nat):List (List Int×Int):=(List.range i).map fun j=>(g (acc.getD j []),(j:Int))
theorem eI_succ (g:List Int->List Int)(acc:List (List Int))(i:Nat):eI g acc (i+1)=eI g acc i++[(g (acc.getD i []),(i:Int))]:=by unfold eI;rw[List.range_succ,List.map_append];rfl
theorem eI_keys (g:List Int->List Int)(acc:List (List Int)){i:Nat}(hi:i<=acc.length):(eI g acc i).map (·.1)=(acc.map g).take i:=by
 refine List.ext_getElem? fun j=>?_
 unfold eI
 rw[List.map_map,List.getElem?_map,List.getElem?_take,List.getElem?_map]
 by_cases hj:j<i
 ·rw[if_pos hj,List.getElem?_range hj]
  have hj':j<acc.length:=by omega
  simp[List.getD_eq_getElem?_getD,hj']
 ·rw[if_neg hj,List.getElem?_eq_none (by simp;omega)];rfl
theorem eI_mem {g:List Int->List Int}{acc:List (List Int)}{x:List Int}(hx:x∈acc.map g):(x,(((acc.map g).idxOf x:Nat):Int))∈eI g acc acc.length:=by
 unfold eI
 have hlt:(acc.map g).idxOf x<(acc.map g).length:=List.idxOf_lt_length_of_mem hx
 rw[List.length_map]at hlt
 refine List.mem_map.mpr ⟨(acc.map g).idxOf x,List.mem_range.mpr hlt,?_⟩
 have h1:(acc.map g)[(acc.map g).idxOf x]'(by rw[List.length_map];exact hlt)=x:=List.getElem_idxOf _
 rw[List.getElem_map]at h1
 rw[List.getD_eq_getElem?_getD,List.getElem?_eq_getElem hlt]
 show (g _,_)=_
 rw[Option.getD_some,h1]
theorem ext_in_rows {n:Nat}{acc:List (List Int)}{w:List Int}{x:Nat}(h:w∈acc)(hx:x<n):w++[(x:Int)]∈rowsW n acc:=by
 unfold rowsW
 refine mem_insAllW.mpr (.inr (List.mem_flatMap.mpr ⟨w,h,?_⟩))
 unfold extW
 exact List.mem_map.mpr ⟨x,List.mem_range.mpr hx,rfl⟩
theorem nodup_take37 {l:List (List Int)}{i:Nat}(hi:i<l.length)(nd:l.Nodup):l[i]∉l.take i:=fun z=>by
 obtain⟨j,hj,ej⟩:=List.getElem_of_mem z
 rw[List.length_take]at hj
 rw[List.getElem_take]at ej
 have:=(List.getElem_inj (h₀:=(show j<l.length by omega)) (h₁:=hi) nd).mp ej
 omega
def ixO (es:List (List Int×Int))(ends acc:List (List Int))(u:List Int):Option Int:=if Ful es ends u/\gI es ends u∈acc.map (gI es ends) then some (((acc.map (gI es ends)).idxOf (gI es ends u):Nat):Int) else none
theorem row_oK (l:List (Option Int)):(l.map fun o=>o.map (Sum.inl:Int->Key)).map oK=l.map oV:=by
 rw[List.map_map]
 refine List.map_congr_left fun o _=>?_
 cases o<;>rfl
def sp_ways49 (K:PySem.W.Frag):Sp:=fun vs H Q _=>∃(N:Nat) (a m:Addr) (xs:List V) (acc:List (List Int)) (kvs:List (List Key×V)) (es:List (List Int×Int)) (ends:List (List Int)),vs=[.int N,.ref a,.ref m]/\N<=6/\SqT K H a xs/\WordsT K H xs acc/\acc.length<=64/\(∀w∈acc,w.length<=64)/\H m=some (.dT kvs)/\MarksD H (fun w=>(rowO es ends w).map oV) (rowsW N acc) kvs/\(∀u∈acc,Ful es ends u)/\(acc.map (gI es ends)).Nodup/\∀t ys H',Same H H'->H' t=some (.tup ys)->WV H' ys (acc.map fun w=>(List.range N).map fun x:Nat=>oV (ixO es ends acc (w++[(x:Int)])))->Q (.ref t) H'
theorem ok_ways_by_marks {f:Addr}{fd:FuncData}(F:Fun K "ways_by_marks" "ways_by_marks" s_ways_by_marks f fd)(T:Txt mg)
  (Z:Exs K mg C_AskError C_NoPaper C_NoText)
  : FnOk P w K mg base CX0 1 f fd ["letters","access","marks"] (sp_ways49 K):=by
 refine F.ok sc_ways_by_marks (fun vs H Q E h=>?_) (fun cdv A outer s H vs Q E hr h=>?_)
 ·obtain⟨N,a,m,xs,acc,kvs,es,ends,rfl,_⟩:=h;rfl
 ·obtain⟨N,a,m,xs,acc,kvs,es,ends,rfl,hN,ha,hA,hal,haw,hm,hM0,hful,hnd,k⟩:=h
  obtain⟨g,hg⟩:∃g,g=gI es ends:=⟨_,rfl⟩
  rw[<-hg]at hnd
  have hM:∀{w:List Int},w∈acc->∃t,valV kvs (wkey w)=some (.ref t)/\H t=some (.tup ((g w).map V.int)):=fun {w} hw=>by
   obtain⟨t,e1,e2⟩:=hM0.get (acc_in_rows (n:=N) hw)
   rw[ful_row (hful w hw)]at e2
   exact⟨t,e1,by rw[hg];exact e2⟩
  have hl:=line1000
  refine⟨_,(pss_cons (ps_set (i:=3) sc_ways_by_marks.nd rfl (Or.inr rfl) pe_dnewT)
   (pss_cons (ps_for PassesOwn.never rfl (pi_enumT rfl T.enumerate (pvD 1)) (pg_tup rfl (pgs_cons (pg_name (i:=4) sc_ways_by_marks.nd rfl (Or.inl rfl)) (pgs_cons (pg_name (i:=5) sc_ways_by_marks.nd rfl (Or.inr rfl)) pgs_nil)))
   (pss_one (ps_dput (hu_of hr) (pvD 3) (pe_dget (hu_of hr) (pvD 2) (pvD 5) (fun _ _=>rfl)) (pvD 4) rfl)))
   (pss_cons (ps_setL (i:=6) sc_ways_by_marks.nd (pe_lst pa_nil))
   (pss_cons (ps_for PassesOwn.never rfl (pi_tup (pvD 1)) (pg_name (i:=5) sc_ways_by_marks.nd rfl (Or.inr rfl))
   (pss_one (ps_expr (pe_bm PySem.F.plainAttrs_list PySem.F.slot_list_append PySem.F.type_list_append mt_append (pvD 6) (pa_cons (pe_callTy call_tuple_L rfl T.tuple PyProof.Rows.boot_tuple (pa_cons (pe_comp rfl (blk_mk rfl) (cp:=c_ways_by_marks_3) ⟨⟨rfl,rfl⟩,⟨⟨rfl,rfl⟩,⟨⟨rfl,rfl⟩,True.intro⟩⟩⟩ (pi_range1 rfl T.range (pa_cons (pvD 0) pa_nil)) (fun _ _ _ _=>(pg_name (i:=0) nd_c_ways_by_marks_3 rfl (Or.inl rfl))) (fun _ _ _ _=>pf_nil) (fun _ _ _ _=>(pe_dgetO (hu_of hr) (pvD 1) (pe_dget (hu_of hr) (pvD 2) (pe_op (op_catT2K (K:=K) rfl) (pvD 3) (pe_tup (pa_cons (pvD 0) pa_nil))) (fun _ _=>rfl)) ⟨by rfl,by rfl,by rfl,by rfl⟩))) pa_nil)) pa_nil)))))
   (pss_one (ps_ret (pe_callTy call_tuple_L rfl T.tuple PyProof.Rows.boot_tuple (pa_cons (pvD 6) pa_nil)))))))),?_⟩
  walk_at "rd"
  intro p hp
  have s0:=Same.new hp (o:=.dT [])
  have hkn:∀i,i<=acc.length->((eI g acc i).map (·.1)).Nodup:=fun i hi=>by rw[eI_keys g acc hi];exact hnd.sublist (List.take_sublist _ _)
  refine⟨_,s0.seqT ha,?_⟩
  obtain⟨Pv,hPv⟩:∃Pv:Nat->St->Hp->Prop,∀i σ' H',Pv i σ' H'↔(∃o1 o2:Option V,Same H H'/\H' p=some (.dT (ents (eI g acc i)))/\σ'=[some (.int N),some (.ref a),some (.ref m),some (.ref p),o1,o2,none]):=⟨_,fun _ _ _=>Iff.rfl⟩
  have hpm:p≠m:=fun z=>by rw[z,hm]at hp;cases hp
  refine forN Pv ((hPv _ _ _).mpr ⟨none,none,s0,upd_same,rfl⟩) (fun i σ' H' _ h'=>by obtain⟨_,_,s',_⟩:=(hPv _ _ _).mp h';exact s'.seqT ha) (fun i v σ' H' t hv h' ht=>?_) (fun σ' H' h'=>?_)
  ·obtain⟨o1,o2,s',hp',rfl⟩:=(hPv _ _ _).mp h'
   obtain⟨tw,w,hwi,rfl,htw⟩:=hA.at hv
   have hwm:=List.mem_of_getElem? hwi
   have hi:=(List.getElem?_eq_some_iff.mp hwi).1
   have sT:=s'.newT ht (o:=.tup [.int i,.ref tw])
   obtain⟨u,hu1,hu2⟩:=hM hwm
   have hgd:acc.getD i []=w:=by rw[List.getD_eq_getElem?_getD,hwi];rfl
   have hno:g w∉(eI g acc i).map (·.1):=by
    rw[eI_keys g acc (by omega)]
    have:=nodup_take37 (l:=acc.map g) (i:=i) (by rw[List.length_map];exact hi) hnd
    rw[List.getElem_map,(List.getElem?_eq_some_iff.mp hwi).2]at this
    exact this
   walk_at "rd"
   have hdg:DGet (upd H' t (.tup [V.int i,V.ref tw])) m (.ref tw) (some (.ref u)):=by rw[<-hu1];exact DGet.t (k:=wkey w) (sT _ _ hm) (by rw[wkey_kV];exact sT _ _ htw)
   have hle:(ents (eI g acc i)).length=i:=by unfold ents eI;rw[List.length_map,List.length_map,List.length_range]
   refine⟨_,SqT.of upd_same,rfl,V.int i,_,rfl,V.ref tw,_,rfl,rfl,V.ref u,hdg,_,DPut.t (k:=wkey (g w)) (Same.new ht _ _ hp') (by rw[wkey_kV];exact sT _ _ hu2) (by omega),(hPv _ _ _).mpr ⟨_,_,sT.over hp,by rw[upd_same,ents_put hno,eI_succ,hgd],rfl⟩⟩
  ·obtain⟨o1,o2,s',hp',rfl⟩:=(hPv _ _ _).mp h'
   rw[hA.1]at hp'
   walk_at "rd"
   refine⟨by omega,fun q hq=>⟨⟨_,(s'.newT hq).seqT ha⟩,?_⟩⟩
   have sq:=s'.newT hq (o:=.lst [])
   have hqH:H q=none:=s'.none hq
   have hpq:p≠q:=fun z=>by rw[z,hq]at hp';cases hp'
   obtain⟨Pw,hPw⟩:∃Pv:Nat->St->Hp->Prop,∀i σ2 H2,Pv i σ2 H2↔(∃(ys:List V) (o:Option V),Same H H2/\H2 p=some (.dT (ents (eI g acc acc.length)))/\H2 q=some (.lst ys)/\WV H2 ys ((acc.take i).map fun w=>(List.range N).map fun x:Nat=>oV (ixO es ends acc (w++[(x:Int)])))/\σ2=[some (.int N),some (.ref a),some (.ref m),some (.ref p),o1,o,some (.ref q)]):=⟨_,fun _ _ _=>Iff.rfl⟩
   refine forT (xs:=xs) Pw ((hPw _ _ _).mpr ⟨[],_,sq,Same.new hq _ _ hp',upd_same,WV.nil,rfl⟩) (fun i σ2 H2 _ h2=>by obtain⟨_,_,s2,_⟩:=(hPw _ _ _).mp h2;exact s2.seqT ha) (fun i x σ2 H2 hx h2=>?_) (fun σ2 H2 h2=>?_)
   ·obtain⟨ys,o,s2,hp2,hq2,hY,rfl⟩:=(hPw _ _ _).mp h2
    obtain⟨tw,w,hwi,rfl,htw⟩:=hA.at hx
    have hwm:=List.mem_of_getElem? hwi
    have hwl:=haw w hwm
    have et:acc.take (i+1)=acc.take i++[w]:=by rw[List.take_add_one,hwi];rfl
    have hyl:ys.length<=64:=by rw[hY.1,List.length_map,List.length_take];omega
    walk_at "rd"
    refine⟨.inl ⟨rfl,_,SqL.of hq2⟩,by omega,by omega,?_⟩
    rw[Int.toNat_natCast]
    obtain⟨Pc,hPc⟩:∃Pc:Nat->List V->St->Hp->Prop,∀j us σ4 H4,Pc j us σ4 H4↔(Same H2 H4/\us=((List.range j).map fun x:Nat=>oV (ixO es ends acc (w++[(x:Int)])))/\∃o,σ4=[o,some (.ref p),some (.ref m),some (.ref tw)]):=⟨_,fun _ _ _ _=>Iff.rfl⟩
    refine compR Pc ((hPc _ _ _ _).mpr ⟨Same.refl _,rfl,none,rfl⟩) (by omega) (fun j us σ4 H4 _ h4=>?_) (fun j us σ4 H4 hj h4=>?_) (fun us σ4 H4 h4 D hD=>?_)
    ·obtain⟨_,rfl,_⟩:=(hPc _ _ _ _).mp h4
     rw[List.length_map,List.length_range];omega
    ·obtain⟨s4,rfl,o4,rfl⟩:=(hPc _ _ _ _).mp h4
     rw[Int.zero_add]
     have s24:=s2.trans s4
     obtain⟨u,hu1,hu2⟩:=hM0.get (ext_in_rows (n:=N) hwm hj)
     walk_at "rd"
     refine⟨.inr ⟨_,.inl (s4 _ _ hp2)⟩,by omega,fun p1 hp1=>rCatT2.ofS (Same.new hp1 _ _ (s24 _ _ htw)) upd_same (by simp;omega) fun q3 H5 s5 hq5=>?_⟩
     have s45:=(Same.new hp1 (o:=.tup [V.int j])).trans s5
     have s25:=s24.trans s45
     have hdg:DGet H5 m (.ref q3) (some (.ref u)):=by rw[<-hu1];exact DGet.t (k:=wkey (w++[(j:Int)])) (s25 _ _ hm) (by rw[wkey_kV,List.map_append];exact hq5)
     have fin:∀o:Option V,o.getD .non=oV (ixO es ends acc (w++[(j:Int)]))->Pc (j+1) (((List.range j).map fun x:Nat=>oV (ixO es ends acc (w++[(x:Int)])))++[o.getD .non]) [some (.int j),some (.ref p),some (.ref m),some (.ref tw)] H5:=fun o ho=>(hPc _ _ _ _).mpr ⟨s4.trans s45,by rw[ho,List.range_succ,List.map_append];rfl,_,rfl⟩
     by_cases hF:Ful es ends (w++[(j:Int)])
     ·have hu3:H u=some (.tup ((g (w++[(j:Int)])).map V.int)):=by rw[hg,<-ful_row hF];exact hu2
      refine⟨_,hdg,_,.inl (DGet.t (k:=wkey (g (w++[(j:Int)]))) ((s4.trans s45) _ _ hp2) (by rw[wkey_kV];exact s25 _ _ hu3)),fin _ ?_⟩
      by_cases hin:g (w++[(j:Int)])∈acc.map g
      ·rw[ents_get (hkn _ (Nat.le_refl _)) (eI_mem hin)]
       unfold ixO
       rw[<-hg,if_pos ⟨hF,hin⟩];rfl
      ·rw[ents_none (by rw[eI_keys g acc (Nat.le_refl _),List.take_of_length_le (by rw[List.length_map];exact Nat.le_refl _)];exact hin)]
       unfold ixO
       rw[<-hg,if_neg (fun z=>hin z.2)];rfl
     ·refine⟨_,hdg,none,.inr ⟨_,u,(rowO es ends (w++[(j:Int)])).map fun o=>o.map (Sum.inl:Int->Key),.inl ((s4.trans s45) _ _ hp2),rfl,by rw[row_oK];exact s25 _ _ hu2,?_,rfl⟩,fin _ ?_⟩
      ·have:none∈rowO es ends (w++[(j:Int)]):=Decidable.byContradiction fun z=>hF (ful_iff.mpr z)
       exact List.mem_map.mpr ⟨none,this,rfl⟩
      ·unfold ixO
       rw[if_neg (fun z=>hF z.1)];rfl
    ·obtain⟨s4,rfl,o4,rfl⟩:=(hPc _ _ _ _).mp h4
     refine⟨D,rfl,_,.inl ⟨SqL.of upd_same,fun t ht=>?_⟩⟩
     have sDt:=(s4.newT hD).newT ht (o:=.tup ((List.range N).map fun x:Nat=>oV (ixO es ends acc (w++[(x:Int)]))))
     have hq5:=sDt _ _ hq2
     refine⟨_,hq5,by omega,(hPw _ _ _).mpr ⟨ys++[.ref t],_,(s2.trans sDt).over hqH,by rw[upd_ne hpq];exact sDt _ _ hp2,upd_same,?_,rfl⟩⟩
     rw[et,List.map_append]
     exact ((hY.mono fun t ys e=>sDt _ _ e).snoc upd_same).mono fun t ys e=>by rw[upd_ne (fun z=>by rw[z,hq5]at e;cases e)];exact e
   ·obtain⟨ys,o,s2,hp2,hq2,hY,rfl⟩:=(hPw _ _ _).mp h2
    rw[hA.1,List.take_length]at hY
    walk_at "rd"
    exact⟨_,.inl ⟨SqL.of hq2,fun t ht=>k t ys _ (s2.newT ht) upd_same (hY.mono fun t ys e=>Same.new ht _ _ e)⟩⟩
def sp_wheard49 (K:PySem.W.Frag):Sp:=fun vs H Q _=>∃(a:Addr) (N:Nat) (xs ys:List V) (acc ends:List (List Int)) (es:List (List Int×Int)),vs=[.ref a]/\Ppr K H a N xs ys acc ends es/\B49 N acc ends es/\Tt N acc ends es/\∀t zs H',Same H H'->H' t=some (.tup zs)->WV H' zs (acc.map fun w=>(List.range N).map fun x:Nat=>oV (ixO es ends acc (w++[(x:Int)])))->Q (.ref t) H'
theorem ok_ways_heard {f:Addr}{fd:FuncData}(F:Fun K "ways_heard" "ways_heard" s_ways_heard f fd)(T:Txt mg)
  (Z:Exs K mg C_AskError C_NoPaper C_NoText)
  {f_rows_of:Addr} {fd_rows_of:FuncData} (q_rows_of:Cal P w K mg base CX0 1 "rows_of" s_rows_of ["letters","access"] (sp_rowsofT K) f_rows_of fd_rows_of)
  {f_ways_by_marks:Addr} {fd_ways_by_marks:FuncData} (q_ways_by_marks:Cal P w K mg base CX0 1 "ways_by_marks" s_ways_by_marks ["letters","access","marks"] (sp_ways49 K) f_ways_by_marks fd_ways_by_marks)
  {f_marks_heard:Addr} {fd_marks_heard:FuncData} (q_marks_heard:Cal P w K mg base CX0 1 "marks_heard" s_marks_heard ["heard","word","ends"] (sp_mheard K) f_marks_heard fd_marks_heard)
  : FnOk P w K mg base CX0 2 f fd ["paper"] (sp_wheard49 K):=by
 refine F.ok sc_ways_heard (fun vs H Q E h=>?_) (fun cdv A outer s H vs Q E hr h=>?_)
 ·obtain⟨a,N,xs,ys,acc,ends,es,rfl,_⟩:=h;rfl
 ·obtain⟨a,N,xs,ys,acc,ends,es,rfl,P,G,hT,k⟩:=h
  have hl:=line1000
  refine⟨_,(pss_cons (ps_setL (i:=1) sc_ways_heard.nd (pe_callTy (call_dictPR rfl hr) rfl T.dict PyProof.Rows.boot_dict (pa_cons (pe_ixA (ixTD ix_tup) (pvD 0) pe_int) pa_nil)))
   (pss_cons (ps_set (i:=2) sc_ways_heard.nd rfl (Or.inl rfl) pe_dnewT)
   (pss_cons (ps_for PassesOwn.never rfl (pi_list (pe_callQ q_rows_of hr.d pass0 (pa_cons (pe_ixA (ixTD ix_tup) (pvD 0) pe_int) (pa_cons (pe_ixA (ixTD ix_tup) (pvD 0) pe_int) pa_nil)))) (pg_name (i:=3) sc_ways_heard.nd rfl (Or.inl rfl))
   (pss_one (ps_dput (hu_of hr) (pvD 2) (pvD 3) (pe_callQ q_marks_heard hr.d pass0 (pa_cons (pvD 1) (pa_cons (pvD 3) (pa_cons (pe_ixA (ixTD ix_tup) (pvD 0) pe_int) pa_nil)))) rfl)))
   (pss_one (ps_ret (pe_callQ q_ways_by_marks hr.d pass0 (pa_cons (pe_ixA (ixTD ix_tup) (pvD 0) pe_int) (pa_cons (pe_ixA (ixTD ix_tup) (pvD 0) pe_int) (pa_cons (pvD 2) pa_nil))))))))),?_⟩
  obtain⟨ta,te,th,o,ts,h1,h2,h3,h4,h5,h6,h7,h8⟩:=id P
  walk_at "rd"
  have hpl:ts.length=es.length:=by rw[h8.1];unfold ents;rw[List.length_map]
  have hel:=G.hl
  have hal:=G.al
  have hen:=G.el
  have hN6:=G.n6
  obtain⟨T0,nd,TL,TF,TN⟩:=hT
  refine⟨_,h1,_,rfl,th,o,ts,ents es,rfl,h6,h7,h8,by unfold ents;rw[List.length_map];omega,fun p hp pm hpm=>?_⟩
  rw[ents_all nd]at hpm ⊢
  have s1:=(Same.new hp (o:=.dT (ents es))).newT hpm (o:=.dT [])
  have hdp:upd (upd H p (.dT (ents es))) pm (.dT []) p=some (.dT (ents es)):=Same.new hpm _ _ upd_same
  refine⟨_,s1.seqT h1,_,rfl,_,s1.seqT h1,_,rfl,N,ta,xs,acc,rfl,hN6,s1.seqT h2,h3.mono (TK.of s1),by omega,fun w hw=>by have:=G.wa w hw;omega,fun l rs H2 s2 hln hl2 hrs=>⟨l,rfl,⟨_,SqL.of hl2⟩,?_⟩⟩
  have s12:=s1.trans s2
  have hpmH:H pm=none:=(none_of_upd hpm).1
  have hpmp:pm≠p:=(none_of_upd hpm).2
  have hlpm:l≠pm:=fun z=>by rw[z,upd_same]at hln;cases hln
  have hm2:H2 pm=some (.dT []):=s2 _ _ upd_same
  obtain⟨Pv,hPv⟩:∃Pv:Nat->St->Hp->Prop,∀i σ' H',Pv i σ' H'↔(∃(kvs:List (List Key×V)) (o1:Option V),Same H H'/\H' pm=some (.dT kvs)/\H' p=some (.dT (ents es))/\H' l=some (.lst rs)/\WordsT K H' rs (rowsW N acc)/\MarksD H' (fun w=>(rowO es ends w).map oV) ((rowsW N acc).take i) kvs/\σ'=[some (.ref a),some (.ref p),some (.ref pm),o1]):=⟨_,fun _ _ _=>Iff.rfl⟩
  have hrl:(rowsW N acc).length<=100:=by
   have:=rowsW_len N acc
   have:acc.length*N<=6*6:=Nat.mul_le_mul hal hN6
   omega
  have hrw:=rowsW_wlen (n:=N) (m:=60) (acc:=acc) fun w hw=>G.wa w hw
  refine forL (xs:=rs) Pv ((hPv _ _ _).mpr ⟨[],none,s12,hm2,s2 _ _ hdp,hl2,hrs,MarksD.nil,rfl⟩) (fun i σ' H' _ h'=>by obtain⟨_,_,_,_,_,h,_⟩:=(hPv _ _ _).mp h';exact SqL.of h) (fun i x σ' H' hx h'=>?_) (fun σ' H' h'=>?_)
  ·obtain⟨kvs,o1,s3,hm3,hd3,hl3,hr3,hM3,rfl⟩:=(hPv _ _ _).mp h'
   obtain⟨tw,u,hu,rfl,htw⟩:=hr3.at hx
   have hum:=List.mem_of_getElem? hu
   have hui:=(List.getElem?_eq_some_iff.mp hu).1
   have et:(rowsW N acc).take (i+1)=(rowsW N acc).take i++[u]:=by rw[List.take_add_one,hu];rfl
   walk_at "rd"
   refine⟨_,s3.seqT h1,_,rfl,p,tw,te,u,es,ys,ends,rfl,hd3,nd,htw,by have:=hrw u hum;omega,s3.seqT h4,h5.mono (TK.of s3),by omega,fun e he=>by have:=G.we e he;omega,fun l4 H4 s4 hl4=>?_⟩
   have hno:u∉(rowsW N acc).take i:=by
    have:=nodup_take37 hui (rowsW_nodup N acc)
    rw[(List.getElem?_eq_some_iff.mp hu).2]at this
    exact this
   have hkl:kvs.length<=100:=by rw[hM3.1,List.length_take];omega
   have hM4:MarksD H4 (fun w=>(rowO es ends w).map oV) ((rowsW N acc).take i) kvs:=hM3.mono fun t ys e=>s4 _ _ e
   have hvn:valV kvs (wkey u)=none:=by
    have:=hM3.keys.some_iff u
    rw[decide_eq_false hno]at this
    cases e:valV kvs (wkey u) with
    |none=>rfl
    |some v=>rw[e]at this;cases this
   have hpk:putK kvs (wkey u) (.ref l4)=kvs++[(wkey u,.ref l4)]:=putK_new _ hvn
   refine⟨_,DPut.t (k:=wkey u) (s4 _ _ hm3) (by rw[wkey_kV];exact s4 _ _ htw) (by omega),(hPv _ _ _).mpr ⟨_,_,(s3.trans s4).over hpmH,upd_same,by rw[upd_ne (Ne.symm hpmp)];exact s4 _ _ hd3,by rw[upd_ne hlpm];exact s4 _ _ hl3,(hr3.mono (TK.of s4)).mono fun c zs e=>by rw[upd_ne (fun z=>by rw[z,s4 _ _ hm3]at e;cases e)];exact e,?_,rfl⟩⟩
   rw[hpk,et]
   exact (hM4.snoc hl4).mono fun t ys e=>by rw[upd_ne (fun z=>by rw[z,s4 _ _ hm3]at e;cases e)];exact e
  ·obtain⟨kvs,o1,s3,hm3,hd3,hl3,hr3,hM3,rfl⟩:=(hPv _ _ _).mp h'
   rw[hr3.1,List.take_length]at hM3
   walk_at "rd"
   refine⟨_,s3.seqT h1,_,rfl,_,s3.seqT h1,_,rfl,N,ta,pm,xs,acc,kvs,es,ends,rfl,hN6,s3.seqT h2,h3.mono (TK.of s3),by omega,fun w hw=>by have:=G.wa w hw;omega,hm3,hM3,TF,TN,fun t zs H4 s4 ht4 hz4=>k t zs H4 (s3.trans s4) ht4 hz4⟩
def fW (N:Nat)(g:List Int->List Int)(acc:List (List Int)):List (List Int):=acc.map fun u=>(List.range N).map fun x:Nat=>(((acc.map g).idxOf (g (u++[(x:Int)])):Nat):Int)
def Jp (N:Nat)(acc ends:List (List Int))(es:List (List Int×Int)):Prop:=Tt N acc ends es/\Aw acc/\ends[0]?=some []/\∀u∈acc,∀x:Nat,x<N->(ixO es ends acc (u++[(x:Int)])).isSome=true
def mk49 (es:List (List Int×Int))(u:List Int):Int:=(mkO es u).getD 0
theorem ix_ways {N:Nat}{acc ends:List (List Int)}{es:List (List Int×Int)}(h:∀u∈acc,∀x:Nat,x<N->(ixO es ends acc (u++[(x:Int)])).isSome=true):(acc.map fun w=>(List.range N).map fun x:Nat=>oV (ixO es ends acc (w++[(x:Int)])))=(fW N (gI es ends) acc).map fun u=>u.map V.int:=by
 unfold fW
 rw[List.map_map]
 refine List.map_congr_left fun u hu=>?_
 show _=List.map V.int _
 rw[List.map_map]
 refine List.map_congr_left fun x hx=>?_
 have:=h u hu x (List.mem_range.mp hx)
 unfold ixO at this ⊢
 split at this
 ·rename_i hq;rw[if_pos hq];rfl
 ·cases this
theorem has_none {N:Nat}{acc ends:List (List Int)}{es:List (List Int×Int)}{u:List Int}:(∀x:Nat,x<N->(ixO es ends acc (u++[(x:Int)])).isSome=true)↔none∉(List.range N).map fun x:Nat=>ixO es ends acc (u++[(x:Int)]):=by
 constructor
 ·intro h z
  obtain⟨x,hx,e⟩:=List.mem_map.mp z
  have:=h x (List.mem_range.mp hx)
  rw[e]at this;cases this
 ·intro h x hx
  cases e:ixO es ends acc (u++[(x:Int)]) with
  |some m=>rfl
  |none=>exact absurd (List.mem_map.mpr ⟨x,List.mem_range.mpr hx,e⟩) h
def sp_judged49 (K:PySem.W.Frag)(NP:Addr):Sp:=fun vs H Q E=>∃(a:Addr) (N:Nat) (xs ys:List V) (acc ends:List (List Int)) (es:List (List Int×Int)),vs=[.ref a]/\Ppr K H a N xs ys acc ends es/\B49 N acc ends es/\(∀h tm tw zs H',Same H H'->Jp N acc ends es->H' h=some (.tup [.int N,.ref tm,.ref tw])->H' tm=some (.tup ((acc.map (mk49 es)).map V.int))->H' tw=some (.tup zs)->WordsT K H' zs (fW N (gI es ends) acc)->Q (.ref h) H')/\(∀H',Same H H'->¬ Jp N acc ends es->E (.ref NP) none H')
theorem ok_judged {f:Addr}{fd:FuncData}(F:Fun K "judged" "judged" s_judged f fd)(T:Txt mg)
  (Z:Exs K mg C_AskError C_NoPaper C_NoText)
  {f_tells_apart:Addr} {fd_tells_apart:FuncData} (q_tells_apart:Cal P w K mg base CX0 3 "tells_apart" s_tells_apart ["paper"] (sp_tells49 K) f_tells_apart fd_tells_apart)
  {f_are_access_words:Addr} {fd_are_access_words:FuncData} (q_are_access_words:Cal P w K mg base CX0 1 "are_access_words" s_are_access_words ["words"] (sp_areacc49 K) f_are_access_words fd_are_access_words)
  {f_ways_heard:Addr} {fd_ways_heard:FuncData} (q_ways_heard:Cal P w K mg base CX0 2 "ways_heard" s_ways_heard ["paper"] (sp_wheard49 K) f_ways_heard fd_ways_heard)
  : FnOk P w K mg base (CXe P w) 4 f fd ["paper"] (sp_judged49 K C_NoPaper):=by
 refine F.okE sc_judged (fun vs H Q E h=>?_) (fun cdv A outer s H vs Q E hr h=>?_)
 ·obtain⟨a,N,xs,ys,acc,ends,es,rfl,_⟩:=h;rfl
 ·obtain⟨a,N,xs,ys,acc,ends,es,rfl,P,G,k,k0⟩:=h
  have hl:=line1000
  refine⟨_,(pss_cons (ps_if (PW.pt (pw_or (pt_not (ptB (pt_val (pe_callQ q_tells_apart hr.d pass0 (pa_cons (pvD 0) pa_nil))))) (pw_or (pt_not (ptB (pt_val (pe_callQ q_are_access_words hr.d pass0 (pa_cons (pe_ixA (ixTD ix_tup) (pvD 0) pe_int) pa_nil))))) (pw_or1 (ptT (pt_cmpR (op_neD 8 (hu9 hr)) (pe_slice sl_tup2 (pe_ixA (ixTD ix_tup) (pvD 0) pe_int) po_none (po_some pe_int)) (pe_tup (pa_cons (pe_tup pa_nil) pa_nil)) (nomark _)))))))
   (pss_one (ps_raise Z.m_NoPaper Z.x_NoPaper rfl rfl (pa_cons pe_str pa_nil)))
   pss_nil)
   (pss_cons (ps_setL (i:=1) sc_judged.nd (pe_callQ q_ways_heard hr.d pass0 (pa_cons (pvD 0) pa_nil)))
   (pss_cons (ps_if (ptB (pt_val (pe_callB (call_any rfl) rfl T.any PyProof.Rows.boot_any (pa_cons (pe_comp rfl (blk_mk rfl) (cp:=c_judged_0) True.intro (pi_tup (pvD 1)) (fun _ _ _ _=>(pg_name (i:=0) nd_c_judged_0 rfl (Or.inl rfl))) (fun _ _ _ _=>pf_nil) (fun _ _ _ _=>(pe_cmpR (op_in_seqK (K:=K) rfl) pe_non (pvD 0) rfl))) pa_nil))))
   (pss_one (ps_raise Z.m_NoPaper Z.x_NoPaper rfl rfl (pa_cons pe_str pa_nil)))
   pss_nil)
   (pss_cons (ps_set (i:=2) sc_judged.nd rfl (Or.inr rfl) (pe_callTy (call_dictPR rfl hr) rfl T.dict PyProof.Rows.boot_dict (pa_cons (pe_ixA (ixTD ix_tup) (pvD 0) pe_int) pa_nil)))
   (pss_one (ps_ret (pe_tup (pa_cons (pe_ixA (ixTD ix_tup) (pvD 0) pe_int) (pa_cons (pe_callTy call_tuple_L rfl T.tuple PyProof.Rows.boot_tuple (pa_cons (pe_comp rfl (blk_mk rfl) (cp:=c_judged_4) ⟨⟨rfl,rfl⟩,True.intro⟩ (pi_tup (pe_ixA (ixTD ix_tup) (pvD 0) pe_int)) (fun _ _ _ _=>(pg_name (i:=0) nd_c_judged_4 rfl (Or.inl rfl))) (fun _ _ _ _=>pf_nil) (fun _ _ _ _=>(pe_dget (hu_of hr) (pvD 1) (pvD 0) (fun _ _=>rfl)))) pa_nil)) (pa_cons (pvD 1) pa_nil)))))))))),?_⟩
  obtain⟨ta,te,th,o,ts,h1,h2,h3,h4,h5,h6,h7,h8⟩:=id P
  have hal:=G.al
  have hel:=G.hl
  have hen:=G.el
  walk_at "rd"
  refine⟨a,N,xs,ys,acc,ends,es,rfl,P,G,fun H1 s1 hT=>⟨true,rfl,?_⟩,fun H1 s1 hT=>⟨false,rfl,?_⟩⟩
  rotate_left
  ·rw[if_pos (by simp)]
   exact⟨by omega,k0 _ s1 fun z=>hT z.1⟩
  rw[if_neg (by simp)]
  refine⟨_,s1.seqT h1,_,rfl,ta,xs,acc,rfl,s1.seqT h2,h3.mono (TK.of s1),by omega,hT.1,fun H2 s2 hW=>⟨true,rfl,?_⟩,fun H2 s2 hW=>⟨false,rfl,?_⟩⟩
  rotate_left
  ·rw[if_pos (by simp)]
   exact⟨by omega,k0 _ (s1.trans s2) fun z=>hW z.2.1⟩
  rw[if_neg (by simp)]
  have s12:=s1.trans s2
  refine⟨_,s12.seqT h1,_,rfl,te,rfl,_,s12.seqT h4,fun p3 H3 s3 hp3=>⟨by omega,fun p4 hp4=>⟨by omega,fun p5 hp5=>?_⟩⟩⟩
  have hc1:cutV ys none (some 1)=ys.take 1:=cutV_take50 ys 1
  rw[hc1]at hp3
  have s13:=s12.trans s3
  have s45:=(Same.new hp4 (o:=.tup [])).newT hp5 (o:=.tup [V.ref p4])
  have s15:=s13.trans s45
  have hE:EqD K (upd (upd H3 p4 (.tup [])) p5 (.tup [V.ref p4])) 8 (.ref p3) (.ref p5) (decide (ends[0]?=some [])):=by
   cases hen0:ends with
   |nil=>
    have hy0:ys=[]:=List.length_eq_zero_iff.mp (by rw[h5.1,hen0];rfl)
    rw[hy0]at hp3
    exact .inr ⟨p3,p5,_,_,rfl,rfl,.inr ⟨s45.seqT hp3,SqT.of upd_same⟩,fun _=>true,fun i x y hx hy=>by simp at hx,by simp⟩
   |cons e r=>
    obtain⟨t0,g1,g2⟩:=h5.2 0 e (by rw[hen0];rfl)
    have hy1:ys.take 1=[.ref t0]:=by
     cases ys with
     |nil=>cases g1
     |cons y r=>cases g1;rfl
    rw[hy1]at hp3
    refine .inr ⟨p3,p5,_,_,rfl,rfl,.inr ⟨s45.seqT hp3,SqT.of upd_same⟩,fun _=>decide (e=[]),fun i x y hx hy=>?_,by simp⟩
    match i,hx,hy with
    |0,hx,hy=>
     cases hx;cases hy
     have:=EqD.ints (K:=K) (H:=upd (upd H3 p4 (.tup [])) p5 (.tup [V.ref p4])) (xs:=e) (ys:=[]) (.inr ⟨SqT.of (s15 _ _ g2),SqT.of (Same.new hp5 _ _ upd_same)⟩) 6
     exact this
    |i+1,hx,hy=>simp at hx
  refine⟨_,hE,?_⟩
  by_cases hE0:ends[0]?=some []
  rotate_left
  ·rw[if_pos (by rw[decide_eq_false hE0];rfl)]
   exact⟨by omega,k0 _ s15 fun z=>hE0 z.2.2.1⟩
  rw[if_neg (by rw[decide_eq_true hE0];simp)]
  refine⟨a,N,xs,ys,acc,ends,es,rfl,P.mono s15,G,hT,fun tw zs H6 s6 htw hzs=>⟨tw,rfl,⟨_,SqT.of htw⟩,?_⟩⟩
  have s16:=s15.trans s6
  have hzl:zs.length=acc.length:=by rw[hzs.1,List.length_map]
  have hpl:ts.length=es.length:=by rw[h8.1];unfold ents;rw[List.length_map]
  obtain⟨Pd,hPd⟩:∃Pc:Nat->List V->St->Hp->Prop,∀i vs σ' H',Pc i vs σ' H'↔(H'=H6/\vs=((acc.take i).map fun u=>decide (none∈(List.range N).map fun x:Nat=>ixO es ends acc (u++[(x:Int)]))).map V.bl/\∃o,σ'=[o]):=⟨_,fun _ _ _ _=>Iff.rfl⟩
  refine compT (xs:=zs) Pd ((hPd _ _ _ _).mpr ⟨rfl,rfl,none,rfl⟩) (by omega) (fun i vs σ' H' hi h'=>?_) (fun i x vs σ' H' hx h'=>?_) (fun vs σ' H' h' D2 hD2=>?_)
  ·obtain⟨rfl,rfl,_⟩:=(hPd _ _ _ _).mp h'
   exact⟨SqT.of htw,by rw[List.length_map,List.length_map,List.length_take];omega⟩
  ·obtain⟨rfl,rfl,ov,rfl⟩:=(hPd _ _ _ _).mp h'
   obtain⟨tu,vs,hv,rfl,htu⟩:=hzs.at hx
   rw[List.getElem?_map]at hv
   obtain⟨u,hu,rfl⟩:=Option.map_eq_some_iff.mp hv
   have et:acc.take (i+1)=acc.take i++[u]:=by rw[List.take_add_one,hu];rfl
   have ev:((List.range N).map fun x:Nat=>oV (ixO es ends acc (u++[(x:Int)])))=((List.range N).map fun x:Nat=>ixO es ends acc (u++[(x:Int)])).map oV:=by rw[List.map_map];rfl
   rw[ev]at htu
   walk_at "rd"
   refine⟨_,.inr (SqT.of htu),rfl,flat_oV _,(hPd _ _ _ _).mpr ⟨rfl,?_,_,rfl⟩⟩
   rw[inV_oV,et,List.map_append,List.map_append];rfl
  ·obtain⟨rfl,rfl,ov,rfl⟩:=(hPd _ _ _ _).mp h'
   rw[hzl,List.take_length]
   refine⟨D2,rfl,_,SqL.of upd_same,?_⟩
   have s7:=Same.new hD2 (o:=.lst ((acc.map fun u=>decide (none∈(List.range N).map fun x:Nat=>ixO es ends acc (u++[(x:Int)]))).map V.bl))
   have s17:=s16.trans s7
   by_cases hX:∀u∈acc,∀x:Nat,x<N->(ixO es ends acc (u++[(x:Int)])).isSome=true
   rotate_left
   ·rw[if_pos (by
     refine Decidable.byContradiction fun hx=>hX fun u hu=>has_none.mpr fun z=>hx ?_
     exact List.any_eq_true.mpr ⟨true,List.mem_map.mpr ⟨u,hu,decide_eq_true z⟩,rfl⟩)]
    exact⟨by omega,k0 _ s17 fun z=>hX z.2.2.2⟩
   rw[if_neg (by
    intro hx
    obtain⟨b,hb,e⟩:=List.any_eq_true.mp hx
    obtain⟨u,hu,rfl⟩:=List.mem_map.mp hb
    exact has_none.mp (hX u hu) (of_decide_eq_true e))]
   have hJ:Jp N acc ends es:=⟨hT,hW,hE0,hX⟩
   have nd:=hT.2.1
   refine⟨_,s17.seqT h1,_,rfl,th,o,ts,ents es,rfl,s17 _ _ h6,h7,h8.mono s17,by unfold ents;rw[List.length_map];omega,fun p hp=>?_⟩
   rw[ents_all nd]
   have s8:=s17.newT hp (o:=.dT (ents es))
   have s78:=s7.newT hp (o:=.dT (ents es))
   refine⟨_,s8.seqT h1,_,rfl,_,s8.seqT h1,_,rfl,ta,rfl,⟨_,s8.seqT h2⟩,?_⟩
   rw[ix_ways hX]at hzs
   have hz8:=(hzs.mono fun t ys e=>s78 _ _ e).words (K:=K)
   have htw8:=s78 _ _ htw
   have hdp:upd (upd H' D2 (.lst ((acc.map fun u=>decide (none∈(List.range N).map fun x:Nat=>ixO es ends acc (u++[(x:Int)]))).map V.bl))) p (.dT (ents es)) p=some (.dT (ents es)):=upd_same
   generalize upd (upd H' D2 (.lst ((acc.map fun u=>decide (none∈(List.range N).map fun x:Nat=>ixO es ends acc (u++[(x:Int)]))).map V.bl))) p (.dT (ents es))=H8 at s8 s78 hdp hz8 htw8 ⊢
   obtain⟨Pc,hPc⟩:∃Pc:Nat->List V->St->Hp->Prop,∀i vs σ' H',Pc i vs σ' H'↔(H'=H8/\vs=((acc.take i).map (mk49 es)).map V.int/\∃o,σ'=[o,some (.ref p)]):=⟨_,fun _ _ _ _=>Iff.rfl⟩
   refine compT (xs:=xs) Pc ((hPc _ _ _ _).mpr ⟨rfl,rfl,none,rfl⟩) (by rw[h3.1];omega) (fun i vs σ' H' hi h'=>?_) (fun i x vs σ' H' hx h'=>?_) (fun vs σ' H' h' D3 hD3=>?_)
   ·obtain⟨rfl,rfl,_⟩:=(hPc _ _ _ _).mp h'
    exact⟨s8.seqT h2,by rw[List.length_map,List.length_map,List.length_take];omega⟩
   ·obtain⟨rfl,rfl,ov,rfl⟩:=(hPc _ _ _ _).mp h'
    obtain⟨tu,u,hu,rfl,htu⟩:=h3.at hx
    have hum:=List.mem_of_getElem? hu
    have hto:=hT.2.2.2.1 u hum [] (List.mem_of_getElem? hE0)
    rw[List.append_nil]at hto
    obtain⟨mu,hmu⟩:=Option.isSome_iff_exists.mp hto
    have et:acc.take (i+1)=acc.take i++[u]:=by rw[List.take_add_one,hu];rfl
    have hv:valV (ents es) (wkey u)=some (.int (mk49 es u)):=by
     have:=ents_get nd (mkO_mem50 hmu)
     unfold mk49
     rw[hmu]
     exact this
    walk_at "rd"
    have hdg:DGet H' p (.ref tu) (some (.int (mk49 es u))):=by rw[<-hv];exact DGet.t (k:=wkey u) hdp (by rw[wkey_kV];exact s8 _ _ htu)
    refine⟨_,hdg,(hPc _ _ _ _).mpr ⟨rfl,?_,_,rfl⟩⟩
    rw[et,List.map_append,List.map_append];rfl
   ·obtain⟨rfl,rfl,ov,rfl⟩:=(hPc _ _ _ _).mp h'
    rw[h3.1,List.take_length]
    refine⟨D3,rfl,_,.inl ⟨SqL.of upd_same,fun tm htm=>⟨by omega,fun hh hhh=>?_⟩⟩⟩
    have s9:=(Same.new hD3 (o:=.lst ((acc.map (mk49 es)).map V.int))).newT htm (o:=.tup ((acc.map (mk49 es)).map V.int))
    have s10:=s9.newT hhh (o:=.tup [.int N,.ref tm,.ref tw])
    exact k hh tm tw zs _ (s8.trans s10) hJ upd_same (Same.new hhh _ _ upd_same) (s10 _ _ htw8) (hz8.mono (TK.of s10))
def sp_whole:Sp:=fun vs H Q _=>∃n:Int,vs=[.int n]/\Q (.bl true) H
theorem ok__law_whole {f:Addr}{fd:FuncData}(F:Fun K "_law_whole" "_law_whole" s__law_whole f fd)(T:Txt mg)
  (Z:Exs K mg C_AskError C_NoPaper C_NoText)
  : FnOk P w K mg base CX0 1 f fd ["found"] (sp_whole):=by
 refine F.ok sc__law_whole (fun vs H Q E h=>?_) (fun cdv A outer s H vs Q E hr h=>?_)
 ·obtain⟨n,rfl,_⟩:=h;rfl
 ·obtain⟨n,rfl,q⟩:=h
  refine⟨_,(pss_one (ps_ret (pe_and (pe_callB call_isinstW rfl T.isinstance PyProof.Rows.boot_isinstance (pa_cons (pvD 0) (pa_cons (pe_bltn (v:=.ty "int") rfl T.int PyProof.Rows.boot_int rfl) pa_nil))) (pe_one (pe_not (pe_callB call_isinstW rfl T.isinstance PyProof.Rows.boot_isinstance (pa_cons (pvD 0) (pa_cons (pe_bltn (v:=.ty "bool") rfl T.bool PyProof.Rows.boot_bool rfl) pa_nil)))))))),?_⟩
  walk_at "rd"
  refine⟨_,_,.int _,rel_ty,_,kit_self,?_⟩
  rw[if_pos rfl]
  refine⟨_,_,.int _,rel_ty,_,kit_int_bool,?_⟩
  exact q
structure S49 (N:Nat)(acc ends:List (List Int))(es:List (List Int×Int)):Prop where
 n1:1<=N
 n6:N<=6
 a1:1<=acc.length
 al:acc.length<=5
 e1:1<=ends.length
 el:ends.length<=11
 h1:1<=es.length
 hl:es.length<=500
 wa:∀w∈acc,w.length<=59
 we:∀e∈ends,e.length<=59
 wh:∀p∈es,p.1.length<=509
theorem S49.b {N:Nat}{acc ends:List (List Int)}{es:List (List Int×Int)}(S:S49 N acc ends es):B49 N acc ends es:=⟨S.n1,S.n6,by have:=S.al;omega,by have:=S.el;omega,by have:=S.hl;omega,fun w hw=>by have:=S.wa w hw;omega,fun w hw=>by have:=S.we w hw;omega,fun w hw=>by have:=S.wh w hw;omega⟩
theorem ppr_of {K:PySem.W.Frag}{H:Hp}{a ta te th:Addr}{N:Nat}{xs ys:List V}{acc ends:List (List Int)}{es:List (List Int×Int)}{o:Obj}{ts:List Addr}(h1:H a=some (.tup [.int N,.ref ta,.ref te,.ref th]))(h2:SqT K H ta xs)(h3:WordsT K H xs acc)(h4:SqT K H te ys)(h5:WordsT K H ys ends)(h6:H th=some (.frz o (.tup (ts.map V.ref))))(h7:o.dict=none)(h8:PrsAt H ts (ents es)):Ppr K H a N xs ys acc ends es:=⟨ta,te,th,o,ts,SqT.of h1,h2,h3,h4,h5,h6,h7,h8⟩
theorem words_erase {K:PySem.W.Frag}{H:Hp}{xs:List V}{ws:List (List Int)}(h:WordsT K H xs ws)(n:Nat):WordsT K H (xs.eraseIdx n) (ws.eraseIdx n):=by
 refine⟨by rw[List.length_eraseIdx,List.length_eraseIdx,h.1],fun i u hu=>?_⟩
 rw[List.getElem?_eraseIdx]at hu ⊢
 split at hu
 ·rename_i hi;rw[if_pos hi];exact h.2 _ u hu
 ·rename_i hi;rw[if_neg hi];exact h.2 _ u hu
theorem words_set {K:PySem.W.Frag}{H:Hp}{xs:List V}{ws:List (List Int)}(h:WordsT K H xs ws)(n:Nat){t:Addr}{v:List Int}(ht:H t=some (.tup (v.map V.int))):WordsT K H (xs.set n (.ref t)) (ws.set n v):=by
 refine⟨by rw[List.length_set,List.length_set,h.1],fun i u hu=>?_⟩
 rw[List.getElem?_set]at hu ⊢
 split at hu
 ·rename_i hi
  rw[if_pos hi]
  split at hu
  ·rename_i hl
   cases hu
   exact⟨t,by rw[if_pos (by rw[h.1];exact hl)],ht⟩
  ·cases hu
 ·rename_i hi;rw[if_neg hi];exact h.2 _ u hu
theorem emodN {c:Int}{n:Nat}(h:0<n):∃m:Nat,c%(n:Int)=(m:Int)/\m<n:=⟨(c%(n:Int)).toNat,by have:=Int.emod_nonneg c (show (n:Int)≠0 by omega);omega,by have:=Int.emod_lt_of_pos c (show (0:Int)<n by omega);have:=Int.emod_nonneg c (show (n:Int)≠0 by omega);omega⟩
theorem ixN_nat49 {n j:Nat}(h:j<n):ixN n (j:Int)=some j:=by
 have:=ixN_of (n:=n) (i:=(j:Int)) (by omega) (by omega)
 rw[Int.toNat_natCast]at this
 exact this
theorem ite_or2 {c1 c2 X Y:Prop}[Decidable c1][Decidable c2](h1:c1\/c2->X)(h0:¬ (c1\/c2)->Y):if c1 then X else if c2 then X else Y:=by
 split
 ·rename_i h;exact h1 (.inl h)
 ·split
  ·rename_i h;exact h1 (.inr h)
  ·rename_i a b;exact h0 (fun z=>z.elim a b)
theorem seqIx {n j:Nat}(h:j<n):seqIndex? (j:Int) n=some j:=(ixN_seq (ixN_nat49 h)).1
theorem prs_app {H:Hp}{ts us:List Addr}{ps qs:List (List Key×V)}(h:PrsAt H ts ps)(g:PrsAt H us qs):PrsAt H (ts++us) (ps++qs):=by
 refine⟨by rw[List.length_append,List.length_append,h.1,g.1],fun j p r hj hr=>?_⟩
 by_cases hi:j<ps.length
 ·rw[List.getElem?_append_left hi]at hj
  rw[List.getElem?_append_left (by rw[h.1];exact hi)]at hr
  exact h.2 j p r hj hr
 ·rw[List.getElem?_append_right (by omega)]at hj
  rw[List.getElem?_append_right (by rw[h.1];omega),h.1]at hr
  exact g.2 _ p r hj hr
theorem prs_take {H:Hp}{ts:List Addr}{ps:List (List Key×V)}(h:PrsAt H ts ps)(n:Nat):PrsAt H (ts.take n) (ps.take n):=by
 refine⟨by rw[List.length_take,List.length_take,h.1],fun j p r hj hr=>?_⟩
 rw[List.getElem?_take]at hj hr
 split at hj
 ·rename_i hh;rw[if_pos hh]at hr;exact h.2 j p r hj hr
 ·cases hj
theorem prs_drop {H:Hp}{ts:List Addr}{ps:List (List Key×V)}(h:PrsAt H ts ps)(n:Nat):PrsAt H (ts.drop n) (ps.drop n):=by
 refine⟨by rw[List.length_drop,List.length_drop,h.1],fun j p r hj hr=>?_⟩
 rw[List.getElem?_drop]at hj hr
 exact h.2 _ p r hj hr
theorem prs_one {H:Hp}{q b:Addr}{u:List Int}{m:Int}(hq:H q=some (.tup [.ref b,.int m]))(hb:H b=some (.tup (u.map V.int))):PrsAt H [q] (ents [(u,m)]):=by
 refine⟨rfl,fun j p r hj hr=>?_⟩
 cases j with
 |zero=>cases hj;cases hr;exact⟨b,.inl hq,by rw[wkey_kV];exact hb⟩
 |succ j=>simp[ents]at hj
theorem ents_app (a b:List (List Int×Int)):ents (a++b)=ents a++ents b:=by unfold ents;rw[List.map_append]
theorem ents_take (a:List (List Int×Int))(n:Nat):ents (a.take n)=(ents a).take n:=by unfold ents;rw[List.map_take]
theorem ents_drop (a:List (List Int×Int))(n:Nat):ents (a.drop n)=(ents a).drop n:=by unfold ents;rw[List.map_drop]
def sp_spoil49 (K:PySem.W.Frag)(lo hi:Int):Sp:=fun vs H Q _=>∃(a:Addr) (N:Nat) (xs ys:List V) (acc ends:List (List Int)) (es:List (List Int×Int)) (way cell:Int),vs=[.ref a,.int way,.int cell]/\Ppr K H a N xs ys acc ends es/\S49 N acc ends es/\lo<=way/\way<=hi/\0<=cell/\∀(a':Addr) (N':Nat) (xs' ys':List V) (acc' ends':List (List Int)) (es':List (List Int×Int)) (H':Hp),Same H H'->Ppr K H' a' N' xs' ys' acc' ends' es'->B49 N' acc' ends' es'->Q (.ref a') H'
theorem ok__law_spoiled_words {f:Addr}{fd:FuncData}(F:Fun K "_law_spoiled_words" "_law_spoiled_words" s__law_spoiled_words f fd)(T:Txt mg)
  (Z:Exs K mg C_AskError C_NoPaper C_NoText)
  : FnOk P w K mg base CX0 1 f fd ["note","way","cell"] (sp_spoil49 K 4 9):=by
 refine F.ok sc__law_spoiled_words (fun vs H Q E h=>?_) (fun cdv A outer s H vs Q E hr h=>?_)
 ·obtain⟨a,N,xs,ys,acc,ends,es,way,cell,rfl,_⟩:=h;rfl
 ·obtain⟨a,N,xs,ys,acc,ends,es,way,cell,rfl,P,S,w0,w1,c0,k⟩:=h
  have hl:=line1000
  refine⟨_,(pss_cons (ps_asg (pvD 0) (pg_tup rfl (pgs_cons (pg_name (i:=3) sc__law_spoiled_words.nd rfl (Or.inl rfl)) (pgs_cons (pg_name (i:=4) sc__law_spoiled_words.nd rfl (Or.inl rfl)) (pgs_cons (pg_name (i:=5) sc__law_spoiled_words.nd rfl (Or.inl rfl)) (pgs_cons (pg_name (i:=6) sc__law_spoiled_words.nd rfl (Or.inl rfl)) pgs_nil))))))
   (pss_cons (ps_setL (i:=7) sc__law_spoiled_words.nd (pe_callTy call_list_of rfl T.list PyProof.Rows.boot_list (pa_cons (pe_ixA (ixLD ix_list) (pe_lst (pa_cons (pvD 4) (pa_cons (pvD 5) pa_nil))) (pe_op (opD op_mod) (pvD 1) pe_int)) pa_nil)))
   (pss_cons (ps_setL (i:=8) sc__law_spoiled_words.nd (pe_op (opD op_mod) (pvD 2) (pe_callB (lenD call_len_seq) (by rfl) T.len PySem.boot_len (pa_cons (pvD 7) pa_nil))))
   (pss_cut (ps_if (PW.pt (pw_or (ptT (pt_cmpR (opE op_eq) (pvD 1) pe_int (nomark _))) (pw_or1 (ptT (pt_cmpR (opE op_eq) (pvD 1) pe_int (nomark _))))))
   (pss_one (ps_expr (pe_bm PySem.F.plainAttrs_list PySem.F.slot_list_pop PySem.F.type_list_pop mt_popAt (pvD 7) (pa_cons (pvD 8) pa_nil))))
   pss_nil)
   (pss_cut (ps_if (PW.pt (pw_or (ptT (pt_cmpR (opE op_eq) (pvD 1) pe_int (nomark _))) (pw_or1 (ptT (pt_cmpR (opE op_eq) (pvD 1) pe_int (nomark _))))))
   (pss_one (ps_expr (pe_bm PySem.F.plainAttrs_list PySem.F.slot_list_append PySem.F.type_list_append mt_append (pvD 7) (pa_cons (pe_bm PySem.F.plainAttrs_list PySem.F.slot_list_pop PySem.F.type_list_pop mt_popAt (pvD 7) (pa_cons pe_int pa_nil)) pa_nil))))
   pss_nil)
   (pss_cut (ps_if (PW.pt (pw_or (ptT (pt_cmpR (opE op_eq) (pvD 1) pe_int (nomark _))) (pw_or1 (ptT (pt_cmpR (opE op_eq) (pvD 1) pe_int (nomark _))))))
   (pss_one (ps_asg (pe_op op_catT2 (pe_ixA (ixLD ix_list) (pvD 7) (pvD 8)) (pe_tup (pa_cons (pe_ixA (ixLD ix_list) (pe_lst (pa_cons (pe_un un_neg pe_int) (pa_cons (pvD 3) (pa_cons (pe_op (opD op_pow) pe_int pe_int) pa_nil)))) (pe_op (opD op_mod) (pe_op (opD op_fdiv) (pvD 2) pe_int) pe_int)) pa_nil))) (pg_sub (pvD 7) (pvD 8) set_list)))
   pss_nil)
   (pss_cons (ps_if (ptT (pt_cmpR (opE op_eq) (pe_op (opD op_mod) (pvD 1) pe_int) pe_int (nomark _)))
   (pss_one (ps_ret (pe_tup (pa_cons (pvD 3) (pa_cons (pe_callTy call_tuple_L rfl T.tuple PyProof.Rows.boot_tuple (pa_cons (pvD 7) pa_nil)) (pa_cons (pvD 5) (pa_cons (pvD 6) pa_nil)))))))
   pss_nil)
   (pss_one (ps_ret (pe_tup (pa_cons (pvD 3) (pa_cons (pvD 4) (pa_cons (pe_callTy call_tuple_L rfl T.tuple PyProof.Rows.boot_tuple (pa_cons (pvD 7) pa_nil)) (pa_cons (pvD 6) pa_nil)))))))))))))),?_⟩
  obtain⟨ta,te,th,o,ts,h1,h2,h3,h4,h5,h6,h7,h8⟩:=id P
  walk_at "rd"
  obtain⟨ws0,zs0,tb,hb1,hb2,hb3,hb4,hb5,hb6⟩:∃(ws0:List (List Int)) (zs0:List V) (tb:Addr),atI [V.ref ta,V.ref te] (way%2)=some (.ref tb)/\SqT K H tb zs0/\WordsT K H zs0 ws0/\1<=ws0.length/\(∀u∈ws0,u.length<=59)/\((way%2=0/\ws0.length<=5)\/(way%2=1/\ws0.length<=11)):=by
   rcases (show way%2=0\/way%2=1 by omega) with e|e
   ·exact⟨acc,xs,ta,by rw[e];rfl,h2,h3,S.a1,S.wa,.inl ⟨e,S.al⟩⟩
   ·exact⟨ends,ys,te,by rw[e];rfl,h4,h5,S.e1,S.we,.inr ⟨e,S.el⟩⟩
  have hw11:ws0.length<=11:=by rcases hb6 with ⟨_,h⟩|⟨_,h⟩<;>omega
  refine⟨_,h1,rfl,_,_,rfl,_,_,rfl,_,_,rfl,_,_,rfl,rfl,by omega,fun p hp=>⟨by decide,_,SqL.of upd_same,_,hb1,tb,rfl,zs0,.inr ((Same.new hp).seqT hb2),fun l hl'=>?_⟩⟩
  have s1:=(Same.new hp (o:=.lst [V.ref ta,V.ref te])).newT hl' (o:=.lst zs0)
  have hlH:H l=none:=(none_of_upd hl').1
  refine⟨zs0,.inl (SqL.of upd_same),by rw[hb3.1];omega,?_⟩
  rw[hb3.1]
  obtain⟨spot,hsp,hspl⟩:=emodN (c:=cell) (n:=ws0.length) (by omega)
  rw[hsp]
  obtain⟨In,hIn⟩:∃In:Int->Hp->Prop,∀b H',In b H'↔(∃(xs':List V) (ws:List (List Int)),Same H H'/\H' l=some (.lst xs')/\WordsT K H' xs' ws/\ws.length<=ws0.length/\(∀u∈ws,u.length<=60)/\(b<=way->ws.length=ws0.length/\∀u∈ws,u.length<=59)):=⟨_,fun _ _=>Iff.rfl⟩
  obtain⟨R,hR⟩:∃R:Int->St->Hp->Prop,∀b σ' H',R b σ' H'↔(In b H'/\σ'=[some (.ref a),some (.int way),some (.int cell),some (.int N),some (.ref ta),some (.ref te),some (.ref th),some (.ref l),some (.int spot)]):=⟨_,fun _ _ _=>Iff.rfl⟩
  have hI0:In 4 (upd (upd H p (.lst [V.ref ta,V.ref te])) l (.lst zs0)):=(hIn _ _).mpr ⟨zs0,ws0,s1,upd_same,hb3.mono (TK.of s1),Nat.le_refl _,fun u hu=>by have:=hb5 u hu;omega,fun _=>⟨rfl,hb5⟩⟩
  generalize upd (upd H p (.lst [V.ref ta,V.ref te])) l (.lst zs0)=Ha at hI0
  clear s1 hl'
  have wk:∀{b b':Int} {Hc:Hp},In b Hc->b<=b'->In b' Hc:=fun {b b' Hc} hi hb=>by
   obtain⟨xs',ws,s4,e1,e2,e3,e4,e5⟩:=(hIn _ _).mp hi
   exact (hIn _ _).mpr ⟨xs',ws,s4,e1,e2,e3,e4,fun h=>e5 (by omega)⟩
  refine⟨R 6,?_,fun σ3 H3 h3'=>?_⟩
  ·walk_at "rd"
   refine ite_or2 (fun hw=>?_) (fun hw=>(hR _ _ _).mpr ⟨wk hI0 (by omega),rfl⟩)
   obtain⟨xs',ws,s4,e1,e2,e3,e4,e5⟩:=(hIn _ _).mp hI0
   have hwl:=(e5 w0).1
   have hxl:spot<xs'.length:=by rw[e2.1];omega
   refine⟨.inl ⟨rfl,_,SqL.of e1⟩,_,e1,by omega,by omega,spot,seqIx hxl,_,List.getElem?_eq_getElem hxl,(hR _ _ _).mpr ⟨(hIn _ _).mpr ⟨_,ws.eraseIdx spot,s4.over hlH,upd_same,(words_erase e2 spot).mono (TK.lst e1),?_,fun u hu=>e4 u (List.mem_of_mem_eraseIdx hu),fun h=>by omega⟩,rfl⟩⟩
   rw[List.length_eraseIdx]
   split<;>omega
  obtain⟨hI1,rfl⟩:=(hR _ _ _).mp h3'
  refine⟨R 8,?_,fun σ4 H4 h4'=>?_⟩
  ·walk_at "rd"
   refine ite_or2 (fun hw=>?_) (fun hw=>(hR _ _ _).mpr ⟨wk hI1 (by omega),rfl⟩)
   obtain⟨xs',ws,s4,e1,e2,e3,e4,e5⟩:=(hIn _ _).mp hI1
   have hwl:=(e5 (by omega)).1
   have hxl:0<xs'.length:=by rw[e2.1];omega
   have hwl0:0<ws.length:=by omega
   obtain⟨t0,f1,f2⟩:=e2.2 0 ws[0] (List.getElem?_eq_getElem hwl0)
   have hln:(ws.eraseIdx 0).length=ws.length-1:=by rw[List.length_eraseIdx,if_pos hwl0]
   refine⟨.inl ⟨rfl,_,SqL.of e1⟩,.inl ⟨rfl,_,SqL.of e1⟩,_,e1,by omega,by omega,0,seqIx (j:=0) hxl,_,f1,_,upd_same,by rw[(words_erase e2 0).1,hln];omega,(hR _ _ _).mpr ⟨(hIn _ _).mpr ⟨_,ws.eraseIdx 0++[ws[0]],(s4.over hlH).over hlH,upd_same,(((words_erase e2 0).snoc f2).mono (TK.lst e1)).mono (TK.lst upd_same),by rw[List.length_append,hln];simp;omega,fun u hu=>?_,fun h=>by omega⟩,rfl⟩⟩
   rcases List.mem_append.mp hu with hu|hu
   ·exact e4 u (List.mem_of_mem_eraseIdx hu)
   ·rw[List.mem_singleton.mp hu];exact e4 _ (List.getElem_mem hwl0)
  obtain⟨hI2,rfl⟩:=(hR _ _ _).mp h4'
  refine⟨R 10,?_,fun σ5 H5 h5'=>?_⟩
  ·walk_at "rd"
   refine ite_or2 (fun hw=>?_) (fun hw=>(hR _ _ _).mpr ⟨wk hI2 (by omega),rfl⟩)
   obtain⟨xs',ws,s4,e1,e2,e3,e4,e5⟩:=(hIn _ _).mp hI2
   obtain⟨hwl,hw59⟩:=e5 (by omega)
   have hwsl:spot<ws.length:=by omega
   obtain⟨t0,f1,f2⟩:=e2.2 spot ws[spot] (List.getElem?_eq_getElem hwsl)
   have h59:=hw59 _ (List.getElem_mem hwsl)
   refine⟨_,SqL.of e1,_,atI_nat f1,⟨by decide,by decide,by decide⟩,by omega,fun p hp=>?_⟩
   obtain⟨y,hy⟩:∃y,atI [V.int (-1),V.int (N:Int),V.int (10 ^ Int.toNat 30)] (cell / 41%3)=some (V.int y):=by
    have g0:=Int.emod_nonneg (cell / 41) (show (3:Int)≠0 by omega)
    have g1:=Int.emod_lt_of_pos (cell / 41) (show (0:Int)<3 by omega)
    rcases (show cell / 41%3=0\/cell / 41%3=1\/cell / 41%3=2 by omega) with e|e|e<;>rw[e]
    ·exact⟨_,rfl⟩
    ·exact⟨_,rfl⟩
    ·exact⟨_,rfl⟩
   refine⟨⟨by decide,by decide⟩,by decide,_,SqL.of upd_same,_,hy,by omega,fun p2 hp2=>?_⟩
   have sp:=(Same.new hp (o:=.lst [V.int (-1),V.int (N:Int),V.int (10 ^ Int.toNat 30)])).newT hp2 (o:=.tup [V.int y])
   refine rCatT2.ofS (sp _ _ f2) upd_same (by simp;omega) fun q H6 s6 hq=>?_
   have s46:=sp.trans s6
   have hq':H6 q=some (.tup ((ws[spot]++[y]).map V.int)):=by rw[List.map_append];exact hq
   refine⟨_,s46 _ _ e1,spot,ixN_nat49 (by rw[e2.1];omega),(hR _ _ _).mpr ⟨(hIn _ _).mpr ⟨_,ws.set spot (ws[spot]++[y]),(s4.trans s46).over hlH,upd_same,(words_set (e2.mono (TK.of s46)) spot hq').mono (TK.lst (s46 _ _ e1)),by rw[List.length_set];omega,fun u hu=>?_,fun h=>by omega⟩,rfl⟩⟩
   rcases List.mem_or_eq_of_mem_set hu with hu|rfl
   ·exact e4 u hu
   ·rw[List.length_append];simp;omega
  obtain⟨hI3,rfl⟩:=(hR _ _ _).mp h5'
  obtain⟨xs',ws,s4,e1,e2,e3,e4,e5⟩:=(hIn _ _).mp hI3
  have B:=S.b
  walk_at "rd"
  refine⟨by decide,ite2 (fun h0=>?_) (fun h0=>?_)⟩
  ·refine⟨_,.inl ⟨SqL.of e1,fun l1 hl1=>⟨by omega,fun q hq=>?_⟩⟩⟩
   have s5:=(Same.new hl1 (o:=.tup xs')).newT hq (o:=.tup [V.int N,V.ref l1,V.ref te,V.ref th])
   have s45:=s4.trans s5
   exact k q N xs' ys ws ends es _ s45 (ppr_of upd_same (SqT.of (Same.new hq _ _ upd_same)) (e2.mono (TK.of s5)) (s45.seqT h4) (h5.mono (TK.of s45)) (s45 _ _ h6) h7 (h8.mono s45)) ⟨B.n1,B.n6,by rcases hb6 with ⟨_,h⟩|⟨h,_⟩<;>omega,B.el,B.hl,e4,B.we,B.wh⟩
  ·refine⟨_,.inl ⟨SqL.of e1,fun l1 hl1=>⟨by omega,fun q hq=>?_⟩⟩⟩
   have s5:=(Same.new hl1 (o:=.tup xs')).newT hq (o:=.tup [V.int N,V.ref ta,V.ref l1,V.ref th])
   have s45:=s4.trans s5
   exact k q N xs xs' acc ws es _ s45 (ppr_of upd_same (s45.seqT h2) (h3.mono (TK.of s45)) (SqT.of (Same.new hq _ _ upd_same)) (e2.mono (TK.of s5)) (s45 _ _ h6) h7 (h8.mono s45)) ⟨B.n1,B.n6,B.al,by omega,B.hl,B.wa,e4,B.wh⟩
theorem ok__law_spoiled_pairs {f:Addr}{fd:FuncData}(F:Fun K "_law_spoiled_pairs" "_law_spoiled_pairs" s__law_spoiled_pairs f fd)(T:Txt mg)
  (Z:Exs K mg C_AskError C_NoPaper C_NoText)
  : FnOk P w K mg base CX0 1 f fd ["note","way","cell"] (sp_spoil49 K 0 10):=by
 refine F.ok sc__law_spoiled_pairs (fun vs H Q E h=>?_) (fun cdv A outer s H vs Q E hr h=>?_)
 ·obtain⟨a,N,xs,ys,acc,ends,es,way,cell,rfl,_⟩:=h;rfl
 ·obtain⟨a,N,xs,ys,acc,ends,es,way,cell,rfl,P,S,w0,w1,c0,k⟩:=h
  have hl:=line1000
  refine⟨_,(pss_cons (ps_asg (pvD 0) (pg_tup rfl (pgs_cons (pg_name (i:=3) sc__law_spoiled_pairs.nd rfl (Or.inl rfl)) (pgs_cons (pg_name (i:=4) sc__law_spoiled_pairs.nd rfl (Or.inl rfl)) (pgs_cons (pg_name (i:=5) sc__law_spoiled_pairs.nd rfl (Or.inl rfl)) (pgs_cons (pg_name (i:=6) sc__law_spoiled_pairs.nd rfl (Or.inl rfl)) pgs_nil))))))
   (pss_cons (ps_setL (i:=7) sc__law_spoiled_pairs.nd (pe_callTy call_list_of rfl T.list PyProof.Rows.boot_list (pa_cons (pvD 6) pa_nil)))
   (pss_cons (ps_setL (i:=8) sc__law_spoiled_pairs.nd (pe_op (opD op_mod) (pvD 2) (pe_callB (lenD call_len_seq) (by rfl) T.len PySem.boot_len (pa_cons (pvD 7) pa_nil))))
   (pss_cons (ps_asg (pe_ixA (ixLD ix_list) (pvD 7) (pvD 8)) (pg_tup rfl (pgs_cons (pg_name (i:=9) sc__law_spoiled_pairs.nd rfl (Or.inl rfl)) (pgs_cons (pg_name (i:=10) sc__law_spoiled_pairs.nd rfl (Or.inl rfl)) pgs_nil))))
   (pss_cut (ps_if (ptT (pt_cmpR (opE op_eq) (pvD 1) pe_int (nomark _)))
   (pss_one (ps_expr (pe_bm PySem.F.plainAttrs_list PySem.F.slot_list_pop PySem.F.type_list_pop mt_popAt (pvD 7) (pa_cons (pvD 8) pa_nil))))
   pss_nil)
   (pss_cut (ps_if (ptT (pt_cmpR (opE op_eq) (pvD 1) pe_int (nomark _)))
   (pss_one (ps_asg (pe_tup (pa_cons (pvD 9) (pa_cons (pe_op (opD op_mod) (pe_ixA (ixLD ix_list) (pe_lst (pa_cons (pe_op (opD0 op_add) (pvD 10) pe_int) (pa_cons pe_int (pa_cons pe_int (pa_cons (pe_ixA (ixTD ix_tup) (pe_ixA (ixLD ix_list) (pvD 7) (pe_op (opD op_mod) (pe_op (opD op_fdiv) (pvD 2) pe_int) (pe_callB (lenD call_len_seq) (by rfl) T.len PySem.boot_len (pa_cons (pvD 7) pa_nil)))) pe_int) pa_nil))))) (pe_op (opD op_mod) (pe_op (opD op_fdiv) (pvD 2) pe_int) pe_int)) pe_int) pa_nil))) (pg_sub (pvD 7) (pvD 8) set_list)))
   pss_nil)
   (pss_cut (ps_if (ptT (pt_cmpR (opE op_eq) (pvD 1) pe_int (nomark _)))
   (pss_one (ps_expr (pe_bm PySem.F.plainAttrs_list PySem.F.slot_list_insert PySem.F.type_list_insert mt_insert (pvD 7) (pa_cons (pe_op (opD op_mod) (pe_op (opD op_fdiv) (pvD 2) pe_int) (pe_callB (lenD call_len_seq) (by rfl) T.len PySem.boot_len (pa_cons (pvD 7) pa_nil))) (pa_cons (pe_tup (pa_cons (pvD 9) (pa_cons (pvD 10) pa_nil))) pa_nil)))))
   pss_nil)
   (pss_cut (ps_if (ptT (pt_cmpR (opE op_eq) (pvD 1) pe_int (nomark _)))
   (pss_one (ps_expr (pe_bm PySem.F.plainAttrs_list PySem.F.slot_list_insert PySem.F.type_list_insert mt_insert (pvD 7) (pa_cons (pe_op (opD op_mod) (pe_op (opD op_fdiv) (pvD 2) pe_int) (pe_callB (lenD call_len_seq) (by rfl) T.len PySem.boot_len (pa_cons (pvD 7) pa_nil))) (pa_cons (pe_tup (pa_cons (pvD 9) (pa_cons (pe_op (opD op_mod) (pe_op (opD0 op_add) (pvD 10) pe_int) pe_int) pa_nil))) pa_nil)))))
   pss_nil)
   (pss_cut (ps_if (ptT (pt_cmpR (opE op_eq) (pvD 1) pe_int (nomark _)))
   (pss_one (ps_expr (pe_bm PySem.F.plainAttrs_list PySem.F.slot_list_append PySem.F.type_list_append mt_append (pvD 7) (pa_cons (pe_tup (pa_cons (pe_op op_catT2 (pvD 9) (pe_tup (pa_cons (pvD 3) pa_nil))) (pa_cons (pvD 10) pa_nil))) pa_nil))))
   pss_nil)
   (pss_one (ps_ret (pe_tup (pa_cons (pvD 3) (pa_cons (pvD 4) (pa_cons (pvD 5) (pa_cons (pe_callTy call_tuple_F rfl T.tuple PyProof.Rows.boot_tuple (pa_cons (pvD 7) pa_nil)) pa_nil)))))))))))))))),?_⟩
  obtain⟨ta,te,th,o,ts,h1,h2,h3,h4,h5,h6,h7,h8⟩:=id P
  walk_at "rd"
  have he1:=S.h1
  have hehl:=S.hl
  have hpl:ts.length=es.length:=by rw[h8.1];unfold ents;rw[List.length_map]
  obtain⟨spot,hsp,hspl⟩:=emodN (c:=cell) (n:=es.length) (by omega)
  have hq8:SqT K H th (ts.map V.ref):=.inl (.inr ⟨o,h6⟩)
  refine⟨_,h1,rfl,_,_,rfl,_,_,rfl,_,_,rfl,_,_,rfl,rfl,th,rfl,_,.inr hq8,fun l hl'=>?_⟩
  have s1:=Same.new hl' (o:=.lst (ts.map V.ref))
  obtain⟨tw,r1,r2⟩:=h8.2 spot (wkey es[spot].1,.int es[spot].2) (ts[spot]'(by omega)) (by unfold ents;rw[List.getElem?_map,List.getElem?_eq_getElem hspl];rfl) (List.getElem?_eq_getElem (by omega))
  rw[wkey_kV]at r2
  have hwl:=S.wh _ (List.getElem_mem hspl)
  have hstl:spot<ts.length:=by omega
  obtain⟨tq,htq⟩:∃tq,ts[spot]?=some tq:=⟨ts[spot],List.getElem?_eq_getElem hstl⟩
  have r1':Rd H tq (.tup [.ref tw,.int es[spot].2]):=by
   have:ts[spot]=tq:=(List.getElem?_eq_some_iff.mp htq).2
   rw[<-this];exact r1
  refine⟨_,.inl (SqL.of upd_same),by rw[List.length_map,hpl];omega,_,SqL.of upd_same,V.ref tq,by rw[List.length_map,hpl,hsp];exact atI_nat (by rw[List.getElem?_map,htq];rfl),tq,rfl,_,s1.seqT (.inl r1'),rfl,_,_,rfl,_,_,rfl,rfl,?_⟩
  rw[List.length_map,hpl,hsp]
  obtain⟨wd,hwd⟩:∃wd,wd=es[spot].1:=⟨_,rfl⟩
  obtain⟨mk,hmk⟩:∃mk,mk=es[spot].2:=⟨_,rfl⟩
  rw[<-hwd]at r2 hwl
  rw[<-hmk]
  obtain⟨In,hIn⟩:∃In:Int->Hp->Prop,∀b H',In b H'↔(∃(ts':List Addr) (es':List (List Int×Int)),Same H H'/\H' l=some (.lst (ts'.map V.ref))/\PrsAt H' ts' (ents es')/\es'.length<=501/\(∀q∈es',q.1.length<=510)/\(b<=way->ts'=ts/\es'=es)):=⟨_,fun _ _=>Iff.rfl⟩
  obtain⟨R,hR⟩:∃R:Int->St->Hp->Prop,∀b σ' H',R b σ' H'↔(In b H'/\σ'=[some (.ref a),some (.int way),some (.int cell),some (.int N),some (.ref ta),some (.ref te),some (.ref th),some (.ref l),some (.int spot),some (.ref tw),some (.int mk)]):=⟨_,fun _ _ _=>Iff.rfl⟩
  have hI0:In 0 (upd H l (.lst (ts.map V.ref))):=(hIn _ _).mpr ⟨ts,es,s1,upd_same,h8.mono s1,by omega,fun q hq=>by have:=S.wh q hq;omega,fun _=>⟨rfl,rfl⟩⟩
  generalize upd H l (.lst (ts.map V.ref))=Ha at hI0
  have wk:∀{b b':Int} {Hc:Hp},In b Hc->b<=b'->In b' Hc:=fun {b b' Hc} hi hb=>by
   obtain⟨ts',es',s4,e1,e2,e3,e4,e5⟩:=(hIn _ _).mp hi
   exact (hIn _ _).mpr ⟨ts',es',s4,e1,e2,e3,e4,fun h=>e5 (by omega)⟩
  have nxt:∀(b:Int) (Hc Hd:Hp) (ts':List Addr) (es':List (List Int×Int)) (o':List V),Same H Hc->Same Hc Hd->way<b->o'=ts'.map V.ref->PrsAt Hd ts' (ents es')->(∃xs,Hd l=some (.lst xs))->es'.length<=501->(∀q∈es',q.1.length<=510)->In b (upd Hd l (.lst o')):=fun b Hc Hd ts' es' o' sc sd hb ho hP hx h1 h2=>by
   obtain⟨xs0,hx⟩:=hx
   refine (hIn _ _).mpr ⟨ts',es',(sc.trans sd).over hl',by rw[upd_same,ho],⟨hP.1,fun j p q a b=>?_⟩,h1,h2,fun h=>by omega⟩
   obtain⟨c,g1,g2⟩:=hP.2 j p q a b
   have ne:∀{x:Addr} {u:HO},Hd x=some u->(∀z,u ≠ .lst z)->upd Hd l (.lst o') x=some u:=fun {x u} hxu hz=>by rw[upd_ne (fun z=>by rw[z,hx]at hxu;cases hxu;exact hz _ rfl)];exact hxu
   refine⟨c,?_,ne g2 (fun z e=>by cases e)⟩
   rcases g1 with g1|⟨od,g1⟩
   ·exact .inl (ne g1 (fun z e=>by cases e))
   ·exact .inr ⟨od,ne g1 (fun z e=>by cases e)⟩
  have w5:∀q∈es,q.1.length<=510:=fun q hq=>by have:=S.wh q hq;omega
  obtain⟨kx,hkx,hkl⟩:=emodN (c:=cell / 41) (n:=es.length) (by omega)
  have insL:∀q:Addr,(ts.map V.ref).take kx++V.ref q::(ts.map V.ref).drop kx=(ts.take kx++([q]++ts.drop kx)).map V.ref:=fun q=>by rw[List.map_append,List.map_append,List.map_take,List.map_drop];rfl
  have insP:∀(Hd:Hp) (q b:Addr) (m:Int) (u:List Int),Same H Hd->Hd q=some (.tup [.ref b,.int m])->Hd b=some (.tup (u.map V.int))->PrsAt Hd (ts.take kx++([q]++ts.drop kx)) (ents (es.take kx++([(u,m)]++es.drop kx))):=fun Hd q b m u sd hq hb=>by
   rw[ents_app,ents_app,ents_take,ents_drop]
   exact prs_app (prs_take (h8.mono sd) kx) (prs_app (prs_one hq hb) (prs_drop (h8.mono sd) kx))
  have insW:∀(u:List Int) (m:Int),u.length<=510->(es.take kx++([(u,m)]++es.drop kx)).length<=501/\∀q∈es.take kx++([(u,m)]++es.drop kx),q.1.length<=510:=fun u m hu=>by
   refine⟨by rw[List.length_append,List.length_append,List.length_take,List.length_drop];simp;omega,fun q hq=>?_⟩
   rcases List.mem_append.mp hq with hq|hq
   ·exact w5 q (List.mem_of_mem_take hq)
   ·rcases List.mem_append.mp hq with hq|hq
    ·rw[List.mem_singleton.mp hq];exact hu
    ·exact w5 q (List.mem_of_mem_drop hq)
  refine⟨R 1,?_,fun σ3 H3 h3'=>?_⟩
  ·walk_at "rd"
   refine ite2 (fun hw=>?_) (fun hw=>(hR _ _ _).mpr ⟨wk hI0 (by omega),rfl⟩)
   obtain⟨ts',es',s4,e1,e2,e3,e4,e5⟩:=(hIn _ _).mp hI0
   obtain⟨rfl,rfl⟩:=e5 (by omega)
   have hxl:spot<(ts'.map V.ref).length:=by rw[List.length_map];omega
   refine⟨.inl ⟨rfl,_,SqL.of e1⟩,_,e1,by omega,by omega,spot,seqIx hxl,_,List.getElem?_eq_getElem hxl,(hR _ _ _).mpr ⟨nxt 1 Ha Ha (ts'.take spot++ts'.drop (spot+1)) (es'.take spot++es'.drop (spot+1)) _ s4 (Same.refl _) (by omega) ?_ ?_ ⟨_,e1⟩ ?_ ?_,rfl⟩⟩
   ·rw[List.eraseIdx_eq_take_drop_succ,List.map_append,List.map_take,List.map_drop]
   ·rw[ents_app,ents_take,ents_drop]
    exact prs_app (prs_take e2 _) (prs_drop e2 _)
   ·rw[List.length_append,List.length_take,List.length_drop];omega
   ·intro q hq
    rcases List.mem_append.mp hq with hq|hq
    ·exact e4 q (List.mem_of_mem_take hq)
    ·exact e4 q (List.mem_of_mem_drop hq)
  obtain⟨hI1,rfl⟩:=(hR _ _ _).mp h3'
  refine⟨R 2,?_,fun σ4 H4 h4'=>?_⟩
  ·walk_at "rd"
   refine ite2 (fun hw=>?_) (fun hw=>(hR _ _ _).mpr ⟨wk hI1 (by omega),rfl⟩)
   obtain⟨ts',es',s4,e1,e2,e3,e4,e5⟩:=(hIn _ _).mp hI1
   obtain⟨rfl,rfl⟩:=e5 (by omega)
   have hml:(ts'.map V.ref).length=es'.length:=by rw[List.length_map,hpl]
   have hktl:kx<ts'.length:=by omega
   obtain⟨tk,htk⟩:∃tk,ts'[kx]?=some tk:=⟨ts'[kx],List.getElem?_eq_getElem hktl⟩
   obtain⟨bk,z1,z2⟩:=e2.2 kx (wkey es'[kx].1,.int es'[kx].2) tk (by unfold ents;rw[List.getElem?_map,List.getElem?_eq_getElem hkl];rfl) htk
   refine⟨⟨by decide,by decide⟩,_,.inl (SqL.of e1),by rw[hml];omega,_,SqL.of e1,V.ref tk,by rw[hml,hkx];exact atI_nat (by rw[List.getElem?_map,htk];rfl),tk,rfl,_,.inl z1,_,rfl,by omega,fun p hp=>?_⟩
   obtain⟨y,hy⟩:∃y,atI [V.int (mk+1),V.int 1,V.int 2,V.int es'[kx].2] (cell / 7%4)=some (V.int y):=by
    have g0:=Int.emod_nonneg (cell / 7) (show (4:Int)≠0 by omega)
    have g1:=Int.emod_lt_of_pos (cell / 7) (show (0:Int)<4 by omega)
    rcases (show cell / 7%4=0\/cell / 7%4=1\/cell / 7%4=2\/cell / 7%4=3 by omega) with e|e|e|e<;>rw[e]
    ·exact⟨_,rfl⟩
    ·exact⟨_,rfl⟩
    ·exact⟨_,rfl⟩
    ·exact⟨_,rfl⟩
   refine⟨⟨by decide,by decide⟩,by decide,_,SqL.of upd_same,_,hy,y,rfl,by decide,by omega,fun p2 hp2=>?_⟩
   have sp:=(Same.new hp (o:=.lst [V.int (mk+1),V.int 1,V.int 2,V.int es'[kx].2])).newT hp2 (o:=.tup [V.ref tw,V.int (y%1000000001)])
   refine⟨_,sp _ _ e1,spot,ixN_nat49 (by rw[hml];omega),(hR _ _ _).mpr ⟨nxt 2 H3 _ (ts'.take spot++([p2]++ts'.drop (spot+1))) (es'.take spot++([(wd,y%1000000001)]++es'.drop (spot+1))) _ s4 sp (by omega) ?_ ?_ ⟨_,sp _ _ e1⟩ ?_ ?_,rfl⟩⟩
   ·rw[List.set_eq_take_append_cons_drop,if_pos (by rw[hml];omega),List.map_append,List.map_append,List.map_take,List.map_drop];rfl
   ·rw[ents_app,ents_app,ents_take,ents_drop]
    exact prs_app (prs_take (e2.mono sp) _) (prs_app (prs_one upd_same ((s4.trans sp) _ _ r2)) (prs_drop (e2.mono sp) _))
   ·rw[List.length_append,List.length_append,List.length_take,List.length_drop];simp;omega
   ·intro q hq
    rcases List.mem_append.mp hq with hq|hq
    ·exact e4 q (List.mem_of_mem_take hq)
    ·rcases List.mem_append.mp hq with hq|hq
     ·rw[List.mem_singleton.mp hq];show wd.length<=510;omega
     ·exact e4 q (List.mem_of_mem_drop hq)
  obtain⟨hI2,rfl⟩:=(hR _ _ _).mp h4'
  refine⟨R 3,?_,fun σ5 H5 h5'=>?_⟩
  ·walk_at "rd"
   refine ite2 (fun hw=>?_) (fun hw=>(hR _ _ _).mpr ⟨wk hI2 (by omega),rfl⟩)
   obtain⟨ts',es',s4,e1,e2,e3,e4,e5⟩:=(hIn _ _).mp hI2
   obtain⟨rfl,rfl⟩:=e5 (by omega)
   have hml:(ts'.map V.ref).length=es'.length:=by rw[List.length_map,hpl]
   refine⟨.inl ⟨rfl,_,SqL.of e1⟩,⟨by decide,by decide⟩,_,.inl (SqL.of e1),by rw[hml];omega,by omega,fun p hp=>?_⟩
   rw[hml,hkx,Int.toNat_natCast]
   have sp:=Same.new hp (o:=.tup [V.ref tw,V.int (mk)])
   refine⟨_,sp _ _ e1,by omega,by rw[hml];omega,by rw[hml];omega,(hR _ _ _).mpr ⟨?_,rfl⟩⟩
   rw[insL p]
   exact nxt 3 H4 _ _ _ _ s4 sp (by omega) rfl (insP _ p tw (mk) wd (s4.trans sp) upd_same ((s4.trans sp) _ _ r2)) ⟨_,sp _ _ e1⟩ (insW wd (mk) (by omega)).1 (insW wd (mk) (by omega)).2
  obtain⟨hI3,rfl⟩:=(hR _ _ _).mp h5'
  refine⟨R 10,?_,fun σ6 H6 h6'=>?_⟩
  ·walk_at "rd"
   refine ite2 (fun hw=>?_) (fun hw=>(hR _ _ _).mpr ⟨wk hI3 (by omega),rfl⟩)
   obtain⟨ts',es',s4,e1,e2,e3,e4,e5⟩:=(hIn _ _).mp hI3
   obtain⟨rfl,rfl⟩:=e5 (by omega)
   have hml:(ts'.map V.ref).length=es'.length:=by rw[List.length_map,hpl]
   refine⟨.inl ⟨rfl,_,SqL.of e1⟩,⟨by decide,by decide⟩,_,.inl (SqL.of e1),by rw[hml];omega,by decide,by omega,fun p hp=>?_⟩
   rw[hml,hkx,Int.toNat_natCast]
   have sp:=Same.new hp (o:=.tup [V.ref tw,V.int ((mk+1)%1000000001)])
   refine⟨_,sp _ _ e1,by omega,by rw[hml];omega,by rw[hml];omega,(hR _ _ _).mpr ⟨?_,rfl⟩⟩
   rw[insL p]
   exact nxt 10 H5 _ _ _ _ s4 sp (by omega) rfl (insP _ p tw ((mk+1)%1000000001) wd (s4.trans sp) upd_same ((s4.trans sp) _ _ r2)) ⟨_,sp _ _ e1⟩ (insW wd ((mk+1)%1000000001) (by omega)).1 (insW wd ((mk+1)%1000000001) (by omega)).2
  obtain⟨hI4,rfl⟩:=(hR _ _ _).mp h6'
  refine⟨R 11,?_,fun σ7 H7 h7'=>?_⟩
  ·walk_at "rd"
   refine ite2 (fun hw=>?_) (fun hw=>(hR _ _ _).mpr ⟨wk hI4 (by omega),rfl⟩)
   obtain⟨ts',es',s4,e1,e2,e3,e4,e5⟩:=(hIn _ _).mp hI4
   obtain⟨rfl,rfl⟩:=e5 (by omega)
   have hml:(ts'.map V.ref).length=es'.length:=by rw[List.length_map,hpl]
   refine⟨.inl ⟨rfl,_,SqL.of e1⟩,by omega,fun p hp=>?_⟩
   have sp:=Same.new hp (o:=.tup [V.int (N:Int)])
   refine rCatT2.ofS ((s4.trans sp) _ _ r2) upd_same (by simp;omega) fun q H8 s8 hq=>⟨by omega,fun p2 hp2=>?_⟩
   have s9:=(sp.trans s8).newT hp2 (o:=.tup [V.ref q,V.int mk])
   have hq':upd H8 p2 (.tup [V.ref q,V.int mk]) q=some (.tup ((wd++[(N:Int)]).map V.int)):=by rw[List.map_append];exact Same.new hp2 _ _ hq
   refine⟨_,s9 _ _ e1,by rw[hml];omega,(hR _ _ _).mpr ⟨nxt 11 H6 _ (ts'++[p2]) (es'++[(wd++[(N:Int)],mk)]) _ s4 s9 (by omega) (by rw[List.map_append];rfl) (by rw[ents_app];exact prs_app (e2.mono s9) (prs_one upd_same hq')) ⟨_,s9 _ _ e1⟩ (by rw[List.length_append];simp;omega) (fun z hz=>?_),rfl⟩⟩
   rcases List.mem_append.mp hz with hz|hz
   ·exact e4 z hz
   ·rw[List.mem_singleton.mp hz]
    show (wd++[(N:Int)]).length<=510
    rw[List.length_append];simp;omega
  obtain⟨hI5,rfl⟩:=(hR _ _ _).mp h7'
  obtain⟨ts',es',s4,e1,e2,e3,e4,e5⟩:=(hIn _ _).mp hI5
  walk_at "rd"
  have B:=S.b
  refine⟨_,SqL.of e1,fun l1 o1 hl1 ho1=>⟨by omega,fun q hq=>?_⟩⟩
  have s5:=(Same.new hl1 (o:=.frz o1 (.tup (ts'.map V.ref)))).newT hq (o:=.tup [V.int N,V.ref ta,V.ref te,V.ref l1])
  have s45:=s4.trans s5
  exact k q N xs ys acc ends es' _ s45 (ppr_of upd_same (s45.seqT h2) (h3.mono (TK.of s45)) (s45.seqT h4) (h5.mono (TK.of s45)) (Same.new hq _ _ upd_same) ho1 (e2.mono s5)) ⟨B.n1,B.n6,B.al,B.el,by omega,B.wa,B.we,e4⟩
theorem ok__law_spoiled_rest {f:Addr}{fd:FuncData}(F:Fun K "_law_spoiled_rest" "_law_spoiled_rest" s__law_spoiled_rest f fd)(T:Txt mg)
  (Z:Exs K mg C_AskError C_NoPaper C_NoText)
  : FnOk P w K mg base CX0 1 f fd ["note","way","cell"] (sp_spoil49 K 11 17):=by
 refine F.ok sc__law_spoiled_rest (fun vs H Q E h=>?_) (fun cdv A outer s H vs Q E hr h=>?_)
 ·obtain⟨a,N,xs,ys,acc,ends,es,way,cell,rfl,_⟩:=h;rfl
 ·obtain⟨a,N,xs,ys,acc,ends,es,way,cell,rfl,P,S,w0,w1,c0,k⟩:=h
  have hl:=line1000
  refine⟨_,(pss_cons (ps_asg (pvD 0) (pg_tup rfl (pgs_cons (pg_name (i:=3) sc__law_spoiled_rest.nd rfl (Or.inl rfl)) (pgs_cons (pg_name (i:=4) sc__law_spoiled_rest.nd rfl (Or.inl rfl)) (pgs_cons (pg_name (i:=5) sc__law_spoiled_rest.nd rfl (Or.inl rfl)) (pgs_cons (pg_name (i:=6) sc__law_spoiled_rest.nd rfl (Or.inl rfl)) pgs_nil))))))
   (pss_cons (ps_setL (i:=7) sc__law_spoiled_rest.nd (pe_op (opD op_mod) (pvD 2) (pe_callB (lenD call_len_seq) (by rfl) T.len PySem.boot_len (pa_cons (pvD 4) pa_nil))))
   (pss_cons (ps_if (ptT (pt_cmpR (opE op_eq) (pvD 1) pe_int (nomark _)))
   (pss_one (ps_ret (pe_tup (pa_cons (pe_callB (call_min2 rfl) rfl T.min PyProof.Rows.boot_min (pa_cons pe_int (pa_cons (pe_op (opD0 op_add) (pvD 3) pe_int) pa_nil))) (pa_cons (pvD 4) (pa_cons (pvD 5) (pa_cons (pvD 6) pa_nil)))))))
   pss_nil)
   (pss_cons (ps_if (ptT (pt_cmpR (opE op_eq) (pvD 1) pe_int (nomark _)))
   (pss_one (ps_ret (pe_tup (pa_cons (pe_callB (call_max2 rfl) rfl T.max PyProof.Rows.boot_max (pa_cons pe_int (pa_cons (pe_op (opD0 op_sub) (pvD 3) pe_int) pa_nil))) (pa_cons (pvD 4) (pa_cons (pvD 5) (pa_cons (pvD 6) pa_nil)))))))
   pss_nil)
   (pss_cons (ps_if (ptT (pt_cmpR (opE op_eq) (pvD 1) pe_int (nomark _)))
   (pss_one (ps_ret (pe_tup (pa_cons (pvD 3) (pa_cons (pe_op op_catT2 (pvD 4) (pe_tup (pa_cons (pe_ixA (ixTD ix_tup) (pvD 4) (pvD 7)) pa_nil))) (pa_cons (pvD 5) (pa_cons (pvD 6) pa_nil)))))))
   pss_nil)
   (pss_cons (ps_if (ptT (pt_cmpR (opE op_eq) (pvD 1) pe_int (nomark _)))
   (pss_one (ps_ret (pe_tup (pa_cons (pvD 3) (pa_cons (pe_op op_catT2 (pvD 4) (pe_tup (pa_cons (pe_op op_catT2 (pe_ixA (ixTD ix_tup) (pvD 4) (pvD 7)) (pe_tup (pa_cons (pe_op (opD op_mod) (pe_op (opD op_fdiv) (pvD 2) pe_int) (pvD 3)) pa_nil))) pa_nil))) (pa_cons (pvD 5) (pa_cons (pvD 6) pa_nil)))))))
   pss_nil)
   (pss_cons (ps_if (ptT (pt_cmpR (opE op_eq) (pvD 1) pe_int (nomark _)))
   (pss_one (ps_ret (pe_tup (pa_cons (pvD 3) (pa_cons (pvD 4) (pa_cons (pe_op op_catT2 (pvD 5) (pe_tup (pa_cons (pe_ixA (ixTD ix_tup) (pvD 5) (pe_op (opD op_mod) (pvD 2) (pe_callB (lenD call_len_seq) (by rfl) T.len PySem.boot_len (pa_cons (pvD 5) pa_nil)))) pa_nil))) (pa_cons (pvD 6) pa_nil)))))))
   pss_nil)
   (pss_cons (ps_if (ptT (pt_cmpR (opE op_eq) (pvD 1) pe_int (nomark _)))
   (pss_one (ps_ret (pe_tup (pa_cons (pvD 3) (pa_cons (pvD 4) (pa_cons (pe_tup pa_nil) (pa_cons (pvD 6) pa_nil)))))))
   pss_nil)
   (pss_one (ps_ret (pe_tup (pa_cons (pvD 3) (pa_cons (pe_slice sl_tup2 (pvD 4) po_none (po_some (pvD 7))) (pa_cons (pvD 5) (pa_cons (pvD 6) pa_nil))))))))))))))),?_⟩
  obtain⟨ta,te,th,o,ts,h1,h2,h3,h4,h5,h6,h7,h8⟩:=id P
  walk_at "rd"
  have hal:=S.al
  have hel:=S.el
  have ha1:=S.a1
  have he1:=S.e1
  have hn1:=S.n1
  have hn6:=S.n6
  have B:=S.b
  obtain⟨sp,hsp,hspl⟩:=emodN (c:=cell) (n:=acc.length) (by omega)
  obtain⟨sq,hsq,hsql⟩:=emodN (c:=cell) (n:=ends.length) (by omega)
  obtain⟨tu,f1,f2⟩:=h3.2 sp acc[sp] (List.getElem?_eq_getElem hspl)
  obtain⟨tv,g1,g2⟩:=h5.2 sq ends[sq] (List.getElem?_eq_getElem hsql)
  have fin:∀(H':Hp) (p ta' te':Addr) (N':Nat) (xs' ys':List V) (acc' ends':List (List Int)),Same H H'->H' p=none->SqT K H' ta' xs'->WordsT K H' xs' acc'->SqT K H' te' ys'->WordsT K H' ys' ends'->1<=N'->N'<=6->acc'.length<=6->ends'.length<=12->(∀u∈acc',u.length<=60)->(∀u∈ends',u.length<=60)->Q (.ref p) (upd H' p (.tup [.int N',.ref ta',.ref te',.ref th])):=fun H' p ta' te' N' xs' ys' acc' ends' s' hp b1 b2 b3 b4 n1 n6 l1 l2 w1 w2=>by
   have sp:=Same.new hp (o:=.tup [.int N',.ref ta',.ref te',.ref th])
   exact k p N' xs' ys' acc' ends' es _ (s'.trans sp) (ppr_of upd_same (sp.seqT b1) (b2.mono (TK.of sp)) (sp.seqT b3) (b4.mono (TK.of sp)) ((s'.trans sp) _ _ h6) h7 (h8.mono (s'.trans sp))) ⟨n1,n6,l1,l2,B.hl,w1,w2,B.wh⟩
  refine⟨_,h1,rfl,_,_,rfl,_,_,rfl,_,_,rfl,_,_,rfl,rfl,ta,rfl,_,.inr h2,by rw[h3.1];omega,?_⟩
  rw[h3.1,hsp]
  refine ite2 (fun _=>?_) (fun _=>ite2 (fun _=>?_) (fun _=>ite2 (fun _=>?_) (fun _=>ite2 (fun _=>?_) (fun _=>ite2 (fun _=>?_) (fun _=>ite2 (fun _=>?_) (fun _=>?_))))))
  ·obtain⟨N',hN',n1,n6⟩:∃N':Nat,(if (N:Int)+1<6 then (N:Int)+1 else 6)=(N':Int)/\1<=N'/\N'<=6:=by
    split
    ·exact⟨N+1,by omega,by omega,by omega⟩
    ·exact⟨6,by omega,by omega,by omega⟩
   refine⟨_,rfl,by omega,fun p hp=>?_⟩
   rw[hN']
   exact fin H p ta te N' xs ys acc ends (Same.refl _) hp h2 h3 h4 h5 n1 n6 B.al B.el B.wa B.we
  ·obtain⟨N',hN',n1,n6⟩:∃N':Nat,(if (N:Int)-1 > 1 then (N:Int)-1 else 1)=(N':Int)/\1<=N'/\N'<=6:=by
    split
    ·exact⟨N-1,by omega,by omega,by omega⟩
    ·exact⟨1,by omega,by omega,by omega⟩
   refine⟨_,rfl,by omega,fun p hp=>?_⟩
   rw[hN']
   exact fin H p ta te N' xs ys acc ends (Same.refl _) hp h2 h3 h4 h5 n1 n6 B.al B.el B.wa B.we
  ·refine⟨ta,rfl,_,h2,_,atI_nat f1,by omega,fun p hp=>?_⟩
   have sp':=Same.new hp (o:=.tup [V.ref tu])
   refine rCatT2.of (sp'.seqT h2) (SqT.of upd_same) (by rw[h3.1];simp;omega) fun q H1 s1 hq=>⟨by omega,fun r hr=>?_⟩
   have s2:=sp'.trans s1
   exact fin H1 r q te N _ ys (acc++[acc[sp]]) ends s2 hr hq ((h3.mono (TK.of s2)).snoc (s2 _ _ f2)) (s2.seqT h4) (h5.mono (TK.of s2)) hn1 hn6 (by rw[List.length_append];simp;omega) B.el (fun u hu=>by
    rcases List.mem_append.mp hu with hu|hu
    ·exact B.wa u hu
    ·rw[List.mem_singleton.mp hu];exact B.wa _ (List.getElem_mem hspl)) B.we
  ·refine⟨ta,rfl,_,h2,_,atI_nat f1,⟨by decide,by decide⟩,_,rfl,by omega,by omega,fun p hp=>?_⟩
   have sp':=Same.new hp (o:=.tup [V.int (cell / 7%(N:Int))])
   have hsl:=S.wa _ (List.getElem_mem hspl)
   refine rCatT2.ofS (sp' _ _ f2) upd_same (by simp;omega) fun q H1 s1 hq=>⟨by omega,fun p2 hp2=>?_⟩
   have s2:=(sp'.trans s1).newT hp2 (o:=.tup [V.ref q])
   refine rCatT2.of (s2.seqT h2) (SqT.of upd_same) (by rw[h3.1];simp;omega) fun q2 H2 s3 hq2=>⟨by omega,fun r hr=>?_⟩
   have s4:=s2.trans s3
   have hq':H2 q=some (.tup ((acc[sp]++[cell / 7%(N:Int)]).map V.int)):=by rw[List.map_append];exact ((Same.new hp2).trans s3) _ _ hq
   exact fin H2 r q2 te N _ ys (acc++[acc[sp]++[cell / 7%(N:Int)]]) ends s4 hr hq2 ((h3.mono (TK.of s4)).snoc hq') (s4.seqT h4) (h5.mono (TK.of s4)) hn1 hn6 (by rw[List.length_append];simp;omega) B.el (fun u hu=>by
    rcases List.mem_append.mp hu with hu|hu
    ·exact B.wa u hu
    ·rw[List.mem_singleton.mp hu,List.length_append];simp;omega) B.we
  ·refine⟨te,rfl,_,.inr h4,by rw[h5.1];omega,te,rfl,_,h4,_,by rw[h5.1,hsq];exact atI_nat g1,by omega,fun p hp=>?_⟩
   have sp':=Same.new hp (o:=.tup [V.ref tv])
   refine rCatT2.of (sp'.seqT h4) (SqT.of upd_same) (by rw[h5.1];simp;omega) fun q H1 s1 hq=>⟨by omega,fun r hr=>?_⟩
   have s2:=sp'.trans s1
   exact fin H1 r ta q N xs _ acc (ends++[ends[sq]]) s2 hr (s2.seqT h2) (h3.mono (TK.of s2)) hq ((h5.mono (TK.of s2)).snoc (s2 _ _ g2)) hn1 hn6 B.al (by rw[List.length_append];simp;omega) B.wa (fun u hu=>by
    rcases List.mem_append.mp hu with hu|hu
    ·exact B.we u hu
    ·rw[List.mem_singleton.mp hu];exact B.we _ (List.getElem_mem hsql))
  ·refine⟨by omega,fun p hp=>⟨by omega,fun r hr=>?_⟩⟩
   have sp':=Same.new hp (o:=.tup [])
   exact fin _ r ta p N xs [] acc [] sp' hr (sp'.seqT h2) (h3.mono (TK.of sp')) (SqT.of upd_same) WordsT.nil hn1 hn6 B.al (by simp) B.wa (fun u hu=>by cases hu)
  ·refine⟨ta,rfl,_,h2,fun p H1 s1 hp=>⟨by omega,fun r hr=>?_⟩⟩
   rw[cutV_take50]at hp
   exact fin H1 r p te N _ ys (acc.take sp) ends s1 hr hp ((h3.mono (TK.of s1)).takeN sp) (s1.seqT h4) (h5.mono (TK.of s1)) hn1 hn6 (by rw[List.length_take];omega) B.el (fun u hu=>B.wa u (List.mem_of_mem_take hu)) B.we
def dI (es:List (List Int×Int))(u:List Int):Option Int:=match valV (putAll [] (ents es)) (wkey u) with|some (.int m)=>some m|_=>none
def rowX (es:List (List Int×Int))(ends:List (List Int))(u:List Int):List (Option Int):=ends.map fun e=>dI es (u++e)
theorem putK_ints {kvs:List (List Key×V)}(h:∀p∈kvs,∃m:Int,p.2=.int m)(k:List Key)(m:Int):∀p∈putK kvs k (.int m),∃m:Int,p.2=.int m:=by
 unfold putK
 split
 ·intro p hp
  obtain⟨q,hq,rfl⟩:=List.mem_map.mp hp
  split
  ·exact⟨m,rfl⟩
  ·exact h q hq
 ·intro p hp
  rcases List.mem_append.mp hp with hp|hp
  ·exact h p hp
  ·rw[List.mem_singleton.mp hp];exact⟨m,rfl⟩
theorem putAll_ints:∀(es:List (List Int×Int)) (kvs:List (List Key×V)),(∀p∈kvs,∃m:Int,p.2=.int m)->∀p∈putAll kvs (ents es),∃m:Int,p.2=.int m
 |[],kvs,h=>h
 |e::es,kvs,h=>putAll_ints es _ (putK_ints h (wkey e.1) e.2)
theorem valV_mem {kvs:List (List Key×V)}{k:List Key}{v:V}(h:valV kvs k=some v):∃p∈kvs,p.2=v:=by
 induction kvs with
 |nil=>cases h
 |cons p r ih=>
  unfold valV at h
  rw[List.find?_cons]at h
  split at h
  ·cases h;exact⟨p,List.mem_cons_self,rfl⟩
  ·obtain⟨q,hq,e⟩:=ih h
   exact⟨q,List.mem_cons_of_mem _ hq,e⟩
theorem dI_V (es:List (List Int×Int))(u:List Int):(valV (putAll [] (ents es)) (wkey u)).getD V.non=oV (dI es u):=by
 unfold dI
 cases hv:valV (putAll [] (ents es)) (wkey u) with
 |none=>rfl
 |some v=>
  obtain⟨p,hp,e⟩:=valV_mem hv
  obtain⟨m,hm⟩:=putAll_ints es [] (fun p hp=>by cases hp) p hp
  rw[<-e,hm];rfl
theorem oV_inj {a b:Option Int}(h:oV a=oV b):a=b:=by
 cases a<;>cases b<;>cases h<;>rfl
theorem dI_nd {es:List (List Int×Int)}(nd:(es.map (·.1)).Nodup)(u:List Int):dI es u=mkO es u:=oV_inj (by rw[<-dI_V,ents_all nd,ents_oV nd])
theorem rowX_nd {es:List (List Int×Int)}(nd:(es.map (·.1)).Nodup)(ends:List (List Int))(u:List Int):rowX es ends u=rowO es ends u:=List.map_congr_left fun e _=>dI_nd nd _
def sp_marks49 (K:PySem.W.Frag):Sp:=fun vs H Q _=>∃(a:Addr) (N:Nat) (xs ys:List V) (acc ends:List (List Int)) (es:List (List Int×Int)),vs=[.ref a]/\Ppr K H a N xs ys acc ends es/\B49 N acc ends es/\∀p H',Same H H'->H' p=some (.dT (putAll [] (ents es)))->Q (.ref p) H'
theorem ok__law_marks {f:Addr}{fd:FuncData}(F:Fun K "_law_marks" "_law_marks" s__law_marks f fd)(T:Txt mg)
  (Z:Exs K mg C_AskError C_NoPaper C_NoText)
  : FnOk P w K mg base CX0 1 f fd ["note"] (sp_marks49 K):=by
 refine F.ok sc__law_marks (fun vs H Q E h=>?_) (fun cdv A outer s H vs Q E hr h=>?_)
 ·obtain⟨a,N,xs,ys,acc,ends,es,rfl,_⟩:=h;rfl
 ·obtain⟨a,N,xs,ys,acc,ends,es,rfl,P,B,k⟩:=h
  have hl:=line1000
  have hbl:=B.hl
  refine⟨_,(pss_cons (ps_set (i:=1) sc__law_marks.nd rfl (Or.inl rfl) pe_dnewT)
   (pss_cons (ps_for PassesOwn.never rfl (pi_tup (pe_ixA (ixTD ix_tup) (pvD 0) pe_int)) (pg_tup rfl (pgs_cons (pg_name (i:=2) sc__law_marks.nd rfl (Or.inl rfl)) (pgs_cons (pg_name (i:=3) sc__law_marks.nd rfl (Or.inl rfl)) pgs_nil)))
   (pss_one (ps_dput (hu_of hr) (pvD 1) (pvD 2) (pvD 3) rfl)))
   (pss_one (ps_ret (pvD 1))))),?_⟩
  obtain⟨ta,te,th,o,ts,h1,h2,h3,h4,h5,h6,h7,h8⟩:=id P
  walk_at "rd"
  intro p hp
  have s1:=Same.new hp (o:=.dT [])
  have hq8:SqT K H th (ts.map V.ref):=.inl (.inr ⟨o,h6⟩)
  have hpl:ts.length=es.length:=by rw[h8.1];unfold ents;rw[List.length_map]
  have hentl:(ents es).length=es.length:=by unfold ents;rw[List.length_map]
  refine⟨_,s1.seqT h1,_,rfl,th,rfl,⟨_,s1.seqT hq8⟩,?_⟩
  obtain⟨Pv,hPv⟩:∃Pv:Nat->St->Hp->Prop,∀i σ' H',Pv i σ' H'↔(∃o1 o2:Option V,Same H H'/\H' p=some (.dT (putAll [] ((ents es).take i)))/\σ'=[some (.ref a),some (.ref p),o1,o2]):=⟨_,fun _ _ _=>Iff.rfl⟩
  refine forT (xs:=ts.map V.ref) Pv ((hPv _ _ _).mpr ⟨none,none,s1,upd_same,rfl⟩) (fun i σ' H' _ h'=>by obtain⟨_,_,s',_⟩:=(hPv _ _ _).mp h';exact s'.seqT hq8) (fun i x σ' H' hx h'=>?_) (fun σ' H' h'=>?_)
  ·obtain⟨o1,o2,s',hp',rfl⟩:=(hPv _ _ _).mp h'
   rw[List.getElem?_map]at hx
   cases ht:ts[i]? with
   |none=>rw[ht]at hx;cases hx
   |some q=>
    rw[ht]at hx
    cases hx
    have hi:i<(ents es).length:=by rw[hentl,<-hpl];exact (List.getElem?_eq_some_iff.mp ht).1
    obtain⟨b,e1,e2⟩:=h8.2 i (ents es)[i] q (List.getElem?_eq_getElem hi) ht
    have et:putAll [] ((ents es).take (i+1))=putK (putAll [] ((ents es).take i)) (ents es)[i].1 (ents es)[i].2:=by
     rw[List.take_add_one,List.getElem?_eq_getElem hi]
     unfold putAll
     rw[List.foldl_append];rfl
    have hle:=putAll_len ((ents es).take i) []
    rw[List.length_take]at hle
    walk_at "rd"
    refine⟨_,s'.seqT (.inl e1),rfl,_,_,rfl,_,_,rfl,rfl,_,DPut.t (k:=(ents es)[i].1) hp' (s' _ _ e2) (by simp at hle;omega),(hPv _ _ _).mpr ⟨_,_,s'.over hp,by rw[upd_same,et],rfl⟩⟩
  ·obtain⟨o1,o2,s',hp',rfl⟩:=(hPv _ _ _).mp h'
   rw[List.length_map,hpl,<-hentl,List.take_length]at hp'
   walk_at "rd"
   exact k p _ s' hp'
def sp_row49 (K:PySem.W.Frag):Sp:=fun vs H Q _=>∃(a t:Addr) (N:Nat) (xs ys:List V) (acc ends:List (List Int)) (es:List (List Int×Int)) (u:List Int),vs=[.ref a,.ref t]/\Ppr K H a N xs ys acc ends es/\B49 N acc ends es/\H t=some (.tup (u.map V.int))/\u.length<=100/\∀l H',Same H H'->H l=none->H' l=some (.lst ((rowX es ends u).map oV))->Q (.ref l) H'
theorem ok__law_row {f:Addr}{fd:FuncData}(F:Fun K "_law_row" "_law_row" s__law_row f fd)(T:Txt mg)
  (Z:Exs K mg C_AskError C_NoPaper C_NoText)
  {f__law_marks:Addr} {fd__law_marks:FuncData} (q__law_marks:Cal P w K mg base CX0 1 "_law_marks" s__law_marks ["note"] (sp_marks49 K) f__law_marks fd__law_marks)
  : FnOk P w K mg base CX0 2 f fd ["note","word"] (sp_row49 K):=by
 refine F.ok sc__law_row (fun vs H Q E h=>?_) (fun cdv A outer s H vs Q E hr h=>?_)
 ·obtain⟨a,t,N,xs,ys,acc,ends,es,u,rfl,_⟩:=h;rfl
 ·obtain⟨a,t,N,xs,ys,acc,ends,es,u,rfl,P,B,ht,hul,k⟩:=h
  have hl:=line1000
  have hbl:=B.el
  refine⟨_,(pss_cons (ps_set (i:=2) sc__law_row.nd rfl (Or.inr rfl) (pe_callQ q__law_marks hr.d pass0 (pa_cons (pvD 0) pa_nil)))
   (pss_one (ps_ret (pe_comp rfl (blk_mk rfl) (cp:=c__law_row_0) ⟨⟨rfl,rfl⟩,⟨⟨rfl,rfl⟩,True.intro⟩⟩ (pi_tup (pe_ixA (ixTD ix_tup) (pvD 0) pe_int)) (fun _ _ _ _=>(pg_name (i:=0) nd_c__law_row_0 rfl (Or.inl rfl))) (fun _ _ _ _=>pf_nil) (fun _ _ _ _=>(pe_dget1 (hu_of hr) (pvD 1) (pe_op (op_catT2K (K:=K) rfl) (pvD 2) (pvD 0)) ⟨by rfl,by rfl,by rfl,by rfl⟩)))))),?_⟩
  walk_at "rd"
  refine⟨a,N,xs,ys,acc,ends,es,rfl,P,B,fun p H1 s1 hp1=>?_⟩
  obtain⟨ta,te,th,o,ts,h1,h2,h3,h4,h5,h6,h7,h8⟩:=id (P.mono s1)
  walk_at "rd"
  refine⟨_,h1,_,rfl,te,rfl,⟨_,h4⟩,compT (xs:=ys) (fun i vs σ' H'=>Same H1 H'/\vs=(ends.take i).map (fun e=>oV (dI es (u++e)))/\∃o,σ'=[o,some (.ref p),some (.ref t)]) ⟨Same.refl _,rfl,none,rfl⟩ (by rw[h5.1];omega) (fun i vs σ' H' hi h'=>⟨h'.1.seqT h4,by rw[h'.2.1,List.length_map,List.length_take];omega⟩) (fun i x vs σ' H' hx h'=>?_) (fun vs σ' H' h' D hD=>?_)⟩
  ·obtain⟨s2,rfl,o,rfl⟩:=h'
   obtain⟨te,e,hei,rfl,hte⟩:=h5.at hx
   have hel':=B.we e (List.mem_of_getElem? hei)
   have et:ends.take (i+1)=ends.take i++[e]:=by rw[List.take_add_one,hei];rfl
   walk_at "rd"
   refine⟨.inr ⟨_,.inl (s2 _ _ hp1)⟩,rCatT2.ofS ((s1.trans s2) _ _ ht) (s2 _ _ hte) (by simp;omega) fun q H2 s3 hq=>?_⟩
   have s23:=s2.trans s3
   refine⟨_,DGet.t (k:=wkey (u++e)) (s23 _ _ hp1) (by rw[wkey_kV,List.map_append];exact hq),s23,?_,_,rfl⟩
   rw[et,List.map_append,List.map_singleton,dI_V]
  ·obtain⟨s2,rfl,o,rfl⟩:=h'
   rw[h5.1,List.take_length]
   refine k D _ ((s1.trans s2).newT hD) ((s1.trans s2).none hD) ?_
   rw[upd_same]
   unfold rowX
   rw[List.map_map];rfl
def WLv (H:Hp)(us:List V)(vss:List (List V)):Prop:=us.length=vss.length/\∀(i:Nat) (vs:List V),vss[i]?=some vs->∃t,us[i]?=some (.ref t)/\H t=some (.lst vs)
theorem WLv.nil {H:Hp}:WLv H [] []:=⟨rfl,fun i vs h=>by simp at h⟩
theorem WLv.mono {H H':Hp}{us:List V}{vss:List (List V)}(h:WLv H us vss)(s:Same H H'):WLv H' us vss:=⟨h.1,fun i vs hi=>let ⟨t,a,b⟩:=h.2 i vs hi;⟨t,a,s _ _ b⟩⟩
theorem WLv.snoc {H:Hp}{us:List V}{vss:List (List V)}(h:WLv H us vss){t:Addr}{vs:List V}(ht:H t=some (.lst vs)):WLv H (us++[.ref t]) (vss++[vs]):=by
 refine⟨by rw[List.length_append,List.length_append,h.1];rfl,fun i v hv=>?_⟩
 by_cases hi:i<vss.length
 ·rw[List.getElem?_append_left hi]at hv
  obtain⟨t',a,b⟩:=h.2 i v hv
  exact⟨t',by rw[List.getElem?_append_left (by rw[h.1];exact hi)];exact a,b⟩
 ·rw[List.getElem?_append_right (by omega)]at hv
  have h0:i-vss.length=0:=by
   have:=(List.getElem?_eq_some_iff.mp hv).1
   simpa using this
  rw[h0]at hv
  have hv:vs=v:=by simpa using hv
  subst hv
  exact⟨t,by rw[List.getElem?_append_right (by rw[h.1];omega),h.1,h0];rfl,ht⟩
theorem WLv.at {H:Hp}{us:List V}{vss:List (List V)}(h:WLv H us vss){i:Nat}{x:V}(hx:us[i]?=some x):∃t vs,vss[i]?=some vs/\x=.ref t/\H t=some (.lst vs):=by
 have hi:i<vss.length:=by rw[<-h.1];exact (List.getElem?_eq_some_iff.mp hx).1
 obtain⟨t,a,b⟩:=h.2 i vss[i] (by simp[hi])
 rw[hx]at a
 exact⟨t,_,by simp[hi],Option.some.inj a,b⟩
theorem eq_oV {K:PySem.W.Frag}{H:Hp}{a c:Addr}{x y:List (Option Int)}(ha:SqL K H a (x.map oV))(hc:SqL K H c (y.map oV))(n:Nat):EqD K H (n+1) (.ref a) (.ref c) (decide (x=y)):=by
 have fl:∀(l:List (Option Int)),∀v∈l.map oV,flatV v=true:=fun l v hv=>by
  obtain⟨o,_,rfl⟩:=List.mem_map.mp hv
  cases o<;>rfl
 have:=EqD.flat (.inl ⟨ha,hc⟩) (fl x) (fl y) (fun u hu v hv=>by
  obtain⟨o,_,rfl⟩:=List.mem_map.mp hu
  obtain⟨p,_,rfl⟩:=List.mem_map.mp hv
  cases o with
  |none=>cases p<;>simp[oV,eqV]
  |some m=>
   cases p with
   |none=>simp[oV,eqV]
   |some q=>exact eqV_int m q) n
 rw[show decide (x=y)=decide (x.map oV=y.map oV) by
  rw[Bool.eq_iff_iff,decide_eq_true_eq,decide_eq_true_eq]
  exact⟨fun h=>by rw[h],fun h=>(List.map_inj_right (fun a b e=>oV_inj e)).mp h⟩]
 exact this
theorem tt_iff {N:Nat}{acc ends:List (List Int)}{es:List (List Int×Int)}:Tt N acc ends es↔acc ≠ []/\(es.map (·.1)).Nodup/\Lal N acc ends es/\(∀u∈acc,none∉rowX es ends u)/\(acc.map (rowX es ends)).Nodup:=by
 have key:(es.map (·.1)).Nodup->((∀u∈acc,Ful es ends u)/\(acc.map (gI es ends)).Nodup↔(∀u∈acc,none∉rowX es ends u)/\(acc.map (rowX es ends)).Nodup):=fun nd=>by
  have e1:(∀u∈acc,Ful es ends u) ↔ ∀u∈acc,none∉rowX es ends u:=⟨fun h u hu=>by rw[rowX_nd nd];exact ful_iff.mp (h u hu),fun h u hu=>ful_iff.mpr (by rw[<-rowX_nd nd];exact h u hu)⟩
  refine and_congr_right_iff.mpr (fun hF=>?_) |>.trans (and_congr_left' e1)
  have e2:acc.map (rowX es ends)=acc.map (rowO es ends):=List.map_congr_left fun u _=>rowX_nd nd ends u
  rw[e2]
  have inj:∀u∈acc,∀v∈acc,(gI es ends u=gI es ends v↔rowO es ends u=rowO es ends v):=fun u hu v hv=>by
   constructor
   ·intro h
    have h1:=ful_row (hF u hu)
    have h2:=ful_row (hF v hv)
    rw[h]at h1
    exact (List.map_inj_right (fun a b e=>oV_inj e)).mp (h1.trans h2.symm)
   ·intro h
    have h1:=ful_row (hF u hu)
    have h2:=ful_row (hF v hv)
    rw[h]at h1
    exact (List.map_inj_right (fun a b e=>V.int.inj e)).mp (h1.symm.trans h2)
  unfold List.Nodup
  rw[List.pairwise_map,List.pairwise_map]
  exact⟨fun h=>List.Pairwise.imp_of_mem (fun {a b} ha hb hne z=>hne ((inj a ha b hb).mpr z)) h,fun h=>List.Pairwise.imp_of_mem (fun {a b} ha hb hne z=>hne ((inj a ha b hb).mp z)) h⟩
 constructor
 ·rintro⟨a,nd,c,d,e⟩
  obtain⟨f,g⟩:=(key nd).mp ⟨d,e⟩
  exact⟨a,nd,c,f,g⟩
 ·rintro⟨a,nd,c,d,e⟩
  obtain⟨f,g⟩:=(key nd).mpr ⟨d,e⟩
  exact⟨a,nd,c,f,g⟩
def sp_apart49 (K:PySem.W.Frag):Sp:=fun vs H Q _=>∃(a:Addr) (N:Nat) (xs ys:List V) (acc ends:List (List Int)) (es:List (List Int×Int)),vs=[.ref a]/\Ppr K H a N xs ys acc ends es/\B49 N acc ends es/\(∀H',Same H H'->Tt N acc ends es->Q (.bl true) H')/\(∀H',Same H H'->¬ Tt N acc ends es->Q (.bl false) H')
theorem ok__law_apart {f:Addr}{fd:FuncData}(F:Fun K "_law_apart" "_law_apart" s__law_apart f fd)(T:Txt mg)
  (Z:Exs K mg C_AskError C_NoPaper C_NoText)
  {f__law_marks:Addr} {fd__law_marks:FuncData} (q__law_marks:Cal P w K mg base CX0 1 "_law_marks" s__law_marks ["note"] (sp_marks49 K) f__law_marks fd__law_marks)
  {f__law_row:Addr} {fd__law_row:FuncData} (q__law_row:Cal P w K mg base CX0 2 "_law_row" s__law_row ["note","word"] (sp_row49 K) f__law_row fd__law_row)
  : FnOk P w K mg base CX0 3 f fd ["note"] (sp_apart49 K):=by
 refine F.ok sc__law_apart (fun vs H Q E h=>?_) (fun cdv A outer s H vs Q E hr h=>?_)
 ·obtain⟨a,N,xs,ys,acc,ends,es,rfl,_⟩:=h;rfl
 ·obtain⟨a,N,xs,ys,acc,ends,es,rfl,P,B,k1,k0⟩:=h
  have hl:=line1000
  refine⟨_,(pss_cons (ps_asg (pvD 0) (pg_tup rfl (pgs_cons (pg_name (i:=1) sc__law_apart.nd rfl (Or.inl rfl)) (pgs_cons (pg_name (i:=2) sc__law_apart.nd rfl (Or.inl rfl)) (pgs_cons (pg_name (i:=3) sc__law_apart.nd rfl (Or.inl rfl)) (pgs_cons (pg_name (i:=4) sc__law_apart.nd rfl (Or.inl rfl)) pgs_nil))))))
   (pss_cons (ps_for PassesOwn.never rfl (pi_list (pe_op op_cat (pe_op op_cat (pe_callTy call_list_of rfl T.list PyProof.Rows.boot_list (pa_cons (pvD 2) pa_nil)) (pe_callTy call_list_of rfl T.list PyProof.Rows.boot_list (pa_cons (pvD 3) pa_nil))) (pe_comp rfl (blk_mk rfl) (cp:=c__law_apart_0) True.intro (pi_tup (pvD 4)) (fun _ _ _ _=>(pg_name (i:=0) nd_c__law_apart_0 rfl (Or.inl rfl))) (fun _ _ _ _=>pf_nil) (fun _ _ _ _=>(pe_ixA (ixTD (ix_tupK (K:=K) rfl)) (pvD 0) pe_int))))) (pg_name (i:=5) sc__law_apart.nd rfl (Or.inl rfl))
   (pss_one (ps_for PassesOwn.never rfl (pi_tup (pvD 5)) (pg_name (i:=6) sc__law_apart.nd rfl (Or.inl rfl))
   (pss_one (ps_if (PW.pt (pw_or (ptT (pt_cmpR (opD0 op_lt) (pvD 6) pe_int (nomark _))) (pw_or1 (ptT (pt_cmpR (opD0 op_ge) (pvD 6) (pvD 1) (nomark _))))))
   (pss_one (ps_ret pe_bl))
   pss_nil)))))
   (pss_cons (ps_setC (i:=7) sc__law_apart.nd rfl rfl rfl (blk_mk rfl) (cp:=c__law_apart_1) ⟨⟨rfl,rfl⟩,True.intro⟩ (pi_tup (pvD 2)) (fun _ _ _ _=>(pg_name (i:=0) nd_c__law_apart_1 rfl (Or.inl rfl))) (fun _ _ _ _=>pf_nil) (fun _ _ _ _=>(pe_callQ q__law_row hr.d pass0 (pa_cons (pvD 1) (pa_cons (pvD 0) pa_nil)))))
   (pss_cons (ps_for PassesOwn.never rfl (pi_range1 rfl T.range (pa_cons (pe_callB (lenD call_len_seq) (by rfl) T.len PySem.boot_len (pa_cons (pvD 7) pa_nil)) pa_nil)) (pg_name (i:=8) sc__law_apart.nd rfl (Or.inl rfl))
   (pss_cons (ps_for PassesOwn.never rfl (pi_list (pe_ixA (ixLD ix_list) (pvD 7) (pvD 8))) (pg_name (i:=9) sc__law_apart.nd rfl (Or.inl rfl))
   (pss_one (ps_if (ptT (pt_cmpR op_isN (pvD 9) pe_non (nomark _)))
   (pss_one (ps_ret pe_bl))
   pss_nil)))
   (pss_one (ps_for PassesOwn.never rfl (pi_list (pe_slice sl_list (pvD 7) po_none (po_some (pvD 8)))) (pg_name (i:=10) sc__law_apart.nd rfl (Or.inl rfl))
   (pss_one (ps_if (ptT (pt_cmpR (op_eqD 8 (hu9 hr)) (pvD 10) (pe_ixA (ixLD ix_list) (pvD 7) (pvD 8)) (nomark _)))
   (pss_one (ps_ret pe_bl))
   pss_nil))))))
   (pss_one (ps_ret (pe_and (pe_cmpR (opD0 op_gt) (pe_callB (lenD call_len_seq) (by rfl) T.len PySem.boot_len (pa_cons (pvD 2) pa_nil)) pe_int (nomark _)) (pe_one (pe_cmpR (opE op_eq) (pe_callB call_len_dictT (by rfl) T.len PySem.boot_len (pa_cons (pe_callQ q__law_marks hr.d pass0 (pa_cons (pvD 0) pa_nil)) pa_nil)) (pe_callB (lenD call_len_seq) (by rfl) T.len PySem.boot_len (pa_cons (pvD 4) pa_nil)) (nomark _)))))))))),?_⟩
  obtain⟨ta,te,th,o,ts,h1,h2,h3,h4,h5,h6,h7,h8⟩:=id P
  walk_at "rd"
  have b1:=B.al
  have b2:=B.el
  have b3:=B.hl
  have hn1:=B.n1
  have hn6:=B.n6
  have hq8:SqT K H th (ts.map V.ref):=.inl (.inr ⟨o,h6⟩)
  have hpl:ts.length=es.length:=by rw[h8.1];unfold ents;rw[List.length_map]
  refine⟨_,h1,rfl,_,_,rfl,_,_,rfl,_,_,rfl,_,_,rfl,rfl,ta,rfl,_,.inr h2,fun l hl1=>⟨te,rfl,_,.inr ((Same.new hl1).seqT h4),fun l2 hl2=>⟨_,Same.new hl2 _ _ upd_same,_,upd_same,by rw[h3.1,h5.1];omega,fun l3 hl3=>?_⟩⟩⟩
  have s2:=((Same.new hl1 (o:=.lst xs)).newT hl2 (o:=.lst ys)).newT hl3 (o:=.lst (xs++ys))
  have hl3':upd (upd (upd H l (.lst xs)) l2 (.lst ys)) l3 (.lst (xs++ys)) l3=some (.lst (xs++ys)):=upd_same
  generalize upd (upd (upd H l (.lst xs)) l2 (.lst ys)) l3 (.lst (xs++ys))=H1 at s2 hl3'
  refine⟨th,rfl,⟨_,s2.seqT hq8⟩,?_⟩
  have hat:∀(i:Nat) (x:V),(ts.map V.ref)[i]?=some x->∃(q b:Addr) (p:List Int×Int),x=.ref q/\es[i]?=some p/\Rd H q (.tup [.ref b,.int p.2])/\H b=some (.tup (p.1.map V.int)):=fun i x hx=>by
   rw[List.getElem?_map]at hx
   cases ht:ts[i]? with
   |none=>rw[ht]at hx;cases hx
   |some q=>
    rw[ht]at hx
    have hi:i<es.length:=by rw[<-hpl];exact (List.getElem?_eq_some_iff.mp ht).1
    obtain⟨b,e1,e2⟩:=h8.2 i (wkey es[i].1,.int es[i].2) q (by unfold ents;rw[List.getElem?_map,List.getElem?_eq_getElem hi];rfl) ht
    rw[wkey_kV]at e2
    exact⟨q,b,es[i],(Option.some.inj hx).symm,List.getElem?_eq_getElem hi,e1,e2⟩
  obtain⟨Pc,hPc⟩:∃Pc:Nat->List V->St->Hp->Prop,∀i us σ' H',Pc i us σ' H'↔(H'=H1/\WordsT K H' us ((es.take i).map (·.1))/\∃o,σ'=[o]):=⟨_,fun _ _ _ _=>Iff.rfl⟩
  refine compT (xs:=ts.map V.ref) Pc ((hPc _ _ _ _).mpr ⟨rfl,WordsT.nil,none,rfl⟩) (by rw[List.length_map];omega) (fun i us σ' H' hi h'=>?_) (fun i x us σ' H' hx h'=>?_) (fun us σ' H' h' D hD=>?_)
  ·obtain⟨rfl,hW,_⟩:=(hPc _ _ _ _).mp h'
   exact⟨s2.seqT hq8,by rw[hW.1,List.length_map,List.length_take];omega⟩
  ·obtain⟨rfl,hW,o,rfl⟩:=(hPc _ _ _ _).mp h'
   obtain⟨q,b,p,rfl,hp,e1,e2⟩:=hat i x hx
   have et:es.take (i+1)=es.take i++[p]:=by rw[List.take_add_one,hp];rfl
   walk_at "rd"
   refine⟨_,s2.seqT (.inl e1),_,rfl,(hPc _ _ _ _).mpr ⟨rfl,?_,_,rfl⟩⟩
   rw[et,List.map_append]
   exact hW.snoc (s2 _ _ e2)
  obtain⟨rfl,hW,ov,rfl⟩:=(hPc _ _ _ _).mp h'
  rw[List.length_map,hpl,List.take_length]at hW
  have sD:=Same.new hD (o:=.lst us)
  refine⟨D,rfl,xs++ys,sD _ _ hl3',us,upd_same,by rw[List.length_append,h3.1,h5.1,hW.1,List.length_map];omega,fun p hp=>⟨⟨_,SqL.of upd_same⟩,?_⟩⟩
  have s3':=sD.newT hp (o:=.lst (xs++ys++us))
  have s3:=s2.trans s3'
  have hall:WordsT K (upd (upd H' D (.lst us)) p (.lst (xs++ys++us))) (xs++ys++us) (acc++ends++es.map (·.1)):=((h3.mono (TK.of s3)).append (h5.mono (TK.of s3))).append (hW.mono (TK.of s3'))
  have hp5:upd (upd H' D (.lst us)) p (.lst (xs++ys++us)) p=some (.lst (xs++ys++us)):=upd_same
  obtain⟨ws',hws⟩:∃ws',ws'=acc++ends++es.map (·.1):=⟨_,rfl⟩
  rw[<-hws]at hall
  generalize xs++ys++us=zs' at hall s3 s3' hp5 ⊢
  generalize upd (upd H' D (.lst us)) p (.lst zs')=H5 at hall s3 s3' hp5 ⊢
  obtain⟨Pv,hPv⟩:∃Pv:Nat->St->Hp->Prop,∀i σ' H',Pv i σ' H'↔(∃o1 o2:Option V,H'=H5/\(∀u∈ws'.take i,isW N u=true)/\σ'=[some (.ref a),some (.int N),some (.ref ta),some (.ref te),some (.ref th),o1,o2,none,none,none,none]):=⟨_,fun _ _ _=>Iff.rfl⟩
  refine forL (xs:=zs') Pv ((hPv _ _ _).mpr ⟨none,none,rfl,fun u hu=>by simp at hu,rfl⟩) (fun i σ' H' _ h'=>by obtain⟨_,_,rfl,_⟩:=(hPv _ _ _).mp h';exact SqL.of hp5) (fun i x σ6 H6 hx h6'=>?_) (fun σ6 H6 h6'=>?_)
  ·obtain⟨o1,o2,rfl,hI,rfl⟩:=(hPv _ _ _).mp h6'
   obtain⟨t,u,hu,rfl,ht⟩:=hall.at hx
   have hum:=List.mem_of_getElem? hu
   have et:ws'.take (i+1)=ws'.take i++[u]:=by rw[List.take_add_one,hu];rfl
   walk_at "rd"
   refine⟨⟨_,SqT.of ht⟩,?_⟩
   obtain⟨Pw,hPw⟩:∃Pv:Nat->St->Hp->Prop,∀j σ' H',Pv j σ' H'↔(∃o2:Option V,H'=H6/\(∀y∈u.take j,0<=y/\y<(N:Int))/\σ'=[some (.ref a),some (.int N),some (.ref ta),some (.ref te),some (.ref th),some (.ref t),o2,none,none,none,none]):=⟨_,fun _ _ _=>Iff.rfl⟩
   refine forT (xs:=u.map V.int) Pw ((hPw _ _ _).mpr ⟨_,rfl,fun y hy=>by simp at hy,rfl⟩) (fun j σ' H' _ h'=>by obtain⟨_,rfl,_⟩:=(hPw _ _ _).mp h';exact SqT.of ht) (fun j x σ7 H7 hx h7'=>?_) (fun σ7 H7 h7'=>?_)
   ·obtain⟨o2,rfl,hJ,rfl⟩:=(hPw _ _ _).mp h7'
    obtain⟨y,hy,rfl⟩:=get_mapI hx
    have ey:u.take (j+1)=u.take j++[y]:=by rw[List.take_add_one,hy];rfl
    have bad:¬ (0<=y/\y<(N:Int))->Q (.bl false) H7:=fun hb=>k0 _ s3 fun hT=>by
     have:=hT.2.2.1 u (by rw[<-hws];exact hum)
     exact hb (isW_iff.mp this y (List.mem_of_getElem? hy))
    walk_at "rd"
    refine ite2 (fun h0=>bad (by omega)) (fun h0=>ite2 (fun h1=>bad (by omega)) (fun h1=>(hPw _ _ _).mpr ⟨_,rfl,fun z hz=>?_,rfl⟩))
    rw[ey]at hz
    rcases List.mem_append.mp hz with hz|hz
    ·exact hJ z hz
    ·rw[List.mem_singleton.mp hz];omega
   ·obtain⟨o2,rfl,hJ,rfl⟩:=(hPw _ _ _).mp h7'
    rw[List.length_map,List.take_length]at hJ
    refine (hPv _ _ _).mpr ⟨_,_,rfl,fun v hv=>?_,rfl⟩
    rw[et]at hv
    rcases List.mem_append.mp hv with hv|hv
    ·exact hI v hv
    ·rw[List.mem_singleton.mp hv];exact isW_iff.mpr hJ
  obtain⟨o1,o2,rfl,hI,rfl⟩:=(hPv _ _ _).mp h6'
  rw[hall.1,List.take_length,hws]at hI
  have hLal:Lal N acc ends es:=hI
  clear hPv hall hws
  walk_at "rd"
  refine⟨⟨_,s3.seqT h2⟩,?_⟩
  obtain⟨Pr,hPr⟩:∃Pc:Nat->List V->St->Hp->Prop,∀i us σ' H',Pc i us σ' H'↔(Same H6 H'/\WLv H' us ((acc.take i).map fun u=>(rowX es ends u).map oV)/\∃o,σ'=[o,some (.ref a)]):=⟨_,fun _ _ _ _=>Iff.rfl⟩
  refine compT (xs:=xs) Pr ((hPr _ _ _ _).mpr ⟨Same.refl _,WLv.nil,none,rfl⟩) (by rw[h3.1];omega) (fun i us σ' H' hi h'=>?_) (fun i x us σ' H' hx h'=>?_) (fun us σ' H7 h' Dr hDr=>?_)
  ·obtain⟨s7,hW7,_⟩:=(hPr _ _ _ _).mp h'
   exact⟨(s3.trans s7).seqT h2,by rw[hW7.1,List.length_map,List.length_take];omega⟩
  ·obtain⟨s7,hW7,ov,rfl⟩:=(hPr _ _ _ _).mp h'
   obtain⟨t,u,hu,rfl,ht⟩:=h3.at hx
   have et:acc.take (i+1)=acc.take i++[u]:=by rw[List.take_add_one,hu];rfl
   have hul:=B.wa u (List.mem_of_getElem? hu)
   have s37:=s3.trans s7
   walk_at "rd"
   refine⟨a,t,N,xs,ys,acc,ends,es,u,rfl,P.mono s37,B,s37 _ _ ht,by omega,fun l8 H8 s8 _ hl8=>(hPr _ _ _ _).mpr ⟨s7.trans s8,?_,_,rfl⟩⟩
   rw[et,List.map_append]
   exact (hW7.mono s8).snoc hl8
  obtain⟨s7,hW7,ov,rfl⟩:=(hPr _ _ _ _).mp h'
  rw[h3.1,List.take_length]at hW7
  have sDr:=Same.new hDr (o:=.lst us)
  have s38:=(s3.trans s7).trans sDr
  have hW8:=hW7.mono sDr
  have hDr8:upd H7 Dr (.lst us) Dr=some (.lst us):=upd_same
  generalize upd H7 Dr (.lst us)=H8 at s38 hW8 hDr8
  have hul:us.length=acc.length:=by rw[hW8.1,List.length_map]
  refine⟨Dr,rfl,us,.inl (SqL.of hDr8),by omega,by omega,?_⟩
  rw[hul,Int.toNat_natCast]
  obtain⟨Pk,hPk⟩:∃Pv:Nat->St->Hp->Prop,∀k σ' H',Pv k σ' H'↔(∃o1 o2 o3:Option V,Same H8 H'/\(∀j u,j<k->acc[j]?=some u->none∉rowX es ends u/\∀i v,i<j->acc[i]?=some v->rowX es ends v≠rowX es ends u)/\∃p1 p2,σ'=[some (.ref a),some (.int N),some (.ref ta),some (.ref te),some (.ref th),p1,p2,some (.ref Dr),o1,o2,o3]):=⟨_,fun _ _ _=>Iff.rfl⟩
  refine forR Pk ((hPk _ _ _).mpr ⟨none,none,none,Same.refl _,fun j u hj=>absurd hj (Nat.not_lt_zero _),_,_,rfl⟩) (fun kk σ9 H9 hkk h9=>?_) (fun σ9 H9 h9=>?_)
  ·obtain⟨q1,q2,q3,s9,hK9,p1,p2,rfl⟩:=(hPk _ _ _).mp h9
   rw[Int.zero_add]
   obtain⟨u,hu⟩:∃u,acc[kk]?=some u:=⟨acc[kk],List.getElem?_eq_getElem hkk⟩
   have hum:=List.mem_of_getElem? hu
   obtain⟨tu,f1,f2⟩:=hW8.2 kk ((rowX es ends u).map oV) (by rw[List.getElem?_map,hu];rfl)
   have s39:=s38.trans s9
   walk_at "rd"
   refine⟨us,SqL.of (s9 _ _ hDr8),_,atI_nat f1,tu,rfl,⟨_,SqL.of (s9 _ _ f2)⟩,?_⟩
   obtain⟨Pm,hPm⟩:∃Pv:Nat->St->Hp->Prop,∀j σ' H',Pv j σ' H'↔(∃o2:Option V,H'=H9/\none∉(rowX es ends u).take j/\σ'=[some (.ref a),some (.int N),some (.ref ta),some (.ref te),some (.ref th),p1,p2,some (.ref Dr),some (.int kk),o2,q3]):=⟨_,fun _ _ _=>Iff.rfl⟩
   refine forL (xs:=(rowX es ends u).map oV) Pm ((hPm _ _ _).mpr ⟨_,rfl,by simp,rfl⟩) (fun j σ' H' _ h'=>by obtain⟨_,rfl,_⟩:=(hPm _ _ _).mp h';exact SqL.of (s9 _ _ f2)) (fun j x σa Ha hx ha=>?_) (fun σa Ha ha=>?_)
   ·obtain⟨o2,rfl,hJ,rfl⟩:=(hPm _ _ _).mp ha
    rw[List.getElem?_map]at hx
    obtain⟨y,hy,rfl⟩:=Option.map_eq_some_iff.mp hx
    have ey:(rowX es ends u).take (j+1)=(rowX es ends u).take j++[y]:=by rw[List.take_add_one,hy];rfl
    walk_at "rd"
    cases y with
    |none=>
     rw[if_pos (by rfl)]
     exact k0 _ s39 fun hT=>(tt_iff.mp hT).2.2.2.1 u hum (List.mem_of_getElem? hy)
    |some m=>
     rw[if_neg (by intro z;cases z)]
     refine (hPm _ _ _).mpr ⟨_,rfl,?_,rfl⟩
     rw[ey,List.mem_append,not_or]
     exact⟨hJ,by simp⟩
   ·obtain⟨o2,rfl,hJ,rfl⟩:=(hPm _ _ _).mp ha
    rw[List.length_map,List.take_length]at hJ
    walk_at "rd"
    refine⟨us,SqL.of (s9 _ _ hDr8),fun pc hpc=>⟨⟨_,SqL.of upd_same⟩,?_⟩⟩
    rw[cutV_take50] at *
    have sc:=Same.new hpc (o:=.lst (us.take kk))
    have s9c:=s9.trans sc
    obtain⟨Pn,hPn⟩:∃Pv:Nat->St->Hp->Prop,∀j σ' H',Pv j σ' H'↔(∃o3:Option V,H'=upd Ha pc (.lst (us.take kk))/\(∀i v,i<j->acc[i]?=some v->rowX es ends v≠rowX es ends u)/\σ'=[some (.ref a),some (.int N),some (.ref ta),some (.ref te),some (.ref th),p1,p2,some (.ref Dr),some (.int kk),o2,o3]):=⟨_,fun _ _ _=>Iff.rfl⟩
    refine forL (xs:=us.take kk) Pn ((hPn _ _ _).mpr ⟨_,rfl,fun i v hi=>absurd hi (Nat.not_lt_zero _),rfl⟩) (fun j σ' H' _ h'=>by obtain⟨_,rfl,_⟩:=(hPn _ _ _).mp h';exact SqL.of upd_same) (fun j x σb Hb hx hb=>?_) (fun σb Hb hb=>?_)
    ·obtain⟨o3,rfl,hJ2,rfl⟩:=(hPn _ _ _).mp hb
     have hjk:j<kk:=by
      have:=(List.getElem?_eq_some_iff.mp hx).1
      rw[List.length_take]at this
      omega
     rw[List.getElem?_take,if_pos hjk]at hx
     obtain⟨tv,vs,hv,rfl,htv⟩:=hW8.at hx
     rw[List.getElem?_map]at hv
     obtain⟨v,hv',rfl⟩:=Option.map_eq_some_iff.mp hv
     walk_at "rd"
     refine⟨us,SqL.of (s9c _ _ hDr8),_,atI_nat f1,tu,rfl,_,eq_oV (SqL.of (s9c _ _ htv)) (SqL.of (s9c _ _ f2)) 7,?_⟩
     refine ite2 (fun heq=>?_) (fun hne=>?_)
     ·have heq:=of_decide_eq_true heq
      refine k0 _ (s39.trans sc) fun hT=>?_
      have nd:=(tt_iff.mp hT).2.2.2.2
      have:=(List.getElem_inj (xs:=acc.map (rowX es ends)) (i:=j) (j:=kk) (h₀:=by rw[List.length_map];omega) (h₁:=by rw[List.length_map];exact hkk) nd).mp (by rw[List.getElem_map,List.getElem_map,(List.getElem?_eq_some_iff.mp hv').2,(List.getElem?_eq_some_iff.mp hu).2,heq])
      omega
     ·have hne:=of_decide_eq_false (by simpa using hne)
      refine (hPn _ _ _).mpr ⟨_,rfl,fun i z hi hz=>?_,rfl⟩
      by_cases hij:i<j
      ·exact hJ2 i z hij hz
      ·have:i=j:=by omega
       subst this
       rw[hv']at hz
       cases hz
       exact hne
    ·obtain⟨o3,rfl,hJ2,rfl⟩:=(hPn _ _ _).mp hb
     have hlt:(us.take kk).length=kk:=by rw[List.length_take];omega
     rw[hlt]at hJ2
     refine (hPk _ _ _).mpr ⟨_,_,_,s9c,fun j z hj hz=>?_,_,_,rfl⟩
     by_cases hjk:j<kk
     ·exact hK9 j z hjk hz
     ·have:j=kk:=by omega
      subst this
      rw[hu]at hz
      cases hz
      exact⟨hJ,hJ2⟩
  ·obtain⟨q1,q2,q3,s9,hK9,p1,p2,rfl⟩:=(hPk _ _ _).mp h9
   have s39:=s38.trans s9
   walk_at "rd"
   refine⟨xs,.inr (s39.seqT h2),?_⟩
   refine ite2 (fun hx0=>?_) (fun hx0=>?_)
   ·refine⟨a,N,xs,ys,acc,ends,es,rfl,P.mono s39,B,fun pm Hm sm hpm=>⟨pm,rfl,_,hpm,_,.inr ((s39.trans sm).seqT hq8),?_⟩⟩
    have hne:acc ≠ []:=fun z=>by rw[h3.1,z]at hx0;simp at hx0
    have hfu:∀u∈acc,none∉rowX es ends u:=fun u hu=>by
     obtain⟨j,hj,e⟩:=List.mem_iff_getElem.mp hu
     exact (hK9 j u hj (by rw[List.getElem?_eq_getElem hj,e])).1
    have hnr:(acc.map (rowX es ends)).Nodup:=by
     unfold List.Nodup
     rw[List.pairwise_map,List.pairwise_iff_getElem]
     intro i j hi hj hij
     exact (hK9 j acc[j] hj (List.getElem?_eq_getElem hj)).2 i acc[i] hij (List.getElem?_eq_getElem hi)
    have hlen:(putAll [] (ents es)).length=es.length↔(es.map (·.1)).Nodup:=by
     have he:(ents es).length=es.length:=by unfold ents;rw[List.length_map]
     constructor
     ·intro h
      by_cases hd:(es.map (·.1)).Nodup
      ·exact hd
      ·have:=putAll_less (ents es) [] List.nodup_nil (fun z=>hd (ents_nd.mp z))
       rw[he]at this
       simp at this
       omega
     ·intro h
      rw[ents_all h,he]
    by_cases hd:(es.map (·.1)).Nodup
    ·rw[decide_eq_true (by rw[List.length_map,hpl,hlen.mpr hd])]
     exact k1 _ (s39.trans sm) (tt_iff.mpr ⟨hne,hd,hLal,hfu,hnr⟩)
    ·rw[decide_eq_false (fun z=>hd (hlen.mp (by rw[List.length_map,hpl]at z;omega)))]
     exact k0 _ (s39.trans sm) fun hT=>hd (tt_iff.mp hT).2.1
   ·refine k0 _ s39 fun hT=>?_
    have:acc=[]:=List.eq_nil_of_length_eq_zero (by rw[h3.1]at hx0;omega)
    exact hT.1 this
theorem ful_some {es:List (List Int×Int)}{ends:List (List Int)}{u:List Int}(h:Ful es ends u):rowO es ends u=(gI es ends u).map some:=by
 have h1:=ful_row h
 have h2:(gI es ends u).map V.int=((gI es ends u).map some).map oV:=by rw[List.map_map];rfl
 rw[h2]at h1
 exact (List.map_inj_right (fun a b e=>oV_inj e)).mp h1
theorem map_some_inj {a b:List Int}:a.map some=b.map some↔a=b:=List.map_inj_right (fun a b e=>Option.some.inj e)
theorem idxOf_mapS (x:List Int):∀l:List (List Int),(l.map (fun r=>r.map some)).idxOf (x.map some)=l.idxOf x
 |[]=>rfl
 |a::l=>by
  rw[List.map_cons,List.idxOf_cons,List.idxOf_cons,idxOf_mapS x l]
  have:(a.map some==x.map some)=(a==x):=by rw[Bool.eq_iff_iff,beq_iff_eq,beq_iff_eq];exact map_some_inj
  rw[this]
theorem rows_some {N:Nat}{acc ends:List (List Int)}{es:List (List Int×Int)}(hT:Tt N acc ends es):acc.map (rowX es ends)=(acc.map (gI es ends)).map (fun r=>r.map some):=by
 rw[List.map_map]
 refine List.map_congr_left fun u hu=>?_
 rw[rowX_nd hT.2.1,ful_some (hT.2.2.2.1 u hu)];rfl
theorem row_in {N:Nat}{acc ends:List (List Int)}{es:List (List Int×Int)}(hT:Tt N acc ends es)(w:List Int):rowX es ends w∈acc.map (rowX es ends)↔(ixO es ends acc w).isSome=true:=by
 rw[rows_some hT,rowX_nd hT.2.1]
 unfold ixO
 constructor
 ·intro h
  obtain⟨r,hr,e⟩:=List.mem_map.mp h
  have hF:Ful es ends w:=ful_iff.mpr (by rw[<-e];simp)
  rw[ful_some hF]at e
  rw[if_pos ⟨hF,by rw[<-map_some_inj.mp e];exact hr⟩];rfl
 ·intro h
  by_cases c:Ful es ends w/\gI es ends w∈acc.map (gI es ends)
  ·rw[ful_some c.1]
   exact List.mem_map.mpr ⟨_,c.2,rfl⟩
  ·rw[if_neg c]at h;cases h
theorem row_ix {N:Nat}{acc ends:List (List Int)}{es:List (List Int×Int)}(hT:Tt N acc ends es){w:List Int}(h:(ixO es ends acc w).isSome=true):(acc.map (rowX es ends)).idxOf (rowX es ends w)=(acc.map (gI es ends)).idxOf (gI es ends w):=by
 rw[rows_some hT,rowX_nd hT.2.1]
 unfold ixO at h
 by_cases c:Ful es ends w/\gI es ends w∈acc.map (gI es ends)
 ·rw[ful_some c.1,idxOf_mapS]
 ·rw[if_neg c]at h;cases h
theorem rows_eqs {K:PySem.W.Frag}{H:Hp}{us:List V}{rs:List (List (Option Int))}{t:Addr}{r:List (Option Int)}(h:WLv H us (rs.map fun x=>x.map oV))(ht:H t=some (.lst (r.map oV))):EqsD K H 4 us (.ref t) (fun i=>decide (rs[i]?=some r)):=by
 have key:∀(i:Nat) (q:Addr),us[i]?=some (.ref q)->∃x,rs[i]?=some x/\H q=some (.lst (x.map oV)):=fun i q hv=>by
  obtain⟨q',vs,h1,e,h2⟩:=h.at hv
  cases e
  rw[List.getElem?_map]at h1
  obtain⟨x,hx,rfl⟩:=Option.map_eq_some_iff.mp h1
  exact⟨x,hx,h2⟩
 refine⟨fun i v hv=>?_,fun i j v hi hj=>?_⟩
 ·obtain⟨q,_,_,rfl,_⟩:=h.at hv
  obtain⟨x,hx,h2⟩:=key i q hv
  refine⟨q,rfl,?_⟩
  have:=eq_oV (K:=K) (SqL.of h2) (SqL.of ht) 3
  have he:(fun i=>decide (rs[i]?=some r)) i=decide (x=r):=by
   show decide _=_
   rw[hx,Bool.eq_iff_iff,decide_eq_true_eq,decide_eq_true_eq];exact⟨Option.some.inj,congrArg some⟩
  rw[he]
  exact this
 ·obtain⟨q,_,_,rfl,_⟩:=h.at hi
  obtain⟨x,hx,h2⟩:=key i q hi
  obtain⟨y,hy,h3⟩:=key j q hj
  rw[h2]at h3
  cases (List.map_inj_right (fun a b e=>oV_inj e)).mp (HO.lst.inj (Option.some.inj h3))
  show decide _=decide _
  rw[hx,hy]
theorem rows_any (rs:List (List (Option Int)))(r:List (Option Int)):(List.range rs.length).any (fun i=>decide (rs[i]?=some r))=decide (r∈rs):=by
 rw[Bool.eq_iff_iff,decide_eq_true_eq,List.any_eq_true]
 constructor
 ·rintro⟨i,_,h⟩
  exact List.mem_of_getElem? (of_decide_eq_true h)
 ·intro h
  obtain⟨i,hi,e⟩:=List.mem_iff_getElem.mp h
  exact⟨i,List.mem_range.mpr hi,decide_eq_true (by rw[List.getElem?_eq_getElem hi,e])⟩
def sp_house49 (K:PySem.W.Frag):Sp:=fun vs H Q _=>∃(a:Addr) (N:Nat) (xs ys:List V) (acc ends:List (List Int)) (es:List (List Int×Int)),vs=[.ref a]/\Ppr K H a N xs ys acc ends es/\B49 N acc ends es/\(∀h tm tw zs H',Same H H'->Jp N acc ends es->H' h=some (.tup [.int N,.ref tm,.ref tw])->H' tm=some (.tup ((acc.map (mk49 es)).map V.int))->H' tw=some (.tup zs)->WordsT K H' zs (fW N (gI es ends) acc)->Q (.ref h) H')/\(∀H',Same H H'->¬ Jp N acc ends es->Q .non H')
theorem ok__law_house {f:Addr}{fd:FuncData}(F:Fun K "_law_house" "_law_house" s__law_house f fd)(T:Txt mg)
  (Z:Exs K mg C_AskError C_NoPaper C_NoText)
  {f__law_row:Addr} {fd__law_row:FuncData} (q__law_row:Cal P w K mg base CX0 2 "_law_row" s__law_row ["note","word"] (sp_row49 K) f__law_row fd__law_row)
  {f__law_apart:Addr} {fd__law_apart:FuncData} (q__law_apart:Cal P w K mg base CX0 3 "_law_apart" s__law_apart ["note"] (sp_apart49 K) f__law_apart fd__law_apart)
  : FnOk P w K mg base CX0 4 f fd ["note"] (sp_house49 K):=by
 refine F.ok sc__law_house (fun vs H Q E h=>?_) (fun cdv A outer s H vs Q E hr h=>?_)
 ·obtain⟨a,N,xs,ys,acc,ends,es,rfl,_⟩:=h;rfl
 ·obtain⟨a,N,xs,ys,acc,ends,es,rfl,P,B,k,k0⟩:=h
  have hl:=line1000
  refine⟨_,(pss_cons (ps_asg (pvD 0) (pg_tup rfl (pgs_cons (pg_name (i:=1) sc__law_house.nd rfl (Or.inl rfl)) (pgs_cons (pg_name (i:=2) sc__law_house.nd rfl (Or.inl rfl)) (pgs_cons (pg_name (i:=3) sc__law_house.nd rfl (Or.inl rfl)) (pgs_cons (pg_name (i:=4) sc__law_house.nd rfl (Or.inl rfl)) pgs_nil))))))
   (pss_cons (ps_if (PW.pt (pw_or (pt_not (ptB (pt_val (pe_callQ q__law_apart hr.d pass0 (pa_cons (pvD 0) pa_nil))))) (pw_or (ptT (pt_cmpR (op_neD 8 (hu9 hr)) (pe_ixA (ixTD ix_tup) (pvD 2) pe_int) (pe_tup pa_nil) (nomark _))) (pw_or (ptT (pt_cmpR (opE op_eq) (pe_callB (lenD call_len_seq) (by rfl) T.len PySem.boot_len (pa_cons (pvD 3) pa_nil)) pe_int (nomark _))) (pw_or1 (ptT (pt_cmpR (op_neD 8 (hu9 hr)) (pe_ixA (ixTD ix_tup) (pvD 3) pe_int) (pe_tup pa_nil) (nomark _))))))))
   (pss_one (ps_ret pe_non))
   pss_nil)
   (pss_cons (ps_for PassesOwn.never rfl (pi_range2 rfl T.range (pa_cons pe_int (pa_cons (pe_callB (lenD call_len_seq) (by rfl) T.len PySem.boot_len (pa_cons (pvD 2) pa_nil)) pa_nil))) (pg_name (i:=5) sc__law_house.nd rfl (Or.inl rfl))
   (pss_one (ps_if (PW.pt (pw_or (ptT (pt_cmpR (op_eqD 8 (hu9 hr)) (pe_ixA (ixTD ix_tup) (pvD 2) (pvD 5)) (pe_tup pa_nil) (nomark _))) (pw_or1 (ptT (pt_cmpR (op_notInW (hu9 hr)) (pe_slice sl_tup2 (pe_ixA (ixTD ix_tup) (pvD 2) (pvD 5)) po_none (po_some (pe_un un_neg pe_int))) (pe_callTy call_list_of rfl T.list PyProof.Rows.boot_list (pa_cons (pe_slice sl_tup2 (pvD 2) po_none (po_some (pvD 5))) pa_nil)) rfl)))))
   (pss_one (ps_ret pe_non))
   pss_nil)))
   (pss_cons (ps_setC (i:=6) sc__law_house.nd rfl rfl rfl (blk_mk rfl) (cp:=c__law_house_0) ⟨⟨rfl,rfl⟩,True.intro⟩ (pi_tup (pvD 2)) (fun _ _ _ _=>(pg_name (i:=0) nd_c__law_house_0 rfl (Or.inl rfl))) (fun _ _ _ _=>pf_nil) (fun _ _ _ _=>(pe_callQ q__law_row hr.d pass0 (pa_cons (pvD 1) (pa_cons (pvD 0) pa_nil)))))
   (pss_cons (ps_setL (i:=7) sc__law_house.nd (pe_lst pa_nil))
   (pss_cons (ps_for PassesOwn.never rfl (pi_tup (pvD 2)) (pg_name (i:=8) sc__law_house.nd rfl (Or.inl rfl))
   (pss_cons (ps_setL (i:=9) sc__law_house.nd (pe_lst pa_nil))
   (pss_cons (ps_for PassesOwn.never rfl (pi_range1 rfl T.range (pa_cons (pvD 1) pa_nil)) (pg_name (i:=10) sc__law_house.nd rfl (Or.inl rfl))
   (pss_cons (ps_setL (i:=11) sc__law_house.nd (pe_callQ q__law_row hr.d pass0 (pa_cons (pvD 0) (pa_cons (pe_op op_catT2 (pvD 8) (pe_tup (pa_cons (pvD 10) pa_nil))) pa_nil))))
   (pss_cons (ps_if (ptT (pt_cmpR (op_notInG 4 (hu45 (hu9 hr))) (pvD 11) (pvD 6) rfl))
   (pss_one (ps_ret pe_non))
   pss_nil)
   (pss_one (ps_expr (pe_bm PySem.F.plainAttrs_list PySem.F.slot_list_append PySem.F.type_list_append mt_append (pvD 9) (pa_cons (pe_bm PySem.F.plainAttrs_list PySem.F.slot_list_index PySem.F.type_list_index (mt_indexGK (K:=K) rfl 4 (hu46 (hu9 hr))) (pvD 6) (pa_cons (pvD 11) pa_nil)) pa_nil)))))))
   (pss_one (ps_expr (pe_bm PySem.F.plainAttrs_list PySem.F.slot_list_append PySem.F.type_list_append mt_append (pvD 7) (pa_cons (pe_callTy call_tuple_L rfl T.tuple PyProof.Rows.boot_tuple (pa_cons (pvD 9) pa_nil)) pa_nil)))))))
   (pss_one (ps_ret (pe_tup (pa_cons (pvD 1) (pa_cons (pe_callTy call_tuple_L rfl T.tuple PyProof.Rows.boot_tuple (pa_cons (pe_comp rfl (blk_mk rfl) (cp:=c__law_house_4) True.intro (pi_list (pvD 6)) (fun _ _ _ _=>(pg_name (i:=0) nd_c__law_house_4 rfl (Or.inl rfl))) (fun _ _ _ _=>pf_nil) (fun _ _ _ _=>(pe_ixA (ixLD (ix_listK (K:=K) rfl)) (pvD 0) pe_int))) pa_nil)) (pa_cons (pe_callTy call_tuple_L rfl T.tuple PyProof.Rows.boot_tuple (pa_cons (pvD 7) pa_nil)) pa_nil)))))))))))),?_⟩
  obtain⟨ta,te,th,o,ts,h1,h2,h3,h4,h5,h6,h7,h8⟩:=id P
  walk_at "rd"
  have b1:=B.al
  have b2:=B.el
  refine⟨_,h1,rfl,_,_,rfl,_,_,rfl,_,_,rfl,_,_,rfl,rfl,a,N,xs,ys,acc,ends,es,rfl,P,B,fun H1 s1 hT=>⟨true,rfl,?_⟩,fun H1 s1 hT=>⟨false,rfl,?_⟩⟩
  rotate_left
  ·rw[if_pos (by simp)]
   exact k0 _ s1 fun z=>hT z.1
  rw[if_neg (by simp)]
  have hac:0<acc.length:=List.length_pos_iff.mpr hT.1
  obtain⟨t0,e1,e2⟩:=h3.2 0 acc[0] (List.getElem?_eq_getElem hac)
  refine⟨ta,rfl,_,s1.seqT h2,_,atI_nat (j:=0) e1,by omega,fun p hp=>⟨t0,rfl,_,EqD.ints (xs:=acc[0]) (ys:=[]) (.inr ⟨SqT.of ((s1.newT hp) _ _ e2),SqT.of upd_same⟩) 7,?_⟩⟩
  have s2:=s1.newT hp (o:=.tup [])
  by_cases h0:acc[0]=[]
  rotate_left
  ·rw[if_pos (by rw[decide_eq_false h0];rfl)]
   exact k0 _ s2 fun z=>h0 (by have:=z.2.1.1;rw[List.getElem?_eq_getElem hac]at this;exact Option.some.inj this)
  rw[if_neg (by rw[decide_eq_true h0];simp)]
  refine⟨te,rfl,ys,.inr (s2.seqT h4),?_⟩
  by_cases hen:ends=[]
  ·rw[if_pos (by rw[h5.1,hen];rfl)]
   exact k0 _ s2 fun z=>by have:=z.2.2.1;rw[hen]at this;cases this
  have hel:0<ends.length:=List.length_pos_iff.mpr hen
  rw[if_neg (by rw[h5.1];omega)]
  obtain⟨tf,g1,g2⟩:=h5.2 0 ends[0] (List.getElem?_eq_getElem hel)
  refine⟨te,rfl,_,s2.seqT h4,_,atI_nat (j:=0) g1,by omega,fun p2 hp2=>⟨tf,rfl,_,EqD.ints (xs:=ends[0]) (ys:=[]) (.inr ⟨SqT.of ((s2.newT hp2) _ _ g2),SqT.of upd_same⟩) 7,?_⟩⟩
  have s3:=s2.newT hp2 (o:=.tup [])
  by_cases hE0:ends[0]=[]
  rotate_left
  ·rw[if_pos (by rw[decide_eq_false hE0];rfl)]
   exact k0 _ s3 fun z=>hE0 (by have:=z.2.2.1;rw[List.getElem?_eq_getElem hel]at this;exact Option.some.inj this)
  rw[if_neg (by rw[decide_eq_true hE0];simp)]
  refine⟨ta,rfl,xs,.inr (s3.seqT h2),by decide,by decide,by omega,by rw[h3.1];omega,?_⟩
  generalize upd (upd H1 p (.tup [])) p2 (.tup [])=H2 at s3 ⊢
  have hn:((xs.length:Int)-1).toNat=acc.length-1:=by rw[h3.1];omega
  rw[hn]
  obtain⟨Pv,hPv⟩:∃Pv:Nat->St->Hp->Prop,∀i σ' H',Pv i σ' H'↔(∃o1:Option V,Same H H'/\(∀j u,0<j->j<i+1->acc[j]?=some u->u.dropLast∈acc.take j)/\σ'=[some (.ref a),some (.int N),some (.ref ta),some (.ref te),some (.ref th),o1,none,none,none,none,none,none]):=⟨_,fun _ _ _=>Iff.rfl⟩
  refine forR Pv ((hPv _ _ _).mpr ⟨none,s3,fun j u h0 h1=>by omega,rfl⟩) (fun i σ' H' hi h'=>?_) (fun σ' H' h'=>?_)
  ·obtain⟨o1,s4,hI,rfl⟩:=(hPv _ _ _).mp h'
   have hi1:1+i<acc.length:=by omega
   obtain⟨tu,f1,f2⟩:=h3.2 (1+i) acc[1+i] (List.getElem?_eq_getElem hi1)
   have ei:(1:Int)+(i:Int)=((1+i:Nat):Int):=by omega
   walk_at "rd"
   rw[ei]
   refine⟨_,s4.seqT h2,_,atI_nat f1,by omega,fun p hp=>⟨tu,rfl,_,EqD.ints (xs:=acc[1+i]) (ys:=[]) (.inr ⟨SqT.of ((s4.newT hp) _ _ f2),SqT.of upd_same⟩) 7,?_⟩⟩
   have s5:=s4.newT hp (o:=.tup [])
   refine ite2 (fun hz=>?_) (fun hz=>?_)
   ·exfalso
    have hz:=of_decide_eq_true hz
    have nd:=hT.2.2.2.2
    have:=(List.getElem_inj (xs:=acc.map (gI es ends)) (i:=0) (j:=1+i) (h₀:=by rw[List.length_map];omega) (h₁:=by rw[List.length_map];omega) nd).mp (by rw[List.getElem_map,List.getElem_map,hz,h0])
    omega
   ·refine⟨_,s5.seqT h2,_,atI_nat f1,tu,rfl,_,s5.seqT (SqT.of f2),fun q1 H3 s6 hq1=>⟨_,(s5.trans s6).seqT h2,fun q2 H4 s7 hq2=>⟨_,.inr hq2,fun l hl'=>?_⟩⟩⟩
    rw[cutV_init49]at hq1
    rw[cutV_take50]at hq2 ⊢
    have s8:=(s5.trans s6).trans s7
    have s9:=s8.newT hl' (o:=.lst (xs.take (1+i)))
    refine⟨_,SqL.of upd_same,acc[1+i].dropLast,acc.take (1+i),(h3.mono (TK.of s9)).takeN _,(s7.newT hl').seqT hq1,?_⟩
    refine ite2 (fun hb=>?_) (fun hb=>?_)
    ·refine k0 _ s9 fun z=>?_
     have:=z.2.1.2 (1+i) acc[1+i] (by omega) (List.getElem?_eq_getElem hi1)
     simp[this]at hb
    ·have hb:acc[1+i].dropLast∈acc.take (1+i):=by simpa using hb
     refine (hPv _ _ _).mpr ⟨_,s9,fun j u hj0 hj1 hu=>?_,rfl⟩
     by_cases hj:j<i+1
     ·exact hI j u hj0 hj hu
     ·have:j=1+i:=by omega
      subst this
      rw[List.getElem?_eq_getElem hi1]at hu
      cases hu
      exact hb
  obtain⟨o1,s4,hI,rfl⟩:=(hPv _ _ _).mp h'
  have hAw:Aw acc:=⟨by rw[List.getElem?_eq_getElem hac,h0],fun i u h0 hu=>hI i u h0 (by have:=(List.getElem?_eq_some_iff.mp hu).1;omega) hu⟩
  walk_at "rd"
  refine⟨⟨_,s4.seqT h2⟩,?_⟩
  obtain⟨Pr,hPr⟩:∃Pc:Nat->List V->St->Hp->Prop,∀i us σ' H5,Pc i us σ' H5↔(Same H' H5/\WLv H5 us ((acc.take i).map fun u=>(rowX es ends u).map oV)/\∃o,σ'=[o,some (.ref a)]):=⟨_,fun _ _ _ _=>Iff.rfl⟩
  refine compT (xs:=xs) Pr ((hPr _ _ _ _).mpr ⟨Same.refl _,WLv.nil,none,rfl⟩) (by rw[h3.1];omega) (fun i us σ' H' hi h'=>?_) (fun i x us σ' H' hx h'=>?_) (fun us σ' H7 h' Dr hDr=>?_)
  ·obtain⟨s7,hW7,_⟩:=(hPr _ _ _ _).mp h'
   exact⟨(s4.trans s7).seqT h2,by rw[hW7.1,List.length_map,List.length_take];omega⟩
  ·obtain⟨s7,hW7,ov,rfl⟩:=(hPr _ _ _ _).mp h'
   obtain⟨t,u,hu,rfl,ht⟩:=h3.at hx
   have et:acc.take (i+1)=acc.take i++[u]:=by rw[List.take_add_one,hu];rfl
   have hul:=B.wa u (List.mem_of_getElem? hu)
   have s37:=s4.trans s7
   walk_at "rd"
   refine⟨a,t,N,xs,ys,acc,ends,es,u,rfl,P.mono s37,B,s37 _ _ ht,by omega,fun l8 H8 s8 _ hl8=>(hPr _ _ _ _).mpr ⟨s7.trans s8,?_,_,rfl⟩⟩
   rw[et,List.map_append]
   exact (hW7.mono s8).snoc hl8
  obtain⟨s7,hW7,ov,rfl⟩:=(hPr _ _ _ _).mp h'
  rw[h3.1,List.take_length]at hW7
  have sDr:=Same.new hDr (o:=.lst us)
  have s38:=(s4.trans s7).trans sDr
  have hW8:=hW7.mono sDr
  have hDr8:upd H7 Dr (.lst us) Dr=some (.lst us):=upd_same
  generalize upd H7 Dr (.lst us)=H8 at s38 hW8 hDr8
  have hul:us.length=acc.length:=by rw[hW8.1,List.length_map]
  have hWr:WLv H8 us ((acc.map (rowX es ends)).map fun x=>x.map oV):=by rw[List.map_map];exact hW8
  refine⟨by omega,fun q7 hq7=>⟨⟨_,((s38.newT hq7).seqT h2)⟩,?_⟩⟩
  obtain⟨Pw,hPw⟩:∃Pv:Nat->St->Hp->Prop,∀i σ' H',Pv i σ' H'↔(∃(zs:List V) (o1 o2 o3 o4 o5:Option V),Same H8 H'/\H' q7=some (.lst zs)/\WordsT K H' zs ((fW N (gI es ends) acc).take i)/\(∀u∈acc.take i,∀x:Nat,x<N->(ixO es ends acc (u++[(x:Int)])).isSome=true)/\σ'=[some (.ref a),some (.int N),some (.ref ta),some (.ref te),some (.ref th),o1,some (.ref Dr),some (.ref q7),o2,o3,o4,o5]):=⟨_,fun _ _ _=>Iff.rfl⟩
  refine forT (xs:=xs) Pw ((hPw _ _ _).mpr ⟨[],_,_,_,_,_,Same.new hq7,upd_same,by rw[List.take_zero];exact WordsT.nil,fun u hu=>by simp at hu,rfl⟩) (fun i σ' H' _ h'=>by obtain⟨_,_,_,_,_,_,s9,_⟩:=(hPw _ _ _).mp h';exact (s38.trans s9).seqT h2) (fun i x σ9 H9 hx h9=>?_) (fun σ9 H9 h9=>?_)
  ·obtain⟨zs,p1,p2,p3,p4,p5,s9,hq9,hzs,hX,rfl⟩:=(hPw _ _ _).mp h9
   obtain⟨t,u,hu,rfl,ht⟩:=h3.at hx
   have hum:=List.mem_of_getElem? hu
   have et:acc.take (i+1)=acc.take i++[u]:=by rw[List.take_add_one,hu];rfl
   have ef:(fW N (gI es ends) acc).take (i+1)=(fW N (gI es ends) acc).take i++[(List.range N).map fun x:Nat=>(((acc.map (gI es ends)).idxOf (gI es ends (u++[(x:Int)])):Nat):Int)]:=by
    rw[List.take_add_one]
    unfold fW
    rw[List.getElem?_map,hu];rfl
   have hwl:=B.wa u hum
   have hn6:=B.n6
   have sA:=s38.trans s9
   walk_at "rd"
   refine⟨by omega,fun q10 hq10=>⟨by omega,by omega,?_⟩⟩
   rw[Int.toNat_natCast]
   have hq17:q7≠q10:=fun z=>by rw[z,hq10]at hq9;cases hq9
   obtain⟨Pi,hPi⟩:∃Pv:Nat->St->Hp->Prop,∀j σ' H',Pv j σ' H'↔(∃(o4 o5:Option V),Same H9 H'/\H' q10=some (.lst (((List.range j).map fun x:Nat=>(((acc.map (gI es ends)).idxOf (gI es ends (u++[(x:Int)])):Nat):Int)).map V.int))/\(∀x:Nat,x<j->(ixO es ends acc (u++[(x:Int)])).isSome=true)/\σ'=[some (.ref a),some (.int N),some (.ref ta),some (.ref te),some (.ref th),p1,some (.ref Dr),some (.ref q7),some (.ref t),some (.ref q10),o4,o5]):=⟨_,fun _ _ _=>Iff.rfl⟩
   refine forR Pi ((hPi _ _ _).mpr ⟨_,_,Same.new hq10,upd_same,fun x hx=>absurd hx (Nat.not_lt_zero _),rfl⟩) (fun j σa Ha hj ha=>?_) (fun σa Ha ha=>?_)
   ·obtain⟨o4,o5,sa,hqa,hXa,rfl⟩:=(hPi _ _ _).mp ha
    rw[Int.zero_add]
    have sB:=sA.trans sa
    walk_at "rd"
    refine⟨by omega,fun r1 hr1=>rCatT2.ofS (Same.new hr1 _ _ (sB _ _ ht)) upd_same (by simp;omega) fun q3 H5 s5 hq5=>?_⟩
    have sc:=(Same.new hr1 (o:=.tup [V.int j])).trans s5
    have sC:=sB.trans sc
    refine⟨a,q3,N,xs,ys,acc,ends,es,u++[(j:Int)],rfl,P.mono sC,B,by rw[List.map_append];exact hq5,by simp;omega,fun l6 H6 s6 _ hl6=>?_⟩
    have sd:=sc.trans s6
    have sD:=(s9.trans sa).trans sd
    have hE:EqsD K H6 4 us (.ref l6) (fun i=>decide ((acc.map (rowX es ends))[i]?=some (rowX es ends (u++[(j:Int)])))):=rows_eqs (hWr.mono sD) hl6
    have hany:(List.range us.length).any (fun i=>decide ((acc.map (rowX es ends))[i]?=some (rowX es ends (u++[(j:Int)]))))=decide (rowX es ends (u++[(j:Int)])∈acc.map (rowX es ends)):=by
     rw[<-rows_any,hul,List.length_map]
    have hDr9:=sD _ _ hDr8
    refine⟨l6,rfl,us,SqL.of hDr9,_,hE,?_⟩
    rw[hany]
    by_cases hin:rowX es ends (u++[(j:Int)])∈acc.map (rowX es ends)
    rotate_left
    ·rw[if_pos (by rw[decide_eq_false hin];rfl)]
     exact k0 _ (s38.trans sD) fun z=>hin ((row_in hT _).mpr (z.2.2.2 u hum j hj))
    rw[if_neg (by rw[decide_eq_true hin];simp)]
    have hso:=(row_in hT _).mp hin
    have hixl:=List.idxOf_lt_length_of_mem hin
    refine⟨.inl ⟨rfl,_,SqL.of (sd _ _ hqa)⟩,.inl ⟨rfl,_,SqL.of hDr9⟩,us,l6,rfl,hDr9,_,hE,(acc.map (rowX es ends)).idxOf (rowX es ends (u++[(j:Int)])),by rw[hul,<-List.length_map (f:=rowX es ends)];exact hixl,?_,fun m hm=>?_,by omega,_,sd _ _ hqa,by simp;omega,?_⟩
    ·refine decide_eq_true ?_
     rw[List.getElem?_eq_getElem hixl,List.getElem_idxOf]
    ·refine decide_eq_false fun z=>?_
     obtain⟨hm1,hm2⟩:=List.getElem?_eq_some_iff.mp z
     have:=List.not_of_lt_findIdx (p:=fun y=>y==rowX es ends (u++[(j:Int)])) (xs:=acc.map (rowX es ends)) hm
     rw[hm2]at this
     simp at this
    ·refine (hPi _ _ _).mpr ⟨_,_,(sa.trans sd).over hq10,?_,fun x hx=>?_,rfl⟩
     ·rw[upd_same,row_ix hT hso,List.range_succ,List.map_append,List.map_append];rfl
     ·by_cases hxj:x<j
      ·exact hXa x hxj
      ·have:x=j:=by omega
       rw[this];exact hso
   ·obtain⟨o4,o5,sa,hqa,hXa,rfl⟩:=(hPi _ _ _).mp ha
    walk_at "rd"
    have hq7a:=sa _ _ hq9
    refine⟨.inl ⟨rfl,_,SqL.of hq7a⟩,_,.inl ⟨SqL.of hqa,fun l hl'=>?_⟩⟩
    have sb:=sa.newT hl' (o:=.tup (((List.range N).map fun x:Nat=>(((acc.map (gI es ends)).idxOf (gI es ends (u++[(x:Int)])):Nat):Int)).map V.int))
    have hq7b:=sb _ _ hq9
    have hzl:=hzs.1
    rw[List.length_take]at hzl
    have hil:=(List.getElem?_eq_some_iff.mp hu).1
    refine⟨zs,hq7b,by omega,(hPw _ _ _).mpr ⟨_,_,_,_,_,_,(s9.trans sb).over hq7,upd_same,?_,fun v hv=>?_,rfl⟩⟩
    ·rw[ef]
     exact ((hzs.mono (TK.of sb)).snoc upd_same).mono (TK.lst hq7b)
    ·rw[et]at hv
     rcases List.mem_append.mp hv with hv|hv
     ·exact hX v hv
     ·rw[List.mem_singleton.mp hv];exact hXa
  ·obtain⟨zs,p1,p2,p3,p4,p5,s9,hq9,hzs,hX,rfl⟩:=(hPw _ _ _).mp h9
   rw[h3.1,List.take_of_length_le (by unfold fW;rw[List.length_map];exact Nat.le_refl _)]at hzs
   rw[h3.1,List.take_length]at hX
   walk_at "rd"
   refine⟨⟨_,SqL.of (s9 _ _ hDr8)⟩,?_⟩
   obtain⟨Pm,hPm⟩:∃Pc:Nat->List V->St->Hp->Prop,∀i vs σ' H',Pc i vs σ' H'↔(H'=H9/\vs=((acc.take i).map (mk49 es)).map V.int/\∃o,σ'=[o]):=⟨_,fun _ _ _ _=>Iff.rfl⟩
   refine compL (xs:=us) Pm ((hPm _ _ _ _).mpr ⟨rfl,rfl,none,rfl⟩) (by omega) (fun i vs σ' H' hi h'=>?_) (fun i x vs σ' H' hx h'=>?_) (fun vs σ' H' h' D2 hD2=>?_)
   ·obtain⟨rfl,rfl,_⟩:=(hPm _ _ _ _).mp h'
    exact⟨SqL.of (s9 _ _ hDr8),by simp;omega⟩
   ·obtain⟨rfl,rfl,ov,rfl⟩:=(hPm _ _ _ _).mp h'
    obtain⟨tr,vs,hv,rfl,htr⟩:=hW8.at hx
    rw[List.getElem?_map]at hv
    obtain⟨u,hu,rfl⟩:=Option.map_eq_some_iff.mp hv
    have hum:=List.mem_of_getElem? hu
    have et:acc.take (i+1)=acc.take i++[u]:=by rw[List.take_add_one,hu];rfl
    walk_at "rd"
    have hr0:(rowX es ends u)[0]?=some (some (mk49 es u)):=by
     rw[rowX_nd hT.2.1,ful_some (hT.2.2.2.1 u hum)]
     unfold gI
     rw[List.getElem?_map,List.getElem?_map,List.getElem?_eq_getElem hel,hE0]
     show some (some ((mkO es (u++[])).getD 0))=_
     rw[List.append_nil];rfl
    refine⟨_,SqL.of (s9 _ _ htr),_,atI_nat (j:=0) (by rw[List.getElem?_map,hr0];rfl),(hPm _ _ _ _).mpr ⟨rfl,?_,_,rfl⟩⟩
    rw[et,List.map_append,List.map_append];rfl
   ·obtain⟨rfl,rfl,ov,rfl⟩:=(hPm _ _ _ _).mp h'
    rw[hul,List.take_length]
    refine⟨D2,rfl,_,.inl ⟨SqL.of upd_same,fun tm htm=>⟨_,.inl ⟨SqL.of (((Same.new hD2).newT htm) _ _ hq9),fun tw htw=>⟨by omega,fun h hh=>?_⟩⟩⟩⟩⟩
    have sE:=(((Same.new hD2 (o:=.lst ((acc.map (mk49 es)).map V.int))).newT htm (o:=.tup ((acc.map (mk49 es)).map V.int))).newT htw (o:=.tup zs)).newT hh (o:=.tup [V.int N,V.ref tm,V.ref tw])
    refine k h tm tw zs _ ((s38.trans s9).trans sE) ⟨hT,hAw,by rw[List.getElem?_eq_getElem hel,hE0],hX⟩ upd_same ?_ ?_ (hzs.mono (TK.of sE))
    ·exact (Same.new htw |>.newT hh) _ _ upd_same
    ·exact Same.new hh _ _ upd_same
def sp_same49 (K:PySem.W.Frag):Sp:=fun vs H Q _=>∃(a b tm tw tm' tw':Addr) (N:Int) (zs zs':List V) (ms:List Int) (ws:List (List Int)),vs=[.ref a,.ref b]/\H a=some (.tup [.int N,.ref tm,.ref tw])/\H tm=some (.tup (ms.map V.int))/\H tw=some (.tup zs)/\WordsT K H zs ws/\H b=some (.tup [.int N,.ref tm',.ref tw'])/\H tm'=some (.tup (ms.map V.int))/\H tw'=some (.tup zs')/\WordsT K H zs' ws/\ws.length<=100/\∀H',Same H H'->Q (.bl true) H'
theorem ok__law_same {f:Addr}{fd:FuncData}(F:Fun K "_law_same" "_law_same" s__law_same f fd)(T:Txt mg)
  (Z:Exs K mg C_AskError C_NoPaper C_NoText)
  {f__law_whole:Addr} {fd__law_whole:FuncData} (q__law_whole:Cal P w K mg base CX0 1 "_law_whole" s__law_whole ["found"] (sp_whole) f__law_whole fd__law_whole)
  : FnOk P w K mg base CX0 2 f fd ["found","due"] (sp_same49 K):=by
 refine F.ok sc__law_same (fun vs H Q E h=>?_) (fun cdv A outer s H vs Q E hr h=>?_)
 ·obtain⟨a,b,tm,tw,tm',tw',N,zs,zs',ms,ws,rfl,_⟩:=h;rfl
 ·obtain⟨a,b,tm,tw,tm',tw',N,zs,zs',ms,ws,rfl,a1,a2,a3,a4,b1,b2,b3,b4,hwl,k⟩:=h
  have hl:=line1000
  refine⟨_,(pss_cons (ps_if (PW.pt (pw_or (pt_not (ptB (pt_val (pe_callB call_isinstW rfl T.isinstance PyProof.Rows.boot_isinstance (pa_cons (pvD 0) (pa_cons (pe_bltn (v:=.ty "tuple") rfl T.tuple PyProof.Rows.boot_tuple rfl) pa_nil)))))) (pw_or (ptT (pt_cmpR (opN op_ne) (pe_callB (lenD call_len_seq) (by rfl) T.len PySem.boot_len (pa_cons (pvD 0) pa_nil)) pe_int (nomark _))) (pw_or1 (pt_not (ptB (pt_val (pe_callQ q__law_whole hr.d pass0 (pa_cons (pe_ixA (ixTD ix_tup) (pvD 0) pe_int) pa_nil)))))))))
   (pss_one (ps_ret pe_bl))
   pss_nil)
   (pss_cons (ps_if (PW.pt (pw_or (pt_not (ptB (pt_val (pe_callB call_isinstW rfl T.isinstance PyProof.Rows.boot_isinstance (pa_cons (pe_ixA (ixTD ix_tup) (pvD 0) pe_int) (pa_cons (pe_bltn (v:=.ty "tuple") rfl T.tuple PyProof.Rows.boot_tuple rfl) pa_nil)))))) (pw_or (pt_not (ptB (pt_val (pe_callB call_isinstW rfl T.isinstance PyProof.Rows.boot_isinstance (pa_cons (pe_ixA (ixTD ix_tup) (pvD 0) pe_int) (pa_cons (pe_bltn (v:=.ty "tuple") rfl T.tuple PyProof.Rows.boot_tuple rfl) pa_nil)))))) (pw_or1 (ptT (pt_cmpR (op_neD 8 (hu9 hr)) (pvD 0) (pvD 1) (nomark _)))))))
   (pss_one (ps_ret pe_bl))
   pss_nil)
   (pss_cons (ps_for PassesOwn.never rfl (pi_list (pe_op op_cat (pe_lst (pa_cons (pe_ixA (ixTD ix_tup) (pvD 0) pe_int) pa_nil)) (pe_callTy call_list_of rfl T.list PyProof.Rows.boot_list (pa_cons (pe_ixA (ixTD ix_tup) (pvD 0) pe_int) pa_nil)))) (pg_name (i:=2) sc__law_same.nd rfl (Or.inl rfl))
   (pss_cons (ps_if (pt_not (ptB (pt_val (pe_callB call_isinstW rfl T.isinstance PyProof.Rows.boot_isinstance (pa_cons (pvD 2) (pa_cons (pe_bltn (v:=.ty "tuple") rfl T.tuple PyProof.Rows.boot_tuple rfl) pa_nil))))))
   (pss_one (ps_ret pe_bl))
   pss_nil)
   (pss_one (ps_for PassesOwn.never rfl (pi_tup (pvD 2)) (pg_name (i:=3) sc__law_same.nd rfl (Or.inl rfl))
   (pss_one (ps_if (pt_not (ptB (pt_val (pe_callQ q__law_whole hr.d pass0 (pa_cons (pvD 3) pa_nil)))))
   (pss_one (ps_ret pe_bl))
   pss_nil))))))
   (pss_one (ps_ret pe_bl))))),?_⟩
  walk_at "rd"
  have hEw:∀{H':Hp},Same H H'->EqD K H' 7 (.ref tw) (.ref tw') true:=fun {H'} s'=>by
   refine .inr ⟨tw,tw',zs,zs',rfl,rfl,.inr ⟨SqT.of (s' _ _ a3),SqT.of (s' _ _ b3)⟩,fun _=>true,fun i x y hx hy=>?_,by rw[a4.1,b4.1];simp⟩
   obtain⟨t,u,e1,rfl,e2⟩:=a4.at hx
   obtain⟨t',u',f1,rfl,f2⟩:=b4.at hy
   rw[e1]at f1
   cases f1
   have:=EqD.ints (K:=K) (H:=H') (xs:=u) (ys:=u) (.inr ⟨SqT.of (s' _ _ e2),SqT.of (s' _ _ f2)⟩) 5
   rw[decide_eq_true rfl]at this
   exact this
  have hE:EqD K H 8 (.ref a) (.ref b) true:=by
   refine .inr ⟨a,b,_,_,rfl,rfl,.inr ⟨SqT.of a1,SqT.of b1⟩,fun _=>true,fun i x y hx hy=>?_,by simp⟩
   match i,hx,hy with
   |0,hx,hy=>
    cases hx;cases hy
    exact .inl ⟨rfl,rfl,by simp[eqV]⟩
   |1,hx,hy=>
    cases hx;cases hy
    have:=EqD.ints (K:=K) (H:=H) (xs:=ms) (ys:=ms) (.inr ⟨SqT.of a2,SqT.of b2⟩) 6
    rw[decide_eq_true rfl]at this
    exact this
   |2,hx,hy=>
    cases hx;cases hy
    exact hEw (Same.refl _)
   |i+3,hx,hy=>simp at hx
  have hzl:zs.length=ws.length:=a4.1
  refine⟨_,_,.tup (SqT.of a1),rel_ty,_,kit_self,?_⟩
  rw[if_neg (by decide)]
  refine⟨_,.inr (SqT.of a1),?_⟩
  rw[if_neg (by simp)]
  refine⟨_,SqT.of a1,_,rfl,N,rfl,_,rfl,?_⟩
  rw[if_neg (by decide)]
  refine⟨_,SqT.of a1,_,rfl,_,_,.tup (SqT.of a2),rel_ty,_,kit_self,?_⟩
  rw[if_neg (by decide)]
  refine⟨_,SqT.of a1,_,rfl,_,_,.tup (SqT.of a3),rel_ty,_,kit_self,?_⟩
  rw[if_neg (by decide)]
  refine⟨true,hE,?_⟩
  rw[if_neg (by simp)]
  refine⟨_,SqT.of a1,_,rfl,by omega,fun p hp=>⟨_,(Same.new hp).seqT (SqT.of a1),_,rfl,tw,rfl,zs,.inr ((Same.new hp).seqT (SqT.of a3)),fun l hl'=>⟨_,Same.new hl' _ _ upd_same,zs,upd_same,by simp;omega,fun p2 hp2=>⟨⟨_,SqL.of upd_same⟩,?_⟩⟩⟩⟩
  have s3:=((Same.new hp (o:=.lst [V.ref tm])).newT hl' (o:=.lst zs)).newT hp2 (o:=.lst ([V.ref tm]++zs))
  have hall:WordsT K (upd (upd (upd H p (.lst [V.ref tm])) l (.lst zs)) p2 (.lst ([V.ref tm]++zs))) ([V.ref tm]++zs) ([ms]++ws):=(WordsT.nil.snoc (w:=ms) (s3 _ _ a2)).append (a4.mono (TK.of s3))
  have hp2':upd (upd (upd H p (.lst [V.ref tm])) l (.lst zs)) p2 (.lst ([V.ref tm]++zs)) p2=some (.lst ([V.ref tm]++zs)):=upd_same
  generalize [V.ref tm]++zs=us at hall hp2' s3 ⊢
  generalize upd (upd (upd H p (.lst [V.ref tm])) l (.lst zs)) p2 (.lst us)=H4 at hall hp2' s3 ⊢
  obtain⟨Pv,hPv⟩:∃Pv:Nat->St->Hp->Prop,∀i σ' H',Pv i σ' H'↔(∃o1 o2:Option V,H'=H4/\σ'=[some (.ref a),some (.ref b),o1,o2]):=⟨_,fun _ _ _=>Iff.rfl⟩
  refine forL (xs:=us) Pv ((hPv _ _ _).mpr ⟨none,none,rfl,rfl⟩) (fun i σ' H' _ h'=>by obtain⟨_,_,rfl,_⟩:=(hPv _ _ _).mp h';exact SqL.of hp2') (fun i x σ5 H5 hx h5'=>?_) (fun σ5 H5 h5'=>?_)
  ·obtain⟨o1,o2,rfl,rfl⟩:=(hPv _ _ _).mp h5'
   obtain⟨t,u,hu,rfl,ht⟩:=hall.at hx
   walk_at "rd"
   refine⟨_,_,.tup (SqT.of ht),rel_ty,_,kit_self,?_⟩
   rw[if_neg (by decide)]
   refine⟨⟨_,SqT.of ht⟩,?_⟩
   obtain⟨Pw,hPw⟩:∃Pv:Nat->St->Hp->Prop,∀i σ' H',Pv i σ' H'↔(∃o2:Option V,H'=H5/\σ'=[some (.ref a),some (.ref b),some (.ref t),o2]):=⟨_,fun _ _ _=>Iff.rfl⟩
   refine forT (xs:=u.map V.int) Pw ((hPw _ _ _).mpr ⟨_,rfl,rfl⟩) (fun i σ' H' _ h'=>by obtain⟨_,rfl,_⟩:=(hPw _ _ _).mp h';exact SqT.of ht) (fun i x σ6 H6 hx h6'=>?_) (fun σ6 H6 h6'=>?_)
   ·obtain⟨o2,rfl,rfl⟩:=(hPw _ _ _).mp h6'
    obtain⟨y,hy,rfl⟩:=get_mapI hx
    walk_at "rd"
    refine⟨y,rfl,_,rfl,?_⟩
    rw[if_neg (by decide)]
    exact (hPw _ _ _).mpr ⟨_,rfl,rfl⟩
   ·obtain⟨o2,rfl,rfl⟩:=(hPw _ _ _).mp h6'
    exact (hPv _ _ _).mpr ⟨_,_,rfl,rfl⟩
  ·obtain⟨o1,o2,rfl,rfl⟩:=(hPv _ _ _).mp h5'
   walk_at "rd"
   exact k _ s3
def sp_asked49 (K:PySem.W.Frag):Sp:=fun vs H Q _=>∃(a:Addr) (wh:Int) (N:Nat) (xs ys:List V) (acc ends:List (List Int)) (es:List (List Int×Int)),vs=[.ref a,.int wh]/\Ppr K H a N xs ys acc ends es/\B49 N acc ends es/\(wh=0\/wh=1)/\(wh=0->∀t H',Same H H'->((Tt N acc ends es/\H' t=some (.tup [.non,.int acc.length]))\/(¬ Tt N acc ends es/\H' t=some (.tup [.bl true,.non])))->Q (.ref t) H')/\(wh=1->∀t H',Same H H'->((Jp N acc ends es/\∃h tm tw zs,H' t=some (.tup [.non,.ref h])/\H' h=some (.tup [.int N,.ref tm,.ref tw])/\H' tm=some (.tup ((acc.map (mk49 es)).map V.int))/\H' tw=some (.tup zs)/\WordsT K H' zs (fW N (gI es ends) acc))\/(¬ Jp N acc ends es/\H' t=some (.tup [.bl true,.non])))->Q (.ref t) H')
theorem ok__law_asked {f:Addr}{fd:FuncData}(F:Fun K "_law_asked" "_law_asked" s__law_asked f fd)(T:Txt mg)
  (Z:Exs K mg C_AskError C_NoPaper C_NoText)
  {f_at_least:Addr} {fd_at_least:FuncData} (q_at_least:Cal P w K mg base (CXe P w) 4 "at_least" s_at_least ["paper"] (sp_least49 K C_NoPaper) f_at_least fd_at_least)
  {f_judged:Addr} {fd_judged:FuncData} (q_judged:Cal P w K mg base (CXe P w) 4 "judged" s_judged ["paper"] (sp_judged49 K C_NoPaper) f_judged fd_judged)
  : FnOk P w K mg base CX0 5 f fd ["note","which"] (sp_asked49 K):=by
 refine F.ok sc__law_asked (fun vs H Q E h=>?_) (fun cdv A outer s H vs Q E hr h=>?_)
 ·obtain⟨a,wh,N,xs,ys,acc,ends,es,rfl,_⟩:=h;rfl
 ·obtain⟨a,wh,N,xs,ys,acc,ends,es,rfl,P,B,hwh,k0,k1⟩:=h
  have hl:=line1000
  refine⟨_,(pss_cons (ps_setL (i:=2) sc__law_asked.nd pe_non)
   (pss_cons (ps_setL (i:=3) sc__law_asked.nd pe_non)
   (pss_cut (ps_try (i:=4) (E:=(fun σ cls d H1=>σ=[some (.ref a),some (.int wh),some .non,some .non,none]/\cls=.ref C_NoPaper/\d=none/\Same H H1/\((wh=0/\¬ Tt N acc ends es)\/(wh=1/\¬ Jp N acc ends es)))) sc__law_asked.nd rfl rfl rfl Z.m_AskError rfl rfl rfl (fun xe pn hx=>(pss_one (ps_if (ptT (pt_cmpR (opE op_eq) (pvD 1) pe_int (nomark _)))
   (pss_one (ps_setL (i:=3) sc__law_asked.nd (pe_callE q_at_least.g (hr.mono (by decide)) rfl q_at_least.m q_at_least.F.kp q_at_least.b .nil hx (pa_cons (pvD 0) pa_nil))))
   (pss_one (ps_setL (i:=3) sc__law_asked.nd (pe_callE q_judged.g (hr.mono (by decide)) rfl q_judged.m q_judged.F.kp q_judged.b .nil hx (pa_cons (pvD 0) pa_nil)))))))
   (fun ea pn=>(pss_one (ps_setL (i:=2) sc__law_asked.nd (pe_and (pe_callB (call_isinstK (K:=K) rfl) rfl T.isinstance PyProof.Rows.boot_isinstance (pa_cons (pvD 4) (pa_cons (pe_glob (v:=.ref C_NoPaper) rfl Z.m_NoPaper rfl) pa_nil))) (pe_one (pe_not (pe_callB (call_isinstK (K:=K) rfl) rfl T.isinstance PyProof.Rows.boot_isinstance (pa_cons (pvD 4) (pa_cons (pe_glob (v:=.ref C_NoText) rfl Z.m_NoText rfl) pa_nil))))))))))
   (pss_one (ps_ret (pe_tup (pa_cons (pvD 2) (pa_cons (pvD 3) pa_nil)))))))),?_⟩
  walk_at "rd"
  obtain⟨R,hR⟩:∃R:St->Hp->Prop,∀σ' H',R σ' H'↔(Same H H'/\((∃v:V,((wh=0/\Tt N acc ends es/\v=.int acc.length)\/(wh=1/\Jp N acc ends es/\∃h tm tw zs,v=.ref h/\H' h=some (.tup [.int N,.ref tm,.ref tw])/\H' tm=some (.tup ((acc.map (mk49 es)).map V.int))/\H' tw=some (.tup zs)/\WordsT K H' zs (fW N (gI es ends) acc)))/\σ'=[some (.ref a),some (.int wh),some .non,some v,none])\/(((wh=0/\¬ Tt N acc ends es)\/(wh=1/\¬ Jp N acc ends es))/\σ'=[some (.ref a),some (.int wh),some (.bl true),some .non,none]))):=⟨_,fun _ _=>Iff.rfl⟩
  refine⟨R,?_,fun σ2 H2 h2=>?_⟩
  ·walk_at "rd"
   refine⟨?_,fun σ1 cls H1 h1=>?_⟩
   ·refine ite2 (fun h0=>?_) (fun h0=>?_)
    ·exact⟨a,N,xs,ys,acc,ends,es,rfl,P,B,fun H1 s1 hT=>(hR _ _).mpr ⟨s1,.inl ⟨_,.inl ⟨h0,hT,rfl⟩,rfl⟩⟩,fun H1 s1 hT=>⟨rfl,rfl,s1,.inl ⟨h0,hT⟩⟩⟩
    ·have h1:wh=1:=by omega
     exact⟨a,N,xs,ys,acc,ends,es,rfl,P,B,fun h tm tw zs H1 s1 hJ e1 e2 e3 e4=>(hR _ _).mpr ⟨s1,.inl ⟨_,.inr ⟨h1,hJ,h,tm,tw,zs,rfl,e1,e2,e3,e4⟩,rfl⟩⟩,fun H1 s1 hJ=>⟨rfl,rfl,s1,.inr ⟨h1,hJ⟩⟩⟩
   ·obtain⟨rfl,rfl,s1,hv⟩:=h1
    refine⟨C_NoPaper,rfl,Z.e_NoPaper,fun ea hea=>?_⟩
    walk_at "rd"
    refine⟨_,_,.exc upd_same Z.c_NoPaper,rel_ref,_,Z.k_NoPaper_NoPaper,?_⟩
    rw[if_pos rfl]
    exact⟨_,_,.exc upd_same Z.c_NoPaper,rel_ref,_,Z.k_NoPaper_NoText,(hR _ _).mpr ⟨s1.newT hea,.inr ⟨hv,rfl⟩⟩⟩
  ·obtain⟨s2,⟨v,hv,rfl⟩|⟨hv,rfl⟩⟩:=(hR _ _).mp h2
   ·walk_at "rd"
    refine⟨by omega,fun t ht=>?_⟩
    have s3:=Same.new ht (o:=.tup [.non,v])
    rcases hv with ⟨h0,hT,rfl⟩|⟨h0,hJ,h,tm,tw,zs,rfl,e1,e2,e3,e4⟩
    ·exact k0 h0 t _ (s2.trans s3) (.inl ⟨hT,upd_same⟩)
    ·exact k1 h0 t _ (s2.trans s3) (.inl ⟨hJ,h,tm,tw,zs,upd_same,s3 _ _ e1,s3 _ _ e2,s3 _ _ e3,e4.mono (TK.of s3)⟩)
   ·walk_at "rd"
    refine⟨by omega,fun t ht=>?_⟩
    rcases hv with ⟨h0,hT⟩|⟨h0,hT⟩
    ·exact k0 h0 t _ (s2.newT ht) (.inr ⟨hT,upd_same⟩)
    ·exact k1 h0 t _ (s2.newT ht) (.inr ⟨hT,upd_same⟩)
def gA (ans:List Int->Int)(ends:List (List Int))(w:List Int):List Int:=ends.map fun e=>ans (w++e)
structure G50 (N:Nat)(acc ends:List (List Int))(es:List (List Int×Int))(ans:List Int->Int):Prop where
 n1:1<=N
 n6:N<=6
 al:acc.length<=5
 a0:acc[0]?=some []
 el:ends.length<=10
 e0:ends[0]?=some []
 hl:es.length<=500
 nd:(es.map (·.1)).Nodup
 wa:∀w∈acc,w.length<=50/\isW N w=true
 we:∀e∈ends,e.length<=50/\isW N e=true
 wh:∀p∈es,p.1.length<=500/\isW N p.1=true
 told:∀w∈rowsW N acc,∀e∈ends,mkO es (w++e)=some (ans (w++e))
 gnd:(acc.map (gA ans ends)).Nodup
 gin:∀w∈acc,∀x:Nat,x<N->gA ans ends (w++[(x:Int)])∈acc.map (gA ans ends)
 pre:∀(i:Nat) (u:List Int),0<i->acc[i]?=some u->∃(j:Nat) (v:List Int) (x:Int),j<i/\acc[j]?=some v/\u=v++[x]
def cell (ns:List Int)(k:Nat):Int:=ns.getD k 0
def sp_cell (K:PySem.W.Frag):Sp:=fun vs H Q _=>∃(a:Addr) (ns:List Int) (k:Nat),vs=[.ref a,.int k]/\SqL K H a (ns.map V.int)/\Q (.int (cell ns k)) H
theorem ok__law_cell_at {f:Addr}{fd:FuncData}(F:Fun K "_law_cell_at" "_law_cell_at" s__law_cell_at f fd)(T:Txt mg)
  (Z:Exs K mg C_AskError C_NoPaper C_NoText)
  : FnOk P w K mg base CX0 1 f fd ["script","k"] (sp_cell K):=by
 refine F.ok sc__law_cell_at (fun vs H Q E h=>?_) (fun cdv A outer s H vs Q E hr h=>?_)
 ·obtain⟨a,ns,k,rfl,_⟩:=h;rfl
 ·obtain⟨a,ns,k,rfl,hs,q⟩:=h
  refine⟨_,(pss_cons (ps_if (ptT (pt_cmpR (opD0 op_lt) (pvD 1) (pe_callB (lenD call_len_seq) (by rfl) T.len PySem.boot_len (pa_cons (pvD 0) pa_nil)) (nomark _)))
   (pss_one (ps_ret (pe_ixA (ixLD ix_list) (pvD 0) (pvD 1))))
   pss_nil)
   (pss_one (ps_ret pe_int))),?_⟩
  walk_at "rd"
  refine⟨_,.inl hs,?_⟩
  rw[List.length_map]
  refine ite2 (fun hk=>?_) (fun hk=>?_)
  ·have hk':k<ns.length:=by simpa using hk
   refine⟨_,hs,V.int (cell ns k),?_,q⟩
   refine atI_nat ?_
   rw[List.getElem?_map]
   unfold cell
   rw[List.getD_eq_getElem?_getD]
   simp[hk']
  ·have hk':¬ k<ns.length:=by simpa using hk
   have:cell ns k=0:=by
    unfold cell
    rw[List.getD_eq_getElem?_getD,List.getElem?_eq_none (by omega)];rfl
   rw[<-this]
   exact q
def sp_draw (K:PySem.W.Frag):Sp:=fun vs H Q _=>∃(a:Addr) (ns:List Int) (k m:Int),vs=[.ref a,.int k,.int m]/\SqL K H a (ns.map V.int)/\0<=k/\k<=1000000/\0<m/\∀x,0<=x->x<m->Q (.int x) H
theorem ok__law_draw {f:Addr}{fd:FuncData}(F:Fun K "_law_draw" "_law_draw" s__law_draw f fd)(T:Txt mg)
  (Z:Exs K mg C_AskError C_NoPaper C_NoText)
  : FnOk P w K mg base CX0 1 f fd ["flow","k","many"] (sp_draw K):=by
 refine F.ok sc__law_draw (fun vs H Q E h=>?_) (fun cdv A outer s H vs Q E hr h=>?_)
 ·obtain⟨a,ns,k,m,rfl,_⟩:=h;rfl
 ·obtain⟨a,ns,k,m,rfl,hs,hk0,hk1,hm,q⟩:=h
  have hl:=line1000
  refine⟨_,(pss_cons (ps_if (ptT (pt_cmpR (opD0 op_lt) (pvD 1) (pe_callB (lenD call_len_seq) (by rfl) T.len PySem.boot_len (pa_cons (pvD 0) pa_nil)) (nomark _)))
   (pss_one (ps_ret (pe_op (opD op_mod) (pe_ixA (ixLD ix_list) (pvD 0) (pvD 1)) (pvD 2))))
   pss_nil)
   (pss_cons (ps_if (ptT (pt_cmpR (opE op_eq) (pe_callB (lenD call_len_seq) (by rfl) T.len PySem.boot_len (pa_cons (pvD 0) pa_nil)) pe_int (nomark _)))
   (pss_one (ps_ret pe_int))
   pss_nil)
   (pss_cons (ps_setL (i:=3) sc__law_draw.nd (pe_op (opD op_mod) (pe_ixA (ixLD ix_list) (pvD 0) (pe_op (opD op_mod) (pvD 1) (pe_callB (lenD call_len_seq) (by rfl) T.len PySem.boot_len (pa_cons (pvD 0) pa_nil)))) pe_int))
   (pss_cons (ps_setL (i:=4) sc__law_draw.nd (pe_op (opD op_mod) (pe_op (opD op_mul) (pe_op (opD0 op_add) (pe_op (opD0 op_add) (pvD 3) (pe_op (opD op_mul) (pvD 1) (pvD 1))) pe_int) pe_int) pe_int))
   (pss_one (ps_ret (pe_op (opD op_mod) (pe_op (opD op_mod) (pe_op (opD op_mul) (pvD 4) (pvD 4)) pe_int) (pvD 2)))))))),?_⟩
  walk_at "rd"
  refine⟨_,.inl hs,?_⟩
  rw[List.length_map]
  refine ite2 (fun hlt=>?_) (fun hge=>?_)
  ·have hk':k.toNat<ns.length:=by omega
   refine⟨_,hs,_,atI_int hk0 (v:=ns[k.toNat]) (by simp[hk']),?_⟩
   walk_at "rd"
   exact⟨hm,q _ (Int.emod_nonneg _ (by omega)) (Int.emod_lt_of_pos _ hm)⟩
  ·refine⟨_,.inl hs,?_⟩
   rw[List.length_map]
   refine ite2 (fun h0=>q 0 (by omega) hm) (fun h0=>?_)
   have hpos:0<(ns.length:Int):=by omega
   have e0:=Int.emod_nonneg k (show (ns.length:Int)≠0 by omega)
   have e1:=Int.emod_lt_of_pos k hpos
   have hk':(k%(ns.length:Int)).toNat<ns.length:=by omega
   refine⟨_,.inl hs,by rw[List.length_map];exact hpos,_,hs,_,by rw[List.length_map];exact atI_int e0 (v:=ns[(k%(ns.length:Int)).toNat]) (by simp[hk']),?_⟩
   walk_at "rd"
   refine⟨by decide,.inl ⟨by omega,by omega⟩,?_⟩
   generalize ns[(k%(ns.length:Int)).toNat]%2147483647+k*k+1=z
   have m0:=Int.emod_nonneg (z*48271) (show (2147483647:Int)≠0 by decide)
   have m1:=Int.emod_lt_of_pos (z*48271) (show (0:Int)<2147483647 by decide)
   refine⟨.inr ⟨by decide,by decide⟩,by decide,.inl ⟨by omega,by omega⟩,by decide,hm,?_⟩
   exact q _ (Int.emod_nonneg _ (by omega)) (Int.emod_lt_of_pos _ hm)
def rowE (marks:List Int)(ways:List (List Int))(ends:List (List Int))(r:Int):List Int:=ends.map fun e=>mkW marks (walkR ways r e)
def ansW (marks:List Int)(ways:List (List Int))(u:List Int):Int:=mkW marks (walkW ways u)
theorem gA_row (marks:List Int)(ways:List (List Int))(ends:List (List Int))(u:List Int):gA (ansW marks ways) ends u=rowE marks ways ends (walkW ways u):=by
 unfold gA rowE ansW
 refine List.map_congr_left fun e _=>?_
 rw[<-walkR_zero,walkR_app];rfl
theorem rowE_snoc (marks:List Int)(ways:List (List Int))(ends:List (List Int))(e:List Int)(r:Int):rowE marks ways (ends++[e]) r=rowE marks ways ends r++[mkW marks (walkR ways r e)]:=by unfold rowE;rw[List.map_append];rfl
def Stb (L n:Int)(marks:List Int)(ways ends:List (List Int)):Prop:=∀a b:Int,0<=a->a<n->0<=b->b<n->rowE marks ways ends a=rowE marks ways ends b->∀x:Int,0<=x->x<L->rowE marks ways ends (stepW ways a x)=rowE marks ways ends (stepW ways b x)
def Spl (n:Int)(marks:List Int)(ways ends:List (List Int))(e:List Int):Prop:=∃a b:Int,0<=a/\a<n/\0<=b/\b<n/\rowE marks ways ends a=rowE marks ways ends b/\mkW marks (walkR ways a e)≠mkW marks (walkR ways b e)
def ncR (marks:List Int)(ways ends:List (List Int))(n:Nat):Nat:=ncl ((List.range n).map fun r:Nat=>rowE marks ways ends (r:Int))
theorem ncR_le (marks:List Int)(ways ends:List (List Int))(n:Nat):ncR marks ways ends n<=n:=by
 have:=ncl_le ((List.range n).map fun r:Nat=>rowE marks ways ends (r:Int))
 rw[List.length_map,List.length_range]at this
 exact this
theorem ncR_pos (marks:List Int)(ways ends:List (List Int)){n:Nat}(h:1<=n):1<=ncR marks ways ends n:=ncl_pos (by
 intro z
 have:=congrArg List.length z
 rw[List.length_map,List.length_range]at this
 simp at this;omega)
theorem Spl.more {n:Nat}{marks:List Int}{ways ends:List (List Int)}{e:List Int}(h:Spl n marks ways ends e):ncR marks ways ends n<ncR marks ways (ends++[e]) n:=by
 obtain⟨a,b,a0,a1,b0,b1,e1,e2⟩:=h
 refine Nat.lt_of_not_le fun hle=>e2 ?_
 have hq:ncR marks ways (ends++[e]) n=ncl ((List.range n).map fun r:Nat=>(rowE marks ways ends (r:Int),mkW marks (walkR ways (r:Int) e))):=by
  unfold ncR
  refine ncl_eq (by rw[List.length_map,List.length_map]) fun r s hr hs=>?_
  rw[List.length_map,List.length_range]at hr hs
  rw[List.getElem?_map,List.getElem?_map,List.getElem?_map,List.getElem?_map,List.getElem?_range hr,List.getElem?_range hs]
  simp only[Option.map_some,Option.some.injEq,Prod.mk.injEq]
  rw[rowE_snoc,rowE_snoc]
  constructor
  ·intro z
   have:=List.append_inj' z rfl
   exact⟨this.1,by simpa using this.2⟩
  ·rintro⟨z1,z2⟩
   rw[z1,z2]
 have hf:ncR marks ways ends n=ncl (((List.range n).map fun r:Nat=>(rowE marks ways ends (r:Int),mkW marks (walkR ways (r:Int) e))).map (·.1)):=by
  unfold ncR
  rw[List.map_map];rfl
 rw[hq,hf]at hle
 have hm:∀c:Int,0<=c->c<n->(rowE marks ways ends c,mkW marks (walkR ways c e))∈(List.range n).map fun r:Nat=>(rowE marks ways ends (r:Int),mkW marks (walkR ways (r:Int) e)):=fun c c0 c1=>
  List.mem_map.mpr ⟨c.toNat,List.mem_range.mpr (by omega),by rw[Int.toNat_of_nonneg c0]⟩
 exact finer_same hle (hm a a0 a1) (hm b b0 b1) e1
theorem Stb.not {L n:Int}{marks:List Int}{ways ends:List (List Int)}(h:Stb L n marks ways ends){x:Int}{e:List Int}(x0:0<=x)(x1:x<L)(he:e∈ends):¬ Spl n marks ways ends (x::e):=by
 rintro⟨a,b,a0,a1,b0,b1,e1,e2⟩
 refine e2 ?_
 have:=h a b a0 a1 b0 b1 e1 x x0 x1
 rw[walkR_cons,walkR_cons]
 unfold rowE at this
 exact List.map_inj_left.mp this e he
structure Acs (L:Nat)(marks:List Int)(ways ends acc:List (List Int)):Prop where
 a0:acc[0]?=some []
 nd:(acc.map fun u=>rowE marks ways ends (walkW ways u)).Nodup
 ws:∀(i:Nat) (u:List Int),acc[i]?=some u->u.length<=i/\isW L u=true
 pre:∀(i:Nat) (u:List Int),0<i->acc[i]?=some u->∃(j:Nat) (v:List Int) (x:Int),j<i/\acc[j]?=some v/\u=v++[x]
theorem Acs.len {L:Nat}{marks:List Int}{ways ends acc:List (List Int)}(A:Acs L marks ways ends acc)(wf:Wf L marks ways):acc.length<=marks.length:=by
 have hnd:(acc.map (walkW ways)).Nodup:=by
  have:=A.nd
  rw[show (acc.map fun u=>rowE marks ways ends (walkW ways u))=(acc.map (walkW ways)).map (rowE marks ways ends) by rw[List.map_map];rfl]at this
  exact List.Pairwise.imp (fun h z=>h (by rw[z])) (List.pairwise_map.mp this)
 have:=nodup_len marks.length hnd fun r hr=>by
  obtain⟨u,hu,rfl⟩:=List.mem_map.mp hr
  obtain⟨i,hi⟩:=List.mem_iff_getElem?.mp hu
  have:=walkR_in wf u (A.ws i u hi).2 (show (0:Int)<=0 by omega) (by have:=wf.n1;omega)
  exact this
 rw[List.length_map]at this
 exact this
theorem Acs.snoc {L:Nat}{marks:List Int}{ways ends acc:List (List Int)}(A:Acs L marks ways ends acc){at_:Nat}{v:List Int}{x:Nat}(hv:acc[at_]?=some v)(hx:x<L)(hn:rowE marks ways ends (walkW ways (v++[(x:Int)]))∉acc.map fun u=>rowE marks ways ends (walkW ways u)):Acs L marks ways ends (acc++[v++[(x:Int)]]):=by
 have hlt:=(List.getElem?_eq_some_iff.mp hv).1
 have cs:∀(i:Nat) (u:List Int),(acc++[v++[(x:Int)]])[i]?=some u->acc[i]?=some u\/i=acc.length/\u=v++[(x:Int)]:=fun i u h=>by
  by_cases hi:i<acc.length
  ·rw[List.getElem?_append_left hi]at h;exact .inl h
  ·rw[List.getElem?_append_right (by omega)]at h
   have:=(List.getElem?_eq_some_iff.mp h).1
   simp at this
   rw[show i-acc.length=0 by omega]at h
   exact .inr ⟨by omega,by simpa using h.symm⟩
 have inl:∀(i:Nat) (u:List Int),acc[i]?=some u->(acc++[v++[(x:Int)]])[i]?=some u:=fun i u h=>by
  rw[List.getElem?_append_left (List.getElem?_eq_some_iff.mp h).1];exact h
 refine⟨inl _ _ A.a0,?_,fun i u h=>?_,fun i u h0 h=>?_⟩
 ·rw[List.map_append,List.nodup_append]
  exact⟨A.nd,by simp,fun a ha b hb z=>by
   simp only[List.map_cons,List.map_nil,List.mem_singleton]at hb
   rw[z,hb]at ha
   exact hn ha⟩
 ·rcases cs i u h with h|⟨rfl,rfl⟩
  ·exact A.ws i u h
  ·obtain⟨w1,w2⟩:=A.ws at_ v hv
   refine⟨by rw[List.length_append];simp;omega,isW_iff.mpr fun y hy=>?_⟩
   rcases List.mem_append.mp hy with hy|hy
   ·exact isW_iff.mp w2 y hy
   ·rw[List.mem_singleton.mp hy];omega
 ·rcases cs i u h with h|⟨rfl,rfl⟩
  ·obtain⟨j,v',x',h1,h2,h3⟩:=A.pre i u h0 h
   exact⟨j,v',x',h1,inl _ _ h2,h3⟩
  ·exact⟨at_,v,_,hlt,inl _ _ hv,rfl⟩
theorem isW_snoc {L:Int}{u:List Int}{x:Int}:isW L (u++[x])=true↔isW L u=true/\0<=x/\x<L:=by
 rw[isW_iff,isW_iff]
 constructor
 ·intro h
  exact⟨fun y hy=>h y (List.mem_append_left _ hy),h x (by simp)⟩
 ·rintro⟨h1,h2⟩ y hy
  rcases List.mem_append.mp hy with hy|hy
  ·exact h1 y hy
  ·rw[List.mem_singleton.mp hy];exact h2
def insA (ans:List Int->Int)(es:List (List Int×Int))(u:List Int):List (List Int×Int):=if u∈es.map (·.1) then es else es++[(u,ans u)]
structure TlA (ans:List Int->Int)(es:List (List Int×Int)):Prop where
 nd:(es.map (·.1)).Nodup
 va:∀p∈es,p.2=ans p.1
theorem insA_keys {ans:List Int->Int}{es:List (List Int×Int)}{u v:List Int}:v∈(insA ans es u).map (·.1)↔v∈es.map (·.1)\/v=u:=by
 unfold insA
 split
 ·rename_i h
  exact⟨.inl,fun z=>z.elim id fun z=>z ▸ h⟩
 ·rw[List.map_append,List.mem_append];simp
theorem TlA.ins {ans:List Int->Int}{es:List (List Int×Int)}(T:TlA ans es)(u:List Int):TlA ans (insA ans es u):=by
 unfold insA
 split
 ·exact T
 ·rename_i h
  refine⟨?_,fun p hp=>?_⟩
  ·rw[List.map_append,List.nodup_append]
   exact⟨T.nd,by simp,fun a ha b hb z=>by
    simp only[List.map_cons,List.map_nil,List.mem_singleton]at hb
    rw[z,hb]at ha
    exact h ha⟩
  ·rcases List.mem_append.mp hp with hp|hp
   ·exact T.va p hp
   ·rw[List.mem_singleton.mp hp]
theorem TlA.put {ans:List Int->Int}{es:List (List Int×Int)}(T:TlA ans es)(u:List Int):putK (ents es) (wkey u) (.int (ans u))=ents (insA ans es u):=by
 unfold insA
 split
 ·rename_i h
  obtain⟨p,hp,rfl⟩:=List.mem_map.mp h
  have hv:=ents_get T.nd (show (p.1,p.2)∈es from hp)
  unfold putK
  rw[valV_any,hv,if_pos (show (some (V.int p.2)).isSome=true from rfl)]
  conv=>rhs;rw[<-List.map_id (ents es)]
  refine List.map_congr_left fun q hq=>?_
  obtain⟨r,hr,rfl⟩:=List.mem_map.mp hq
  show (if _ then _ else _)=_
  by_cases hk:wkey r.1=wkey p.1
  ·rw[if_pos hk]
   show _=(wkey r.1,V.int r.2)
   rw[T.va r hr,wkey_inj hk]
  ·rw[if_neg hk];rfl
 ·rename_i h
  exact ents_put h
def foldA (ans:List Int->Int)(l:List (List Int))(es:List (List Int×Int)):List (List Int×Int):=l.foldl (insA ans) es
theorem foldA_keys {ans:List Int->Int}:∀{l:List (List Int)} {es:List (List Int×Int)} {v:List Int},v∈(foldA ans l es).map (·.1)↔v∈es.map (·.1)\/v∈l
 |[],es,v=>by simp[foldA]
 |u::l,es,v=>by
  show v∈(foldA ans l (insA ans es u)).map (·.1)↔_
  rw[foldA_keys,insA_keys,List.mem_cons,or_assoc]
theorem foldA_tl {ans:List Int->Int}:∀(l:List (List Int)) {es:List (List Int×Int)},TlA ans es->TlA ans (foldA ans l es)
 |[],es,T=>T
 |u::l,es,T=>foldA_tl l (T.ins u)
theorem foldA_len {ans:List Int->Int}:∀(l:List (List Int)) (es:List (List Int×Int)),(foldA ans l es).length<=es.length+l.length
 |[],es=>by simp[foldA]
 |u::l,es=>by
  have h1:=foldA_len (ans:=ans) l (insA ans es u)
  have h2:(insA ans es u).length<=es.length+1:=by unfold insA;split<;>simp
  show (foldA ans l (insA ans es u)).length<=_
  rw[List.length_cons];omega
theorem foldA_snoc {ans:List Int->Int}(l:List (List Int))(u:List Int)(es:List (List Int×Int)):foldA ans (l++[u]) es=insA ans (foldA ans l es) u:=by unfold foldA;rw[List.foldl_append];rfl
def sp_ans50 (K:PySem.W.Frag):Sp:=fun vs H Q _=>∃(h a:Addr) (L:Int) (marks:List Int) (ways:List (List Int)) (ws:List Int),vs=[.ref h,.ref a]/\House K H h L marks ways/\Wf L marks ways/\SqT K H a (ws.map V.int)/\isW L ws=true/\Q (.int (ansW marks ways ws)) H
theorem ok__law_answer {f:Addr}{fd:FuncData}(F:Fun K "_law_answer" "_law_answer" s__law_answer f fd)(T:Txt mg)
  (Z:Exs K mg C_AskError C_NoPaper C_NoText)
  : FnOk P w K mg base CX0 1 f fd ["house","word"] (sp_ans50 K):=by
 refine F.ok sc__law_answer (fun vs H Q E h=>?_) (fun cdv A outer s H vs Q E hr h=>?_)
 ·obtain⟨h,a,L,marks,ways,ws,rfl,_⟩:=h;rfl
 ·obtain⟨h,a,L,marks,ways,ws,rfl,hh,wf,ha,hv,k⟩:=h
  have hn1:=wf.n1
  refine⟨_,(pss_cons (ps_setL (i:=2) sc__law_answer.nd pe_int)
   (pss_cons (ps_for PassesOwn.never rfl (pi_tup (pvD 1)) (pg_name (i:=3) sc__law_answer.nd rfl (Or.inl rfl))
   (pss_one (ps_setL (i:=2) sc__law_answer.nd (pe_ixA (ixTD ix_tup) (pe_ixA (ixTD ix_tup) (pe_ixA (ixTD ix_tup) (pvD 0) pe_int) (pvD 2)) (pvD 3)))))
   (pss_one (ps_ret (pe_ixA (ixTD ix_tup) (pe_ixA (ixTD ix_tup) (pvD 0) pe_int) (pvD 2)))))),?_⟩
  walk_at "rd"
  refine⟨⟨_,ha⟩,forT (xs:=ws.map V.int) (fun i σ2 H2=>H2=H/\∃o,σ2=[some (.ref h),some (.ref a),some (.int (walkR ways 0 (ws.take i))),o]) ⟨rfl,none,by simp[walkR]⟩ (fun i σ2 H2 _ h=>by rw[h.1];exact ha) (fun i x σ2 H2 hx h=>?_) (fun σ2 H2 h=>?_)⟩
  ·obtain⟨rfl,o,rfl⟩:=h
   obtain⟨n,hn,rfl⟩:=get_mapI hx
   have hin:=isW_iff.mp hv n (List.mem_of_getElem? hn)
   have hwk:=walkR_in wf (ws.take i) (isW_take hv i) (show (0:Int)<=0 by omega) (by omega)
   obtain⟨row,g,r1,r2,r3,r4,r5⟩:=wf.step hwk.1 hwk.2 hin.1 hin.2
   obtain⟨m,wv,q1,q2,q3⟩:=id hh
   obtain⟨xs,t,z1,z2,z3⟩:=q3.atZ hwk.1 r1
   walk_at "rd"
   refine⟨_,q1,_,rfl,?_⟩
   walk_at "rd"
   refine⟨_,z1,_,z2,?_⟩
   walk_at "rd"
   refine⟨_,z3,_,atI_int hin.1 r2,?_⟩
   rw[walkR_take hn,r3]
   exact⟨rfl,_,rfl⟩
  ·obtain⟨rfl,o,rfl⟩:=h
   rw[List.length_map,List.take_length]
   obtain⟨m,wv,q1,q2,q3⟩:=id hh
   have wk:=walkR_in wf ws hv (show (0:Int)<=0 by omega) (by omega)
   walk_at "rd"
   exact⟨_,q1,_,rfl,m,rfl,_,q2,_,mkW_at wk.1 wk.2,k⟩
def sp_hid50 (K:PySem.W.Frag):Sp:=fun vs H Q _=>∃(a:Addr) (ns:List Int) (L n:Nat),vs=[.ref a,.int L,.int n]/\SqL K H a (ns.map V.int)/\1<=L/\L<=6/\1<=n/\n<=6/\∀h marks ways H',Same H H'->House K H' h L marks ways->Wf L marks ways->marks.length=n->Q (.ref h) H'
theorem ok__law_hidden {f:Addr}{fd:FuncData}(F:Fun K "_law_hidden" "_law_hidden" s__law_hidden f fd)(T:Txt mg)
  (Z:Exs K mg C_AskError C_NoPaper C_NoText)
  {f__law_draw:Addr} {fd__law_draw:FuncData} (q__law_draw:Cal P w K mg base CX0 1 "_law_draw" s__law_draw ["flow","k","many"] (sp_draw K) f__law_draw fd__law_draw)
  : FnOk P w K mg base CX0 2 f fd ["flow","letters","rooms"] (sp_hid50 K):=by
 refine F.ok sc__law_hidden (fun vs H Q E h=>?_) (fun cdv A outer s H vs Q E hr h=>?_)
 ·obtain⟨a,ns,L,n,rfl,_⟩:=h;rfl
 ·obtain⟨a,ns,L,n,rfl,hs,hL1,hL6,hn1,hn6,k⟩:=h
  have hl:=line1000
  refine⟨_,(pss_cons (ps_setL (i:=3) sc__law_hidden.nd (pe_lst pa_nil))
   (pss_cons (ps_setL (i:=4) sc__law_hidden.nd (pe_lst pa_nil))
   (pss_cons (ps_for PassesOwn.never rfl (pi_range1 rfl T.range (pa_cons (pvD 2) pa_nil)) (pg_name (i:=5) sc__law_hidden.nd rfl (Or.inl rfl))
   (pss_cons (ps_set (i:=6) sc__law_hidden.nd rfl (Or.inr rfl) (pe_op (opD op_mul) (pvD 5) (pe_op (opD0 op_add) (pvD 1) pe_int)))
   (pss_cons (ps_setL (i:=7) sc__law_hidden.nd (pe_callQ q__law_draw hr.d pass0 (pa_cons (pvD 0) (pa_cons (pvD 6) (pa_cons pe_int pa_nil)))))
   (pss_cut (ps_if (ptT (pt_cmpR (opE op_eq) (pe_op (opD op_mod) (pvD 7) pe_int) pe_int (nomark _)))
   (pss_one (ps_expr (pe_bm PySem.F.plainAttrs_list PySem.F.slot_list_append PySem.F.type_list_append mt_append (pvD 3) (pa_cons (pe_op (opD op_fdiv) (pvD 7) pe_int) pa_nil))))
   (pss_one (ps_expr (pe_bm PySem.F.plainAttrs_list PySem.F.slot_list_append PySem.F.type_list_append mt_append (pvD 3) (pa_cons (pe_op (opD op_mod) (pvD 7) pe_int) pa_nil)))))
   (pss_one (ps_expr (pe_bm PySem.F.plainAttrs_list PySem.F.slot_list_append PySem.F.type_list_append mt_append (pvD 4) (pa_cons (pe_callTy call_tuple_L rfl T.tuple PyProof.Rows.boot_tuple (pa_cons (pe_comp rfl (blk_mk rfl) (cp:=c__law_hidden_3) ⟨⟨rfl,rfl⟩,⟨⟨rfl,rfl⟩,⟨⟨rfl,rfl⟩,True.intro⟩⟩⟩ (pi_range1 rfl T.range (pa_cons (pvD 1) pa_nil)) (fun _ _ _ _=>(pg_name (i:=0) nd_c__law_hidden_3 rfl (Or.inl rfl))) (fun _ _ _ _=>pf_nil) (fun _ _ _ _=>(pe_callQ q__law_draw hr.d pass0 (pa_cons (pvD 1) (pa_cons (pe_op (opD0 op_add) (pe_op (opD0 op_add) (pvD 3) pe_int) (pvD 0)) (pa_cons (pvD 2) pa_nil)))))) pa_nil)) pa_nil))))))))
   (pss_one (ps_ret (pe_tup (pa_cons (pvD 1) (pa_cons (pe_callTy call_tuple_L rfl T.tuple PyProof.Rows.boot_tuple (pa_cons (pvD 3) pa_nil)) (pa_cons (pe_callTy call_tuple_L rfl T.tuple PyProof.Rows.boot_tuple (pa_cons (pvD 4) pa_nil)) pa_nil))))))))),?_⟩
  walk_at "rd"
  refine⟨by omega,fun pm hpm=>⟨by omega,fun pw hpw=>⟨by omega,by omega,?_⟩⟩⟩
  rw[Int.toNat_natCast]
  have hpp:pw≠pm:=(none_of_upd hpw).2
  have hpw0:H pw=none:=(none_of_upd hpw).1
  obtain⟨Pv,hPv⟩:∃Pv:Nat->St->Hp->Prop,∀i σ' H',Pv i σ' H'↔(∃(ms:List Int) (ways:List (List Int)) (o1 o2 o3:Option V),Same H H'/\H' pm=some (.lst (ms.map V.int))/\TupsL K H' pw ways/\ms.length=i/\ways.length=i/\(∀m∈ms,0<=m/\m<=1000000000)/\(∀row∈ways,row.length=L/\∀x∈row,0<=x/\x<(n:Int))/\σ'=[some (.ref a),some (.int L),some (.int n),some (.ref pm),some (.ref pw),o1,o2,o3]):=⟨_,fun _ _ _=>Iff.rfl⟩
  refine forR Pv ((hPv _ _ _).mpr ⟨[],[],none,none,none,(Same.new hpm).newT hpw,Same.new hpw _ _ upd_same,TupsL.nil upd_same,rfl,rfl,by simp,by simp,rfl⟩) (fun i σ2 H2 hi h2=>?_) (fun σ2 H2 h2=>?_)
  ·obtain⟨ms,ways,o1,o2,o3,s2,hM,hW,hml,hwl,hmr,hwr,rfl⟩:=(hPv _ _ _).mp h2
   rw[Int.zero_add]
   walk_at "rd"
   refine⟨.inr ⟨by omega,by omega⟩,?_⟩
   have hf:0<=(i:Int)*((L:Int)+1)/\(i:Int)*((L:Int)+1)<=2000:=by
    have h1:i*(L+1)<=6*7:=Nat.mul_le_mul (by omega) (by omega)
    have h2:(i:Int)*((L:Int)+1)=((i*(L+1):Nat):Int):=by push_cast;rfl
    rw[h2];omega
   generalize (i:Int)*((L:Int)+1)=fi at hf ⊢
   refine⟨a,ns,fi,3000000003,rfl,s2.seq hs,by omega,by omega,by omega,fun mk m0 m1=>?_⟩
   obtain⟨R,hR⟩:∃R:St->Hp->Prop,∀σ' H',R σ' H'↔(∃m:Int,0<=m/\m<=1000000000/\H'=upd H2 pm (.lst ((ms++[m]).map V.int))/\σ'=[some (.ref a),some (.int L),some (.int n),some (.ref pm),some (.ref pw),some (.int i),some (.int fi),some (.int mk)]):=⟨_,fun _ _=>Iff.rfl⟩
   refine⟨R,?_,fun σ3 H3 h3=>?_⟩
   ·walk_at "rd"
    refine⟨by decide,ite2 (fun _=>?_) (fun _=>?_)⟩
    ·refine⟨.inl ⟨rfl,_,SqL.of hM⟩,⟨by decide,by decide⟩,_,hM,by rw[List.length_map];omega,(hR _ _).mpr ⟨mk / 3,by omega,by omega,by simp,rfl⟩⟩
    ·refine⟨.inl ⟨rfl,_,SqL.of hM⟩,by decide,_,hM,by rw[List.length_map];omega,(hR _ _).mpr ⟨mk%3,by omega,by omega,by simp,rfl⟩⟩
   obtain⟨m,mm0,mm1,rfl,rfl⟩:=(hR _ _).mp h3
   have s3:Same H (upd H2 pm (.lst ((ms++[m]).map V.int))):=s2.over hpm
   have hW3:=hW.off hM (ys:=(ms++[m]).map V.int) hpp
   have hM3:upd H2 pm (.lst ((ms++[m]).map V.int)) pm=some (.lst ((ms++[m]).map V.int)):=upd_same
   generalize upd H2 pm (.lst ((ms++[m]).map V.int))=H3 at s3 hW3 hM3
   obtain⟨us,hu1,_⟩:=id hW3
   walk_at "rd"
   refine⟨.inl ⟨rfl,_,SqL.of hu1⟩,by omega,by omega,?_⟩
   rw[Int.toNat_natCast]
   obtain⟨Pc,hPc⟩:∃Pc:Nat->List V->St->Hp->Prop,∀j ys σ4 H4,Pc j ys σ4 H4↔(H4=H3/\∃(row:List Int) (o:Option V),ys=row.map V.int/\row.length=j/\(∀x∈row,0<=x/\x<(n:Int))/\σ4=[o,some (.ref a),some (.int n),some (.int fi)]):=⟨_,fun _ _ _ _=>Iff.rfl⟩
   refine compR Pc ((hPc _ _ _ _).mpr ⟨rfl,[],none,rfl,rfl,(fun x hx=>by cases hx),rfl⟩) (by omega) (fun j ys σ4 H4 _ h4=>?_) (fun j ys σ4 H4 hj h4=>?_) (fun ys σ4 H4 h4 D hD=>?_)
   ·obtain⟨_,row,o,rfl,hrl,_⟩:=(hPc _ _ _ _).mp h4
    rw[List.length_map];omega
   ·obtain⟨rfl,row,o,rfl,hrl,hrr,rfl⟩:=(hPc _ _ _ _).mp h4
    rw[Int.zero_add]
    walk_at "rd"
    refine⟨a,ns,fi+1+j,n,rfl,s3.seq hs,by omega,by omega,by omega,fun x x0 x1=>(hPc _ _ _ _).mpr ⟨rfl,row++[x],_,by simp,by simp[hrl],fun z hz'=>?_,rfl⟩⟩
    rcases List.mem_append.mp hz' with h|h
    ·exact hrr z h
    ·rw[List.mem_singleton.mp h];exact⟨x0,x1⟩
   obtain⟨rfl,row,o4,rfl,hrl,hrr,rfl⟩:=(hPc _ _ _ _).mp h4
   refine⟨D,rfl,_,.inl ⟨SqL.of upd_same,fun t ht=>?_⟩⟩
   have sDt:=(Same.new hD (o:=.lst (row.map V.int))).newT ht (o:=.tup (row.map V.int))
   obtain⟨xs,e1,e2,e3⟩:=(hW3.mono sDt).push (w:=row) (t:=t) (SqT.of upd_same)
   refine⟨xs,e1,by omega,(hPv _ _ _).mpr ⟨ms++[m],ways++[row],_,_,_,(s3.trans sDt).over hpw0,by rw[upd_ne (Ne.symm hpp)];exact sDt _ _ hM3,e3,by simp[hml],by simp[hwl],fun z hz'=>?_,fun r hr'=>?_,rfl⟩⟩
   ·rcases List.mem_append.mp hz' with h|h
    ·exact hmr z h
    ·rw[List.mem_singleton.mp h];exact⟨mm0,mm1⟩
   ·rcases List.mem_append.mp hr' with h|h
    ·exact hwr r h
    ·rw[List.mem_singleton.mp h];exact⟨hrl,hrr⟩
  ·obtain⟨ms,ways,o1,o2,o3,s2,hM,hW,hml,hwl,hmr,hwr,rfl⟩:=(hPv _ _ _).mp h2
   walk_at "rd"
   refine⟨_,.inl ⟨SqL.of hM,fun t1 ht1=>?_⟩⟩
   obtain⟨ys,hy1,hrw⟩:=(hW.mono (Same.new ht1 (o:=.tup (ms.map V.int)))).rows
   refine⟨ys,.inl ⟨SqL.of hy1,fun t2 ht2=>⟨by omega,fun hh hhh=>?_⟩⟩⟩
   exact k hh ms ways _ (((s2.newT ht1).newT ht2).newT hhh) ⟨t1,t2,SqT.of upd_same,((Same.new ht2).newT hhh).seqT (SqT.of upd_same),(hrw t2 ht2).mono (Same.new hhh)⟩
    ⟨by omega,by omega,by omega,by omega,by omega,fun row hr'=>⟨by have:=(hwr row hr').1;omega,fun x hx=>by have:=(hwr row hr').2 x hx;omega⟩,hmr⟩ hml
def sp_rowat (K:PySem.W.Frag):Sp:=fun vs H Q _=>∃(h a:Addr) (L:Int) (r:Int) (marks:List Int) (ways:List (List Int)) (xs:List V) (ends:List (List Int)),vs=[.ref h,.int r,.ref a]/\House K H h L marks ways/\Wf L marks ways/\0<=r/\r<marks.length/\SqL K H a xs/\WordsT K H xs ends/\ends.length<=100/\(∀e∈ends,isW L e=true)/\∀l H',Same H H'->H l=none->H' l=some (.lst ((rowE marks ways ends r).map V.int))->Q (.ref l) H'
theorem ok__law_row_at {f:Addr}{fd:FuncData}(F:Fun K "_law_row_at" "_law_row_at" s__law_row_at f fd)(T:Txt mg)
  (Z:Exs K mg C_AskError C_NoPaper C_NoText)
  : FnOk P w K mg base CX0 1 f fd ["house","room","ends"] (sp_rowat K):=by
 refine F.ok sc__law_row_at (fun vs H Q E h=>?_) (fun cdv A outer s H vs Q E hr h=>?_)
 ·obtain⟨h,a,L,r,marks,ways,xs,ends,rfl,_⟩:=h;rfl
 ·obtain⟨h,a,L,r,marks,ways,xs,ends,rfl,hh,wf,r0,r1,ha,hE,hel,hew,k⟩:=h
  have hl:=line1000
  refine⟨_,(pss_cons (ps_setL (i:=3) sc__law_row_at.nd (pe_lst pa_nil))
   (pss_cons (ps_for PassesOwn.never rfl (pi_list (pvD 2)) (pg_name (i:=4) sc__law_row_at.nd rfl (Or.inl rfl))
   (pss_cons (ps_setL (i:=5) sc__law_row_at.nd (pvD 1))
   (pss_cons (ps_for PassesOwn.never rfl (pi_tup (pvD 4)) (pg_name (i:=6) sc__law_row_at.nd rfl (Or.inl rfl))
   (pss_one (ps_setL (i:=5) sc__law_row_at.nd (pe_ixA (ixTD ix_tup) (pe_ixA (ixTD ix_tup) (pe_ixA (ixTD ix_tup) (pvD 0) pe_int) (pvD 5)) (pvD 6)))))
   (pss_one (ps_expr (pe_bm PySem.F.plainAttrs_list PySem.F.slot_list_append PySem.F.type_list_append mt_append (pvD 3) (pa_cons (pe_ixA (ixTD ix_tup) (pe_ixA (ixTD ix_tup) (pvD 0) pe_int) (pvD 5)) pa_nil)))))))
   (pss_one (ps_ret (pvD 3))))),?_⟩
  walk_at "rd"
  refine⟨by omega,fun p hp=>⟨⟨_,(Same.new hp).seq ha⟩,?_⟩⟩
  obtain⟨tm,tw,q1,q2,q3⟩:=id hh
  obtain⟨Pv,hPv⟩:∃Pv:Nat->St->Hp->Prop,∀i σ' H',Pv i σ' H'↔(∃o1 o2 o3:Option V,Same H H'/\H' p=some (.lst ((rowE marks ways (ends.take i) r).map V.int))/\σ'=[some (.ref h),some (.int r),some (.ref a),some (.ref p),o1,o2,o3]):=⟨_,fun _ _ _=>Iff.rfl⟩
  refine forL (xs:=xs) Pv ((hPv _ _ _).mpr ⟨none,none,none,Same.new hp,upd_same,rfl⟩) (fun i σ' H' _ h'=>by obtain⟨_,_,_,s',_⟩:=(hPv _ _ _).mp h';exact s'.seq ha) (fun i x σ' H' hx h'=>?_) (fun σ' H' h'=>?_)
  ·obtain⟨o1,o2,o3,s2,hp2,rfl⟩:=(hPv _ _ _).mp h'
   obtain⟨te,e,hei,rfl,hte⟩:=hE.at hx
   have hew':=hew e (List.mem_of_getElem? hei)
   have hei':=(List.getElem?_eq_some_iff.mp hei).1
   have et:ends.take (i+1)=ends.take i++[e]:=by rw[List.take_add_one,hei];rfl
   walk_at "rd"
   refine⟨⟨_,SqT.of (s2 _ _ hte)⟩,forT (xs:=e.map V.int) (fun j σ3 H3=>H3=H'/\∃o,σ3=[some (.ref h),some (.int r),some (.ref a),some (.ref p),some (.ref te),some (.int (walkR ways r (e.take j))),o]) ⟨rfl,o3,by simp[walkR]⟩ (fun j σ3 H3 _ h3=>by rw[h3.1];exact SqT.of (s2 _ _ hte)) (fun j y σ3 H3 hy h3=>?_) (fun σ3 H3 h3=>?_)⟩
   ·obtain⟨rfl,o,rfl⟩:=h3
    obtain⟨n,hn,rfl⟩:=get_mapI hy
    have hin:=isW_iff.mp hew' n (List.mem_of_getElem? hn)
    have hwk:=walkR_in wf (e.take j) (isW_take hew' j) r0 r1
    obtain⟨row,g,e1,e2,e3,e4,e5⟩:=wf.step hwk.1 hwk.2 hin.1 hin.2
    obtain⟨ws,t,z1,z2,z3⟩:=q3.atZ hwk.1 e1
    walk_at "rd"
    refine⟨_,s2.seqT q1,_,rfl,?_⟩
    walk_at "rd"
    refine⟨_,s2.seqT z1,_,z2,?_⟩
    walk_at "rd"
    refine⟨_,s2.seqT z3,_,atI_int hin.1 e2,?_⟩
    rw[walkR_take hn,e3]
    exact⟨rfl,_,rfl⟩
   ·obtain⟨rfl,o,rfl⟩:=h3
    rw[List.length_map,List.take_length]
    have wk:=walkR_in wf e hew' r0 r1
    walk_at "rd"
    refine⟨.inl ⟨rfl,_,SqL.of hp2⟩,_,s2.seqT q1,_,rfl,tm,rfl,_,s2.seqT q2,_,mkW_at wk.1 wk.2,_,hp2,?_,(hPv _ _ _).mpr ⟨_,_,_,s2.over hp,?_,rfl⟩⟩
    ·rw[List.length_map];unfold rowE;rw[List.length_map,List.length_take];omega
    ·rw[upd_same,et,rowE_snoc,List.map_append];rfl
  ·obtain⟨o1,o2,o3,s2,hp2,rfl⟩:=(hPv _ _ _).mp h'
   rw[hE.1,List.take_length]at hp2
   walk_at "rd"
   exact k p _ s2 hp hp2
def sp_one50 (K:PySem.W.Frag):Sp:=fun vs H Q _=>∃(h a:Addr) (L:Nat) (marks:List Int) (ways:List (List Int)) (xs:List V) (ends:List (List Int)),vs=[.ref h,.ref a]/\House K H h L marks ways/\Wf L marks ways/\SqL K H a xs/\WordsT K H xs ends/\ends.length<=100/\(∀e∈ends,isW L e=true/\e.length<=100)/\(∀H',Same H H'->Stb L marks.length marks ways ends->Q .non H')/\(∀t x e H',Same H H'->H' t=some (.tup ((x::e).map V.int))->e∈ends->0<=x->x<(L:Int)->Spl marks.length marks ways ends (x::e)->Q (.ref t) H')
theorem ok__law_one_more {f:Addr}{fd:FuncData}(F:Fun K "_law_one_more" "_law_one_more" s__law_one_more f fd)(T:Txt mg)
  (Z:Exs K mg C_AskError C_NoPaper C_NoText)
  {f__law_row_at:Addr} {fd__law_row_at:FuncData} (q__law_row_at:Cal P w K mg base CX0 1 "_law_row_at" s__law_row_at ["house","room","ends"] (sp_rowat K) f__law_row_at fd__law_row_at)
  : FnOk P w K mg base CX0 2 f fd ["house","ends"] (sp_one50 K):=by
 refine F.ok sc__law_one_more (fun vs H Q E h=>?_) (fun cdv A outer s H vs Q E hr h=>?_)
 ·obtain⟨h,a,L,marks,ways,xs,ends,rfl,_⟩:=h;rfl
 ·obtain⟨h,a,L,marks,ways,xs,ends,rfl,hh,wf,ha,hE,hel,hew,k0,k1⟩:=h
  have hl:=line1000
  have hn40:=wf.n40
  have hL6:=wf.l6
  refine⟨_,(pss_cons (ps_for PassesOwn.never rfl (pi_range1 rfl T.range (pa_cons (pe_callB (lenD call_len_seq) (by rfl) T.len PySem.boot_len (pa_cons (pe_ixA (ixTD ix_tup) (pvD 0) pe_int) pa_nil)) pa_nil)) (pg_name (i:=2) sc__law_one_more.nd rfl (Or.inl rfl))
   (pss_one (ps_for PassesOwn.never rfl (pi_range1 rfl T.range (pa_cons (pvD 2) pa_nil)) (pg_name (i:=3) sc__law_one_more.nd rfl (Or.inl rfl))
   (pss_one (ps_if (ptT (pt_cmpR (op_eqD 8 (hu9 hr)) (pe_callQ q__law_row_at hr.d pass0 (pa_cons (pvD 0) (pa_cons (pvD 2) (pa_cons (pvD 1) pa_nil)))) (pe_callQ q__law_row_at hr.d pass0 (pa_cons (pvD 0) (pa_cons (pvD 3) (pa_cons (pvD 1) pa_nil)))) (nomark _)))
   (pss_one (ps_for PassesOwn.never rfl (pi_range1 rfl T.range (pa_cons (pe_ixA (ixTD ix_tup) (pvD 0) pe_int) pa_nil)) (pg_name (i:=4) sc__law_one_more.nd rfl (Or.inl rfl))
   (pss_cons (ps_setL (i:=5) sc__law_one_more.nd (pe_callQ q__law_row_at hr.d pass0 (pa_cons (pvD 0) (pa_cons (pe_ixA (ixTD ix_tup) (pe_ixA (ixTD ix_tup) (pe_ixA (ixTD ix_tup) (pvD 0) pe_int) (pvD 2)) (pvD 4)) (pa_cons (pvD 1) pa_nil)))))
   (pss_cons (ps_setL (i:=6) sc__law_one_more.nd (pe_callQ q__law_row_at hr.d pass0 (pa_cons (pvD 0) (pa_cons (pe_ixA (ixTD ix_tup) (pe_ixA (ixTD ix_tup) (pe_ixA (ixTD ix_tup) (pvD 0) pe_int) (pvD 3)) (pvD 4)) (pa_cons (pvD 1) pa_nil)))))
   (pss_one (ps_for PassesOwn.never rfl (pi_range1 rfl T.range (pa_cons (pe_callB (lenD call_len_seq) (by rfl) T.len PySem.boot_len (pa_cons (pvD 1) pa_nil)) pa_nil)) (pg_name (i:=7) sc__law_one_more.nd rfl (Or.inl rfl))
   (pss_one (ps_if (ptT (pt_cmpR (opN op_ne) (pe_ixA (ixLD ix_list) (pvD 5) (pvD 7)) (pe_ixA (ixLD ix_list) (pvD 6) (pvD 7)) (nomark _)))
   (pss_one (ps_ret (pe_op op_catT2 (pe_tup (pa_cons (pvD 4) pa_nil)) (pe_ixA (ixLD ix_list) (pvD 1) (pvD 7)))))
   pss_nil))))))))
   pss_nil)))))
   (pss_one (ps_ret pe_non))),?_⟩
  obtain⟨tm,tw,q1,q2,q3⟩:=id hh
  walk_at "rd"
  refine⟨_,q1,_,rfl,tm,rfl,_,.inr q2,by omega,by rw[List.length_map];omega,?_⟩
  rw[List.length_map,Int.toNat_natCast]
  have hewl:∀e∈ends,isW L e=true:=fun e he=>(hew e he).1
  obtain⟨Pv,hPv⟩:∃Pv:Nat->St->Hp->Prop,∀i σ' H',Pv i σ' H'↔(∃o1 o2 o3 o4 o5 o6:Option V,Same H H'/\(∀a b:Nat,a<i->b<a->rowE marks ways ends a=rowE marks ways ends b->∀x:Int,0<=x->x<L->rowE marks ways ends (stepW ways a x)=rowE marks ways ends (stepW ways b x))/\σ'=[some (.ref h),some (.ref a),o1,o2,o3,o4,o5,o6]):=⟨_,fun _ _ _=>Iff.rfl⟩
  refine forR Pv ((hPv _ _ _).mpr ⟨none,none,none,none,none,none,Same.refl _,fun a b ha=>absurd ha (Nat.not_lt_zero _),rfl⟩) (fun i σ2 H2 hi h2=>?_) (fun σ2 H2 h2=>?_)
  ·obtain⟨o1,o2,o3,o4,o5,o6,s2,hI,rfl⟩:=(hPv _ _ _).mp h2
   rw[Int.zero_add]
   walk_at "rd"
   refine⟨by omega,by omega,?_⟩
   rw[Int.toNat_natCast]
   obtain⟨Pw,hPw⟩:∃Pv:Nat->St->Hp->Prop,∀j σ' H',Pv j σ' H'↔(∃o2 o3 o4 o5 o6:Option V,Same H H'/\(∀b:Nat,b<j->rowE marks ways ends i=rowE marks ways ends b->∀x:Int,0<=x->x<L->rowE marks ways ends (stepW ways i x)=rowE marks ways ends (stepW ways b x))/\σ'=[some (.ref h),some (.ref a),some (.int i),o2,o3,o4,o5,o6]):=⟨_,fun _ _ _=>Iff.rfl⟩
   refine forR Pw ((hPw _ _ _).mpr ⟨_,_,_,_,_,s2,fun b hb=>absurd hb (Nat.not_lt_zero _),rfl⟩) (fun j σ3 H3 hj h3=>?_) (fun σ3 H3 h3=>?_)
   ·obtain⟨o2,o3,o4,o5,o6,s3,hJ,rfl⟩:=(hPw _ _ _).mp h3
    rw[Int.zero_add]
    walk_at "rd"
    refine⟨h,a,L,i,marks,ways,xs,ends,rfl,hh.mono s3,wf,by omega,by omega,s3.seq ha,hE.mono (TK.of s3),hel,hewl,fun l1 H4 s4 hl1 hl1'=>⟨h,a,L,j,marks,ways,xs,ends,rfl,hh.mono (s3.trans s4),wf,by omega,by omega,(s3.trans s4).seq ha,hE.mono (TK.of (s3.trans s4)),hel,hewl,fun l2 H5 s5 hl2 hl2'=>⟨l1,rfl,l2,rfl,_,EqD.ints (.inl ⟨SqL.of (s5 _ _ hl1'),SqL.of hl2'⟩) 7,?_⟩⟩⟩
    have s35:=(s3.trans s4).trans s5
    refine ite2 (fun heq=>?_) (fun hne=>?_)
    ·have heq:=of_decide_eq_true heq
     refine⟨_,s35.seqT q1,_,rfl,?_⟩
     refine⟨_,rfl,by have:=wf.l1;omega,by omega,?_⟩
     rw[Int.toNat_natCast]
     obtain⟨Pe,hPe⟩:∃Pv:Nat->St->Hp->Prop,∀x σ' H',Pv x σ' H'↔(∃o3 o4 o5 o6:Option V,Same H H'/\(∀y:Int,0<=y->y<(x:Nat)->rowE marks ways ends (stepW ways i y)=rowE marks ways ends (stepW ways j y))/\σ'=[some (.ref h),some (.ref a),some (.int i),some (.int j),o3,o4,o5,o6]):=⟨_,fun _ _ _=>Iff.rfl⟩
     refine forR Pe ((hPe _ _ _).mpr ⟨_,_,_,_,s35,fun y y0 y1=>by omega,rfl⟩) (fun x σ6 H6 hx h6=>?_) (fun σ6 H6 h6=>?_)
     ·obtain⟨o3,o4,o5,o6,s6,hX,rfl⟩:=(hPe _ _ _).mp h6
      rw[Int.zero_add]
      obtain⟨ri,gi,a1,a2,a3,a4,a5⟩:=wf.step (r:=(i:Int)) (x:=(x:Int)) (by omega) (by omega) (by omega) (by omega)
      obtain⟨rj,gj,b1,b2,b3,b4,b5⟩:=wf.step (r:=(j:Int)) (x:=(x:Int)) (by omega) (by omega) (by omega) (by omega)
      obtain⟨ws1,t1,z1,z2,z3⟩:=q3.atZ (by omega) a1
      obtain⟨ws2,t2,y1,y2,y3⟩:=q3.atZ (by omega) b1
      walk_at "rd"
      refine⟨_,s6.seqT q1,_,rfl,?_⟩
      walk_at "rd"
      refine⟨_,s6.seqT z1,_,z2,t1,rfl,_,s6.seqT z3,_,atI_int (by omega) a2,h,a,L,gi,marks,ways,xs,ends,rfl,hh.mono s6,wf,a4,a5,s6.seq ha,hE.mono (TK.of s6),hel,hewl,fun m1 H7 s7 hm1 hm1'=>?_⟩
      have s67:=s6.trans s7
      refine⟨_,s67.seqT q1,_,rfl,tw,rfl,_,s67.seqT y1,_,y2,t2,rfl,_,s67.seqT y3,_,atI_int (by omega) b2,h,a,L,gj,marks,ways,xs,ends,rfl,hh.mono s67,wf,b4,b5,s67.seq ha,hE.mono (TK.of s67),hel,hewl,fun m2 H8 s8 hm2 hm2'=>⟨_,.inl ((s67.trans s8).seq ha),by omega,by rw[hE.1];omega,?_⟩⟩
      have s68:=s67.trans s8
      rw[hE.1,Int.toNat_natCast]
      have hri:(rowE marks ways ends gi).length=ends.length:=by unfold rowE;rw[List.length_map]
      have hrj:(rowE marks ways ends gj).length=ends.length:=by unfold rowE;rw[List.length_map]
      obtain⟨Pk,hPk⟩:∃Pv:Nat->St->Hp->Prop,∀c σ' H',Pv c σ' H'↔(∃o6:Option V,H'=H8/\(∀d:Nat,d<c->(rowE marks ways ends gi)[d]?=(rowE marks ways ends gj)[d]?)/\σ'=[some (.ref h),some (.ref a),some (.int i),some (.int j),some (.int x),some (.ref m1),some (.ref m2),o6]):=⟨_,fun _ _ _=>Iff.rfl⟩
      refine forR Pk ((hPk _ _ _).mpr ⟨_,rfl,fun d hd=>absurd hd (Nat.not_lt_zero _),rfl⟩) (fun c σ9 H9 hc h9=>?_) (fun σ9 H9 h9=>?_)
      ·obtain⟨o6,rfl,hC,rfl⟩:=(hPk _ _ _).mp h9
       rw[Int.zero_add]
       have v1:(rowE marks ways ends gi)[c]?=some (mkW marks (walkR ways gi ends[c])):=by unfold rowE;rw[List.getElem?_map,List.getElem?_eq_getElem hc];rfl
       have v2:(rowE marks ways ends gj)[c]?=some (mkW marks (walkR ways gj ends[c])):=by unfold rowE;rw[List.getElem?_map,List.getElem?_eq_getElem hc];rfl
       walk_at "rd"
       refine⟨_,SqL.of (s8 _ _ hm1'),_,atI_int (by omega) (by rw[Int.toNat_natCast];exact v1),_,SqL.of hm2',_,atI_int (by omega) (by rw[Int.toNat_natCast];exact v2),?_⟩
       walk_at "rd"
       refine ite2 (fun hne=>?_) (fun he=>?_)
       ·have hne':mkW marks (walkR ways gi ends[c])≠mkW marks (walkR ways gj ends[c]):=by simpa using hne
        obtain⟨te,f1,f2⟩:=hE.2 c ends[c] (List.getElem?_eq_getElem hc)
        refine⟨by omega,fun p hp=>?_⟩
        have sp:=s68.newT hp (o:=.tup [V.int x])
        have hcl:=(hew _ (List.getElem_mem hc)).2
        refine⟨_,sp.seq ha,_,atI_nat f1,rCatT2.ofS upd_same (sp _ _ f2) (by simp;omega) fun q H10 s10 hq=>k1 q x ends[c] H10 (sp.trans s10) hq (List.getElem_mem hc) (by omega) (by omega) ⟨i,j,by omega,by omega,by omega,by omega,heq,?_⟩⟩
        rw[walkR_cons,walkR_cons,a3,b3];exact hne'
       ·have he':mkW marks (walkR ways gi ends[c])=mkW marks (walkR ways gj ends[c]):=by simpa using he
        refine (hPk _ _ _).mpr ⟨_,rfl,fun d hd=>?_,rfl⟩
        by_cases hdc:d<c
        ·exact hC d hdc
        ·have:d=c:=by omega
         subst this
         rw[v1,v2,he']
      ·obtain⟨o6,rfl,hC,rfl⟩:=(hPk _ _ _).mp h9
       refine (hPe _ _ _).mpr ⟨_,_,_,_,s68,fun y y0 y1=>?_,rfl⟩
       by_cases hyx:y<(x:Int)
       ·exact hX y y0 hyx
       ·have:y=(x:Int):=by omega
        subst this
        rw[a3,b3]
        refine List.ext_getElem? fun d=>?_
        by_cases hd:d<ends.length
        ·exact hC d hd
        ·rw[List.getElem?_eq_none (by omega),List.getElem?_eq_none (by omega)]
     ·obtain⟨o3,o4,o5,o6,s6,hX,rfl⟩:=(hPe _ _ _).mp h6
      refine (hPw _ _ _).mpr ⟨_,_,_,_,_,s6,fun b hb e x x0 x1=>?_,rfl⟩
      by_cases hbj:b<j
      ·exact hJ b hbj e x x0 x1
      ·have:b=j:=by omega
       subst this
       exact hX x x0 (by omega)
    ·have hne:=of_decide_eq_false (by simpa using hne)
     refine (hPw _ _ _).mpr ⟨_,_,_,_,_,s35,fun b hb e x x0 x1=>?_,rfl⟩
     by_cases hbj:b<j
     ·exact hJ b hbj e x x0 x1
     ·have:b=j:=by omega
      subst this
      exact absurd e hne
   ·obtain⟨o2,o3,o4,o5,o6,s3,hJ,rfl⟩:=(hPw _ _ _).mp h3
    refine (hPv _ _ _).mpr ⟨_,_,_,_,_,_,s3,fun a' b ha' hb e=>?_,rfl⟩
    by_cases hai:a'<i
    ·exact hI a' b hai hb e
    ·have:a'=i:=by omega
     subst this
     exact hJ b hb e
  ·obtain⟨o1,o2,o3,o4,o5,o6,s2,hI,rfl⟩:=(hPv _ _ _).mp h2
   walk_at "rd"
   refine k0 _ s2 fun a' b a0 a1 b0 b1 e x x0 x1=>?_
   obtain⟨an,rfl⟩:∃an:Nat,a'=(an:Int):=⟨a'.toNat,by omega⟩
   obtain⟨bn,rfl⟩:∃bn:Nat,b=(bn:Int):=⟨b.toNat,by omega⟩
   rcases Nat.lt_trichotomy an bn with h1|h1|h1
   ·exact (hI bn an (by omega) h1 e.symm x x0 x1).symm
   ·rw[h1]
   ·exact hI an bn (by omega) h1 e x x0 x1
def sp_ends50 (K:PySem.W.Frag):Sp:=fun vs H Q _=>∃(h:Addr) (L:Nat) (marks:List Int) (ways:List (List Int)),vs=[.ref h]/\House K H h L marks ways/\Wf L marks ways/\∀l xs ends H',Same H H'->H l=none->H' l=some (.lst xs)->WordsT K H' xs ends->ends[0]?=some []->ends.length<=marks.length+1->(∀e∈ends,isW L e=true/\e.length<=marks.length)->Stb L marks.length marks ways ends->Q (.ref l) H'
theorem ok__law_ends_of {f:Addr}{fd:FuncData}(F:Fun K "_law_ends_of" "_law_ends_of" s__law_ends_of f fd)(T:Txt mg)
  (Z:Exs K mg C_AskError C_NoPaper C_NoText)
  {f__law_one_more:Addr} {fd__law_one_more:FuncData} (q__law_one_more:Cal P w K mg base CX0 2 "_law_one_more" s__law_one_more ["house","ends"] (sp_one50 K) f__law_one_more fd__law_one_more)
  : FnOk P w K mg base CX0 3 f fd ["house"] (sp_ends50 K):=by
 refine F.ok sc__law_ends_of (fun vs H Q E h=>?_) (fun cdv A outer s H vs Q E hr h=>?_)
 ·obtain⟨h,L,marks,ways,rfl,_⟩:=h;rfl
 ·obtain⟨h,L,marks,ways,rfl,hh,wf,k⟩:=h
  have hl:=line1000
  have hn40:=wf.n40
  have hn1:=wf.n1
  have hL6:=wf.l6
  refine⟨_,(pss_cons (ps_setL (i:=1) sc__law_ends_of.nd (pe_lst (pa_cons (pe_tup pa_nil) pa_nil)))
   (pss_cons (ps_for PassesOwn.never rfl (pi_range1 rfl T.range (pa_cons (pe_callB (lenD call_len_seq) (by rfl) T.len PySem.boot_len (pa_cons (pe_ixA (ixTD ix_tup) (pvD 0) pe_int) pa_nil)) pa_nil)) (pg_name (i:=2) sc__law_ends_of.nd rfl (Or.inl rfl))
   (pss_cons (ps_setL (i:=3) sc__law_ends_of.nd (pe_callQ q__law_one_more hr.d pass0 (pa_cons (pvD 0) (pa_cons (pvD 1) pa_nil))))
   (pss_one (ps_if (ptT (pt_cmpR op_notN (pvD 3) pe_non (nomark _)))
   (pss_one (ps_expr (pe_bm PySem.F.plainAttrs_list PySem.F.slot_list_append PySem.F.type_list_append mt_append (pvD 1) (pa_cons (pvD 3) pa_nil))))
   pss_nil))))
   (pss_one (ps_ret (pvD 1))))),?_⟩
  obtain⟨tm,tw,q1,q2,q3⟩:=id hh
  walk_at "rd"
  refine⟨by omega,fun p0 hp0=>⟨by omega,fun p hp=>?_⟩⟩
  have s1:=(Same.new hp0 (o:=.tup [])).newT hp (o:=.lst [V.ref p0])
  have hpH:H p=none:=(none_of_upd hp).1
  have hW0:WordsT K (upd (upd H p0 (.tup [])) p (.lst [V.ref p0])) [V.ref p0] [[]]:=WordsT.nil.snoc (Same.new hp _ _ upd_same)
  refine⟨_,s1.seqT q1,_,rfl,tm,rfl,_,.inr (s1.seqT q2),by omega,by rw[List.length_map];omega,?_⟩
  rw[List.length_map,Int.toNat_natCast]
  obtain⟨Pv,hPv⟩:∃Pv:Nat->St->Hp->Prop,∀i σ' H',Pv i σ' H'↔(∃(xs:List V) (ends:List (List Int)) (o1 o2:Option V),Same H H'/\H' p=some (.lst xs)/\WordsT K H' xs ends/\ends[0]?=some []/\ends.length<=i+1/\(∀e∈ends,isW L e=true/\e.length<=i)/\(Stb L marks.length marks ways ends\/i+1<=ncR marks ways ends marks.length)/\σ'=[some (.ref h),some (.ref p),o1,o2]):=⟨_,fun _ _ _=>Iff.rfl⟩
  refine forR Pv ((hPv _ _ _).mpr ⟨_,[[]],none,none,s1,upd_same,hW0,rfl,by simp,fun e he=>by rw[List.mem_singleton.mp he];exact⟨rfl,by simp⟩,.inr (ncR_pos marks ways _ hn1),rfl⟩) (fun i σ2 H2 hi h2=>?_) (fun σ2 H2 h2=>?_)
  ·obtain⟨xs,ends,o1,o2,s2,hp2,hW,h0,hel,hew,hS,rfl⟩:=(hPv _ _ _).mp h2
   rw[Int.zero_add]
   walk_at "rd"
   refine⟨h,p,L,marks,ways,xs,ends,rfl,hh.mono s2,wf,SqL.of hp2,hW,by omega,fun e he=>⟨(hew e he).1,by have:=(hew e he).2;omega⟩,fun H3 s3 hst=>?_,fun t x e H3 s3 ht he x0 x1 hsp=>?_⟩
   ·walk_at "rd"
    exact (hPv _ _ _).mpr ⟨xs,ends,_,_,s2.trans s3,s3 _ _ hp2,hW.mono (TK.of s3),h0,by omega,fun e he=>⟨(hew e he).1,by have:=(hew e he).2;omega⟩,.inl hst,rfl⟩
   ·walk_at "rd"
    have hp3:=s3 _ _ hp2
    refine⟨.inl ⟨rfl,_,SqL.of hp3⟩,_,hp3,by rw[hW.1];omega,(hPv _ _ _).mpr ⟨_,ends++[x::e],_,_,(s2.trans s3).over hpH,upd_same,((hW.mono (TK.of s3)).snoc ht).mono (TK.lst hp3),?_,by rw[List.length_append];simp;omega,fun e' he'=>?_,.inr ?_,rfl⟩⟩
    ·rw[List.getElem?_append_left (List.getElem?_eq_some_iff.mp h0).1];exact h0
    ·rcases List.mem_append.mp he' with he' | he'
     ·exact⟨(hew e' he').1,by have:=(hew e' he').2;omega⟩
     ·rw[List.mem_singleton.mp he']
      obtain⟨g1,g2⟩:=hew e he
      refine⟨isW_iff.mpr fun y hy=>?_,by rw[List.length_cons];omega⟩
      rcases List.mem_cons.mp hy with rfl|hy
      ·exact⟨x0,x1⟩
      ·exact isW_iff.mp g1 y hy
    ·have h1:i+1<=ncR marks ways ends marks.length:=by
      rcases hS with hS|hS
      ·exact absurd hsp (hS.not x0 x1 he)
      ·exact hS
     have:=hsp.more
     omega
  ·obtain⟨xs,ends,o1,o2,s2,hp2,hW,h0,hel,hew,hS,rfl⟩:=(hPv _ _ _).mp h2
   walk_at "rd"
   refine k p xs ends _ s2 hpH hp2 hW h0 hel hew ?_
   rcases hS with hS|hS
   ·exact hS
   ·have:=ncR_le marks ways ends marks.length
    omega
def WLx (H:Hp)(zs:List V)(ws:List (List Int))(bad:List Addr):Prop:=zs.length=ws.length/\∀(i:Nat) (u:List Int),ws[i]?=some u->∃t,zs[i]?=some (.ref t)/\H t=some (.lst (u.map V.int))/\t∉bad
theorem WLx.toL {K:PySem.W.Frag}{H:Hp}{zs:List V}{ws:List (List Int)}{bad:List Addr}(h:WLx H zs ws bad):WordsL K H zs ws:=⟨h.1,fun i u hu=>let ⟨t,a,b,_⟩:=h.2 i u hu;⟨t,a,b⟩⟩
theorem WLx.mono {H H':Hp}{zs:List V}{ws:List (List Int)}{bad:List Addr}(h:WLx H zs ws bad)(s:Same H H'):WLx H' zs ws bad:=⟨h.1,fun i u hu=>let ⟨t,a,b,c⟩:=h.2 i u hu;⟨t,a,s _ _ b,c⟩⟩
theorem WLx.off {H:Hp}{zs:List V}{ws:List (List Int)}{bad:List Addr}(h:WLx H zs ws bad){p:Addr}(hp:p∈bad)(o:HO):WLx (upd H p o) zs ws bad:=⟨h.1,fun i u hu=>by
 obtain⟨t,a,b,c⟩:=h.2 i u hu
 exact⟨t,a,by rw[upd_ne (fun z=>c (by rw[z];exact hp))];exact b,c⟩⟩
theorem WLx.snoc {H:Hp}{zs:List V}{ws:List (List Int)}{bad:List Addr}(h:WLx H zs ws bad){t:Addr}{u:List Int}(ht:H t=some (.lst (u.map V.int)))(hb:t∉bad):WLx H (zs++[.ref t]) (ws++[u]) bad:=by
 refine⟨by rw[List.length_append,List.length_append,h.1];rfl,fun i v hv=>?_⟩
 by_cases hi:i<ws.length
 ·rw[List.getElem?_append_left hi]at hv
  obtain⟨t',a,b,c⟩:=h.2 i v hv
  exact⟨t',by rw[List.getElem?_append_left (by rw[h.1];exact hi)];exact a,b,c⟩
 ·rw[List.getElem?_append_right (by omega)]at hv
  have h0:i-ws.length=0:=by
   have:=(List.getElem?_eq_some_iff.mp hv).1
   simpa using this
  rw[h0]at hv
  have hv:u=v:=by simpa using hv
  subst hv
  exact⟨t,by rw[List.getElem?_append_right (by rw[h.1];omega),h.1,h0];rfl,ht,hb⟩
def sp_acc50 (K:PySem.W.Frag):Sp:=fun vs H Q _=>∃(h a:Addr) (L:Nat) (marks:List Int) (ways:List (List Int)) (xs:List V) (ends:List (List Int)),vs=[.ref h,.ref a]/\House K H h L marks ways/\Wf L marks ways/\SqL K H a xs/\WordsT K H xs ends/\ends.length<=100/\(∀e∈ends,isW L e=true)/\∀l ys acc H',Same H H'->H l=none->H' l=some (.lst ys)->WordsT K H' ys acc->Acs L marks ways ends acc->(∀u∈acc,∀x:Nat,x<L->rowE marks ways ends (walkW ways (u++[(x:Int)]))∈acc.map fun u=>rowE marks ways ends (walkW ways u))->Q (.ref l) H'
theorem ok__law_access_of {f:Addr}{fd:FuncData}(F:Fun K "_law_access_of" "_law_access_of" s__law_access_of f fd)(T:Txt mg)
  (Z:Exs K mg C_AskError C_NoPaper C_NoText)
  {f__law_row_at:Addr} {fd__law_row_at:FuncData} (q__law_row_at:Cal P w K mg base CX0 1 "_law_row_at" s__law_row_at ["house","room","ends"] (sp_rowat K) f__law_row_at fd__law_row_at)
  : FnOk P w K mg base CX0 2 f fd ["house","ends"] (sp_acc50 K):=by
 refine F.ok sc__law_access_of (fun vs H Q E h=>?_) (fun cdv A outer s H vs Q E hr h=>?_)
 ·obtain⟨h,a,L,marks,ways,xs,ends,rfl,_⟩:=h;rfl
 ·obtain⟨h,a,L,marks,ways,xs,ends,rfl,hh,wf,ha,hE,hel,hew,k⟩:=h
  have hl:=line1000
  have hn40:=wf.n40
  have hn1:=wf.n1
  have hL6:=wf.l6
  refine⟨_,(pss_cons (ps_setL (i:=2) sc__law_access_of.nd (pe_lst (pa_cons (pe_tup pa_nil) pa_nil)))
   (pss_cons (ps_setL (i:=3) sc__law_access_of.nd (pe_lst (pa_cons pe_int pa_nil)))
   (pss_cons (ps_setL (i:=4) sc__law_access_of.nd (pe_lst (pa_cons (pe_callQ q__law_row_at hr.d pass0 (pa_cons (pvD 0) (pa_cons pe_int (pa_cons (pvD 1) pa_nil)))) pa_nil)))
   (pss_cons (ps_setL (i:=5) sc__law_access_of.nd pe_int)
   (pss_cons (ps_while PassesOwn.never (ptT (pt_cmpR (opD0 op_lt) (pvD 5) (pe_callB (lenD call_len_seq) (by rfl) T.len PySem.boot_len (pa_cons (pvD 2) pa_nil)) (nomark _)))
   (pss_cons (ps_for PassesOwn.never rfl (pi_range1 rfl T.range (pa_cons (pe_ixA (ixTD ix_tup) (pvD 0) pe_int) pa_nil)) (pg_name (i:=6) sc__law_access_of.nd rfl (Or.inl rfl))
   (pss_cons (ps_setL (i:=7) sc__law_access_of.nd (pe_ixA (ixTD ix_tup) (pe_ixA (ixTD ix_tup) (pe_ixA (ixTD ix_tup) (pvD 0) pe_int) (pe_ixA (ixLD ix_list) (pvD 3) (pvD 5))) (pvD 6)))
   (pss_cons (ps_setL (i:=8) sc__law_access_of.nd (pe_callQ q__law_row_at hr.d pass0 (pa_cons (pvD 0) (pa_cons (pvD 7) (pa_cons (pvD 1) pa_nil)))))
   (pss_one (ps_if (ptT (pt_cmpR (op_notInL (hu9 hr)) (pvD 8) (pvD 4) rfl))
   (pss_cons (ps_expr (pe_bm PySem.F.plainAttrs_list PySem.F.slot_list_append PySem.F.type_list_append mt_append (pvD 2) (pa_cons (pe_op op_catT2 (pe_ixA (ixLD ix_list) (pvD 2) (pvD 5)) (pe_tup (pa_cons (pvD 6) pa_nil))) pa_nil)))
   (pss_cons (ps_expr (pe_bm PySem.F.plainAttrs_list PySem.F.slot_list_append PySem.F.type_list_append mt_append (pvD 3) (pa_cons (pvD 7) pa_nil)))
   (pss_one (ps_expr (pe_bm PySem.F.plainAttrs_list PySem.F.slot_list_append PySem.F.type_list_append mt_append (pvD 4) (pa_cons (pvD 8) pa_nil))))))
   pss_nil)))))
   (pss_one (ps_setL (i:=5) sc__law_access_of.nd (pe_op (opD0 op_add) (pvD 5) pe_int)))))
   (pss_one (ps_ret (pvD 2)))))))),?_⟩
  obtain⟨tm,tw,q1,q2,q3⟩:=id hh
  walk_at "rd"
  refine⟨by omega,fun p0 hp0=>⟨by omega,fun pa hpa=>⟨by omega,fun pr hpr=>?_⟩⟩⟩
  have s1:=((Same.new hp0 (o:=.tup [])).newT hpa (o:=.lst [V.ref p0])).newT hpr (o:=.lst [V.int 0])
  have hpaH:H pa=none:=(none_of_upd hpa).1
  have hprH:H pr=none:=(none_of_upd (none_of_upd hpr).1).1
  have hpap:pr≠pa:=(none_of_upd hpr).2
  have hW0:WordsT K (upd (upd (upd H p0 (.tup [])) pa (.lst [V.ref p0])) pr (.lst [V.int 0])) [V.ref p0] [[]]:=WordsT.nil.snoc (((Same.new hpa).newT hpr) _ _ upd_same)
  refine⟨h,a,L,0,marks,ways,xs,ends,rfl,hh.mono s1,wf,by omega,by omega,s1.seq ha,hE.mono (TK.of s1),hel,hew,fun l0 H2 s2 hl0 hl0'=>⟨by omega,fun pw hpw=>?_⟩⟩
  have s12:=(s1.trans s2).newT hpw (o:=.lst [V.ref l0])
  have s2w:=s2.newT hpw (o:=.lst [V.ref l0])
  have hpwH:H pw=none:=(s1.trans s2).none hpw
  have hpa2:H2 pa=some (.lst [V.ref p0]):=s2 _ _ (Same.new hpr _ _ upd_same)
  have hpr2:H2 pr=some (.lst [V.int 0]):=s2 _ _ upd_same
  have hwa:pw≠pa:=fun z=>by rw[z,hpa2]at hpw;cases hpw
  have hwr:pw≠pr:=fun z=>by rw[z,hpr2]at hpw;cases hpw
  have hlw:l0 ∉ [pa,pr,pw]:=fun z=>by
   simp only[List.mem_cons,List.not_mem_nil,or_false]at z
   rcases z with z|z|z
   ·rw[z,Same.new hpr _ _ upd_same]at hl0;cases hl0
   ·rw[z,upd_same]at hl0;cases hl0
   ·rw[<-z,hl0']at hpw;cases hpw
  obtain⟨rE,hrE⟩:∃rE:List Int->List Int,rE=fun u=>rowE marks ways ends (walkW ways u):=⟨_,rfl⟩
  have hrl:∀r,(rowE marks ways ends r).length=ends.length:=fun r=>by unfold rowE;rw[List.length_map]
  obtain⟨In,hIn⟩:∃In:Hp->List (List Int)->Prop,∀H' acc,In H' acc↔(∃(ys zs:List V),Same H H'/\H' pa=some (.lst ys)/\WordsT K H' ys acc/\H' pr=some (.lst ((acc.map (walkW ways)).map V.int))/\H' pw=some (.lst zs)/\WLx H' zs (acc.map rE) [pa,pr,pw]/\Acs L marks ways ends acc):=⟨_,fun _ _=>Iff.rfl⟩
  have hI0:In (upd H2 pw (.lst [V.ref l0])) [[]]:=(hIn _ _).mpr ⟨_,_,s12,Same.new hpw _ _ hpa2,hW0.mono (TK.of s2w),Same.new hpw _ _ hpr2,upd_same,WLx.snoc (H:=upd H2 pw (.lst [V.ref l0])) (zs:=[]) (ws:=[]) ⟨rfl,fun i u hu=>by simp at hu⟩ (u:=rE []) (by rw[hrE];exact Same.new hpw _ _ hl0') hlw,⟨rfl,by simp,fun i u hu=>by
   have:=(List.getElem?_eq_some_iff.mp hu).1
   simp at this
   subst this
   cases hu
   exact⟨by simp,rfl⟩,fun i u h0 hu=>by
   have:=(List.getElem?_eq_some_iff.mp hu).1
   simp at this
   omega⟩⟩
  obtain⟨Pv,hPv⟩:∃Pv:Nat->St->Hp->Prop,∀m σ' H',Pv m σ' H'↔(∃(i:Nat) (acc:List (List Int)) (o6 o7 o8:Option V),In H' acc/\(∀j,j<i->∀u,acc[j]?=some u->∀x:Nat,x<L->rE (u++[(x:Int)])∈acc.map rE)/\i<=acc.length/\m=41-i/\σ'=[some (.ref h),some (.ref a),some (.ref pa),some (.ref pr),some (.ref pw),some (.int i),o6,o7,o8]):=⟨_,fun _ _ _=>Iff.rfl⟩
  refine whileW Pv ⟨41,(hPv _ _ _).mpr ⟨0,[[]],none,none,none,hI0,fun j hj=>absurd hj (Nat.not_lt_zero _),by simp,rfl,rfl⟩⟩ (fun m σ3 H3 h3=>?_)
  obtain⟨i,acc,o6,o7,o8,hI,hC,hi,rfl,rfl⟩:=(hPv _ _ _).mp h3
  obtain⟨ys,zs,s3,hya,hyW,hrr,hzw,hzW,hA⟩:=(hIn _ _).mp hI
  have hlen:=hA.len wf
  walk_at "rd"
  refine⟨_,.inl (SqL.of hya),?_⟩
  rw[hyW.1]
  refine ite2 (fun hlt=>?_) (fun hge=>?_)
  ·have hlt:i<acc.length:=by omega
   obtain⟨N,hN⟩:∃N:St->Hp->Prop,∀σ' H',N σ' H'↔Pv (41-(i+1)) σ' H':=⟨_,fun _ _=>Iff.rfl⟩
   refine⟨N,fun σ' H' h'=>⟨41-(i+1),by omega,(hN _ _).mp h'⟩,?_⟩
   obtain⟨v,hv⟩:∃v,acc[i]?=some v:=⟨acc[i],by simp[hlt]⟩
   have hvw:=hA.ws i v hv
   have hwk:=walkR_in wf v hvw.2 (show (0:Int)<=0 by omega) (by omega)
   rw[walkR_zero]at hwk
   refine⟨_,s3.seqT q1,_,rfl,_,rfl,by omega,by omega,?_⟩
   rw[Int.toNat_natCast]
   obtain⟨Pw,hPw⟩:∃Pv:Nat->St->Hp->Prop,∀x σ' H',Pv x σ' H'↔(∃(acc:List (List Int)) (o6 o7 o8:Option V),In H' acc/\acc[i]?=some v/\(∀j,j<i->∀u,acc[j]?=some u->∀x:Nat,x<L->rE (u++[(x:Int)])∈acc.map rE)/\(∀y:Nat,y<x->rE (v++[(y:Int)])∈acc.map rE)/\σ'=[some (.ref h),some (.ref a),some (.ref pa),some (.ref pr),some (.ref pw),some (.int i),o6,o7,o8]):=⟨_,fun _ _ _=>Iff.rfl⟩
   refine forR Pw ((hPw _ _ _).mpr ⟨acc,_,_,_,hI,hv,hC,fun y hy=>absurd hy (Nat.not_lt_zero _),rfl⟩) (fun x σ4 H4 hx h4=>?_) (fun σ4 H4 h4=>?_)
   ·clear hI hC ys zs s3 hya hyW hrr hzw hzW hA hlen hlt hi hv
    obtain⟨acc,o6,o7,o8,hI,hv,hC,hX,rfl⟩:=(hPw _ _ _).mp h4
    obtain⟨ys,zs,s3,hya,hyW,hrr,hzw,hzW,hA⟩:=(hIn _ _).mp hI
    have hlen:=hA.len wf
    have hlt:=(List.getElem?_eq_some_iff.mp hv).1
    rw[Int.zero_add]
    obtain⟨row,g,a1,a2,a3,a4,a5⟩:=wf.step (r:=walkW ways v) (x:=(x:Int)) hwk.1 hwk.2 (by omega) (by omega)
    obtain⟨ws1,t1,z1,z2,z3⟩:=q3.atZ hwk.1 a1
    obtain⟨tv,f1,f2⟩:=hyW.2 i v hv
    have hgr:rowE marks ways ends g=rE (v++[(x:Int)]):=by rw[hrE];show _=rowE _ _ _ _;rw[walkW_snoc,a3]
    walk_at "rd"
    refine⟨_,s3.seqT q1,_,rfl,_,SqL.of hrr,_,atI_nat (by rw[List.getElem?_map,List.getElem?_map,hv];rfl),?_⟩
    walk_at "rd"
    refine⟨_,s3.seqT z1,_,z2,t1,rfl,_,s3.seqT z3,_,atI_int (by omega) a2,h,a,L,g,marks,ways,xs,ends,rfl,hh.mono s3,wf,a4,a5,s3.seq ha,hE.mono (TK.of s3),hel,hew,fun l5 H5 s5 hl5 hl5'=>?_⟩
    rw[hgr]at hl5'
    refine⟨l5,rfl,zs,SqL.of (s5 _ _ hzw),rE (v++[(x:Int)]),acc.map rE,(hzW.mono s5).toL,SqL.of hl5',?_⟩
    have mapS:∀u,(acc++[u]).map rE=acc.map rE++[rE u]:=fun u=>by rw[List.map_append];rfl
    have hXn:∀acc':List (List Int),(∀r∈acc.map rE,r∈acc'.map rE)->rE (v++[(x:Int)])∈acc'.map rE->∀y:Nat,y<x+1->rE (v++[(y:Int)])∈acc'.map rE:=fun acc' hs hm y hy=>by
     by_cases hyx:y<x
     ·exact hs _ (hX y hyx)
     ·have:y=x:=by omega
      subst this
      exact hm
    refine ite2 (fun hn=>?_) (fun hm=>?_)
    ·have hn':rE (v++[(x:Int)])∉acc.map rE:=by simpa using hn
     refine⟨.inl ⟨rfl,_,SqL.of (s5 _ _ hya)⟩,_,SqL.of (s5 _ _ hya),_,atI_nat f1,by omega,fun p hp=>?_⟩
     have sp:=s5.newT hp (o:=.tup [V.int x])
     refine rCatT2.ofS (sp _ _ f2) upd_same (by simp;omega) fun q H6 s6 hq=>?_
     have s46:=sp.trans s6
     have hq':H6 q=some (.tup ((v++[(x:Int)]).map V.int)):=by rw[List.map_append];exact hq
     have hya6:=s46 _ _ hya
     have hrr6:upd H6 pa (.lst (ys++[V.ref q])) pr=some (.lst ((acc.map (walkW ways)).map V.int)):=by rw[upd_ne hpap];exact s46 _ _ hrr
     have hzw6:upd (upd H6 pa (.lst (ys++[V.ref q]))) pr (.lst ((acc.map (walkW ways)).map V.int++[V.int g])) pw=some (.lst zs):=by rw[upd_ne hwr,upd_ne hwa];exact s46 _ _ hzw
     have hl5n:l5 ∉ [pa,pr,pw]:=fun z=>by
      simp only[List.mem_cons,List.not_mem_nil,or_false]at z
      rcases z with z|z|z
      ·rw[z,hya]at hl5;cases hl5
      ·rw[z,hrr]at hl5;cases hl5
      ·rw[z,hzw]at hl5;cases hl5
     refine⟨ys,hya6,by rw[hyW.1];omega,.inl ⟨rfl,_,SqL.of hrr6⟩,_,hrr6,by rw[List.length_map,List.length_map];omega,.inl ⟨rfl,_,SqL.of hzw6⟩,zs,hzw6,by rw[hzW.1,List.length_map];omega,(hPw _ _ _).mpr ⟨acc++[v++[(x:Int)]],_,_,_,(hIn _ _).mpr ⟨ys++[V.ref q],zs++[V.ref l5],(((s3.trans s46).over hpaH).over hprH).over hpwH,?_,?_,?_,upd_same,?_,?_⟩,?_,fun j hj u hu y hy=>?_,?_,rfl⟩⟩
     ·rw[upd_ne (Ne.symm hwa),upd_ne (Ne.symm hpap),upd_same]
     ·exact ((((hyW.mono (TK.of s46)).snoc hq').mono (TK.lst hya6)).mono (TK.lst hrr6)).mono (TK.lst hzw6)
     ·rw[upd_ne (Ne.symm hwr),upd_same,List.map_append,List.map_append]
      show _=some (HO.lst (_++[V.int (walkW ways (v++[(x:Int)]))]))
      rw[walkW_snoc,a3]
     ·rw[mapS]
      exact ((((hzW.mono s46).snoc (((Same.new hp).trans s6) _ _ hl5') hl5n).off (by simp) _).off (by simp) _).off (by simp) _
     ·refine hA.snoc hv hx ?_
      rw[hrE]at hn'
      exact hn'
     ·rw[List.getElem?_append_left hlt];exact hv
     ·rw[List.getElem?_append_left (by omega)]at hu
      rw[mapS]
      exact List.mem_append_left _ (hC j hj u hu y hy)
     ·exact hXn _ (fun r hr=>by rw[mapS];exact List.mem_append_left _ hr) (by rw[mapS];simp)
    ·have hm':rE (v++[(x:Int)])∈acc.map rE:=by simpa using hm
     exact (hPw _ _ _).mpr ⟨acc,_,_,_,(hIn _ _).mpr ⟨ys,zs,s3.trans s5,s5 _ _ hya,hyW.mono (TK.of s5),s5 _ _ hrr,s5 _ _ hzw,hzW.mono s5,hA⟩,hv,hC,hXn acc (fun r hr=>hr) hm',rfl⟩
   ·obtain⟨acc,o6,o7,o8,hI,hv,hC,hX,rfl⟩:=(hPw _ _ _).mp h4
    obtain⟨ys,zs,s3,hya,hyW,hrr,hzw,hzW,hA⟩:=(hIn _ _).mp hI
    have hlt:=(List.getElem?_eq_some_iff.mp hv).1
    walk_at "rd"
    refine (hN _ _).mpr ((hPv _ _ _).mpr ⟨i+1,acc,_,_,_,hI,fun j hj u hu x hx=>?_,hlt,rfl,rfl⟩)
    by_cases hji:j<i
    ·exact hC j hji u hu x hx
    ·have:j=i:=by omega
     subst this
     rw[hv]at hu
     cases hu
     exact hX x hx
  ·have:i=acc.length:=by omega
   subst this
   refine k pa ys acc _ s3 hpaH hya hyW hA fun u hu x hx=>?_
   obtain⟨j,hj⟩:=List.mem_iff_getElem?.mp hu
   have:=hC j (List.getElem?_eq_some_iff.mp hj).1 u hj x hx
   rw[hrE]at this
   exact this
def putsE (L:Nat)(u:List Int)(e:List Int):List (List Int):=(u++e)::(List.range L).map fun x:Nat=>u++[(x:Int)]++e
def putsU (L:Nat)(ends:List (List Int))(u:List Int):List (List Int):=ends.flatMap (putsE L u)
theorem putsE_len (L:Nat)(u e:List Int):(putsE L u e).length=L+1:=by unfold putsE;rw[List.length_cons,List.length_map,List.length_range]
theorem flat_len {α β:Type}(f:α->List β)(n:Nat):∀(l:List α),(∀x∈l,(f x).length<=n)->(l.flatMap f).length<=l.length*n
 |[],_=>by simp
 |x::l,h=>by
  rw[List.flatMap_cons,List.length_append,List.length_cons,Nat.succ_mul]
  have h1:=h x List.mem_cons_self
  have h2:=flat_len f n l fun y hy=>h y (List.mem_cons_of_mem _ hy)
  omega
theorem prs_snoc {H:Hp}{ts:List Addr}{ps:List (List Key×V)}(h:PrsAt H ts ps){q b:Addr}{kk:List Key}{v:V}(hq:Rd H q (.tup [.ref b,v]))(hb:H b=some (.tup (kk.map kV))):PrsAt H (ts++[q]) (ps++[(kk,v)]):=by
 refine⟨by rw[List.length_append,List.length_append,h.1];rfl,fun j p r hj hr=>?_⟩
 by_cases hi:j<ps.length
 ·rw[List.getElem?_append_left hi]at hj
  rw[List.getElem?_append_left (by rw[h.1];exact hi)]at hr
  exact h.2 j p r hj hr
 ·rw[List.getElem?_append_right (by omega)]at hj
  rw[List.getElem?_append_right (by rw[h.1];omega),h.1]at hr
  have h0:j-ps.length=0:=by
   have:=(List.getElem?_eq_some_iff.mp hj).1
   simpa using this
  rw[h0]at hj hr
  simp at hj hr
  subst hj hr
  exact⟨b,hq,hb⟩
theorem prs_rot {H:Hp}{ts:List Addr}{ps:List (List Key×V)}(h:PrsAt H ts ps)(n:Nat):PrsAt H (ts.drop n++ts.take n) (ps.drop n++ps.take n):=by
 refine⟨by simp[h.1],fun j p r hj hr=>?_⟩
 have hl:(ts.drop n).length=(ps.drop n).length:=by rw[List.length_drop,List.length_drop,h.1]
 by_cases hi:j<(ps.drop n).length
 ·rw[List.getElem?_append_left hi,List.getElem?_drop]at hj
  rw[List.getElem?_append_left (by omega),List.getElem?_drop]at hr
  exact h.2 _ p r hj hr
 ·rw[List.getElem?_append_right (by omega),List.getElem?_take]at hj
  rw[List.getElem?_append_right (by omega),hl,List.getElem?_take]at hr
  split at hj
  ·rename_i hh
   rw[if_pos hh]at hr
   exact h.2 _ p r hj hr
  ·cases hj
theorem rot_mem {α:Type}{l:List α}{n:Nat}{x:α}:x∈l.drop n++l.take n↔x∈l:=by
 conv=>rhs;rw[<-List.take_append_drop n l]
 rw[List.mem_append,List.mem_append,or_comm]
theorem rot_nodup {α:Type}{l:List α}{n:Nat}(h:l.Nodup):(l.drop n++l.take n).Nodup:=by
 rw[<-List.take_append_drop n l,List.nodup_append]at h
 rw[List.nodup_append]
 exact⟨h.2.1,h.1,fun a ha b hb z=>h.2.2 b hb a ha z.symm⟩
theorem cutV_drop50 (xs:List V)(m:Nat):cutV xs (some (m:Int)) none=xs.drop m:=by
 unfold cutV
 rw[HT.sIx_nat,HT.sIx_none]
 rcases Nat.le_total m xs.length with h|h
 ·rw[Nat.min_eq_left h]
  exact List.take_of_length_le (by rw[List.length_drop];exact Nat.le_refl _)
 ·rw[Nat.min_eq_right h,List.drop_eq_nil_of_le h,List.drop_eq_nil_of_le (Nat.le_refl _),List.take_nil]
def toldL (L:Nat)(lw:List Int)(ends acc:List (List Int)):List (List Int):=lw::acc.flatMap (putsU L ends)
theorem told_has {L:Nat}{lw:List Int}{ends acc:List (List Int)}{u e:List Int}(hu:u∈rowsW L acc)(he:e∈ends):u++e∈toldL L lw ends acc:=by
 refine List.mem_cons_of_mem _ (List.mem_flatMap.mpr ?_)
 unfold rowsW at hu
 rcases mem_insAllW.mp hu with hu|hu
 ·have hu:u∈acc:=by
   rcases mem_insAllW.mp hu with hu|hu
   ·cases hu
   ·exact hu
  exact⟨u,hu,show _∈ends.flatMap (putsE L u) from List.mem_flatMap.mpr ⟨e,he,List.mem_cons.mpr (.inl rfl)⟩⟩
 ·obtain⟨v,hv,hx⟩:=List.mem_flatMap.mp hu
  unfold extW at hx
  obtain⟨x,hx',rfl⟩:=List.mem_map.mp hx
  exact⟨v,hv,show _∈ends.flatMap (putsE L v) from List.mem_flatMap.mpr ⟨e,he,List.mem_cons.mpr (.inr (List.mem_map.mpr ⟨x,hx',rfl⟩))⟩⟩
theorem isW_app {L:Int}{u v:List Int}(hu:isW L u=true)(hv:isW L v=true):isW L (u++v)=true:=isW_iff.mpr fun y hy=>by
 rcases List.mem_append.mp hy with hy|hy
 ·exact isW_iff.mp hu y hy
 ·exact isW_iff.mp hv y hy
theorem told_good {L:Nat}{lw:List Int}{ends acc:List (List Int)}(hl:isW L lw=true/\lw.length<=500)(ha:∀u∈acc,isW L u=true/\u.length<=50)(he:∀e∈ends,isW L e=true/\e.length<=50){v:List Int}(hv:v∈toldL L lw ends acc):v.length<=500/\isW L v=true:=by
 rcases List.mem_cons.mp hv with rfl|hv
 ·exact⟨hl.2,hl.1⟩
 ·obtain⟨u,hu,hv⟩:=List.mem_flatMap.mp hv
  obtain⟨e,he',hv⟩:=List.mem_flatMap.mp hv
  obtain⟨u1,u2⟩:=ha u hu
  obtain⟨e1,e2⟩:=he e he'
  rcases List.mem_cons.mp hv with rfl|hv
  ·exact⟨by rw[List.length_append];omega,isW_app u1 e1⟩
  ·obtain⟨x,hx,rfl⟩:=List.mem_map.mp hv
   refine⟨by rw[List.length_append,List.length_append];simp;omega,isW_app (isW_snoc.mpr ⟨u1,by omega,by have:=List.mem_range.mp hx;omega⟩) e1⟩
def sp_note50 (K:PySem.W.Frag):Sp:=fun vs H Q _=>∃(h t:Addr) (L:Nat) (marks:List Int) (ways:List (List Int)) (lw:List Int) (c:Int),vs=[.ref h,.ref t,.int c]/\House K H h L marks ways/\Wf L marks ways/\marks.length<=5/\H t=some (.tup (lw.map V.int))/\isW L lw=true/\lw.length<=400/\0<=c/\∀a xs ys acc ends es H',Same H H'->Ppr K H' a L xs ys acc ends es->G50 L acc ends es (ansW marks ways)->Acs L marks ways ends acc->Stb L marks.length marks ways ends->(∀p∈es,p.2=ansW marks ways p.1)->Q (.ref a) H'
theorem ok__law_note_of {f:Addr}{fd:FuncData}(F:Fun K "_law_note_of" "_law_note_of" s__law_note_of f fd)(T:Txt mg)
  (Z:Exs K mg C_AskError C_NoPaper C_NoText)
  {f__law_answer:Addr} {fd__law_answer:FuncData} (q__law_answer:Cal P w K mg base CX0 1 "_law_answer" s__law_answer ["house","word"] (sp_ans50 K) f__law_answer fd__law_answer)
  {f__law_ends_of:Addr} {fd__law_ends_of:FuncData} (q__law_ends_of:Cal P w K mg base CX0 3 "_law_ends_of" s__law_ends_of ["house"] (sp_ends50 K) f__law_ends_of fd__law_ends_of)
  {f__law_access_of:Addr} {fd__law_access_of:FuncData} (q__law_access_of:Cal P w K mg base CX0 2 "_law_access_of" s__law_access_of ["house","ends"] (sp_acc50 K) f__law_access_of fd__law_access_of)
  : FnOk P w K mg base CX0 4 f fd ["house","long_word","turns"] (sp_note50 K):=by
 refine F.ok sc__law_note_of (fun vs H Q E h=>?_) (fun cdv A outer s H vs Q E hr h=>?_)
 ·obtain⟨h,t,L,marks,ways,lw,c,rfl,_⟩:=h;rfl
 ·obtain⟨h,t,L,marks,ways,lw,c,rfl,hh,wf,hn5,ht,hlw,hlwl,hc,k⟩:=h
  have hl:=line1000
  have hn1:=wf.n1
  have hL6:=wf.l6
  have hL1:=wf.l1
  refine⟨_,(pss_cons (ps_setL (i:=3) sc__law_note_of.nd (pe_callQ q__law_ends_of hr.d pass0 (pa_cons (pvD 0) pa_nil)))
   (pss_cons (ps_setL (i:=4) sc__law_note_of.nd (pe_callQ q__law_access_of hr.d pass0 (pa_cons (pvD 0) (pa_cons (pvD 3) pa_nil))))
   (pss_cons (ps_set (i:=5) sc__law_note_of.nd rfl (Or.inl rfl) pe_dnewT)
   (pss_cons (ps_dput (hu_of hr) (pvD 5) (pvD 1) (pe_callQ q__law_answer hr.d pass0 (pa_cons (pvD 0) (pa_cons (pvD 1) pa_nil))) rfl)
   (pss_cons (ps_for PassesOwn.never rfl (pi_list (pvD 4)) (pg_name (i:=6) sc__law_note_of.nd rfl (Or.inl rfl))
   (pss_one (ps_for PassesOwn.never rfl (pi_list (pvD 3)) (pg_name (i:=7) sc__law_note_of.nd rfl (Or.inl rfl))
   (pss_cons (ps_dput (hu_of hr) (pvD 5) (pe_op op_catT2 (pvD 6) (pvD 7)) (pe_callQ q__law_answer hr.d pass0 (pa_cons (pvD 0) (pa_cons (pe_op op_catT2 (pvD 6) (pvD 7)) pa_nil))) rfl)
   (pss_one (ps_for PassesOwn.never rfl (pi_range1 rfl T.range (pa_cons (pe_ixA (ixTD ix_tup) (pvD 0) pe_int) pa_nil)) (pg_name (i:=8) sc__law_note_of.nd rfl (Or.inl rfl))
   (pss_cons (ps_setL (i:=9) sc__law_note_of.nd (pe_op op_catT2 (pe_op op_catT2 (pvD 6) (pe_tup (pa_cons (pvD 8) pa_nil))) (pvD 7)))
   (pss_one (ps_dput (hu_of hr) (pvD 5) (pvD 9) (pe_callQ q__law_answer hr.d pass0 (pa_cons (pvD 0) (pa_cons (pvD 9) pa_nil))) rfl)))))))))
   (pss_cons (ps_setC (i:=10) sc__law_note_of.nd rfl rfl rfl (blk_mk rfl) (cp:=c__law_note_of_0) True.intro (pi_itemsT (pvD 5)) (fun _ _ _ _=>(pg_tupK (K:=K) (n:=2) rfl rfl (pgs_cons (pg_name (i:=0) nd_c__law_note_of_0 rfl (Or.inl rfl)) (pgs_cons (pg_name (i:=1) nd_c__law_note_of_0 rfl (Or.inl rfl)) pgs_nil)))) (fun _ _ _ _=>pf_nil) (fun _ _ _ _=>(pe_tup (pa_cons (pvD 0) (pa_cons (pvD 1) pa_nil)))))
   (pss_cons (ps_setL (i:=11) sc__law_note_of.nd (pe_op (opD op_mod) (pvD 2) (pe_callB (lenD call_len_seq) (by rfl) T.len PySem.boot_len (pa_cons (pvD 10) pa_nil))))
   (pss_one (ps_ret (pe_tup (pa_cons (pe_ixA (ixTD ix_tup) (pvD 0) pe_int) (pa_cons (pe_callTy call_tuple_F rfl T.tuple PyProof.Rows.boot_tuple (pa_cons (pvD 4) pa_nil)) (pa_cons (pe_callTy call_tuple_F rfl T.tuple PyProof.Rows.boot_tuple (pa_cons (pvD 3) pa_nil)) (pa_cons (pe_callTy call_tuple_F rfl T.tuple PyProof.Rows.boot_tuple (pa_cons (pe_op op_cat (pe_slice sl_list (pvD 10) (po_some (pvD 11)) po_none) (pe_slice sl_list (pvD 10) po_none (po_some (pvD 11)))) pa_nil)) pa_nil)))))))))))))),?_⟩
  obtain⟨tm,tw,q1,q2,q3⟩:=id hh
  walk_at "rd"
  refine⟨h,L,marks,ways,rfl,hh,wf,fun pe xs ends H1 s1 hpe hpe' hE e0 hel hew hS=>?_⟩
  refine⟨h,pe,L,marks,ways,xs,ends,rfl,hh.mono s1,wf,SqL.of hpe',hE,by omega,fun e he=>(hew e he).1,fun pa ys acc H2 s2 hpa hpa' hA hAc hcl=>?_⟩
  have s12:=s1.trans s2
  have hal:acc.length<=5:=Nat.le_trans (hAc.len wf) hn5
  have hwa:∀u∈acc,isW L u=true/\u.length<=50:=fun u hu=>by
   obtain⟨i,hi⟩:=List.mem_iff_getElem?.mp hu
   have:=(List.getElem?_eq_some_iff.mp hi).1
   have:=hAc.ws i u hi
   exact⟨this.2,by omega⟩
  have hwe:∀e∈ends,isW L e=true/\e.length<=50:=fun e he=>⟨(hew e he).1,by have:=(hew e he).2;omega⟩
  obtain⟨ans,hans⟩:∃ans,ans=ansW marks ways:=⟨_,rfl⟩
  have T0:TlA ans []:=⟨List.Pairwise.nil,fun p hp=>by cases hp⟩
  have TL:∀l,TlA ans (foldA ans l []):=fun l=>foldA_tl l T0
  have hlen:∀l,(ents (foldA ans l [])).length<=l.length:=fun l=>by
   have:=foldA_len (ans:=ans) l []
   unfold ents
   rw[List.length_map]
   simpa using this
  have hputs:∀l u,putK (ents (foldA ans l [])) (wkey u) (.int (ans u))=ents (foldA ans (l++[u]) []):=fun l u=>by rw[(TL l).put,foldA_snoc]
  have hUl:∀u,(putsU L ends u).length<=42:=fun u=>by
   have:=flat_len (putsE L u) 7 ends fun e _=>by rw[putsE_len];omega
   have:ends.length*7<=6*7:=Nat.mul_le_mul_right _ (by omega)
   unfold putsU
   omega
  have hAl:∀n,((acc.take n).flatMap (putsU L ends)).length<=210:=fun n=>by
   have:=flat_len (putsU L ends) 42 (acc.take n) fun u _=>hUl u
   have:(acc.take n).length*42<=5*42:=Nat.mul_le_mul_right _ (by rw[List.length_take];omega)
   omega
  have hEl:∀u n,((ends.take n).flatMap (putsE L u)).length<=42:=fun u n=>by
   have:=flat_len (putsE L u) 7 (ends.take n) fun e _=>by rw[putsE_len];omega
   have:(ends.take n).length*7<=6*7:=Nat.mul_le_mul_right _ (by rw[List.length_take];omega)
   omega
  intro p hp
  have sp:=s12.newT hp (o:=.dT [])
  have spe:=Same.new hp (o:=.dT [])
  have hpH:H p=none:=s12.none hp
  refine⟨h,t,L,marks,ways,lw,rfl,hh.mono sp,wf,SqT.of (sp _ _ ht),hlw,_,DPut.t (k:=wkey lw) upd_same (by rw[wkey_kV];exact sp _ _ ht) (by simp;omega),pa,rfl,⟨_,SqL.of (by rw[upd_ne (fun z=>by rw[z,hp]at hpa';cases hpa')];exact spe _ _ hpa')⟩,?_⟩
  have e0':putK [] (wkey lw) (.int (ansW marks ways lw))=ents (foldA ans [lw] []):=by rw[<-hans];exact hputs [] lw
  rw[e0']
  obtain⟨In,hIn⟩:∃In:Hp->List (List Int)->Prop,∀H' l,In H' l↔(Same H2 H'/\H' p=some (.dT (ents (foldA ans l [])))):=⟨_,fun _ _=>Iff.rfl⟩
  have hI0:In (upd (upd H2 p (.dT [])) p (.dT (ents (foldA ans [lw] [])))) (lw::(acc.take 0).flatMap (putsU L ends)):=(hIn _ _).mpr ⟨spe.over hp,upd_same⟩
  obtain⟨Pv,hPv⟩:∃Pv:Nat->St->Hp->Prop,∀i σ' H',Pv i σ' H'↔(∃(o6 o7 o8 o9:Option V),In H' (lw::(acc.take i).flatMap (putsU L ends))/\σ'=[some (.ref h),some (.ref t),some (.int c),some (.ref pe),some (.ref pa),some (.ref p),o6,o7,o8,o9,none,none]):=⟨_,fun _ _ _=>Iff.rfl⟩
  have hpe2:H2 pe=some (.lst xs):=s2 _ _ hpe'
  have hE2:WordsT K H2 xs ends:=hE.mono (TK.of s2)
  refine forL (xs:=ys) Pv ((hPv _ _ _).mpr ⟨none,none,none,none,hI0,rfl⟩) (fun i σ' H' _ h'=>by obtain⟨_,_,_,_,hI,_⟩:=(hPv _ _ _).mp h';exact SqL.of (((hIn _ _).mp hI).1 _ _ hpa')) (fun i x σ3 H3 hx h3=>?_) (fun σ3 H3 h3=>?_)
  ·obtain⟨o6,o7,o8,o9,hI,rfl⟩:=(hPv _ _ _).mp h3
   obtain⟨s3,hp3⟩:=(hIn _ _).mp hI
   obtain⟨tu,u,hu,rfl,htu⟩:=hA.at hx
   have hum:=List.mem_of_getElem? hu
   obtain⟨u1,u2⟩:=hwa u hum
   have eu:acc.take (i+1)=acc.take i++[u]:=by rw[List.take_add_one,hu];rfl
   obtain⟨l0,hl0⟩:∃l0,l0=lw::(acc.take i).flatMap (putsU L ends):=⟨_,rfl⟩
   have hl0l:l0.length<=211:=by rw[hl0,List.length_cons];have:=hAl i;omega
   rw[<-hl0]at hI hp3
   walk_at "rd"
   refine⟨⟨_,SqL.of (s3 _ _ hpe2)⟩,?_⟩
   obtain⟨Pw,hPw⟩:∃Pv:Nat->St->Hp->Prop,∀j σ' H',Pv j σ' H'↔(∃(o7 o8 o9:Option V),In H' (l0++(ends.take j).flatMap (putsE L u))/\σ'=[some (.ref h),some (.ref t),some (.int c),some (.ref pe),some (.ref pa),some (.ref p),some (.ref tu),o7,o8,o9,none,none]):=⟨_,fun _ _ _=>Iff.rfl⟩
   refine forL (xs:=xs) Pw ((hPw _ _ _).mpr ⟨_,_,_,by rw[List.take_zero,List.flatMap_nil,List.append_nil];exact hI,rfl⟩) (fun j σ' H' _ h'=>by obtain⟨_,_,_,hI,_⟩:=(hPw _ _ _).mp h';exact SqL.of (((hIn _ _).mp hI).1 _ _ hpe2)) (fun j x σ4 H4 hx4 h4=>?_) (fun σ4 H4 h4=>?_)
   ·obtain⟨o7,o8,o9,hI4,rfl⟩:=(hPw _ _ _).mp h4
    obtain⟨s4,hp4⟩:=(hIn _ _).mp hI4
    obtain⟨te,e,he,rfl,hte⟩:=hE2.at hx4
    obtain⟨e1,e2⟩:=hwe e (List.mem_of_getElem? he)
    have ee:ends.take (j+1)=ends.take j++[e]:=by rw[List.take_add_one,he];rfl
    obtain⟨l1,hl1⟩:∃l1,l1=l0++(ends.take j).flatMap (putsE L u):=⟨_,rfl⟩
    have hl1l:l1.length<=253:=by rw[hl1,List.length_append];have:=hEl u j;omega
    rw[<-hl1]at hI4 hp4
    have s24:=s12.trans s4
    walk_at "rd"
    refine rCatT2.ofS (s4 _ _ htu) (s4 _ _ hte) (by simp;omega) fun r1 H5 s5 hr1=>?_
    have hr1':H5 r1=some (.tup ((u++e).map V.int)):=by rw[List.map_append];exact hr1
    have hue:isW L (u++e)=true:=isW_app u1 e1
    refine⟨h,r1,L,marks,ways,u++e,rfl,hh.mono (s24.trans s5),wf,SqT.of hr1',hue,?_⟩
    show rCatT2 K (V.ref tu) (V.ref te) H5 _
    refine rCatT2.ofS ((s4.trans s5) _ _ htu) ((s4.trans s5) _ _ hte) (by simp;omega) fun r2 H6 s6 hr2=>?_
    have hr2':H6 r2=some (.tup ((u++e).map V.int)):=by rw[List.map_append];exact hr2
    have s46:=s5.trans s6
    have hp6:=s46 _ _ hp4
    refine⟨_,DPut.t (k:=wkey (u++e)) hp6 (by rw[wkey_kV];exact hr2') (by have:=hlen l1;omega),?_⟩
    rw[<-hans,hputs l1]
    have s2p:Same H2 (upd H6 p (.dT (ents (foldA ans (l1++[u++e]) [])))):=(s4.trans s46).over hp
    have hIp:In (upd H6 p (.dT (ents (foldA ans (l1++[u++e]) [])))) (l1++(u++e)::(List.range 0).map fun x:Nat=>u++[(x:Int)]++e):=(hIn _ _).mpr ⟨s2p,upd_same⟩
    generalize upd H6 p (.dT (ents (foldA ans (l1++[u++e]) [])))=H7 at s2p hIp
    refine⟨_,(s12.trans s2p).seqT q1,_,rfl,_,rfl,by omega,by omega,?_⟩
    rw[Int.toNat_natCast]
    obtain⟨Pe,hPe⟩:∃Pv:Nat->St->Hp->Prop,∀j σ' H',Pv j σ' H'↔(∃(o8 o9:Option V),In H' (l1++(u++e)::(List.range j).map fun x:Nat=>u++[(x:Int)]++e)/\σ'=[some (.ref h),some (.ref t),some (.int c),some (.ref pe),some (.ref pa),some (.ref p),some (.ref tu),some (.ref te),o8,o9,none,none]):=⟨_,fun _ _ _=>Iff.rfl⟩
    refine forR Pe ((hPe _ _ _).mpr ⟨_,_,hIp,rfl⟩) (fun x σ8 H8 hx8 h8=>?_) (fun σ8 H8 h8=>?_)
    ·obtain⟨o8,o9,hI8,rfl⟩:=(hPe _ _ _).mp h8
     obtain⟨s8,hp8⟩:=(hIn _ _).mp hI8
     rw[Int.zero_add]
     obtain⟨l2,hl2⟩:∃l2,l2=l1++(u++e)::(List.range x).map fun x:Nat=>u++[(x:Int)]++e:=⟨_,rfl⟩
     have hl2l:l2.length<=300:=by rw[hl2,List.length_append,List.length_cons,List.length_map,List.length_range];omega
     rw[<-hl2]at hp8
     walk_at "rd"
     refine⟨by omega,fun r3 hr3=>?_⟩
     have sr3:=Same.new hr3 (o:=.tup [V.int x])
     refine rCatT2.ofS ((s8.trans sr3) _ _ htu) upd_same (by simp;omega) fun r4 H9 s9 hr4=>rCatT2.ofS hr4 (((s8.trans sr3).trans s9) _ _ hte) (by simp;omega) fun r5 H10 s10 hr5=>?_
     have hr5':H10 r5=some (.tup ((u++[(x:Int)]++e).map V.int)):=by rw[List.map_append,List.map_append];exact hr5
     have s810:=(sr3.trans s9).trans s10
     have hux:isW L (u++[(x:Int)]++e)=true:=isW_app (isW_snoc.mpr ⟨u1,by omega,by omega⟩) e1
     refine⟨h,r5,L,marks,ways,u++[(x:Int)]++e,rfl,hh.mono ((s12.trans s8).trans s810),wf,SqT.of hr5',hux,_,DPut.t (k:=wkey (u++[(x:Int)]++e)) (s810 _ _ hp8) (by rw[wkey_kV];exact hr5') (by have:=hlen l2;omega),(hPe _ _ _).mpr ⟨_,_,?_,rfl⟩⟩
     rw[<-hans,hputs l2]
     have e9:l1++(u++e)::(List.range (x+1)).map (fun x:Nat=>u++[(x:Int)]++e)=l2++[u++[(x:Int)]++e]:=by rw[hl2,List.range_succ,List.map_append,<-List.cons_append,<-List.append_assoc];rfl
     rw[e9]
     exact (hIn _ _).mpr ⟨(s8.trans s810).over hp,upd_same⟩
    ·obtain⟨o8,o9,hI8,rfl⟩:=(hPe _ _ _).mp h8
     refine (hPw _ _ _).mpr ⟨_,_,_,?_,rfl⟩
     rw[ee,List.flatMap_append,List.flatMap_singleton,<-List.append_assoc,<-hl1]
     exact hI8
   ·obtain⟨o7,o8,o9,hI4,rfl⟩:=(hPw _ _ _).mp h4
    rw[hE.1,List.take_length]at hI4
    refine (hPv _ _ _).mpr ⟨_,_,_,_,?_,rfl⟩
    rw[eu,List.flatMap_append,List.flatMap_singleton,<-List.cons_append,<-hl0]
    exact hI4
  ·obtain⟨o6,o7,o8,o9,hI,rfl⟩:=(hPv _ _ _).mp h3
   rw[hA.1,List.take_length]at hI
   obtain⟨s3,hp3⟩:=(hIn _ _).mp hI
   obtain⟨es,hes⟩:∃es,es=foldA ans (toldL L lw ends acc) []:=⟨_,rfl⟩
   have hp3':H3 p=some (.dT (ents es)):=by rw[hes];exact hp3
   have hesT:TlA ans es:=by rw[hes];exact TL _
   have hesk:∀v,v∈es.map (·.1)↔v∈toldL L lw ends acc:=fun v=>by rw[hes,foldA_keys];simp
   have hesl:es.length<=300:=by
    have:=foldA_len (ans:=ans) (toldL L lw ends acc) []
    rw[hes]
    unfold toldL at this ⊢
    have h2:=hAl acc.length
    rw[List.take_length]at h2
    rw[List.length_cons,List.length_nil]at this
    omega
   have hes0:0<es.length:=by
    have:lw∈es.map (·.1):=(hesk lw).mpr List.mem_cons_self
    have:=List.length_pos_of_mem this
    rw[List.length_map]at this
    exact this
   clear hI hp3
   walk_at "rd"
   refine⟨ents es,hp3',fun od=>?_⟩
   have hentl:(ents es).length=es.length:=by unfold ents;rw[List.length_map]
   obtain⟨Hf,hHf⟩:∃Hf,Hf=upd H3 p (.frz od (.dT (ents es))):=⟨_,rfl⟩
   have sf:Same H2 Hf:=by rw[hHf];exact s3.over hp
   have hfp:Hf p=some (.frz od (.dT (ents es))):=by rw[hHf];exact upd_same
   rw[<-hHf]
   obtain⟨Pc,hPc⟩:∃Pc:Nat->List V->St->Hp->Prop,∀i us σ' H',Pc i us σ' H'↔(Same Hf H'/\∃(ts:List Addr) (o o':Option V),us=ts.map V.ref/\PrsAt H' ts ((ents es).take i)/\σ'=[o,o']):=⟨_,fun _ _ _ _=>Iff.rfl⟩
   refine compIT Pc ((hPc _ _ _ _).mpr ⟨Same.refl _,[],none,none,rfl,⟨rfl,fun j q r hj=>by simp at hj⟩,rfl⟩) (by rw[hentl];omega) (fun i us σ' H' hi h'=>?_) (fun i kk v t1 b us σ' H' hk h' ht1 hb=>?_) (fun us σ' H' h' D hD=>?_)
   ·obtain⟨s',ts,o,o',rfl,hP,rfl⟩:=(hPc _ _ _ _).mp h'
    exact⟨s' _ _ hfp,by rw[List.length_map,hP.1,List.length_take];omega⟩
   ·obtain⟨s',ts,o,o',rfl,hP,rfl⟩:=(hPc _ _ _ _).mp h'
    have et:(ents es).take (i+1)=(ents es).take i++[(kk,v)]:=by rw[List.take_add_one,hk];rfl
    walk_at "rd"
    refine⟨_,SqT.of upd_same,rfl,_,_,rfl,_,_,rfl,rfl,by omega,fun r hr=>(hPc _ _ _ _).mpr ⟨(s'.newT ht1).newT hr,ts++[r],_,_,by simp,?_,rfl⟩⟩
    rw[et]
    exact prs_snoc (hP.mono ((Same.new ht1).newT hr)) (.inl upd_same) (((Same.new ht1).newT hr) _ _ hb)
   ·obtain⟨s',ts,o,o',rfl,hP,rfl⟩:=(hPc _ _ _ _).mp h'
    rw[List.take_length]at hP
    have htl:ts.length=es.length:=by rw[hP.1,hentl]
    have s'2:=(s12.trans sf).trans s'
    have sD:=s'2.newT hD (o:=.lst (ts.map V.ref))
    have sfD:=(sf.trans s').newT hD (o:=.lst (ts.map V.ref))
    refine⟨D,rfl,ts.map V.ref,.inl (SqL.of upd_same),by rw[List.length_map];omega,_,sD.seqT q1,_,rfl,ys,SqL.of (sfD _ _ hpa'),fun la oa hla hoa=>?_⟩
    rw[List.length_map,htl]
    obtain⟨m,hm,hml⟩:∃m:Nat,c%(es.length:Int)=(m:Int)/\m<es.length:=⟨(c%(es.length:Int)).toNat,by have:=Int.emod_nonneg c (show (es.length:Int)≠0 by omega);omega,by have:=Int.emod_lt_of_pos c (show (0:Int)<es.length by omega);have:=Int.emod_nonneg c (show (es.length:Int)≠0 by omega);omega⟩
    rw[hm]
    have sa:=Same.new hla (o:=.frz oa (.tup ys))
    refine⟨xs,SqL.of (sa _ _ (sfD _ _ hpe2)),fun le oe hle hoe=>?_⟩
    have se:=sa.newT hle (o:=.frz oe (.tup xs))
    refine⟨D,rfl,ts.map V.ref,SqL.of (se _ _ upd_same),fun d1 hd1=>?_⟩
    have s1':=se.newT hd1 (o:=.lst (cutV (ts.map V.ref) (some (m:Int)) none))
    refine⟨D,rfl,ts.map V.ref,SqL.of (s1' _ _ upd_same),fun d2 hd2=>?_⟩
    have s2':=s1'.newT hd2 (o:=.lst (cutV (ts.map V.ref) none (some (m:Int))))
    refine⟨_,Same.new hd2 _ _ upd_same,_,upd_same,by rw[cutV_drop50,cutV_take50,List.length_drop,List.length_take,List.length_map];omega,fun d3 hd3=>?_⟩
    have s3':=s2'.newT hd3 (o:=.lst (cutV (ts.map V.ref) (some (m:Int)) none++cutV (ts.map V.ref) none (some (m:Int))))
    refine⟨_,SqL.of upd_same,fun lt ot hlt hot=>⟨by omega,fun pp hpp=>?_⟩⟩
    have ecut:cutV (ts.map V.ref) (some (m:Int)) none++cutV (ts.map V.ref) none (some (m:Int))=(ts.drop m++ts.take m).map V.ref:=by rw[cutV_drop50,cutV_take50,List.map_append,List.map_drop,List.map_take]
    have s4':=s3'.newT hlt (o:=.frz ot (.tup (cutV (ts.map V.ref) (some (m:Int)) none++cutV (ts.map V.ref) none (some (m:Int)))))
    have s5':=s4'.newT hpp (o:=.tup [V.int L,V.ref la,V.ref le,V.ref lt])
    have sDf:=sD.trans s5'
    have sfDf:=sfD.trans s5'
    have ek:(es.drop m++es.take m).map (·.1)=(es.map (·.1)).drop m++(es.map (·.1)).take m:=by rw[List.map_append,List.map_drop,List.map_take]
    have ekk:∀v,v∈(es.drop m++es.take m).map (·.1)↔v∈toldL L lw ends acc:=fun v=>by rw[ek,rot_mem,hesk]
    have nd':((es.drop m++es.take m).map (·.1)).Nodup:=by rw[ek];exact rot_nodup hesT.nd
    have va':∀q∈es.drop m++es.take m,q.2=ansW marks ways q.1:=fun q hq=>by rw[<-hans];exact hesT.va q (rot_mem.mp hq)
    refine k pp ys xs acc ends (es.drop m++es.take m) _ sDf ⟨la,le,lt,ot,ts.drop m++ts.take m,SqT.of upd_same,.inl (.inr ⟨oa,?_⟩),hA.mono (TK.of sfDf),.inl (.inr ⟨oe,?_⟩),hE2.mono (TK.of sfDf),?_,hot,?_⟩ ⟨by omega,by omega,hal,hAc.a0,by omega,e0,?_,nd',fun u hu=>⟨(hwa u hu).2,(hwa u hu).1⟩,fun e he=>⟨(hwe e he).2,(hwe e he).1⟩,fun q hq=>?_,fun u hu e he=>?_,?_,fun u hu x hx=>?_,hAc.pre⟩ hAc hS va'
    ·exact ((((((Same.new hle).newT hd1).newT hd2).newT hd3).newT hlt).newT hpp) _ _ upd_same
    ·exact (((((Same.new hd1).newT hd2).newT hd3).newT hlt).newT hpp) _ _ upd_same
    ·rw[<-ecut];exact Same.new hpp _ _ upd_same
    ·have:ents (es.drop m++es.take m)=(ents es).drop m++(ents es).take m:=by unfold ents;rw[List.map_append,List.map_drop,List.map_take]
     rw[this]
     exact prs_rot (hP.mono ((Same.new hD).trans s5')) m
    ·rw[List.length_append,List.length_drop,List.length_take];omega
    ·exact told_good ⟨hlw,by omega⟩ hwa hwe ((ekk q.1).mp (List.mem_map.mpr ⟨q,hq,rfl⟩))
    ·obtain⟨q,hq,eq⟩:=List.mem_map.mp ((ekk (u++e)).mpr (told_has hu he))
     have:=va' q hq
     rw[<-eq]
     refine mkO_some nd' ?_
     rw[<-this]
     exact hq
    ·have:=hAc.nd
     rw[show (acc.map (gA (ansW marks ways) ends))=acc.map fun u=>rowE marks ways ends (walkW ways u) from List.map_congr_left fun u _=>gA_row marks ways ends u]
     exact this
    ·rw[show (acc.map (gA (ansW marks ways) ends))=acc.map fun u=>rowE marks ways ends (walkW ways u) from List.map_congr_left fun u _=>gA_row marks ways ends u,gA_row]
     exact hcl u hu x hx
theorem G50.s {N:Nat}{acc ends:List (List Int)}{es:List (List Int×Int)}{ans:List Int->Int}(G:G50 N acc ends es ans):S49 N acc ends es:=by
 have ha:=(List.getElem?_eq_some_iff.mp G.a0).1
 have he:=(List.getElem?_eq_some_iff.mp G.e0).1
 have b2:=G.el
 refine⟨G.n1,G.n6,ha,G.al,he,by omega,?_,G.hl,fun w hw=>by have:=(G.wa w hw).1;omega,fun w hw=>by have:=(G.we w hw).1;omega,fun p hp=>by have:=(G.wh p hp).1;omega⟩
 have:=G.told [] (acc_in_rows (List.mem_of_getElem? G.a0)) [] (List.mem_of_getElem? G.e0)
 cases es with
 |nil=>cases this
 |cons e r=>simp
def spLaw (K:PySem.W.Frag):Sp:=fun vs H Q _=>∃(a:Addr) (ns:List Int),vs=[.ref a]/\SqL K H a (ns.map V.int)/\ns.length<=63/\∀H',Q (.bl true) H'
theorem ok_law {f:Addr}{fd:FuncData}(F:Fun K "law" "law" s_law f fd)(T:Txt mg)
  (Z:Exs K mg C_AskError C_NoPaper C_NoText)
  {f__law_cell_at:Addr} {fd__law_cell_at:FuncData} (q__law_cell_at:Cal P w K mg base CX0 1 "_law_cell_at" s__law_cell_at ["script","k"] (sp_cell K) f__law_cell_at fd__law_cell_at)
  {f__law_whole:Addr} {fd__law_whole:FuncData} (q__law_whole:Cal P w K mg base CX0 1 "_law_whole" s__law_whole ["found"] (sp_whole) f__law_whole fd__law_whole)
  {f__law_hidden:Addr} {fd__law_hidden:FuncData} (q__law_hidden:Cal P w K mg base CX0 2 "_law_hidden" s__law_hidden ["flow","letters","rooms"] (sp_hid50 K) f__law_hidden fd__law_hidden)
  {f__law_note_of:Addr} {fd__law_note_of:FuncData} (q__law_note_of:Cal P w K mg base CX0 4 "_law_note_of" s__law_note_of ["house","long_word","turns"] (sp_note50 K) f__law_note_of fd__law_note_of)
  {f__law_spoiled_words:Addr} {fd__law_spoiled_words:FuncData} (q__law_spoiled_words:Cal P w K mg base CX0 1 "_law_spoiled_words" s__law_spoiled_words ["note","way","cell"] (sp_spoil49 K 4 9) f__law_spoiled_words fd__law_spoiled_words)
  {f__law_spoiled_pairs:Addr} {fd__law_spoiled_pairs:FuncData} (q__law_spoiled_pairs:Cal P w K mg base CX0 1 "_law_spoiled_pairs" s__law_spoiled_pairs ["note","way","cell"] (sp_spoil49 K 0 10) f__law_spoiled_pairs fd__law_spoiled_pairs)
  {f__law_spoiled_rest:Addr} {fd__law_spoiled_rest:FuncData} (q__law_spoiled_rest:Cal P w K mg base CX0 1 "_law_spoiled_rest" s__law_spoiled_rest ["note","way","cell"] (sp_spoil49 K 11 17) f__law_spoiled_rest fd__law_spoiled_rest)
  {f__law_apart:Addr} {fd__law_apart:FuncData} (q__law_apart:Cal P w K mg base CX0 3 "_law_apart" s__law_apart ["note"] (sp_apart49 K) f__law_apart fd__law_apart)
  {f__law_house:Addr} {fd__law_house:FuncData} (q__law_house:Cal P w K mg base CX0 4 "_law_house" s__law_house ["note"] (sp_house49 K) f__law_house fd__law_house)
  {f__law_same:Addr} {fd__law_same:FuncData} (q__law_same:Cal P w K mg base CX0 2 "_law_same" s__law_same ["found","due"] (sp_same49 K) f__law_same fd__law_same)
  {f__law_asked:Addr} {fd__law_asked:FuncData} (q__law_asked:Cal P w K mg base CX0 5 "_law_asked" s__law_asked ["note","which"] (sp_asked49 K) f__law_asked fd__law_asked)
  : FnOk P w K mg base CX0 6 f fd ["script"] (spLaw K):=by
 refine F.ok sc_law (fun vs H Q E h=>?_) (fun cdv A outer s H vs Q E hr h=>?_)
 ·obtain⟨a,ns,rfl,_⟩:=h;rfl
 ·obtain⟨a,ns,rfl,hs,hn,k⟩:=h
  have hl:=line1000
  refine⟨_,(pss_cons (ps_set (i:=1) sc_law.nd rfl (Or.inr rfl) (pe_op (opD0 op_add) pe_int (pe_op (opD op_mod) (pe_callQ q__law_cell_at hr.d pass0 (pa_cons (pvD 0) (pa_cons pe_int pa_nil))) pe_int)))
   (pss_cons (ps_setL (i:=2) sc_law.nd (pe_op (opD0 op_add) pe_int (pe_op (opD op_mod) (pe_callQ q__law_cell_at hr.d pass0 (pa_cons (pvD 0) (pa_cons pe_int pa_nil))) (pe_callB (call_max2 rfl) rfl T.max PyProof.Rows.boot_max (pa_cons pe_int (pa_cons (pe_op (opD0 op_sub) (pe_callB (lenD call_len_seq) (by rfl) T.len PySem.boot_len (pa_cons (pvD 0) pa_nil)) pe_int) pa_nil))))))
   (pss_cons (ps_setL (i:=3) sc_law.nd (pe_callQ q__law_hidden hr.d pass0 (pa_cons (pe_slice sl_list (pvD 0) (po_some pe_int) (po_some (pvD 2))) (pa_cons (pvD 1) (pa_cons (pe_op (opD0 op_add) pe_int (pe_op (opD op_mod) (pe_op (opD op_fdiv) (pe_callQ q__law_cell_at hr.d pass0 (pa_cons (pvD 0) (pa_cons pe_int pa_nil))) pe_int) pe_int)) pa_nil)))))
   (pss_cons (ps_setL (i:=4) sc_law.nd (pe_op (opD op_mod) (pe_callQ q__law_cell_at hr.d pass0 (pa_cons (pvD 0) (pa_cons pe_int pa_nil))) pe_int))
   (pss_cons (ps_setL (i:=5) sc_law.nd (pe_callQ q__law_note_of hr.d pass0 (pa_cons (pvD 3) (pa_cons (pe_callTy call_tuple_L rfl T.tuple PyProof.Rows.boot_tuple (pa_cons (pe_comp rfl (blk_mk rfl) (cp:=c_law_3) ⟨⟨rfl,rfl⟩,True.intro⟩ (pi_list (pe_slice sl_list (pvD 0) (po_some (pvD 2)) (po_some (pe_op (opD0 op_add) (pvD 2) pe_int)))) (fun _ _ _ _=>(pg_name (i:=0) nd_c_law_3 rfl (Or.inl rfl))) (fun _ _ _ _=>pf_nil) (fun _ _ _ _=>(pe_op (opD op_mod) (pvD 0) (pvD 1)))) pa_nil)) (pa_cons (pvD 4) pa_nil)))))
   (pss_cons (ps_setL (i:=6) sc_law.nd (pe_op (opD op_mod) (pe_callQ q__law_cell_at hr.d pass0 (pa_cons (pvD 0) (pa_cons pe_int pa_nil))) pe_int))
   (pss_cons (ps_setL (i:=4) sc_law.nd (pe_op (opD op_mod) (pe_op (opD op_fdiv) (pe_callQ q__law_cell_at hr.d pass0 (pa_cons (pvD 0) (pa_cons pe_int pa_nil))) pe_int) pe_int))
   (pss_cut (ps_if (PW.pt (pw_or (ptT (pt_cmpR (opD0 op_lt) (pvD 6) pe_int (nomark _))) (pw_or1 (ptT (pt_cmpR (opE op_eq) (pvD 6) pe_int (nomark _))))))
   (pss_one (ps_setL (i:=5) sc_law.nd (pe_callQ q__law_spoiled_pairs hr.d pass0 (pa_cons (pvD 5) (pa_cons (pvD 6) (pa_cons (pvD 4) pa_nil))))))
   (pss_one (ps_if (ptT (pt_cmpR (opD0 op_lt) (pvD 6) pe_int (nomark _)))
   (pss_one (ps_setL (i:=5) sc_law.nd (pe_callQ q__law_spoiled_words hr.d pass0 (pa_cons (pvD 5) (pa_cons (pvD 6) (pa_cons (pvD 4) pa_nil))))))
   (pss_one (ps_if (ptT (pt_cmpR (opD0 op_lt) (pvD 6) pe_int (nomark _)))
   (pss_one (ps_setL (i:=5) sc_law.nd (pe_callQ q__law_spoiled_rest hr.d pass0 (pa_cons (pvD 5) (pa_cons (pvD 6) (pa_cons (pvD 4) pa_nil))))))
   pss_nil)))))
   (pss_cons (ps_setL (i:=7) sc_law.nd (pe_lst (pa_cons (pe_callQ q__law_asked hr.d pass0 (pa_cons (pvD 5) (pa_cons pe_int pa_nil))) (pa_cons (pe_callQ q__law_asked hr.d pass0 (pa_cons (pvD 5) (pa_cons pe_int pa_nil))) pa_nil))))
   (pss_cut (ps_if (ptB (pt_val (pe_callQ q__law_apart hr.d pass0 (pa_cons (pvD 5) pa_nil))))
   (pss_one (ps_if (PW.pt (pw_or (ptT (pt_cmpR op_notN (pe_ixA (ixTD ix_tup) (pe_ixA (ixLD ix_list) (pvD 7) pe_int) pe_int) pe_non (nomark _))) (pw_or (pt_not (ptB (pt_val (pe_callQ q__law_whole hr.d pass0 (pa_cons (pe_ixA (ixTD ix_tup) (pe_ixA (ixLD ix_list) (pvD 7) pe_int) pe_int) pa_nil))))) (pw_or1 (ptT (pt_cmpR (opN op_ne) (pe_ixA (ixTD ix_tup) (pe_ixA (ixLD ix_list) (pvD 7) pe_int) pe_int) (pe_callB (lenD call_len_seq) (by rfl) T.len PySem.boot_len (pa_cons (pe_ixA (ixTD ix_tup) (pvD 5) pe_int) pa_nil)) (nomark _)))))))
   (pss_one (ps_ret pe_bl))
   pss_nil))
   (pss_one (ps_if (ptT (pt_cmpR op_notB (pe_ixA (ixTD ix_tup) (pe_ixA (ixLD ix_list) (pvD 7) pe_int) pe_int) pe_bl (nomark _)))
   (pss_one (ps_ret pe_bl))
   pss_nil)))
   (pss_cons (ps_setL (i:=8) sc_law.nd (pe_callQ q__law_house hr.d pass0 (pa_cons (pvD 5) pa_nil)))
   (pss_cons (ps_if (ptT (pt_cmpR op_isN (pvD 8) pe_non (nomark _)))
   (pss_one (ps_ret (pe_cmpR op_isB (pe_ixA (ixTD ix_tup) (pe_ixA (ixLD ix_list) (pvD 7) pe_int) pe_int) pe_bl (nomark _))))
   pss_nil)
   (pss_one (ps_ret (pe_and (pe_cmpR op_isN (pe_ixA (ixTD ix_tup) (pe_ixA (ixLD ix_list) (pvD 7) pe_int) pe_int) pe_non (nomark _)) (pe_one (pe_callQ q__law_same hr.d pass0 (pa_cons (pe_ixA (ixTD ix_tup) (pe_ixA (ixLD ix_list) (pvD 7) pe_int) pe_int) (pa_cons (pvD 8) pa_nil))))))))))))))))))),?_⟩
  walk_at "rd"
  obtain⟨L,hL,hL1,hL6⟩:∃L:Nat,1+cell ns 0%6=(L:Int)/\1<=L/\L<=6:=⟨(1+cell ns 0%6).toNat,by omega,by omega,by omega⟩
  obtain⟨n,hnn,hn1,hn5⟩:∃n:Nat,1+cell ns 0 / 6%5=(n:Int)/\1<=n/\n<=5:=⟨(1+cell ns 0 / 6%5).toNat,by omega,by omega,by omega⟩
  refine⟨a,ns,0,rfl,hs,_,rfl,by decide,a,ns,1,rfl,hs,_,.inl hs,_,rfl,by split<;>omega,_,hs,fun p1 hp1=>?_⟩
  rw[hL]
  generalize (4+cell ns 1%if ((ns.map V.int).length:Int)-3 > 1 then ((ns.map V.int).length:Int)-3 else 1)=cu
  rw[cut_ints]
  have s1:=Same.new hp1 (o:=.lst ((cutI ns (some 4) (some cu)).map V.int))
  refine⟨a,ns,0,rfl,s1.seq hs,_,rfl,⟨by decide,by decide⟩,by decide,?_⟩
  rw[hnn]
  refine⟨p1,_,L,n,rfl,SqL.of upd_same,hL1,hL6,hn1,by omega,fun h marks ways H3 s3 hh wf hml=>?_⟩
  have s13:=s1.trans s3
  refine⟨a,ns,3,rfl,s13.seq hs,_,rfl,by decide,_,s13.seq hs,fun p hp=>?_⟩
  obtain⟨fl,hfl,hfll⟩:∃fl:List Int,cutV (ns.map V.int) (some cu) (some (cu+400))=fl.map V.int/\fl.length<=63:=⟨cutI ns (some cu) (some (cu+400)),cut_ints _ _ _,by
   have h1:=cutV_length (ns.map V.int) (some cu) (some (cu+400))
   rw[cut_ints,List.length_map,List.length_map]at h1
   omega⟩
  rw[hfl]
  refine⟨⟨_,SqL.of upd_same⟩,?_⟩
  obtain⟨ce,hce,hc0⟩:∃ce:Int,cell ns 3%1000000007=ce/\0<=ce:=⟨_,rfl,by omega⟩
  rw[hce]
  have s14:=s13.newT hp (o:=.lst (fl.map V.int))
  have hh4:=hh.mono (Same.new hp (o:=.lst (fl.map V.int)))
  have hfp:upd H3 p (.lst (fl.map V.int)) p=some (.lst (fl.map V.int)):=upd_same
  generalize upd H3 p (.lst (fl.map V.int))=H4 at s14 hh4 hfp ⊢
  obtain⟨Pc,hPc⟩:∃Pc:Nat->List V->St->Hp->Prop,∀i us σ' H',Pc i us σ' H'↔(H'=H4/\us=((fl.take i).map fun x=>x%(L:Int)).map V.int/\∃o,σ'=[o,some (.int L)]):=⟨_,fun _ _ _ _=>Iff.rfl⟩
  refine compL (xs:=fl.map V.int) Pc ((hPc _ _ _ _).mpr ⟨rfl,rfl,none,rfl⟩) (by rw[List.length_map];omega) (fun i us σ' H' hi h'=>?_) (fun i x us σ' H' hx h'=>?_) (fun us σ' H' h' D hD=>?_)
  ·obtain⟨rfl,rfl,_⟩:=(hPc _ _ _ _).mp h'
   exact⟨SqL.of hfp,by rw[List.length_map,List.length_map,List.length_take];omega⟩
  ·obtain⟨rfl,rfl,o,rfl⟩:=(hPc _ _ _ _).mp h'
   obtain⟨y,hy,rfl⟩:=get_mapI hx
   have et:fl.take (i+1)=fl.take i++[y]:=by rw[List.take_add_one,hy];rfl
   walk_at "rd"
   refine⟨by omega,(hPc _ _ _ _).mpr ⟨rfl,?_,_,rfl⟩⟩
   rw[et,List.map_append,List.map_append];rfl
  obtain⟨rfl,rfl,o,rfl⟩:=(hPc _ _ _ _).mp h'
  rw[List.length_map,List.take_length]
  refine⟨D,rfl,_,.inl ⟨SqL.of upd_same,fun t ht=>?_⟩⟩
  obtain⟨lw,hlw⟩:∃lw,lw=fl.map fun x=>x%(L:Int):=⟨_,rfl⟩
  rw[<-hlw]
  rw[<-hlw]at ht
  have hlwi:isW L lw=true:=isW_iff.mpr fun x hx=>by
   rw[hlw]at hx
   obtain⟨y,_,rfl⟩:=List.mem_map.mp hx
   exact⟨Int.emod_nonneg _ (by omega),Int.emod_lt_of_pos _ (by omega)⟩
  have hlwl:lw.length<=63:=by rw[hlw,List.length_map];exact hfll
  have s4:=(Same.new hD (o:=.lst (lw.map V.int))).newT ht (o:=.tup (lw.map V.int))
  refine⟨h,t,L,marks,ways,lw,ce,rfl,hh4.mono s4,wf,by omega,upd_same,hlwi,by omega,hc0,fun nt xs ys acc ends es H5 s5 P G A S va=>?_⟩
  have s15:=(s14.trans s4).trans s5
  refine⟨a,ns,2,rfl,s15.seq hs,_,rfl,by decide,a,ns,3,rfl,s15.seq hs,_,rfl,⟨by decide,by decide⟩,by decide,?_⟩
  obtain⟨way,hway,hw0,hw5⟩:∃way:Int,cell ns 2%20=way/\0<=way/\way<=19:=⟨_,rfl,by omega,by omega⟩
  obtain⟨c2,hc2,hc20⟩:∃ce:Int,cell ns 3 / 41%1000000007=ce/\0<=ce:=⟨_,rfl,by omega⟩
  rw[hway,hc2]
  have hS:=G.s
  obtain⟨R,hR⟩:∃R:St->Hp->Prop,∀σ' H',R σ' H'↔(∃(nt:Addr) (N:Nat) (xs ys:List V) (acc ends:List (List Int)) (es:List (List Int×Int)),Ppr K H' nt N xs ys acc ends es/\B49 N acc ends es/\σ'=[some (.ref a),some (.int L),some (.int cu),some (.ref h),some (.int c2),some (.ref nt),some (.int way),none,none]):=⟨_,fun _ _=>Iff.rfl⟩
  refine⟨R,?_,fun σ6 H6 h6=>?_⟩
  ·walk_at "rd"
   have go:∀lo hi:Int,lo<=way->way<=hi->sp_spoil49 K lo hi [.ref nt,.int way,.int c2] H5 (fun x H1=>R [some (.ref a),some (.int L),some (.int cu),some (.ref h),some (.int c2),some x,some (.int way),none,none] H1) E0:=fun lo hi h1 h2=>⟨nt,L,xs,ys,acc,ends,es,way,c2,rfl,P,hS,h1,h2,hc20,fun a' N' xs' ys' acc' ends' es' H' _ P' B'=>(hR _ _).mpr ⟨a',N',xs',ys',acc',ends',es',P',B',rfl⟩⟩
   refine ite2 (fun h0=>go 0 10 hw0 (by omega)) (fun h0=>ite2 (fun h1=>go 0 10 hw0 (by omega)) (fun h1=>ite2 (fun h2=>go 4 9 (by omega) (by omega)) (fun h2=>ite2 (fun h3=>go 11 17 (by omega) (by omega)) (fun h3=>?_))))
   exact (hR _ _).mpr ⟨nt,L,xs,ys,acc,ends,es,P,hS.b,rfl⟩
  ·clear hS va S A G P s5 s15
   obtain⟨nt,N,xs,ys,acc,ends,es,P,B,rfl⟩:=(hR _ _).mp h6
   have hbal:=B.al
   walk_at "rd"
   refine⟨nt,0,N,xs,ys,acc,ends,es,rfl,P,B,.inl rfl,fun _ t0 H7 s7 c0=>?_,fun z=>absurd z (by decide)⟩
   refine⟨nt,1,N,xs,ys,acc,ends,es,rfl,P.mono s7,B,.inr rfl,fun z=>absurd z (by decide),fun _ t1 H8 s8 c1=>⟨by omega,fun p9 hp9=>?_⟩⟩
   have s9:=Same.new hp9 (o:=.lst [V.ref t0,V.ref t1])
   have hp9':upd H8 p9 (.lst [V.ref t0,V.ref t1]) p9=some (.lst [V.ref t0,V.ref t1]):=upd_same
   generalize upd H8 p9 (.lst [V.ref t0,V.ref t1])=H9 at s9 hp9' ⊢
   have s79:=s8.trans s9
   have P9:=P.mono (s7.trans s79)
   obtain⟨ta,te,th,od,ts,g1,g2,g3,g4,g5,g6,g7,g8⟩:=id P9
   obtain⟨R2,hR2⟩:∃R:St->Hp->Prop,∀σ' H',R σ' H'↔(Same H9 H'/\σ'=[some (.ref a),some (.int L),some (.int cu),some (.ref h),some (.int c2),some (.ref nt),some (.int way),some (.ref p9),none]):=⟨_,fun _ _=>Iff.rfl⟩
   refine⟨R2,?_,fun σa Ha ha=>?_⟩
   ·walk_at "rd"
    refine⟨nt,N,xs,ys,acc,ends,es,rfl,P9,B,fun Hb sb hT=>⟨true,rfl,?_⟩,fun Hb sb hT=>⟨false,rfl,?_⟩⟩
    ·rw[if_pos rfl]
     rcases c0 with ⟨_,c0⟩|⟨z,_⟩
     rotate_left
     ·exact absurd hT z
     have e0:=(s79.trans sb) _ _ c0
     have pb:=sb _ _ hp9'
     have gb:=g3.1
     refine⟨_,SqL.of pb,_,rfl,t0,rfl,_,SqT.of e0,_,rfl,?_⟩
     rw[if_neg (by simp)]
     refine⟨_,SqL.of pb,_,rfl,t0,rfl,_,SqT.of e0,_,rfl,_,rfl,_,rfl,?_⟩
     rw[if_neg (by simp)]
     refine⟨_,SqL.of pb,_,rfl,t0,rfl,_,SqT.of e0,_,rfl,_,sb.seqT g1,_,rfl,ta,rfl,xs,.inr (sb.seqT g2),rfl,?_⟩
     rw[if_neg (by rw[gb];simp)]
     exact (hR2 _ _).mpr ⟨sb,rfl⟩
    ·rw[if_neg (by simp)]
     rcases c0 with ⟨z,_⟩|⟨_,c0⟩
     ·exact absurd z hT
     have e0:=(s79.trans sb) _ _ c0
     refine⟨_,SqL.of (sb _ _ hp9'),_,rfl,t0,rfl,_,SqT.of e0,_,rfl,true,rfl,?_⟩
     rw[if_neg (by simp)]
     exact (hR2 _ _).mpr ⟨sb,rfl⟩
   ·obtain⟨sa,rfl⟩:=(hR2 _ _).mp ha
    walk_at "rd"
    refine⟨nt,N,xs,ys,acc,ends,es,rfl,P9.mono sa,B,fun fh tm tw zs Hb sb hJ f1 f2 f3 f4=>?_,fun Hb sb hJ=>?_⟩
    ·rcases c1 with ⟨_,h2,tm2,tw2,zs2,d1,d2,d3,d4,d5⟩|⟨z,_⟩
     rotate_left
     ·exact absurd hJ z
     have s8b:=(s9.trans sa).trans sb
     have pb:=(sa.trans sb) _ _ hp9'
     have d1':=s8b _ _ d1
     rw[if_neg (by intro z;cases z)]
     refine⟨_,SqL.of pb,_,rfl,t1,rfl,_,SqT.of d1',_,rfl,?_⟩
     rw[if_pos rfl]
     exact⟨_,SqL.of pb,_,rfl,t1,rfl,_,SqT.of d1',_,rfl,h2,fh,tm2,tw2,tm,tw,N,zs2,zs,acc.map (mk49 es),fW N (gI es ends) acc,rfl,s8b _ _ d2,s8b _ _ d3,s8b _ _ d4,d5.mono (TK.of s8b),f1,f2,f3,f4,by unfold fW;rw[List.length_map];omega,fun H' _=>k H'⟩
    ·rcases c1 with ⟨z,_⟩|⟨_,c1⟩
     ·exact absurd z hJ
     have e1:=((s9.trans sa).trans sb) _ _ c1
     rw[if_pos rfl]
     exact⟨_,SqL.of ((sa.trans sb) _ _ hp9'),_,rfl,t1,rfl,_,SqT.of e1,_,rfl,true,rfl,k _⟩
end
theorem all_mk {l:PySem.W.OpenLaw}{w:World}{K:PySem.W.Frag}{h:Heap}{mg:Str->Option Value}{fa f_is_word f_rows_of f_ways_by_marks f_has_letters_alone f_marks_heard f_tells_apart f_at_least f_are_access_words f_ways_heard f_judged f__law_cell_at f__law_whole f__law_draw f__law_hidden f__law_answer f__law_row_at f__law_one_more f__law_ends_of f__law_access_of f__law_note_of f__law_spoiled_words f__law_spoiled_pairs f__law_spoiled_rest f__law_marks f__law_row f__law_apart f__law_house f__law_same f__law_asked f_law:Addr}(X:K.In h)(G:h.Ns mainGlobals mg)(hfa:mg "law"=some (.ref fa))
  {C_AskError C_NoPaper C_NoText:Addr}
  {fd_is_word fd_rows_of fd_ways_by_marks fd_has_letters_alone fd_marks_heard fd_tells_apart fd_at_least fd_are_access_words fd_ways_heard fd_judged fd__law_cell_at fd__law_whole fd__law_draw fd__law_hidden fd__law_answer fd__law_row_at fd__law_one_more fd__law_ends_of fd__law_access_of fd__law_note_of fd__law_spoiled_words fd__law_spoiled_pairs fd__law_spoiled_rest fd__law_marks fd__law_row fd__law_apart fd__law_house fd__law_same fd__law_asked fd_law:FuncData}
  (j_is_word:HF K "is_word" s_is_word f_is_word fd_is_word)
  (j_rows_of:HF K "rows_of" s_rows_of f_rows_of fd_rows_of)
  (j_ways_by_marks:HF K "ways_by_marks" s_ways_by_marks f_ways_by_marks fd_ways_by_marks)
  (j_has_letters_alone:HF K "has_letters_alone" s_has_letters_alone f_has_letters_alone fd_has_letters_alone)
  (j_marks_heard:HF K "marks_heard" s_marks_heard f_marks_heard fd_marks_heard)
  (j_tells_apart:HF K "tells_apart" s_tells_apart f_tells_apart fd_tells_apart)
  (j_at_least:HF K "at_least" s_at_least f_at_least fd_at_least)
  (j_are_access_words:HF K "are_access_words" s_are_access_words f_are_access_words fd_are_access_words)
  (j_ways_heard:HF K "ways_heard" s_ways_heard f_ways_heard fd_ways_heard)
  (j_judged:HF K "judged" s_judged f_judged fd_judged)
  (j__law_cell_at:HF K "_law_cell_at" s__law_cell_at f__law_cell_at fd__law_cell_at)
  (j__law_whole:HF K "_law_whole" s__law_whole f__law_whole fd__law_whole)
  (j__law_draw:HF K "_law_draw" s__law_draw f__law_draw fd__law_draw)
  (j__law_hidden:HF K "_law_hidden" s__law_hidden f__law_hidden fd__law_hidden)
  (j__law_answer:HF K "_law_answer" s__law_answer f__law_answer fd__law_answer)
  (j__law_row_at:HF K "_law_row_at" s__law_row_at f__law_row_at fd__law_row_at)
  (j__law_one_more:HF K "_law_one_more" s__law_one_more f__law_one_more fd__law_one_more)
  (j__law_ends_of:HF K "_law_ends_of" s__law_ends_of f__law_ends_of fd__law_ends_of)
  (j__law_access_of:HF K "_law_access_of" s__law_access_of f__law_access_of fd__law_access_of)
  (j__law_note_of:HF K "_law_note_of" s__law_note_of f__law_note_of fd__law_note_of)
  (j__law_spoiled_words:HF K "_law_spoiled_words" s__law_spoiled_words f__law_spoiled_words fd__law_spoiled_words)
  (j__law_spoiled_pairs:HF K "_law_spoiled_pairs" s__law_spoiled_pairs f__law_spoiled_pairs fd__law_spoiled_pairs)
  (j__law_spoiled_rest:HF K "_law_spoiled_rest" s__law_spoiled_rest f__law_spoiled_rest fd__law_spoiled_rest)
  (j__law_marks:HF K "_law_marks" s__law_marks f__law_marks fd__law_marks)
  (j__law_row:HF K "_law_row" s__law_row f__law_row fd__law_row)
  (j__law_apart:HF K "_law_apart" s__law_apart f__law_apart fd__law_apart)
  (j__law_house:HF K "_law_house" s__law_house f__law_house fd__law_house)
  (j__law_same:HF K "_law_same" s__law_same f__law_same fd__law_same)
  (j__law_asked:HF K "_law_asked" s__law_asked f__law_asked fd__law_asked)
  (j_law:HF K "law" s_law f_law fd_law)
  (z_all:PySem.W.nsIn K mainGlobals "all"=some none)
  (z_any:PySem.W.nsIn K mainGlobals "any"=some none)
  (z_bool:PySem.W.nsIn K mainGlobals "bool"=some none)
  (z_dict:PySem.W.nsIn K mainGlobals "dict"=some none)
  (z_enumerate:PySem.W.nsIn K mainGlobals "enumerate"=some none)
  (z_int:PySem.W.nsIn K mainGlobals "int"=some none)
  (z_isinstance:PySem.W.nsIn K mainGlobals "isinstance"=some none)
  (z_len:PySem.W.nsIn K mainGlobals "len"=some none)
  (z_list:PySem.W.nsIn K mainGlobals "list"=some none)
  (z_max:PySem.W.nsIn K mainGlobals "max"=some none)
  (z_min:PySem.W.nsIn K mainGlobals "min"=some none)
  (z_range:PySem.W.nsIn K mainGlobals "range"=some none)
  (z_set:PySem.W.nsIn K mainGlobals "set"=some none)
  (z_tuple:PySem.W.nsIn K mainGlobals "tuple"=some none)
  (m_AskError:PySem.W.nsIn K mainGlobals "AskError"=some (some (.ref C_AskError)))
  (m_NoPaper:PySem.W.nsIn K mainGlobals "NoPaper"=some (some (.ref C_NoPaper)))
  (m_NoText:PySem.W.nsIn K mainGlobals "NoText"=some (some (.ref C_NoText)))
  (x_NoPaper:PySem.W.excIn K C_NoPaper bmV "ValueError.__new__"=true)
  (ga_NoPaper:PySem.W.findIn K (.ref C_NoPaper) "__getattribute__"=some (some (.builtin "BaseException.__getattribute__")))
  (hk_NoPaper:PySem.W.findIn K (.ref C_NoPaper) "__getattr__"=some none)
  {cd_NoPaper:ClassData}
  (cl_NoPaper:PySem.W.clsIn K C_NoPaper=some cd_NoPaper)
  (ca_NoPaper:PySem.W.findIn K (.ref C_NoPaper) "__class__"=some (some (.builtin "object.__class__")))
  (mo_NoPaper:PySem.W.mroIn K C_NoPaper (.type "object")=some true)
  (mb_NoPaper:PySem.W.mroIn K C_NoPaper (.type "BaseException")=some true)
  (e_NoPaper:PySem.W.exmOne K (.ref C_NoPaper) (.ref C_AskError)=some true)
  (v_NoPaper:PySem.W.kitOne K (.ref C_NoPaper) (.type "ValueError")=some true)
  (k_NoPaper_AskError:PySem.W.kitOne K (.ref C_NoPaper) (.ref C_AskError)=some true)
  (k_NoPaper_NoPaper:PySem.W.kitOne K (.ref C_NoPaper) (.ref C_NoPaper)=some true)
  (k_NoPaper_NoText:PySem.W.kitOne K (.ref C_NoPaper) (.ref C_NoText)=some false)
  (gs:PySem.W.specialIn K (.builtin "object.__class__") "__get__"=some (some (.builtin "getset_descriptor.__get__")))
  (tk:PySem.W.takesIn K (.builtin "object.__class__")=some true)
  : ∃fd:FuncData,(∀(s:Shared) (v:Value),BindsTo s fd ⟨[v],[]⟩ [("script",v)])/\∀base:Heap,K.In base->base.Ns mainGlobals mg->FnOk l.prog w K mg base CX0 6 fa fd ["script"] (spLaw K):=by
 have e:=hfa.symm.trans (PySem.W.mg_of X G j_law.a)
 cases e
 have T:Txt mg:=⟨PySem.W.mg_none_of X G z_all,PySem.W.mg_none_of X G z_any,PySem.W.mg_none_of X G z_bool,PySem.W.mg_none_of X G z_dict,PySem.W.mg_none_of X G z_enumerate,PySem.W.mg_none_of X G z_int,PySem.W.mg_none_of X G z_isinstance,PySem.W.mg_none_of X G z_len,PySem.W.mg_none_of X G z_list,PySem.W.mg_none_of X G z_max,PySem.W.mg_none_of X G z_min,PySem.W.mg_none_of X G z_range,PySem.W.mg_none_of X G z_set,PySem.W.mg_none_of X G z_tuple⟩
 have Z:Exs K mg C_AskError C_NoPaper C_NoText:=⟨PySem.W.mg_of X G m_AskError,PySem.W.mg_of X G m_NoPaper,PySem.W.mg_of X G m_NoText,x_NoPaper,⟨ga_NoPaper,hk_NoPaper,by rw[cl_NoPaper];rfl,ca_NoPaper,gs,tk,mo_NoPaper,mb_NoPaper⟩,e_NoPaper,v_NoPaper,k_NoPaper_AskError,k_NoPaper_NoPaper,k_NoPaper_NoText⟩
 refine⟨fd_law,j_law.b fun _ _ _ _ _ _ _=>rfl,fun base _ _=>?_⟩
 have Z_:Wh l.prog w K mg base:=⟨fun _ _ a=>PySem.W.mg_of X G a⟩
 have q_is_word:=j_is_word.c Z_ (ok_is_word j_is_word.F T Z )
 have q_rows_of:=j_rows_of.c Z_ (ok_rows_of j_rows_of.F T Z )
 have q_ways_by_marks:=j_ways_by_marks.c Z_ (ok_ways_by_marks j_ways_by_marks.F T Z )
 have q_has_letters_alone:=j_has_letters_alone.c Z_ (ok_has_letters_alone j_has_letters_alone.F T Z q_is_word)
 have q_marks_heard:=j_marks_heard.c Z_ (ok_marks_heard j_marks_heard.F T Z )
 have q_tells_apart:=j_tells_apart.c Z_ (ok_tells_apart j_tells_apart.F T Z q_has_letters_alone q_marks_heard)
 have q_at_least:=j_at_least.c Z_ (ok_at_least j_at_least.F T Z q_tells_apart)
 have q_are_access_words:=j_are_access_words.c Z_ (ok_are_access_words j_are_access_words.F T Z )
 have q_ways_heard:=j_ways_heard.c Z_ (ok_ways_heard j_ways_heard.F T Z q_rows_of q_ways_by_marks q_marks_heard)
 have q_judged:=j_judged.c Z_ (ok_judged j_judged.F T Z q_tells_apart q_are_access_words q_ways_heard)
 have q__law_cell_at:=j__law_cell_at.c Z_ (ok__law_cell_at j__law_cell_at.F T Z )
 have q__law_whole:=j__law_whole.c Z_ (ok__law_whole j__law_whole.F T Z )
 have q__law_draw:=j__law_draw.c Z_ (ok__law_draw j__law_draw.F T Z )
 have q__law_hidden:=j__law_hidden.c Z_ (ok__law_hidden j__law_hidden.F T Z q__law_draw)
 have q__law_answer:=j__law_answer.c Z_ (ok__law_answer j__law_answer.F T Z )
 have q__law_row_at:=j__law_row_at.c Z_ (ok__law_row_at j__law_row_at.F T Z )
 have q__law_one_more:=j__law_one_more.c Z_ (ok__law_one_more j__law_one_more.F T Z q__law_row_at)
 have q__law_ends_of:=j__law_ends_of.c Z_ (ok__law_ends_of j__law_ends_of.F T Z q__law_one_more)
 have q__law_access_of:=j__law_access_of.c Z_ (ok__law_access_of j__law_access_of.F T Z q__law_row_at)
 have q__law_note_of:=j__law_note_of.c Z_ (ok__law_note_of j__law_note_of.F T Z q__law_answer q__law_ends_of q__law_access_of)
 have q__law_spoiled_words:=j__law_spoiled_words.c Z_ (ok__law_spoiled_words j__law_spoiled_words.F T Z )
 have q__law_spoiled_pairs:=j__law_spoiled_pairs.c Z_ (ok__law_spoiled_pairs j__law_spoiled_pairs.F T Z )
 have q__law_spoiled_rest:=j__law_spoiled_rest.c Z_ (ok__law_spoiled_rest j__law_spoiled_rest.F T Z )
 have q__law_marks:=j__law_marks.c Z_ (ok__law_marks j__law_marks.F T Z )
 have q__law_row:=j__law_row.c Z_ (ok__law_row j__law_row.F T Z q__law_marks)
 have q__law_apart:=j__law_apart.c Z_ (ok__law_apart j__law_apart.F T Z q__law_marks q__law_row)
 have q__law_house:=j__law_house.c Z_ (ok__law_house j__law_house.F T Z q__law_row q__law_apart)
 have q__law_same:=j__law_same.c Z_ (ok__law_same j__law_same.F T Z q__law_whole)
 have q__law_asked:=j__law_asked.c Z_ (ok__law_asked j__law_asked.F T Z q_at_least q_judged)
 exact ok_law j_law.F T Z q__law_cell_at q__law_whole q__law_hidden q__law_note_of q__law_spoiled_words q__law_spoiled_pairs q__law_spoiled_rest q__law_apart q__law_house q__law_same q__law_asked
theorem walk {l:PySem.W.OpenLaw}{q:Program}{loose:List Str}{XP:(Str->Option Value)->Heap->Prop}{YP:World->Heap->Prop}{d:DefRec}{K:Params->PySem.W.Frag}(hn:l.most=some 63)(hdf:d.params.defaults=[])
  (hY:∀(w:World) (h:Heap),YP w h->(K w.params).In h)
  (F:∀(w:World) (mg:Str->Option Value) (fa:Addr) (h:Heap),(K w.params).In h->h.Ns mainGlobals mg->mg d.name=some (.ref fa) ->
   ∃fd:FuncData,(∀(s:Shared) (u:Value),BindsTo s fd ⟨[u],[]⟩ [("script",u)])/\∀base:Heap,(K w.params).In base->base.Ns mainGlobals mg->FnOk l.prog w (K w.params) mg base CX0 6 fa fd ["script"] (spLaw (K w.params))):
  PySem.W.WalkO q loose XP YP l.row.toRowW d [] (fun f vs=>PySem.call f vs):=
 L2.walk_of (n:=63) (k:=6) (x := "script") (CX:=fun _=>CX0) (sp:=fun w=>spLaw (K w.params)) hn (by decide) hdf ⟨rfl,by decide,by decide⟩ hY F (fun _ _ a ns hl _ hS=>⟨a,ns,rfl,hS,hl,fun _=>rfl⟩) fun _ _ _ _ _ z=>z
end Mine
structure PySem.W.Fast:Prop where (tw8646872714818381617 tw6711598755390823950 tw6716158876127774391 tw7845424863494293680 tw10080569938809359886 tw1403031132203197801 tw3353296293605622928 tw8406765674185888837 tw10946577892910452045 tw9496924996627119316 tw5509074359729594679 tw15733683399280890346 tw1512611669417728169 tw15121334730397301020 tw7945280127337603688 tw7757757976346034720 tw791408374888680042 tw10428129115785026897 tw12189839338592291309 tw4941430427162824371 tw9448933167956726611 tw5480678912681885835 tw1803896727171623072 tw3395820771519424282 tw2470800017584892546 tw18030602462319138733 tw12006352252067172343 tw10205494079838182472 tw18047967911799662697 tw3912634981015678842 tw5832864729027228579 tw7879647087997804055 tw6629195721825120603 tw5042769612195004470 tw15755099899266743755 tw16276247157972914836 tw5654110945098891208 tw10552458076020452224 tw11687295515827545306 tw6933293716311166203 tw9606014623446363368 tw15862114787048066955 tw4372842373996430753 tw16528311809858801150 tw6276343018788230807 tw302193337490622009 tw4116729944408702728 tw12618239801907229641 tw5670978186724019220 tw12388344470427833808 tw6722564609869137199 tw16385048323790398183 tw14539544054413950613 tw16830419677045068237 tw6255460014724548959 tw8083268180842885793 tw5431088801753676672 tw9795888550814558662 tw15838424143502066492 tw8640557073720617178 tw14857946443296027784 tw4697684081109551802 tw5765500513520695160 tw1547809366188721628 tw1343699400389166436 tw16297625572438424047 tw8986317163445823894 tw17652914038563238505 tw8878193920152097788 tw3069596387318180540 tw8723499149923032738 tw10449118785507581702 tw7336758045543176353 tw12456123742809342325 tw11295210675580164428 tw17562767370366262808 tw9170453233640359689 tw11464456524520916132 tw17599277499533857928 tw14022309022837687059 tw2281865014967693558 tw15920541635116619842 tw15238690914357006264 tw4930634387711843008 tw6364762002997469554 tw3081453986750167321 tw13377915576588294666 tw8897195981115141861 tw6916567836107523207 tw7253181818559662568 tw16594947005912480045 tw16098581182734057086 tw18027153731070876422 tw11591975679996793200 tw4667306382904329967 tw13024423984359171519 tw11406066627296702255 tw9604587099182021534 tw3597415664719340618 tw5527822658684118452 tw10913302690136007029 tw10848644979681278077 tw15728134901448062680 tw890383777007575004 tw11632773387492408107 tw2014823803379692841 tw3523304887637243112 tw5276235453669726257 tw2166085478101359607 tw18103602721711478995 tw10570695950002661847 tw11686105166751246329 tw12079263746642723558 tw11917338217950697902 tw7412946239312021855 tw13854327417191244023 tw12824266009366225485 tw14568781446820986855 tw17333917459402373659 tw7432028470675276534 tw7104786953174323807 tw4128676947730658237 tw11911126318050990094 tw1405262045176488369 tw17901427548358418581 tw17950102890811320329 tw6500274111609008847 tw7198104878723581563 tw3346833321010540475 tw16389322223980118768 tw7833780158423335074 tw8180329349194304154 tw12717094219465116745 tw14788589993517241915 tw14954880564455360662 tw12466353876213451587 tw1294566011371134963 tw15511030139423118097 tw14025245828243672038 tw8064968154927520578 tw5587648421990323996 tw15710587844106444172 tw222151920899543076 tw11052240394572795526 tw15768027694113993663 tw12623966285677145398 tw12430015302607467887 tw2896248904107427325 tw12892899570067713053 tw17813229702112186696 tw2946413674842734573 tw8421693464649962939 tw17968977211834042046 tw1878501580809213240 tw16349194706432506109 tw3355896253428232613 tw15615657639852048442 tw11402570886206306973 tw15671554196780842874 tw3778988199801962920 tw5422114285092354387 tw15777823422903489865 tw8615445624533254427 tw5946654708352165485 tw13577940570070205468 tw17187968745273765776 tw17282909175989417713 tw11920640674731222675 tw13173704216822716934 tw7620701778589002427 tw1333999279798210928 tw17252266468911132322 tw11995515690158497641 tw7216632582578202213 tw5202331599393157788 tw10477554509067161192 tw9693599973923213052 tw1703243477296538998 tw9832822418956866376 tw652706557610561379 tw1705021278364362283 tw8945565781938181408 tw12995272542118078913 tw12833089448084226679 tw18004962438597087960 tw11170718500691365087 tw16815681419411866605 tw14236916489717627648 tw344260419195128667 tw11643625281668620291 tw10927000347305297292 tw15726678165988088842 tw9369866315814558223 tw9866083080216366774 tw16764791141494968889 tw13969330800737937250 tw3509358299646005878 tw12884954569377175888 tw17362662688589680187 tw11493297889708734325 tw3846061412639674632 tw13756140794908049020 tw14814298454774127030 tw11236038659413336305 tw7595912367915626599 tw18134734516116413068 tw10077322780495896572 tw11064200807848350486 tw11891785480168527634 tw497333686884134086 tw16688555640763368135 tw17637807171878414205 tw14311867869025002510 tw1239637193450627808 tw8057466835485400870 tw7876982649305283893 tw12127557243540263893 tw12564587343865804090 tw8876104333352923117 tw6729349563454867658 tw13836241649805595016 tw16016513309840028952 tw17394759841758692844 tw16264449404087631861 tw2640478627484613139 tw2147425560735480605 tw5583685897586332922 tw8126787226152011770 tw4136501180735054761 tw5407840759979584277 tw2249445828352122238 tw5384834957122843469 tw8207670435411644825 tw18036611999095145162 tw13302458035721969273 tw16940355275929955793 tw13257730990534941581 tw11902338129781389107 tw1801042062018511150 tw5856905002075319666 tw17141545293017418468 tw6960599897708810715 tw3308564579485756825 tw15600922787414295634 tw10142308700496967542 tw13449504524136019183 tw14775265881860243911 tw17819554703300848741 tw7861595928547697337 tw12297452488265849114 tw8258896503813067006 tw3266466443673721009 tw5334313821661046085 tw12414149111696124825 tw12107212148322029248 tw6340861899629768748 tw13863243525234240571 tw14497866725450879792 tw10705737782165747069 tw17299160062931102227:True)
open PySem PySem.W PyProof.Rows
set_option maxRecDepth 100000 in
set_option maxHeartbeats 0 in
theorem PySem.Challenge.cw_guessroom_k49_papers_judged_holds : PySem.Challenge.rw_guessroom_k49_papers_judged.Holds := by
  w_on; o_law; k_head; (case hw => w_witness2)
  k_fill
  refine Mine.walk (l := PySem.Challenge.rw_guessroom_k49_papers_judged) rfl rfl (fun w h Y => PySem.W.kIn_of Y) ?F
  case F =>
    intro w mg fa h KX G hmg
    refine' Mine.all_mk KX G hmg ?j_is_word ?j_rows_of ?j_ways_by_marks ?j_has_letters_alone ?j_marks_heard ?j_tells_apart ?j_at_least ?j_are_access_words ?j_ways_heard ?j_judged ?j__law_cell_at ?j__law_whole ?j__law_draw ?j__law_hidden ?j__law_answer ?j__law_row_at ?j__law_one_more ?j__law_ends_of ?j__law_access_of ?j__law_note_of ?j__law_spoiled_words ?j__law_spoiled_pairs ?j__law_spoiled_rest ?j__law_marks ?j__law_row ?j__law_apart ?j__law_house ?j__law_same ?j__law_asked ?j_law ?z_all ?z_any ?z_bool ?z_dict ?z_enumerate ?z_int ?z_isinstance ?z_len ?z_list ?z_max ?z_min ?z_range ?z_set ?z_tuple ?m_AskError ?m_NoPaper ?m_NoText ?x_NoPaper ?ga_NoPaper ?hk_NoPaper ?cl_NoPaper ?ca_NoPaper ?mo_NoPaper ?mb_NoPaper ?e_NoPaper ?v_NoPaper ?k_NoPaper_AskError ?k_NoPaper_NoPaper ?k_NoPaper_NoText ?gs ?tk
    all_goals try unfold L2.HA
    all_goals try unfold L2.HL
    (case j_is_word|j_rows_of|j_ways_by_marks|j_has_letters_alone|j_marks_heard|j_tells_apart|j_at_least|j_are_access_words|j_ways_heard|j_judged|j__law_cell_at|j__law_whole|j__law_draw|j__law_hidden|j__law_answer|j__law_row_at|j__law_one_more|j__law_ends_of|j__law_access_of|j__law_note_of|j__law_spoiled_words|j__law_spoiled_pairs|j__law_spoiled_rest|j__law_marks|j__law_row|j__law_apart|j__law_house|j__law_same|j__law_asked|j_law => constructor; k_is; apply L2.fun_mk <;> k_is)
    (case z_all => k_is)
    (case z_any => k_is)
    (case z_bool => k_is)
    (case z_dict => k_is)
    (case z_enumerate => k_is)
    (case z_int => k_is)
    (case z_isinstance => k_is)
    (case z_len => k_is)
    (case z_list => k_is)
    (case z_max => k_is)
    (case z_min => k_is)
    (case z_range => k_is)
    (case z_set => k_is)
    (case z_tuple => k_is)
    (case m_AskError => k_is)
    (case m_NoPaper => k_is)
    (case m_NoText => k_is)
    (case x_NoPaper => k_exc)
    (case ga_NoPaper => k_is)
    (case hk_NoPaper => k_is)
    (case cl_NoPaper => k_is)
    (case ca_NoPaper => k_is)
    (case mo_NoPaper => k_is)
    (case mb_NoPaper => k_is)
    (case e_NoPaper => kts_exm)
    (case v_NoPaper => kit_is)
    (case k_NoPaper_AskError => kit_is)
    (case k_NoPaper_NoPaper => kit_is)
    (case k_NoPaper_NoText => kit_is)
    (case gs => k_is)
    (case tk => k_is)
