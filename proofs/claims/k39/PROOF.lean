import PyProof.Rows.All
import Wide.All
import OpenK.AllK
import Wide.FinOn
import Lean
import PyProof.EqAt
import PyProof.EqKinds
import PyProof.TupleCall
import KE.KRevIter
import PyProof.ListRange
import PyProof.TupleOfGen
import PyProof.Draws
import PyProof.EnumMake
import PyProof.EnumFor
import PyProof.NeKinds
import KE.KDictList
import PyProof.Rows.TupDisplay
import PyProof.ZipIter
import PyProof.Rows.ZipGen
import KE.KItemsList
import PyProof.Rows.SumAny
import PyProof.StrWalks
import PyProof.StrCalls
import PyProof.StrCalls3
import PyProof.StrLawsFirst
import PyProof.StrLawsIn
import PyProof.SliceStr2
import PyProof.StrBlockI
import PyProof.Rows.StrWeight2
import PyProof.ListNew
import PyProof.DictRoadsH
import PyProof.WalkInts
import PyProof.Rows.MinMaxN
import KE.KDictLaws
import PyProof.StrCalls2
import PyProof.StrLawsChain
import KE.KIntText
import KE.KxText
import KE.KMinKey
import KE.KPairComp
import PyProof.MaxThree
import PyProof.DictValues
import OpenK.KCls
import PySem.Challenge.RW_guessroom_k39_asker_refuses
set_option Elab.async false
set_option linter.all false
set_option maxRecDepth 100000
namespace L2
open PySem PySem.Spec PyProof.Rows
abbrev Key:=Sum Int Str
def keyIs:Key->Value->Bool
 |.inl k,v=>Value.isInt k v
 |.inr x,v=>Value.isStrOf x v
def keyH (w:World):Key->Int
 |.inl k=>hashInt k
 |.inr x=>hashStr w x
theorem keyIs_shape:∀{k:Key} {v:Value},keyIs k v=true->(∃i t,k=Sum.inl i/\v=Value.int i t)\/(∃x t,k=Sum.inr x/\v=Value.str x t)
 |.inl i,v,h=>by
  obtain⟨t,e⟩:=Value.isInt_shape (k:=i) (v:=v) h
  exact .inl ⟨i,t,rfl,e⟩
 |.inr x,v,h=>by
  obtain⟨t,e⟩:=Value.isStrOf_shape (x:=x) (v:=v) h
  exact .inr ⟨x,t,rfl,e⟩
theorem keyIs_int (i:Int)(t:Tok):keyIs (.inl i) (.int i t)=true:=by simp[keyIs,Value.isInt]
theorem keyIs_str (x:Str)(t:Tok):keyIs (.inr x) (.str x t)=true:=by simp[keyIs,Value.isStrOf]
theorem key_ll (a b:Int):decide ((Sum.inl a:Key)=Sum.inl b)=(a==b):=by
 by_cases e:a=b
 ·subst e;simp
 ·have h:¬ (Sum.inl a:Key)=Sum.inl b:=fun q=>e (Sum.inl.inj q)
  rw[decide_eq_false h]
  exact (beq_eq_false_iff_ne.mpr e).symm
theorem key_rr (a b:Str):decide ((Sum.inr a:Key)=Sum.inr b)=decide (a=b):=by
 by_cases e:a=b
 ·subst e;simp
 ·have h:¬ (Sum.inr a:Key)=Sum.inr b:=fun q=>e (Sum.inr.inj q)
  rw[decide_eq_false h,decide_eq_false e]
theorem key_lr (a:Int)(b:Str):decide ((Sum.inl a:Key)=Sum.inr b)=false:=decide_eq_false (fun q=>nomatch q)
theorem key_rl (a:Str)(b:Int):decide ((Sum.inr a:Key)=Sum.inl b)=false:=decide_eq_false (fun q=>nomatch q)
def mixKind (prog:Program)(w:World):PySem.KeyKind prog w Key where
 is:=keyIs
 hash:=keyH w
 inj:=fun v a b ha hb=>by
  rcases keyIs_shape ha with ⟨i,t,rfl,rfl⟩|⟨x,t,rfl,rfl⟩
  ·rcases keyIs_shape hb with ⟨j,u,rfl,e⟩|⟨y,u,rfl,e⟩
   ·injection e with e1 _;rw[e1]
   ·exact nomatch e
  ·rcases keyIs_shape hb with ⟨j,u,rfl,e⟩|⟨y,u,rfl,e⟩
   ·exact nomatch e
   ·injection e with e1 _;rw[e1]
 byValue:=fun k v h=>by
  rcases keyIs_shape h with ⟨i,t,rfl,rfl⟩|⟨x,t,rfl,rfl⟩<;>rfl
 pyHash:=fun hv h=>by
  rcases keyIs_shape hv with ⟨i,t,rfl,rfl⟩|⟨x,t,rfl,rfl⟩
  ·exact wpAny_pyHash_int h
  ·exact wpAny_pyHash_str h
 eqBool:=fun hu hv h=>by
  rcases keyIs_shape hu with ⟨i,t,rfl,rfl⟩|⟨x,t,rfl,rfl⟩
  ·rcases keyIs_shape hv with ⟨j,u,rfl,rfl⟩|⟨y,u,rfl,rfl⟩
   ·rw[key_ll]at h;exact wpAny_eqBool_int h
   ·rw[key_lr]at h;exact SeqAt.EqAt.int_str i t y u _ _ _ _ h
  ·rcases keyIs_shape hv with ⟨j,u,rfl,rfl⟩|⟨y,u,rfl,rfl⟩
   ·rw[key_rl]at h;exact SeqAt.EqAt.str_int x t j u _ _ _ _ h
   ·rw[key_rr]at h;exact wpAny_eqBool_str h
 «strs» := fun k x t v h=>by
  rcases keyIs_shape h with ⟨i,u,rfl,e⟩|⟨y,u,rfl,e⟩
  ·exact nomatch e
  ·injection e with e1 _
   subst e1
   cases v<;>rfl
theorem mixKind_int (prog:Program)(w:World)(i:Int)(t:Tok):(mixKind prog w).is (.inl i) (.int i t)=true:=keyIs_int i t
theorem mixKind_str (prog:Program)(w:World)(x:Str)(t:Tok):(mixKind prog w).is (.inr x) (.str x t)=true:=keyIs_str x t
inductive V where
 | non|bl (b:Bool)|int (i:Int)|str (x:Str)|byt (b:Array UInt8)|flt (b:UInt64)|ref (a:Addr)|ty (n:String)
 deriving DecidableEq
def RelV:V->Value->Prop
 |.non,u=>u=Value.none
 |.bl b,u=>u=Value.bool b
 |.int i,u=>∃t,u=Value.int i t
 |.str x,u=>∃t,u=Value.str x t
 |.byt b,u=>∃t,u=Value.bytes b t
 |.flt b,u=>∃t,u=Value.float b t
 |.ref a,u=>u=Value.ref a
 |.ty n,u=>u=Value.type n
abbrev Vals:List V->List Value->Prop:=Paired RelV
theorem Vals.length {xs:List V}{us:List Value}(r:Vals xs us):xs.length=us.length:=Paired.length r
theorem Vals.get:∀{xs:List V} {us:List Value} {i:Nat} {x:V},Vals xs us->xs[i]?=some x->∃u,us[i]?=some u/\RelV x u
 |_,_,_,_,.nil,e=>by simp at e
 |_,_,0,_,.cons r _,e=>by simp at e;subst e;exact⟨_,rfl,r⟩
 |_,_,i+1,x,.cons _ t,e=>by
  obtain⟨u,h1,h2⟩:=Vals.get (i:=i) (x:=x) t (by simpa using e)
  exact⟨u,by simpa using h1,h2⟩
theorem Vals.append:∀{xs ys:List V} {us ws:List Value},Vals xs us->Vals ys ws->Vals (xs++ys) (us++ws)
 |_,_,_,_,.nil,s=>s
 |_,_,_,_,.cons r t,s=>.cons r (Vals.append t s)
theorem Vals.take:∀{xs:List V} {us:List Value} (n:Nat),Vals xs us->Vals (xs.take n) (us.take n)
 |_,_,0,_=>.nil
 |_,_,_+1,.nil=>.nil
 |_,_,n+1,.cons r t=>.cons r (Vals.take n t)
theorem Vals.drop:∀{xs:List V} {us:List Value} (n:Nat),Vals xs us->Vals (xs.drop n) (us.drop n)
 |_,_,0,r=>r
 |_,_,_+1,.nil=>.nil
 |_,_,n+1,.cons _ t=>Vals.drop n t
def RelO:Option V->Option Value->Prop
 |some v,some u=>RelV v u
 |none,none=>True
 |_,_=>False
def KV {κ:Type}:List (κ×V)->List (κ×Value)->Prop:=Paired fun (p:κ×V) (q:κ×Value)=>p.1=q.1/\RelV p.2 q.2
def kV:Key->V
 |.inl i=>.int i
 |.inr x=>.str x
inductive HO where
 | lst (xs:List V)
 | tup (xs:List V)
 | dK (kvs:List (Key×V))|dT (kvs:List (List Key×V))
 | set (S:Int->Bool) (n:Nat)
 | ins (C dx:Addr) (fs:List (Str×V))
 | own (x:Addr)
 | xd (fs:List (Str×V))
 | met (f x:Addr)
 | rng (lo hi:Int)
 | frz (o:Obj) (u:HO)
 | tbl (ps:Array Value)
 | ext (φ:Heap->Prop)
abbrev Hp:=Addr->Option HO
def upd (H:Hp)(a:Addr)(o:HO):Hp:=fun b=>if b=a then some o else H b
theorem upd_same {H:Hp}{a:Addr}{o:HO}:upd H a o a=some o:=by unfold upd;rw[if_pos rfl]
theorem upd_ne {H:Hp}{a b:Addr}{o:HO}(h:b≠a):upd H a o b=H b:=by unfold upd;rw[if_neg h]
theorem ne_of {H:Hp}{a b:Addr}{o u:HO}(h:H a=some o)(h':H b=some u)(d:o≠u):a≠b:=by
 intro e;subst e;rw[h]at h';exact d (Option.some.inj h')
theorem ne_of_none {H:Hp}{a b:Addr}{o:HO}(h:H a=some o)(h':H b=none):a≠b:=by
 intro e;subst e;rw[h]at h';cases h'
section
variable (P:Program) (w:World)
def ObjOk (H:Hp)(h:Heap)(a:Addr):HO->Prop
 |.lst xs=>xs.length<=sizeLine/\∃(its:List Value) (n:Nat),Vals xs its/\h.get? a=some {cls:=.type "list",data:=.seq its.toArray n}
 |.tup xs=>xs.length<=sizeLine/\∃its:List Value,Vals xs its/\IsTup h a its.toArray
 |.dK kvs=>kvs.length<=sizeLine/\(a==sysModules)=false/\∃vs,KV kvs vs/\h.DictOf (mixKind P w) a vs
 |.dT kvs=>kvs.length<=sizeLine/\(a==sysModules)=false/\∃xs:List (List Key×Addr×Value),
   Paired (fun (p:List Key×V) (q:List Key×Addr×Value)=>p.1=q.1/\H q.2.1=some (.tup (p.1.map kV))/\RelV p.2 q.2.2) kvs xs /\
   ∃o es ep,h.get? a=some o/\o.ExactDict/\o.data=.dict es ep/\es.toList=xs.map (entryOfKey (tupleKind (mixKind P w)))/\(xs.map (·.1)).Nodup
 |.set S n=>h.SetOf (intKind P w) a S n
 |.ins C dx fs=>H dx=some (.own a)/\fs.length<=1000/\dx≠a/\h.get? a=some (PySem.W.instObj C dx) /\
   ∃mA,h.Ns1 dx mA/\(∀f,RelO (fs.lookup f) (mA f))/\PySem.Within mA (fs.map (·.1))
 |.own _=>∃o,h.get? a=some o
 |.xd fs=>∃mA,h.Ns1 a mA/\∀f,RelO (fs.lookup f) (mA f)
 |.rng lo hi=>∃t u v,h.get? a=some {cls:=.type "range",data:=.fields #[.int lo t,.int hi u,.int 1 v]}
 |.frz o u=>h.get? a=some o/\ObjOk H h a u
 |.tbl ps=>h.get? a=some {cls:=.none,data:=.fields ps}
 |.met f x=>h.get? a=some (PySem.W.methodObj (.ref f) (.ref x))
 |.ext φ=>φ h/\(∃o,h.get? a=some o)/\∀h1 h2:Heap,φ h1->(∀o,h1.get? a=some o->h2.get? a=some o)->φ h2
def HOk (H:Hp)(h:Heap):Prop:=∀a o,H a=some o->ObjOk P w H h a o
end
section
variable {P:Program} {w:World} {H H':Hp} {h h':Heap} {a:Addr} {o:HO}
theorem ObjOk.lt (x:ObjOk P w H h a o):a<h.objs.size:=by
 cases o with
 |lst xs=>obtain⟨_,_,_,_,e⟩:=x;exact Heap.lt_size e
 |tup xs=>obtain⟨_,_,_,p⟩:=x;exact p.lt
 |dK kvs=>obtain⟨_,_,_,_,o,_,_,e,_⟩:=x;exact Heap.lt_size e
 |dT kvs=>obtain⟨_,_,_,_,o,_,_,e,_⟩:=x;exact Heap.lt_size e
 |set S n=>obtain⟨o,_,_,_,e,_⟩:=x;exact Heap.lt_size e
 |ins C dx fs=>obtain⟨_,_,_,e,_⟩:=x;exact Heap.lt_size e
 |own y=>obtain⟨_,e⟩:=x;exact Heap.lt_size e
 |xd fs=>obtain⟨_,⟨_,_,_,e,_⟩,_⟩:=x;exact Heap.lt_size e
 |rng lo hi=>obtain⟨_,_,_,e⟩:=x;exact Heap.lt_size e
 |frz ob u=>obtain⟨e,_⟩:=x;exact Heap.lt_size e
 |tbl ps=>exact Heap.lt_size (show h.get? a=some _ from x)
 |met f y=>exact Heap.lt_size (show h.get? a=some _ from x)
 |ext φ=>obtain⟨_,⟨_,e⟩,_⟩:=x;exact Heap.lt_size e
theorem Paired.mapP {α β:Type}{F G:α->β->Prop}:∀{l₁:List α} {l₂:List β},Paired F l₁ l₂->(∀a b,F a b->G a b)->Paired G l₁ l₂
 |_,_,.nil,_=>.nil
 |_,_,.cons r t,f=>.cons (f _ _ r) (Paired.mapP t f)
theorem ObjOk.stay (x:ObjOk P w H h a o)(k:∀b u,(b=a\/H b=some (.own a))->h.get? b=some u->h'.get? b=some u)
  (ho:∀b,H b=some (.own a)->H' b=some (.own a)) (ht:∀b xs,H b=some (.tup xs)->H' b=some (.tup xs)):ObjOk P w H' h' a o:=by
 induction o with
 |lst xs=>obtain⟨z,its,n,r,e⟩:=x;exact⟨z,its,n,r,k _ _ (.inl rfl) e⟩
 |tup xs=>obtain⟨z,its,r,ob,e,c⟩:=x;exact⟨z,its,r,ob,k _ _ (.inl rfl) e,c⟩
 |dK kvs=>obtain⟨z,y,vs,r,ob,es,ep,e,c⟩:=x;exact⟨z,y,vs,r,ob,es,ep,k _ _ (.inl rfl) e,c⟩
 |dT kvs=>
  obtain⟨z,y,xs,r,ob,es,ep,e,c⟩:=x
  exact⟨z,y,xs,Paired.mapP r fun p q z=>⟨z.1,ht _ _ z.2.1,z.2.2⟩,ob,es,ep,k _ _ (.inl rfl) e,c⟩
 |set S n=>obtain⟨ob,es,ep,t,e,c⟩:=x;exact⟨ob,es,ep,t,k _ _ (.inl rfl) e,c⟩
 |ins C dx fs=>
  obtain⟨d,z,ne,e,mA,⟨od,es,ep,e2,c⟩,r⟩:=x
  exact⟨ho _ d,z,ne,k _ _ (.inl rfl) e,mA,⟨od,es,ep,k _ _ (.inr d) e2,c⟩,r⟩
 |own y=>obtain⟨ob,e⟩:=x;exact⟨ob,k _ _ (.inl rfl) e⟩
 |xd fs=>obtain⟨mA,⟨od,es,ep,e,c⟩,r⟩:=x;exact⟨mA,⟨od,es,ep,k _ _ (.inl rfl) e,c⟩,r⟩
 |rng lo hi=>obtain⟨t,u,v,e⟩:=x;exact⟨t,u,v,k _ _ (.inl rfl) e⟩
 |frz ob u ih=>obtain⟨e,q⟩:=x;exact⟨k _ _ (.inl rfl) e,ih q⟩
 |tbl ps=>
  have e:h.get? a=some {cls:=.none,data:=.fields ps}:=x
  show h'.get? a=some {cls:=.none,data:=.fields ps}
  exact k a _ (.inl rfl) e
 |met f y=>
  have e:h.get? a=some (PySem.W.methodObj (.ref f) (.ref y)):=x
  show h'.get? a=some (PySem.W.methodObj (.ref f) (.ref y))
  exact k a _ (.inl rfl) e
 |ext φ=>obtain⟨p,⟨o,e⟩,st⟩:=x;exact⟨st _ _ p fun o q=>k _ _ (.inl rfl) q,⟨o,k _ _ (.inl rfl) e⟩,st⟩
theorem HOk.lt (x:HOk P w H h)(e:H a=some o):a<h.objs.size:=(x a o e).lt
theorem HOk.fresh (x:HOk P w H h)(e:h.objs.size<=a):H a=none:=by
 cases q:H a with
 |none=>rfl
 |some u=>exact absurd (Nat.lt_of_lt_of_le (x.lt q) e) (Nat.lt_irrefl _)
theorem HOk.kept (x:HOk P w H h)(k:∀b u,h.get? b=some u->h'.get? b=some u):HOk P w H h':=fun a o e=>
 (x a o e).stay (fun b u _ q=>k b u q) (fun _ q=>q) fun _ _ q=>q
theorem HOk.laid (x:HOk P w H h)(k:∀b u,h.get? b=some u->h'.get? b=some u)(hp:h.objs.size<=a)(new:ObjOk P w (upd H a o) h' a o):HOk P w (upd H a o) h':=fun b u e=>by
 have hn:=x.fresh hp
 by_cases hb:b=a
 ·subst hb;rw[upd_same]at e;cases e;exact new
 ·rw[upd_ne hb]at e
  exact (x b u e).stay (fun c v _ q=>k c v q) (fun c q=>by rw[upd_ne (ne_of_none q hn)];exact q) fun c xs q=>by rw[upd_ne (ne_of_none q hn)];exact q
end
def Rd (H:Hp)(a:Addr)(u:HO):Prop:=H a=some u \/ ∃o,H a=some (.frz o u)
theorem Rd.ok {P:Program}{w:World}{H:Hp}{h:Heap}{a:Addr}{u:HO}(r:Rd H a u)(x:HOk P w H h):ObjOk P w H h a u:=by
 rcases r with r|⟨o,r⟩
 ·exact x a u r
 ·obtain⟨_,q⟩:=x a _ r
  exact q
def Mut:Option HO->Prop
 |some (.lst _)=>True
 |some (.dK _)=>True
 |some (.dT _)=>True
 |some (.set _ _)=>True
 |some (.ins _ _ _)=>True
 |some (.ext _)=>True
 |_=>False
section
variable {P:Program} {w:World} {H:Hp} {h h':Heap} {x e:Addr} {o':HO}
theorem HOk.write (ok:HOk P w H h)(mu:Mut (H x))(he:e=x\/H e=some (.own x))(k:∀b u,b≠e->h.get? b=some u->h'.get? b=some u)(heo:∃u,h'.get? e=some u)
  (new:ObjOk P w (upd H x o') h' x o'):HOk P w (upd H x o') h':=fun b u q=>by
 have nown:∀c y,H c=some (.own y)->c≠x:=fun c y r z=>by subst z;rw[r]at mu;exact mu
 have ntup:∀c xs,H c=some (.tup xs)->c≠x:=fun c xs r z=>by subst z;rw[r]at mu;exact mu
 by_cases hb:b=x
 ·subst hb;rw[upd_same]at q;cases q;exact new
 ·rw[upd_ne hb]at q
  by_cases hbe:b=e
  ·have q':H b=some (.own x):=by
    rcases he with z|z
    ·exact absurd (hbe.trans z) hb
    ·rw[hbe];exact z
   rw[q]at q';cases q'
   obtain⟨v,hv⟩:=heo
   exact⟨v,by rw[hbe];exact hv⟩
  ·refine (ok b u q).stay (fun c v hc r=>k c v ?_ r) (fun c r=>by rw[upd_ne (nown c b r)];exact r) fun c xs r=>by rw[upd_ne (ntup c xs r)];exact r
   rcases hc with rfl|hc
   ·exact hbe
   ·rintro rfl
    rcases he with z|z
    ·exact nown c b hc z
    ·rw[hc]at z;cases z;exact hb rfl
end
structure Un (fs ex:List Addr)(H H':Hp)(h h':Heap):Prop where
 keep:∀b o,h.get? b=some o->H b=none->b∉fs->b∉ex->h'.get? b=some o
 slot:∀b o,h.get? b=some o->H b=none->b∈fs->b∉ex->∃sl,h'.get? b=some {o with slots:=sl}
 free:∀b o,h.get? b=some o->H b=none->b∉ex->H' b=none
 there:∀b o,h.get? b=some o->b∉ex->∃o',h'.get? b=some o'
 tups:∀b xs,H b=some (.tup xs)->H' b=some (.tup xs)
 frzs:∀b o u,H b=some (.frz o u)->H' b=some (.frz o u)
 tbls:∀b ps,H b=some (.tbl ps)->∃more,H' b=some (.tbl (ps++more))
section
variable {fs fs' ex ex':List Addr} {H H1 H2:Hp} {h h1 h2 h':Heap} {a x e:Addr} {o:HO}
theorem Un.any (u:Un fs ex H H1 h h1){b:Addr}{ob:Obj}(q:h.get? b=some ob)(n:H b=none)(hx:b∉ex):∃sl,h1.get? b=some {ob with slots:=sl}:=by
 by_cases hb:b∈fs
 ·exact u.slot b ob q n hb hx
 ·exact⟨ob.slots,u.keep b ob q n hb hx⟩
theorem Un.kept (k:∀b u,h.get? b=some u->h'.get? b=some u):Un fs ex H H h h' :=
 ⟨fun b ob q _ _ _=>k b ob q,fun b ob q _ _ _=>⟨ob.slots,k b ob q⟩,fun _ _ _ n _=>n,fun b ob q _=>⟨ob,k b ob q⟩,fun _ _ q=>q,fun _ _ _ q=>q,fun _ ps q=>⟨#[],by rw[q];simp⟩⟩
theorem Un.refl:Un fs ex H H h h:=Un.kept fun _ _ q=>q
theorem Un.laid (k:∀b u,h.get? b=some u->h'.get? b=some u)(hp:h.objs.size<=a)(hn:H a=none):Un fs ex H (upd H a o) h h' where
 keep:=fun b u q _ _ _=>k b u q
 slot:=fun b u q _ _ _=>⟨u.slots,k b u q⟩
 free:=fun b u q n _=>by rw[upd_ne (Nat.ne_of_lt (Nat.lt_of_lt_of_le (Heap.lt_size q) hp))];exact n
 there:=fun b u q _=>⟨u,k b u q⟩
 tups:=fun b xs q=>by rw[upd_ne (ne_of_none q hn)];exact q
 frzs:=fun b u xs q=>by rw[upd_ne (ne_of_none q hn)];exact q
 tbls:=fun b ps q=>⟨#[],by rw[upd_ne (ne_of_none q hn),q];simp⟩
theorem Un.write (mu:Mut (H x))(he:e=x\/H e=some (.own x))(k:∀b u,b≠e->h.get? b=some u->h'.get? b=some u)(heo:∃u,h'.get? e=some u):Un fs ex H (upd H x o) h h':=by
 have hx:∀b,H b=none->b≠x:=fun b n z=>by subst z;rw[n]at mu;exact mu
 have hb:∀b,H b=none->b≠e:=fun b n z=>by
  subst z
  rcases he with r|r
  ·exact hx b n r
  ·rw[n]at r;cases r
 have hm:∀b u,H b=some u->¬ Mut (some u)->b≠x:=fun b u q nm z=>by subst z;rw[q]at mu;exact nm mu
 refine⟨fun b u q n _ _=>k b u (hb b n) q,fun b u q n _ _=>⟨u.slots,k b u (hb b n) q⟩,fun b u q n _=>by rw[upd_ne (hx b n)];exact n,fun b u q _=>?_,
  fun b xs q=>by rw[upd_ne (hm b _ q fun z=>z)];exact q,fun b u xs q=>by rw[upd_ne (hm b _ q fun z=>z)];exact q,fun b ps q=>⟨#[],by rw[upd_ne (hm b _ q fun z=>z),q];simp⟩⟩
 by_cases hbe:b=e
 ·subst hbe;exact heo
 ·exact⟨u,k b u hbe q⟩
end
def trk (h:Heap)(H:Hp):List Addr:=(List.range h.objs.size).filter fun a=>(H a).isSome
def hidT (h:Heap)(H:Hp):Heap:=PySem.W.hideAll h (trk h H)
theorem hidT_size (h:Heap)(H:Hp):(hidT h H).objs.size=h.objs.size:=PySem.W.hideAll_size _ _
theorem hidT_get {h:Heap}{H:Hp}{b:Addr}{o:Obj}(e:h.get? b=some o)(n:H b=none):(hidT h H).get? b=some o:=
 PySem.W.hideAll_get _ e fun hm=>by
  have q:(H b).isSome=true:=(List.mem_filter.mp hm).2
  rw[n]at q;simp at q
theorem of_hidT {h:Heap}{H:Hp}{b:Addr}{o:Obj}(e:(hidT h H).get? b=some o):h.get? b=some o/\H b=none:=by
 have e':h.get? b=some o:=PySem.W.of_hideAll (trk h H) e
 refine⟨e',?_⟩
 cases q:H b with
 |none=>rfl
 |some x=>
  have hm:b∈trk h H:=List.mem_filter.mpr ⟨List.mem_range.mpr (Heap.lt_size e'),by simp[q]⟩
  have z:(hidT h H).get? b=none:=PySem.W.hideAll_none (trk h H) hm
  rw[z]at e;cases e
def allNews (g h:Heap)(L:Addr):List (Addr×Obj):=(List.range h.objs.size).filterMap fun a=>if a=L\/(g.get? a).isSome=true then none else (h.get? a).map fun o=>(a,o)
def rest (g h:Heap)(L d:Addr):List (Addr×Obj):=(allNews g h L).filter fun p=>decide (p.1≠d)
end L2
namespace L2
open PySem PySem.Spec PyProof.Rows
structure Mod (K:PySem.W.Frag)(mg:Str->Option Value)(base:Heap):Prop where
 kin:K.In base
 glob:base.Ns mainGlobals mg
 blt:∃mb,base.Ns builtinsNs mb/\∀x:Str,x ≠ "__name__" -> mb x=bootBuiltins x
 nolimit:base.NoLimit
structure Cx where
 prog:Program
 w:World
 K:PySem.W.Frag
 mg:Str->Option Value
 base:Heap
 A:Around
 N:List Str
 s₀:Shared
 H₀:Hp
 env:Env
 outer:List Env
 stack:List Env
 ex:List Addr
 fn:Str->Bool
 calm:Bool
 pn:List (Addr×Obj)
 xe:Value->Shared->Prop
def frs (l:List Env):List Addr:=l.filterMap (·.frame)
abbrev Cx.fs (X:Cx):List Addr:=frs X.outer
def Vis (sc:Scope)(x:Str):Prop:=sc.names.lookup x=some .local\/sc.names.lookup x=some .cell\/sc.names.lookup x=some .free
def Loc (sc:Scope)(x:Str):Prop:=sc.names.lookup x=some .local\/sc.names.lookup x=some .cell
def Look (env:Env)(h:Heap)(m:Str->Option Value)(x:Str)(u:Value):Prop:=
 (env.kindOf x=some .local/\m x=some u)\/((env.kindOf x=some .cell\/env.kindOf x=some .free)/\∃c,env.cells.lookup x=some c/\h.IsCell c (some u))
structure Cx.Ok (X:Cx):Prop where
 mod:Mod X.K X.mg X.base
 kind:X.env.scope.kind=.function
 glob:X.env.globals=mainGlobals
 blt:X.env.builtins=builtinsNs
 above:X.s₀.heap.objs.size<=X.env.locals
 inj:∀x y c,X.env.cells.lookup x=some c->X.env.cells.lookup y=some c->x=y
 has:∀x,(X.env.kindOf x=some .cell\/X.env.kindOf x=some .free)->∃c,X.env.cells.lookup x=some c
 cab:∀x c,X.fn x=true->X.env.cells.lookup x=some c->X.s₀.heap.objs.size<=c
 hd:X.calm=true->X.A.handled=none
 frames:X.A.frames=some X.stack
 stk:X.stack=X.outer\/(X.stack=X.env::X.outer/\X.env.frame=some X.env.locals)
 exf:∀b∈X.ex,b≠X.env.locals/\∀x c,X.env.cells.lookup x=some c->c≠b
 bs:∀b o,X.base.get? b=some o->X.s₀.heap.get? b=some o/\X.H₀ b=none
 bsz:X.base.objs.size<=X.s₀.heap.objs.size
 noex:∀b o,X.base.get? b=some o->b∉X.ex
 exfs:∀b∈X.ex,b∉X.fs
 funs:X.s₀.heap.FunFrames X.base X.outer
 frf:∀b∈X.fs,X.H₀ b=none
structure Inv (X:Cx)(pins:List (Addr×Obj))(σ:List (Option V))(H:Hp)(s:Shared):Prop where
 ok:X.Ok
 os:s.os=X.s₀.os
 bare:AllBare s.gens
 base:Un X.fs X.ex X.H₀ H X.s₀.heap s.heap
 loc:∃m,s.heap.Ns X.env.locals m/\∀(i:Nat) (x:Str) (v:V),X.N[i]?=some x->σ[i]?=some (some v)->Vis X.env.scope x->∃u,RelV v u/\Look X.env s.heap m x u
 cell:∀x c,X.env.cells.lookup x=some c->∃v,s.heap.IsCell c v
 free:H X.env.locals=none
 freeC:∀x c,X.env.cells.lookup x=some c->H c=none
 pin:∀p∈X.pn++pins,s.heap.get? p.1=some p.2/\H p.1=none/\p.1≠X.env.locals/\p.1∉X.fs/\∀v,p.2.data ≠ .cell v
 hok:HOk X.prog X.w H s.heap
 len:σ.length=X.N.length
section
variable {X:Cx} {pins:List (Addr×Obj)} {σ:List (Option V)} {H H':Hp} {s:Shared} {h':Heap}
theorem Cx.Ok.nofr (ok:X.Ok){b:Addr}{o:Obj}(e:X.base.get? b=some o):b∉X.fs:=fun hb=>by
 have:=(ok.funs.mem hb).1
 rw[e]at this;cases this
theorem Inv.bs (I:Inv X pins σ H s):∀b o,X.base.get? b=some o->s.heap.get? b=some o/\H b=none:=fun b o e=>
 ⟨I.base.keep b o (I.ok.bs b o e).1 (I.ok.bs b o e).2 (I.ok.nofr e) (I.ok.noex b o e),I.base.free b o (I.ok.bs b o e).1 (I.ok.bs b o e).2 (I.ok.noex b o e)⟩
theorem Inv.bk (I:Inv X pins σ H s):∀b o,X.base.get? b=some o->s.heap.get? b=some o:=fun b o e=>(I.bs b o e).1
theorem Inv.mod (I:Inv X pins σ H s):Mod X.K X.mg X.base:=I.ok.mod
theorem Inv.kIn (I:Inv X pins σ H s):X.K.In s.heap:=I.ok.mod.kin.keeps I.bk
theorem Inv.lt (I:Inv X pins σ H s):X.env.locals<s.heap.objs.size:=let ⟨_,hn,_⟩:=I.loc;hn.lt
theorem Inv.sz (I:Inv X pins σ H s):X.s₀.heap.objs.size<=s.heap.objs.size:=Nat.le_trans I.ok.above (Nat.le_of_lt I.lt)
theorem Inv.nofs (I:Inv X pins σ H s){a:Addr}(h:s.heap.objs.size<=a):a∉X.fs:=fun hb=>by
 obtain⟨_,o,ho,_⟩:=I.ok.funs.mem hb
 exact absurd (Nat.lt_of_lt_of_le (Heap.lt_size ho) (Nat.le_trans I.sz h)) (Nat.lt_irrefl _)
theorem Inv.cne (I:Inv X pins σ H s):∀x c,X.env.cells.lookup x=some c->c≠X.env.locals:=fun x c e z=>by
 obtain⟨v,o,ho,hd⟩:=I.cell x c e
 obtain⟨m,⟨o',es,ep,ho',hd',_⟩,_⟩:=I.loc
 rw[z,ho']at ho;cases ho;rw[hd']at hd;cases hd
theorem Inv.funs (I:Inv X pins σ H s):s.heap.FunFrames X.base X.outer:=by
 have all:∀(l:List Env),(∀b∈frs l,b∈X.fs)->X.s₀.heap.FunFrames X.base l->s.heap.FunFrames X.base l:=by
  intro l
  induction l with
  |nil=>intro _ _;trivial
  |cons env r ih=>
   intro hs hl
   obtain⟨hk,⟨L,o,hf,hn,ho,hd⟩,hr⟩:=hl
   have hL:L∈X.fs:=hs L (by unfold frs;rw[List.filterMap_cons,hf];exact List.mem_cons_self)
   obtain⟨sl,e⟩:=I.base.slot L o ho (I.ok.frf L hL) hL fun z=>I.ok.exfs L z hL
   exact⟨hk,⟨L,_,hf,hn,e,hd⟩,ih (fun b hb=>hs b (by unfold frs;rw[List.filterMap_cons,hf];exact List.mem_cons_of_mem _ hb)) hr⟩
 exact all X.outer (fun _ hb=>hb) I.ok.funs
theorem Inv.stack (I:Inv X pins σ H s):s.heap.FunFrames X.base X.stack:=by
 rcases I.ok.stk with e|⟨e,hf⟩
 ·rw[e];exact I.funs
 ·rw[e]
  obtain⟨m,hn,_⟩:=I.loc
  refine .cons (by rw[I.ok.kind];decide) hf hn ?_ I.funs
  exact Heap.get?_none_of_le (Nat.le_trans I.ok.bsz I.ok.above)
theorem Inv.stkSub (I:Inv X pins σ H s):∀b∈frs X.stack,b∈X.env.locals::X.fs:=fun b hb=>by
 rcases I.ok.stk with e|⟨e,hf⟩
 ·rw[e]at hb;exact List.mem_cons_of_mem _ hb
 ·rw[e]at hb
  unfold frs at hb
  rw[List.filterMap_cons,hf]at hb
  exact hb
theorem Inv.stkFree (I:Inv X pins σ H s):∀b∈frs X.stack,H b=none:=fun b hb=>by
 rcases List.mem_cons.mp (I.stkSub b hb) with e|hb
 ·rw[e];exact I.free
 ·obtain⟨_,o,ho,_⟩:=I.ok.funs.mem hb
  exact I.base.free b o ho (I.ok.frf b hb) fun z=>I.ok.exfs b z hb
theorem Inv.step {g':Array GenState}{t':Nat}{d':Drawn}{ch:List Addr}(I:Inv X pins σ H s)
  (hch:∀b∈ch,(b∈X.ex\/X.s₀.heap.objs.size<=b)/\b≠X.env.locals/\(∀x c,X.env.cells.lookup x=some c->c≠b)/\∀p∈X.pn++pins,p.1≠b)
  (keep:∀b o,b≠X.env.locals->b∉X.fs->b∉ch->s.heap.get? b=some o->H b=none->h'.get? b=some o)
  (slot:∀b o,b≠X.env.locals->b∈X.fs->b∉ch->s.heap.get? b=some o->H b=none->∃sl,h'.get? b=some {o with slots:=sl}) (free:∀b o,b∉ch->s.heap.get? b=some o->H b=none->H' b=none)
  (there:∀b o,b∉ch->s.heap.get? b=some o->∃o',h'.get? b=some o')
  (tups:∀b xs,H b=some (.tup xs)->H' b=some (.tup xs)) (frzs:∀b o u,H b=some (.frz o u)->H' b=some (.frz o u)) (tbls:∀b ps,H b=some (.tbl ps)->∃more,H' b=some (.tbl (ps++more)))
  (ns:∀m,s.heap.Ns X.env.locals m->h'.Ns X.env.locals m) (hok:HOk X.prog X.w H' h') (hg:AllBare g'):
  Inv X pins σ H' {s with heap:=h',gens:=g',drawn:=d',toks:=t' }:=by
 have neL:∀b o,X.s₀.heap.get? b=some o->b≠X.env.locals:=fun b o e=>Nat.ne_of_lt (Nat.lt_of_lt_of_le (Heap.lt_size e) I.ok.above)
 have neC:∀b o,X.s₀.heap.get? b=some o->b∉X.ex->b∉ch:=fun b o e hx hb=>by
  rcases (hch b hb).1 with z|z
  ·exact hx z
  ·exact absurd (Nat.lt_of_lt_of_le (Heap.lt_size e) z) (Nat.lt_irrefl _)
 have cellK:∀x c,X.env.cells.lookup x=some c->∀v,s.heap.IsCell c v->h'.IsCell c v:=fun x c e v ⟨o,ho,hd⟩=>by
  have nch:c∉ch:=fun z=>(hch c z).2.2.1 x c e rfl
  by_cases hc:c∈X.fs
  ·obtain⟨sl,q⟩:=slot c o (I.cne x c e) hc nch ho (I.freeC x c e)
   exact⟨_,q,hd⟩
  ·exact⟨o,keep c o (I.cne x c e) hc nch ho (I.freeC x c e),hd⟩
 refine⟨I.ok,I.os,hg,⟨fun b o e n hb hx=>?_,fun b o e n hb hx=>?_,fun b o e n hx=>?_,fun b o e hx=>?_,fun b xs e=>tups b xs (I.base.tups b xs e),fun b o xs e=>frzs b o xs (I.base.frzs b o xs e),fun b ps e=>?_⟩,?_,fun x c e=>?_,?_,fun x c e=>?_,fun p hp=>?_,hok,I.len⟩
 ·exact keep b o (neL b o e) hb (neC b o e hx) (I.base.keep b o e n hb hx) (I.base.free b o e n hx)
 ·obtain⟨sl,e1⟩:=I.base.slot b o e n hb hx
  obtain⟨sl',e2⟩:=slot b _ (neL b o e) hb (neC b o e hx) e1 (I.base.free b o e n hx)
  exact⟨sl',e2⟩
 ·obtain⟨o',e1⟩:=I.base.there b o e hx
  exact free b o' (neC b o e hx) e1 (I.base.free b o e n hx)
 ·obtain⟨o',e1⟩:=I.base.there b o e hx
  exact there b o' (neC b o e hx) e1
 ·obtain⟨m1,e1⟩:=I.base.tbls b ps e
  obtain⟨m2,e2⟩:=tbls b _ e1
  exact⟨m1++m2,by rw[e2,Array.append_assoc]⟩
 ·obtain⟨m,hn,hl⟩:=I.loc
  refine⟨m,ns m hn,fun i x v e1 e2 e3=>?_⟩
  obtain⟨u,r,l⟩:=hl i x v e1 e2 e3
  refine⟨u,r,?_⟩
  rcases l with l|⟨k,c,e,z⟩
  ·exact .inl l
  ·exact .inr ⟨k,c,e,cellK x c e _ z⟩
 ·obtain⟨v,z⟩:=I.cell x c e
  exact⟨v,cellK x c e v z⟩
 ·obtain⟨m,⟨o,_,_,ho,_⟩,_⟩:=I.loc
  exact free _ o (fun z=>(hch _ z).2.1 rfl) ho I.free
 ·obtain⟨v,o,ho,hd⟩:=I.cell x c e
  exact free c o (fun z=>(hch c z).2.2.1 x c e rfl) ho (I.freeC x c e)
 ·obtain⟨e,n,ne,nf,d⟩:=I.pin p hp
  have nch:p.1∉ch:=fun z=>(hch p.1 z).2.2.2 p hp rfl
  exact⟨keep p.1 p.2 ne nf nch e n,free p.1 p.2 nch e n,ne,nf,d⟩
theorem Inv.un {t':Nat}(I:Inv X pins σ H s)(u:Un X.fs [] H H' s.heap h')(hok:HOk X.prog X.w H' h'):Inv X pins σ H' {s with heap:=h',toks:=t' }:=by
 obtain⟨m,⟨o,es,ep,ho,r⟩,_⟩:=id I.loc
 obtain⟨sl,hL⟩:=u.any ho I.free (by simp)
 exact I.step (g':=s.gens) (d':=s.drawn) (ch:=[]) (fun _ z=>nomatch z) (fun b o _ hb _ e n=>u.keep b o e n hb (by simp)) (fun b o _ hb _ e n=>u.slot b o e n hb (by simp)) (fun b o _ e n=>u.free b o e n (by simp)) (fun b o _ e=>u.there b o e (by simp)) u.tups u.frzs u.tbls (fun m' hm=>by
  obtain⟨o',es',ep',ho',r'⟩:=hm
  rw[ho]at ho';cases ho'
  exact⟨_,es',ep',hL,r'⟩) hok I.bare
theorem Inv.call {g':Array GenState}{t':Nat}{d':Drawn}{ch:List Addr}(I:Inv X pins σ H s)(u:Un (frs X.stack) ch H H' s.heap h')(hok:HOk X.prog X.w H' h')(hg:AllBare g')
  (hch:∀b∈ch,(b∈X.ex\/X.s₀.heap.objs.size<=b)/\b≠X.env.locals/\(∀x c,X.env.cells.lookup x=some c->c≠b)/\∀p∈X.pn++pins,p.1≠b):
  Inv X pins σ H' {s with heap:=h',gens:=g',drawn:=d',toks:=t' }:=by
 obtain⟨m,⟨o,es,ep,ho,r⟩,_⟩:=id I.loc
 obtain⟨sl,hL⟩:=u.any ho I.free fun z=>(hch _ z).2.1 rfl
 exact I.step (ch:=ch) hch (fun b o hL hb hc e n=>u.keep b o e n (fun z=>(List.mem_cons.mp (I.stkSub b z)).elim hL hb) hc) (fun b o _ _ hc e n=>u.any e n hc) (fun b o hc e n=>u.free b o e n hc) (fun b o hc e=>u.there b o e hc) u.tups u.frzs u.tbls (fun m' hm=>by
  obtain⟨o',es',ep',ho',r'⟩:=hm
  rw[ho]at ho';cases ho'
  exact⟨_,es',ep',hL,r'⟩) hok hg
theorem Inv.turned {t':Nat}{it:Addr}(I:Inv X pins σ H s)(k:∀b o,b≠it->s.heap.get? b=some o->h'.get? b=some o)(hn:H it=none)(hL:it≠X.env.locals)
  (h1:it∈X.ex\/X.s₀.heap.objs.size<=it) (h2:∀x c,X.env.cells.lookup x=some c->c≠it) (h3:∀p∈X.pn++pins,p.1≠it):Inv X pins σ H {s with heap:=h',toks:=t' }:=by
 have nit:∀b u,H b=some u->b≠it:=fun b u e z=>by rw[z,hn]at e;cases e
 refine I.step (g':=s.gens) (d':=s.drawn) (ch:=[it]) (fun b hb=>?_) (fun b o _ _ hc e _=>k b o (fun z=>hc (by simp[z])) e) (fun b o _ _ hc e _=>⟨o.slots,k b o (fun z=>hc (by simp[z])) e⟩) (fun _ _ _ _ n=>n)
  (fun b o hc e=>⟨o,k b o (fun z=>hc (by simp[z])) e⟩) (fun _ _ e=>e) (fun _ _ _ e=>e) (fun b ps e=>⟨#[],by rw[e];simp⟩) (fun m hm=>?_) (fun b u e=>?_) I.bare
 ·have e:b=it:=by simpa using hb
  subst e
  exact⟨h1,hL,h2,h3⟩
 ·obtain⟨o,es,ep,ho,r⟩:=hm
  exact⟨o,es,ep,k _ o (Ne.symm hL) ho,r⟩
 ·refine (I.hok b u e).stay (fun c v hc q=>k c v ?_ q) (fun _ q=>q) fun _ _ q=>q
  rcases hc with z|z
  ·rw[z];exact nit b u e
  ·exact nit c _ z
theorem Inv.tok (I:Inv X pins σ H s)(t:Nat):Inv X pins σ H {s with toks:=t}:=I.un (h':=s.heap) (t':=t) Un.refl I.hok
theorem Inv.kept {t':Nat}(I:Inv X pins σ H s)(k:∀b u,s.heap.get? b=some u->h'.get? b=some u):Inv X pins σ H {s with heap:=h',toks:=t' }:=I.un (Un.kept k) (I.hok.kept k)
theorem Inv.laid {a:Addr}{o:HO}{t':Nat}(I:Inv X pins σ H s)(k:∀b u,s.heap.get? b=some u->h'.get? b=some u)(hp:s.heap.objs.size<=a)(new:ObjOk X.prog X.w (upd H a o) h' a o):
  Inv X pins σ (upd H a o) {s with heap:=h',toks:=t' }:=I.un (Un.laid k hp (I.hok.fresh hp)) (I.hok.laid k hp new)
theorem Inv.write {x e:Addr}{o:HO}{t':Nat}(I:Inv X pins σ H s)(mu:Mut (H x))(he:e=x\/H e=some (.own x))(k:∀b u,b≠e->s.heap.get? b=some u->h'.get? b=some u)(heo:∃u,h'.get? e=some u)
  (new:ObjOk X.prog X.w (upd H x o) h' x o):Inv X pins σ (upd H x o) {s with heap:=h',toks:=t' }:=I.un (Un.write mu he k heo) (I.hok.write mu he k heo new)
theorem Inv.pins_of {pins':List (Addr×Obj)}(I:Inv X pins σ H s)(h:∀p∈pins',s.heap.get? p.1=some p.2/\H p.1=none/\p.1≠X.env.locals/\p.1∉X.fs/\∀v,p.2.data ≠ .cell v):Inv X pins' σ H s:=
 ⟨I.ok,I.os,I.bare,I.base,I.loc,I.cell,I.free,I.freeC,fun p hp=>(List.mem_append.mp hp).elim (fun z=>I.pin p (List.mem_append_left _ z)) (h p),I.hok,I.len⟩
theorem nodup_ix {N:List Str}(hN:N.Nodup){i j:Nat}{x:Str}(a:N[i]?=some x)(b:N[j]?=some x):i=j:=by
 obtain⟨h1,e1⟩:=List.getElem?_eq_some_iff.mp a
 obtain⟨h2,e2⟩:=List.getElem?_eq_some_iff.mp b
 exact (List.getElem_inj hN).mp (e1.trans e2.symm)
theorem store_ok2 {M:Model}{A:Around}{E:Value->Shared->Prop}{i:Nat}{x:Str}{v:V}{u:Value}{Q:Unit->Shared->Prop}(I:Inv X pins σ H s)(hN:X.N.Nodup)(hi:X.N[i]?=some x)(hx:Loc X.env.scope x)(r:RelV v u)
  (h:∀s',Inv X pins (σ.set i (some v)) H s'->(∃a,Heap.SameBut a s.heap s'.heap/\(a=X.env.locals\/X.env.cells.lookup x=some a))->Q () s') (hf:X.fn x=true\/X.env.scope.names.lookup x=some .local:=by first|exact .inl rfl|exact .inr rfl|assumption):wpAny M A (storeName X.env x u) Q E s:=by
 obtain⟨m,hn,hl⟩:=id I.loc
 have hcls:(X.env.scope.kind == .class||(X.env.scope.kind == .module&&X.env.locals != X.env.globals))=false:=by rw[I.ok.kind];rfl
 have hiσ:i<σ.length:=by rw[I.len];exact (List.getElem?_eq_some_iff.mp hi).1
 have cne:=I.cne
 have tracked:∀{a:Addr} {h':Heap},(∃o,s.heap.get? a=some o/\H a=none)->Heap.SameBut a s.heap h'->HOk X.prog X.w H h':=fun {a h'} ha hs b ob e=>by
  obtain⟨_,_,hfree⟩:=ha
  refine (I.hok b ob e).stay (fun c w' hc q=>(hs.2 c ?_).trans q) (fun _ q=>q) fun _ _ q=>q
  rintro rfl
  rcases hc with rfl|hc
  ·rw[hfree]at e;cases e
  ·rw[hfree]at hc;cases hc
 rcases hx with hk|hk
 ·refine wpAny_storeName_local hk hn (fun h' hn' hs=>?_) hcls
  obtain⟨oL,_,_,hoL,_⟩:=id hn
  refine h _ ⟨I.ok,I.os,I.bare,⟨fun b o e n hb hx=>?_,fun b o e n hb hx=>?_,I.base.free,fun b o e hx=>?_,I.base.tups,I.base.frzs,I.base.tbls⟩,⟨_,hn',fun j y v' e1 e2 e3=>?_⟩,fun y c e=>?_,I.free,I.freeC,fun p hp=>?_,tracked ⟨oL,hoL,I.free⟩ hs,by simpa using I.len⟩ ⟨_,hs,.inl rfl⟩
  ·exact (hs.2 b (Nat.ne_of_lt (Nat.lt_of_lt_of_le (Heap.lt_size e) I.ok.above))).trans (I.base.keep b o e n hb hx)
  ·obtain⟨sl,e1⟩:=I.base.slot b o e n hb hx
   exact⟨sl,(hs.2 b (Nat.ne_of_lt (Nat.lt_of_lt_of_le (Heap.lt_size e) I.ok.above))).trans e1⟩
  ·obtain⟨o',e1⟩:=I.base.there b o e hx
   exact⟨o',(hs.2 b (Nat.ne_of_lt (Nat.lt_of_lt_of_le (Heap.lt_size e) I.ok.above))).trans e1⟩
  ·by_cases hj:j=i
   ·subst hj
    rw[hi]at e1;cases e1
    rw[List.getElem?_set_self hiσ]at e2
    cases e2
    exact⟨u,r,.inl ⟨hk,by simp⟩⟩
   ·rw[List.getElem?_set_ne (Ne.symm hj)]at e2
    obtain⟨u',r',q⟩:=hl j y v' e1 e2 e3
    refine⟨u',r',?_⟩
    rcases q with ⟨k,e⟩|⟨k,c,e,z⟩
    ·refine .inl ⟨k,?_⟩
     have:y≠x:=fun e=>hj (nodup_ix hN e1 (e ▸ hi))
     simp[this,e]
    ·exact .inr ⟨k,c,e,z.sameBut hs (cne y c e)⟩
  ·obtain⟨w',z⟩:=I.cell y c e
   exact⟨w',z.sameBut hs (cne y c e)⟩
  ·obtain⟨e,n,ne,nf,d⟩:=I.pin p hp
   exact⟨(hs.2 p.1 ne).trans e,n,ne,nf,d⟩
 ·have hfn:X.fn x=true:=by
   rcases hf with z|z
   ·exact z
   ·rw[z]at hk;cases hk
  obtain⟨c,hc⟩:=I.ok.has x (.inl hk)
  obtain⟨w',z⟩:=I.cell x c hc
  refine wpAny_storeName_cell I.ok.kind hk hc z (fun h' hc' hs=>?_)
  obtain⟨oc,hoc,hocd⟩:=id z
  refine h {s with heap:=h' } ⟨I.ok,I.os,I.bare,⟨fun b o e n hb hx=>?_,fun b o e n hb hx=>?_,I.base.free,fun b o e hx=>?_,I.base.tups,I.base.frzs,I.base.tbls⟩,⟨m,hn.sameBut hs (Ne.symm (cne x c hc)),fun j y v' e1 e2 e3=>?_⟩,fun y c' e=>?_,I.free,I.freeC,fun p hp=>?_,tracked ⟨oc,hoc,I.freeC x c hc⟩ hs,by simpa using I.len⟩ ⟨c,hs,.inr hc⟩
  ·exact (hs.2 b (Nat.ne_of_lt (Nat.lt_of_lt_of_le (Heap.lt_size e) (I.ok.cab x c hfn hc)))).trans (I.base.keep b o e n hb hx)
  ·obtain⟨sl,e1⟩:=I.base.slot b o e n hb hx
   exact⟨sl,(hs.2 b (Nat.ne_of_lt (Nat.lt_of_lt_of_le (Heap.lt_size e) (I.ok.cab x c hfn hc)))).trans e1⟩
  ·obtain⟨o',e1⟩:=I.base.there b o e hx
   exact⟨o',(hs.2 b (Nat.ne_of_lt (Nat.lt_of_lt_of_le (Heap.lt_size e) (I.ok.cab x c hfn hc)))).trans e1⟩
  ·by_cases hj:j=i
   ·subst hj
    rw[hi]at e1;cases e1
    rw[List.getElem?_set_self hiσ]at e2
    cases e2
    exact⟨u,r,.inr ⟨.inl hk,c,hc,hc'⟩⟩
   ·rw[List.getElem?_set_ne (Ne.symm hj)]at e2
    obtain⟨u',r',q⟩:=hl j y v' e1 e2 e3
    refine⟨u',r',?_⟩
    rcases q with q|⟨k,c',e,z'⟩
    ·exact .inl q
    ·refine .inr ⟨k,c',e,z'.sameBut hs ?_⟩
     rintro rfl
     exact hj (nodup_ix hN e1 (I.ok.inj _ _ _ e hc ▸ hi))
  ·by_cases hcc:c'=c
   ·subst hcc;exact⟨_,hc'⟩
   ·obtain⟨w2,z2⟩:=I.cell y c' e
    exact⟨w2,z2.sameBut hs hcc⟩
  ·obtain⟨e,n,ne,nf,d⟩:=I.pin p hp
   refine⟨(hs.2 p.1 ?_).trans e,n,ne,nf,d⟩
   intro q
   rw[q,hoc]at e
   have q':oc=p.2:=Option.some.inj e
   exact d w' (by rw[<-q'];exact hocd)
theorem store_ok {M:Model}{A:Around}{E:Value->Shared->Prop}{i:Nat}{x:Str}{v:V}{u:Value}{Q:Unit->Shared->Prop}(I:Inv X pins σ H s)(hN:X.N.Nodup)(hi:X.N[i]?=some x)(hx:Loc X.env.scope x)(r:RelV v u)
  (h:∀s',Inv X pins (σ.set i (some v)) H s'->Q () s') (hf:X.fn x=true\/X.env.scope.names.lookup x=some .local:=by first|exact .inl rfl|exact .inr rfl|assumption):wpAny M A (storeName X.env x u) Q E s:=
 store_ok2 I hN hi hx r (fun s' I' _=>h s' I') hf
theorem Inv.call' {s':Shared}{ch:List Addr}(I:Inv X pins σ H s)(ho:s'.os=s.os)(u:Un (frs X.stack) ch H H' s.heap s'.heap)(hok:HOk X.prog X.w H' s'.heap)(hg:AllBare s'.gens)
  (hch:∀b∈ch,(b∈X.ex\/X.s₀.heap.objs.size<=b)/\b≠X.env.locals/\(∀x c,X.env.cells.lookup x=some c->c≠b)/\∀p∈X.pn++pins,p.1≠b):Inv X pins σ H' s':=by
 obtain⟨h',g',d',t',o'⟩:=s'
 have e:o'=s.os:=ho
 subst e
 exact I.call (g':=g') (t':=t') (d':=d') u hok hg hch
end
abbrev XK:=Value->Option Addr->Hp->Prop
abbrev St:=List (Option V)
abbrev VK:=V->Hp->Prop
abbrev TE:=St->Hp->VK->Prop
abbrev TT:=St->Hp->(Bool->Hp->Prop)->Prop
abbrev TA:=St->Hp->(List V->Hp->Prop)->Prop
structure Ends where
 nx:St->Hp->Prop
 rt:VK
 bk:St->Hp->Prop:=fun _ _=>False
 ct:St->Hp->Prop:=fun _ _=>False
abbrev TS:=Ends->St->Hp->Prop
def EP (X:Cx)(pins:List (Addr×Obj))(σ:St)(Q:VK)(u:Value)(s':Shared):Prop:=∃v H',Inv X pins σ H' s'/\RelV v u/\Q v H'
def TP (X:Cx)(pins:List (Addr×Obj))(σ:St)(Q:Bool->Hp->Prop)(b:Bool)(s':Shared):Prop:=∃H',Inv X pins σ H' s'/\Q b H'
def AP (X:Cx)(pins:List (Addr×Obj))(σ:St)(Q:List V->Hp->Prop)(us:List Value)(s':Shared):Prop:=∃vs H',Inv X pins σ H' s'/\Vals vs us/\Q vs H'
def SP (X:Cx)(pins:List (Addr×Obj))(D:Ends)(f:Flow)(s':Shared):Prop:=
 match f with
 |.next=>∃σ' H',Inv X pins σ' H' s'/\D.nx σ' H'
 |.brk=>∃σ' H',Inv X pins σ' H' s'/\D.bk σ' H'
 |.cont=>∃σ' H',Inv X pins σ' H' s'/\D.ct σ' H'
 |.ret u=>∃v σ' H',Inv X pins σ' H' s'/\RelV v u/\D.rt v H'
def PE (X:Cx)(e:Expr)(t:TE):Prop:=
 ∀(pins:List (Addr×Obj)) (s:Shared) (σ:St) (H:Hp) (Q:VK),Inv X pins σ H s->t σ H Q->wpAny (model X.prog X.w) X.A (eval e X.env) (EP X pins σ Q) X.xe s
def PT (X:Cx)(e:Expr)(t:TT):Prop:=
 ∀(pins:List (Addr×Obj)) (s:Shared) (σ:St) (H:Hp) (Q:Bool->Hp->Prop),Inv X pins σ H s->t σ H Q->wpAny (model X.prog X.w) X.A (isTrue e X.env (eval e X.env)) (TP X pins σ Q) X.xe s
def PW (X:Cx)(e:Expr)(t:TT):Prop:=
 ∀(whole:Sem Value) (pins:List (Addr×Obj)) (s:Shared) (σ:St) (H:Hp) (Q:Bool->Hp->Prop),Inv X pins σ H s->t σ H Q->wpAny (model X.prog X.w) X.A (isTrue e X.env whole) (TP X pins σ Q) X.xe s
theorem PW.pt {X:Cx}{e:Expr}{t:TT}(h:PW X e t):PT X e t:=h _
def PA (X:Cx)(es:List Expr)(t:TA):Prop:=
 ∀(pos:Pos) (pins:List (Addr×Obj)) (s:Shared) (σ:St) (H:Hp) (Q:List V->Hp->Prop),Inv X pins σ H s->t σ H Q->wpAny (model X.prog X.w) X.A (spliced (backTo pos (starEach es X.env))) (AP X pins σ Q) X.xe s
def PS (X:Cx)(st:Stmt)(t:TS):Prop:=
 ∀(pins:List (Addr×Obj)) (s:Shared) (σ:St) (H:Hp) (D:Ends),Inv X pins σ H s->t D σ H->wpAny (model X.prog X.w) X.A (exec st X.env) (SP X pins D) X.xe s
def PSs (X:Cx)(st:List Stmt)(t:TS):Prop:=
 ∀(pins:List (Addr×Obj)) (s:Shared) (σ:St) (H:Hp) (D:Ends),Inv X pins σ H s->t D σ H->wpAny (model X.prog X.w) X.A (execs st X.env) (SP X pins D) X.xe s
theorem thn {α:Type}{t:Sem α}{Q Q':α->Shared->Prop}{M:Model}{A:Around}{E:Value->Shared->Prop}{s:Shared}(h:wpAny M A t Q E s)(hQ:∀a s,Q a s->Q' a s):wpAny M A t Q' E s:=wpAny_mono h hQ fun _ _ x=>x
end L2
namespace L2
open PySem PySem.Spec PyProof.Rows
section
variable {X:Cx}
def tVar (i:Nat):TE:=fun σ H Q=>∃v,σ[i]?=some (some v)/\Q v H
def tC (v:V):TE:=fun _ H Q=>Q v H
theorem pe_var {i:Nat}{x:Str}{pos:Pos}(hN:X.N[i]?=some x)(hv:Vis X.env.scope x)(hd:(x==("__debug__" : Str))=false:=by decide)(hcd:(x==("__classdict__" : Str))=false:=by decide):PE X (.Name x pos) (tVar i):=by
 intro pins s σ H Q I h
 obtain⟨v,e,h⟩:=h
 obtain⟨m,hn,hl⟩:=I.loc
 obtain⟨u,r,l⟩:=hl i x v hN e hv
 have fin:EP X pins σ Q u s:=⟨v,H,I,r,h⟩
 rcases l with ⟨hk,hm⟩|⟨hk,c,hc,hcell⟩
 ·exact wpAny_Name (wpAny_loadName_local I.ok.kind hk hn hm fin) hd
 ·rcases hk with hk|hk
  ·exact wpAny_Name (wpAny_loadName_cell I.ok.kind hk hc hcell fin) hd
  ·exact wpAny_Name (wpAny_loadName_free I.ok.kind hk hc hcell fin hcd) hd
theorem pe_int {i j pos}:PE X (.Constant (.int i) j pos) (tC (.int i)):=fun _ _ _ H _ I h=>wpAny_Constant_int ⟨.int i,H,I.tok _,⟨_,rfl⟩,h⟩
theorem pe_bl {b j pos}:PE X (.Constant (.bool b) j pos) (tC (.bl b)):=fun _ _ _ H _ I h=>Constant_bool ⟨.bl b,H,I,rfl,h⟩
theorem pe_non {j pos}:PE X (.Constant .none j pos) (tC .non):=fun _ _ _ H _ I h=>Constant_none ⟨.non,H,I,rfl,h⟩
theorem pe_str {x j pos}:PE X (.Constant (.str x) j pos) (tC (.str x)):=fun _ _ _ H _ I h=>Calls.Constant_str ⟨.str x,H,I.tok _,⟨_,rfl⟩,h⟩
def Gl (X:Cx)(x:Str):Prop:=X.env.kindOf x=some .globalImplicit
theorem ld_glob {E:Value->Shared->Prop}{pins:List (Addr×Obj)}{s:Shared}{σ:St}{H:Hp}{x:Str}{u:Value}{pos:Pos}{Q:Value->Shared->Prop}(I:Inv X pins σ H s)(hg:Gl X x)(hm:X.mg x=some u)(h:Q u s)
  (hd:(x==("__debug__" : Str))=false:=by decide):wpAny (model X.prog X.w) X.A (eval (.Name x pos) X.env) Q E s:=
 Calls.Name_function_global I.ok.kind hg (Calls.loadGlobal_global (by rw[I.ok.glob];exact I.mod.glob.keeps I.bk) hm h) hd
theorem ld_blt {E:Value->Shared->Prop}{pins:List (Addr×Obj)}{s:Shared}{σ:St}{H:Hp}{x:Str}{u:Value}{pos:Pos}{Q:Value->Shared->Prop}(I:Inv X pins σ H s)(hg:Gl X x)(hm:X.mg x=none)(hv:bootBuiltins x=some u)(h:Q u s)
  (hn:x ≠ "__name__" := by decide) (hd:(x==("__debug__" : Str))=false:=by decide):wpAny (model X.prog X.w) X.A (eval (.Name x pos) X.env) Q E s:=by
 obtain⟨mb,h1,h2⟩:=I.mod.blt
 exact Calls.Name_function_global I.ok.kind hg (Calls.loadGlobal_builtin (by rw[I.ok.glob];exact I.mod.glob.keeps I.bk) hm (by rw[I.ok.blt];exact h1.keeps I.bk) ((h2 x hn).trans hv) h) hd
theorem pe_glob {x:Str}{v:V}{u:Value}{pos:Pos}(hg:Gl X x)(hm:X.mg x=some u)(r:RelV v u)(hd:(x==("__debug__" : Str))=false:=by decide):PE X (.Name x pos) (tC v):=
 fun _ _ _ H _ I h=>ld_glob I hg hm ⟨v,H,I,r,h⟩ hd
theorem pe_bltn {x:Str}{v:V}{u:Value}{pos:Pos}(hg:Gl X x)(hm:X.mg x=none)(hv:bootBuiltins x=some u)(r:RelV v u)(hn:x ≠ "__name__" := by decide)(hd:(x==("__debug__" : Str))=false:=by decide):PE X (.Name x pos) (tC v):=
 fun _ _ _ H _ I h=>ld_blt I hg hm hv ⟨v,H,I,r,h⟩ hn hd
variable {a b:Expr} {ta tb:TE} {pos:Pos}
def PC (X:Cx)(op:CmpOp)(a b:Expr)(t:TE):Prop:=
 ∀(pins:List (Addr×Obj)) (s:Shared) (σ:St) (H:Hp) (Q:VK),Inv X pins σ H s->t σ H Q ->
  wpAny (model X.prog X.w) X.A (eval a X.env) (fun v s₁=>wpAny (model X.prog X.w) X.A (eval b X.env) (fun u s₂=>wpAny (model X.prog X.w) X.A (compareOp op v u) (EP X pins σ Q) X.xe s₂) X.xe s₁) X.xe s
theorem nobehind (b:Expr){op:CmpOp}(h:op ≠ .In)(h2:op ≠ .NotIn):behindInMarks op b=false:=by
 have e1:(op==CmpOp.In)=false:=by cases op<;>first|rfl|exact absurd rfl h
 have e2:(op==CmpOp.NotIn)=false:=by cases op<;>first|rfl|exact absurd rfl h2
 cases b<;>simp[behindInMarks,e1,e2]
def tB (t:TE):TT:=fun σ H Q=>t σ H fun x H1=>∃c,x=.bl c/\Q c H1
theorem pt_cmp {op:CmpOp}{t:TE}(h:PC X op a b t)(h1:behindInMarks op b=false:=by first|exact nobehind _ (by decide) (by decide)|rfl):PT X (.Compare a [op] [b] pos) (tB t):=by
 intro pins s σ H Q I hw
 refine wpAny_isTrue_Compare1 (thn (h pins s σ H _ I hw) fun v s1 h1=>thn h1 fun u s2 h2=>thn h2 fun c s3 ⟨x,H1,I1,r1,q1⟩=>?_) h1
 obtain⟨d,rfl,q⟩:=q1
 cases r1
 exact wpAny_truthy_bool ⟨H1,I1,q⟩
theorem pt_val {e:Expr}{t:TE}(h:PE X e t)(he:∀whole,isTrue e X.env whole=(do let v <- whole;standAt e.pos;holding [v] (truthy v)):=by intro _;rfl):PT X e (tB t):=by
 intro pins s σ H Q I hw
 refine isTrue_plain (thn (h pins s σ H _ I hw) fun v s1 ⟨x,H1,I1,r1,q1⟩=>?_) (he _)
 obtain⟨d,rfl,q⟩:=q1
 cases r1
 exact wpAny_truthy_bool ⟨H1,I1,q⟩
variable {tA tB':TT} {rest:List Expr}
def tAnd (t u:TT):TT:=fun σ H Q=>t σ H fun c H1=>if c=true then u σ H1 Q else Q false H1
def tOr (t u:TT):TT:=fun σ H Q=>t σ H fun c H1=>if c=true then Q true H1 else u σ H1 Q
def tNot (t:TT):TT:=fun σ H Q=>t σ H fun c H1=>Q (!c) H1
theorem pw_and1 (ha:PT X a tA):PW X (.BoolOp .And [a] pos) tA:=by
 intro wh pins s σ H Q I h
 refine isTrue_and (thn (ha pins s σ H Q I h) fun c s1 e=>?_)
 cases c with
 |true=>exact isTrue_and_nil e
 |false=>exact e
theorem pw_or1 (ha:PT X a tA):PW X (.BoolOp .Or [a] pos) tA:=by
 intro wh pins s σ H Q I h
 refine isTrue_or (thn (ha pins s σ H Q I h) fun c s1 e=>?_)
 cases c with
 |false=>exact isTrue_or_nil e
 |true=>exact e
theorem pw_and (ha:PT X a tA)(hb:PW X (.BoolOp .And (b::rest) pos) tB'):PW X (.BoolOp .And (a::b::rest) pos) (tAnd tA tB'):=by
 intro wh pins s σ H Q I h
 refine isTrue_and (thn (ha pins s σ H _ I h) fun c s1 ⟨H1,I1,q1⟩=>?_)
 cases c with
 |true=>exact hb wh pins s1 σ H1 Q I1 q1
 |false=>exact⟨H1,I1,q1⟩
theorem pw_or (ha:PT X a tA)(hb:PW X (.BoolOp .Or (b::rest) pos) tB'):PW X (.BoolOp .Or (a::b::rest) pos) (tOr tA tB'):=by
 intro wh pins s σ H Q I h
 refine isTrue_or (thn (ha pins s σ H _ I h) fun c s1 ⟨H1,I1,q1⟩=>?_)
 cases c with
 |true=>exact⟨H1,I1,q1⟩
 |false=>exact hb wh pins s1 σ H1 Q I1 q1
theorem pt_not (ha:PT X a tA):PT X (.UnaryOp .Not a pos) (tNot tA):=by
 intro pins s σ H Q I h
 exact isTrue_not (ha pins s σ H (fun c H1=>Q (!c) H1) I h)
end
end L2
namespace L2
open PySem PySem.Spec PyProof.Rows
def SqL (K:PySem.W.Frag)(H:Hp)(a:Addr)(xs:List V):Prop:=
 Rd H a (.lst xs) \/
  ∃(o:Obj) (its:Array Value) (n:Nat),K.lookup a=some o/\o.cls=.type "list" /\ o.dict=none/\o.data=.seq its n/\its.size<=sizeLine/\Vals xs its.toList
def SqT (K:PySem.W.Frag)(H:Hp)(a:Addr)(xs:List V):Prop:=
 Rd H a (.tup xs) \/
  ∃(o:Obj) (its:Array Value) (n:Nat),K.lookup a=some o/\o.cls=.type "tuple" /\ o.data=.seq its n/\its.size<=sizeLine/\Vals xs its.toList
def absV:Value->Option V
 |.none=>some .non
 |.bool b=>some (.bl b)
 |.int i _=>some (.int i)
 |.str x _=>some (.str x)
 |.bytes b _=>some (.byt b)
 |.float b _=>some (.flt b)
 |.ref a=>some (.ref a)
 |.type n=>some (.ty n)
 |_=>none
theorem RelV.abs {x:V}{u:Value}(r:RelV x u):absV u=some x:=by
 cases x with
 |non=>cases r;rfl
 |bl _=>cases r;rfl
 |int _=>obtain⟨t,rfl⟩:=r;rfl
 |str _=>obtain⟨t,rfl⟩:=r;rfl
 |byt _=>obtain⟨t,rfl⟩:=r;rfl
 |flt _=>obtain⟨t,rfl⟩:=r;rfl
 |ref _=>cases r;rfl
 |ty _=>cases r;rfl
theorem RelV.inj {x y:V}{u:Value}(r:RelV x u)(q:RelV y u):x=y:=Option.some.inj (r.abs.symm.trans q.abs)
theorem Vals.inj:∀{xs ys:List V} {us:List Value},Vals xs us->Vals ys us->xs=ys
 |_,_,_,.nil,.nil=>rfl
 |_,_,_,.cons r t,.cons r' t'=>by rw[r.inj r',Vals.inj t t']
section
variable {X:Cx} {pins:List (Addr×Obj)} {σ:St} {H:Hp} {s:Shared} {a:Addr} {xs ys:List V}
theorem SqL.of {K:PySem.W.Frag}(h:H a=some (.lst xs)):SqL K H a xs:=.inl (.inl h)
theorem SqT.of {K:PySem.W.Frag}(h:H a=some (.tup xs)):SqT K H a xs:=.inl (.inl h)
theorem Inv.list (I:Inv X pins σ H s)(h:SqL X.K H a xs):∃its:List Value,Vals xs its/\PlainL s.heap a its.toArray/\xs.length<=sizeLine:=by
 rcases h with h|⟨o,its,n,hk,hc,hd,hs,hz,r⟩
 ·obtain⟨z,its,n,r,e⟩:=h.ok I.hok
  exact⟨its,r,⟨_,n,e,rfl,rfl,rfl⟩,z⟩
 ·refine⟨its.toList,r,⟨o,n,I.kIn a o hk,hc,hd,by simpa using hs⟩,?_⟩
  have e:=r.length
  simp only[Array.length_toList]at e
  omega
theorem Inv.tuple (I:Inv X pins σ H s)(h:SqT X.K H a xs):∃its:List Value,Vals xs its/\IsTup s.heap a its.toArray/\xs.length<=sizeLine:=by
 rcases h with h|⟨o,its,n,hk,hc,hs,hz,r⟩
 ·obtain⟨z,its,r,p⟩:=h.ok I.hok
  exact⟨its,r,p,z⟩
 ·refine⟨its.toList,r,⟨o,I.kIn a o hk,hc,n,by simpa using hs⟩,?_⟩
  have e:=r.length
  simp only[Array.length_toList]at e
  omega
theorem Inv.list_inj (I:Inv X pins σ H s)(h:SqL X.K H a xs)(h':SqL X.K H a ys):xs=ys:=by
 obtain⟨its,r,⟨o,n,e,_,_,d⟩,_⟩:=I.list h
 obtain⟨its',r',⟨o',n',e',_,_,d'⟩,_⟩:=I.list h'
 rw[e]at e';cases e'
 rw[d]at d'
 injection d' with d1 _
 have:its=its':=by simpa using congrArg Array.toList d1
 subst this
 exact r.inj r'
theorem Inv.tuple_inj (I:Inv X pins σ H s)(h:SqT X.K H a xs)(h':SqT X.K H a ys):xs=ys:=by
 obtain⟨its,r,⟨o,e,_,n,d⟩,_⟩:=I.tuple h
 obtain⟨its',r',⟨o',e',_,n',d'⟩,_⟩:=I.tuple h'
 rw[e]at e';cases e'
 rw[d]at d'
 injection d' with d1 _
 have:its=its':=by simpa using congrArg Array.toList d1
 subst this
 exact r.inj r'
end
abbrev Cx.wish (X:Cx)(E:Value->Shared->Prop):Cx:={X with xe:=E}
abbrev Cx.nox (X:Cx):Cx:=X.wish fun _ _=>False
theorem Cx.Ok.wish {X:Cx}(ok:X.Ok)(E:Value->Shared->Prop):(X.wish E).Ok:=
 ⟨ok.mod,ok.kind,ok.glob,ok.blt,ok.above,ok.inj,ok.has,ok.cab,ok.hd,ok.frames,ok.stk,ok.exf,ok.bs,ok.bsz,ok.noex,ok.exfs,ok.funs,ok.frf⟩
theorem Cx.Ok.unwish {X:Cx}{E:Value->Shared->Prop}(ok:(X.wish E).Ok):X.Ok:=
 ⟨ok.mod,ok.kind,ok.glob,ok.blt,ok.above,ok.inj,ok.has,ok.cab,ok.hd,ok.frames,ok.stk,ok.exf,ok.bs,ok.bsz,ok.noex,ok.exfs,ok.funs,ok.frf⟩
section
variable {X:Cx} {pins:List (Addr×Obj)} {σ:St} {H:Hp} {s:Shared} {E:Value->Shared->Prop}
theorem Inv.wish (I:Inv X pins σ H s)(E:Value->Shared->Prop):Inv (X.wish E) pins σ H s:=⟨I.ok.wish E,I.os,I.bare,I.base,I.loc,I.cell,I.free,I.freeC,I.pin,I.hok,I.len⟩
theorem Inv.unwish (I:Inv (X.wish E) pins σ H s):Inv X pins σ H s:=⟨I.ok.unwish,I.os,I.bare,I.base,I.loc,I.cell,I.free,I.freeC,I.pin,I.hok,I.len⟩
theorem SP.unwish {D:Ends}{f:Flow}{s':Shared}(h:SP (X.wish E) pins D f s'):SP X pins D f s':=by
 cases f with
 |next=>obtain⟨σ',H',I,q⟩:=h;exact⟨σ',H',I.unwish,q⟩
 |brk=>obtain⟨σ',H',I,q⟩:=h;exact⟨σ',H',I.unwish,q⟩
 |cont=>obtain⟨σ',H',I,q⟩:=h;exact⟨σ',H',I.unwish,q⟩
 |ret u=>obtain⟨v,σ',H',I,r,q⟩:=h;exact⟨v,σ',H',I.unwish,r,q⟩
theorem PSs.nox {st:List Stmt}{t:TS}(h:PSs X.nox st t):PSs X st t:=fun pins s σ H D I hw=>
 wpAny_mono (h pins s σ H D (I.wish _) hw) (fun _ _ q=>q.unwish) fun _ _ z=>False.elim z
end
section
variable {X:Cx} {st:Stmt} {rest:List Stmt} {t u:TS} {e:Expr} {te:TE} {pos:Pos}
def tNext:TS:=fun D σ H=>D.nx σ H
def tSeq (t u:TS):TS:=fun D σ H=>t {D with nx:=u D} σ H
theorem pss_nil:PSs X [] tNext:=fun _ _ σ H _ I h=>wpAny_execs_nil ⟨σ,H,I,h⟩
theorem pss_cons (h1:PS X st t)(h2:PSs X rest u):PSs X (st::rest) (tSeq t u):=by
 intro pins s σ H D I h
 refine wpAny_execs_cons (thn (h1 pins s σ H {D with nx:=u D} I h) fun f s1 q=>?_)
 cases f with
 |next=>
  obtain⟨σ',H',I',q⟩:=q
  exact h2 pins s1 σ' H' D I' q
 |ret v=>exact q
 |brk=>exact q
 |cont=>exact q
theorem pss_one (h1:PS X st t):PSs X [st] t:=by
 intro pins s σ H D I h
 refine wpAny_execs_cons (thn (h1 pins s σ H D I h) fun f s1 q=>?_)
 cases f with
 |next=>exact wpAny_execs_nil q
 |ret v=>exact q
 |brk=>exact q
 |cont=>exact q
theorem Inv.quiet {pins:List (Addr×Obj)}{σ:St}{H:Hp}{s:Shared}(I:Inv X pins σ H s):interactive X.env=false:=by simp[interactive,I.ok.kind]
def tDrop (te:TE):TS:=fun D σ H=>te σ H fun _ H1=>D.nx σ H1
theorem ps_expr (he:PE X e te)(hs:swapsWith e none pos.line X.env=pure false:=by rfl):PS X (.Expr e pos) (tDrop te):=by
 intro pins s σ H D I h
 exact wpAny_Expr_any (thn (he pins s σ H _ I h) fun v s1 ⟨x,H1,I1,r1,q1⟩=>⟨σ,H1,I1,q1⟩) I.quiet hs
def tRet (te:TE):TS:=fun D σ H=>te σ H D.rt
theorem ps_ret (he:PE X e te):PS X (.Return (some e) pos) (tRet te):=by
 intro pins s σ H D I h
 exact wpAny_Return_some (thn (he pins s σ H _ I h) fun v s1 ⟨x,H1,I1,r1,q1⟩=>⟨x,σ,H1,I1,r1,q1⟩)
def tIfS (c:TT)(t u:TS):TS:=fun D σ H=>c σ H fun b H1=>if b=true then t D σ H1 else u D σ H1
theorem ps_if {c:Expr}{a b:List Stmt}{tc:TT}(hc:PT X c tc)(ha:PSs X a t)(hb:PSs X b u):PS X (.If c a b pos) (tIfS tc t u):=by
 intro pins s σ H D I h
 refine wpAny_If (thn (hc pins s σ H _ I h) fun d s1 ⟨H1,I1,q1⟩=>?_)
 cases d with
 |true=>exact ha pins s1 σ H1 D I1 q1
 |false=>exact hb pins s1 σ H1 D I1 q1
end
abbrev TG:=V->St->Hp->(St->Hp->Prop)->Prop
abbrev TGs:=List V->St->Hp->(St->Hp->Prop)->Prop
def PG (X:Cx)(target:Expr)(t:TG):Prop:=
 ∀(pins:List (Addr×Obj)) (s:Shared) (σ:St) (H:Hp) (v:V) (u:Value) (Q:St->Hp->Prop),Inv X pins σ H s->RelV v u->t v σ H Q ->
  wpAny (model X.prog X.w) X.A (assign target X.env u) (fun _ s'=>∃σ' H',Inv X pins σ' H' s'/\Q σ' H') X.xe s
def PGs (X:Cx)(ts:List Expr)(t:TGs):Prop:=
 ∀(pins:List (Addr×Obj)) (s:Shared) (σ:St) (H:Hp) (vs:List V) (us:List Value) (Q:St->Hp->Prop),Inv X pins σ H s->Vals vs us->t vs σ H Q ->
  wpAny (model X.prog X.w) X.A (assignInOrder ((assignEach ts X.env).map (·.2)) us) (fun _ s'=>∃σ' H',Inv X pins σ' H' s'/\Q σ' H') X.xe s
section
variable {X:Cx} {pos:Pos}
def gName (i:Nat):TG:=fun v σ H Q=>Q (σ.set i (some v)) H
theorem pg_name {i:Nat}{x:Str}(hN:X.N.Nodup)(hi:X.N[i]?=some x)(hx:Loc X.env.scope x)(hf:X.fn x=true\/X.env.scope.names.lookup x=some .local:=by first|exact .inl rfl|exact .inr rfl|assumption):PG X (.Name x pos) (gName i):=by
 intro pins s σ H v u Q I r h
 exact wpAny_assign_Name (store_ok I hN hi hx r (fun s' I'=>⟨_,H,I',h⟩) hf)
def gNil:TGs:=fun vs σ H Q=>vs=[]/\Q σ H
def gCons (t:TG)(u:TGs):TGs:=fun vs σ H Q=>∃v r,vs=v::r/\t v σ H fun σ' H'=>u r σ' H' Q
theorem pgs_nil:PGs X [] gNil:=by
 intro pins s σ H vs us Q I r h
 obtain⟨e,h⟩:=h
 subst e
 cases r
 exact assignInOrder_nil ⟨σ,H,I,h⟩
theorem pgs_cons {e:Expr}{es:List Expr}{t:TG}{u:TGs}(h1:PG X e t)(h2:PGs X es u)
  (hs:(assignEach (e::es) X.env).map (·.2)=assign e X.env::(assignEach es X.env).map (·.2):=by rfl):PGs X (e::es) (gCons t u):=by
 intro pins s σ H vs us Q I r h
 obtain⟨v,vr,e1,h⟩:=h
 subst e1
 cases r with
 |cons r rr=>
  rw[hs]
  refine assignInOrder_cons (thn (h1 pins s σ H _ _ _ I r h) fun _ s1 ⟨σ1,H1,I1,q1⟩=>?_)
  exact h2 pins s1 σ1 H1 _ _ Q I1 rr q1
def gTup (K:PySem.W.Frag)(n:Nat)(t:TGs):TG:=fun v σ H Q=>∃a xs,v=.ref a/\SqT K H a xs/\xs.length=n/\t xs σ H Q
theorem pg_tup {es:List Expr}{k:Nat}{t:TGs}{n:Nat}(hc:X.calm=true)(h:PGs X es t)
  (hn:(assignEach es X.env).length=n:=by rfl) (hst:(assignEach es X.env).findIdx? (·.1)=none:=by rfl):PG X (.Tuple es k pos) (gTup X.K n t):=by
 intro pins s σ H v u Q I r hw
 obtain⟨a,xs,e1,hq,hl,hw⟩:=hw
 subst e1
 cases r
 obtain⟨its,rv,ht,hz⟩:=I.tuple hq
 refine assign_Tuple_tuple (I.ok.hd hc) ht (by simp[hn,<-hl,rv.length]) hst fun h' hx=>?_
 have I1:Inv X pins σ H {s with heap:=h' }:=I.kept (t':=s.toks) fun b o e=>hx b o (Nat.ne_of_lt (Heap.lt_size e)) e
 exact h pins _ σ H xs _ Q I1 (by simpa using rv) hw
def tAsg (te:TE)(g:TG):TS:=fun D σ H=>te σ H fun x H1=>g x σ H1 D.nx
theorem ps_set {i:Nat}{x:Str}{e:Expr}{te:TE}{pos':Pos}(hN:X.N.Nodup)(hi:X.N[i]?=some x)(hx:Loc X.env.scope x)(he:PE X e te)(hs:swapsWith e (some (.Name x pos')) pos.line X.env=pure false:=by rfl)(hf:X.fn x=true\/X.env.scope.names.lookup x=some .local:=by first|exact .inl rfl|exact .inr rfl|assumption):
  PS X (.Assign [.Name x pos'] e pos) (tAsg te (gName i)):=by
 intro pins s σ H D I h
 refine wpAny_Assign_Name (thn (he pins s σ H _ I h) fun v s1 ⟨y,H1,I1,r1,q1⟩=>?_) hs
 exact store_ok I1 hN hi hx r1 (fun s2 I2=>⟨_,H1,I2,q1⟩) hf
end
section
variable {X:Cx} {pos:Pos}
def tWhile (c:TT)(tb:TS):TS:=fun D σ H=>∃W:Nat->St->Hp->Prop,(∃m,W m σ H)/\∀m σ H,W m σ H ->
 c σ H fun b H1=>if b=true then ∃N:St->Hp->Prop,(∀σ' H',N σ' H'->∃m',m'<m/\W m' σ' H')/\tb {D with nx:=N,ct:=N,bk:=D.nx} σ H1 else D.nx σ H1
theorem ps_while {c:Expr}{body:List Stmt}{tc:TT}{tb:TS}(hp:PassesOwn (model X.prog X.w) X.A X.env X.xe)(hc:PT X c tc)(hb:PSs X body tb):PS X (.While c body [] pos) (tWhile tc tb):=by
 intro pins s σ H D I h
 obtain⟨W,⟨m0,w0⟩,turn⟩:=h
 refine wpAny_While (codeAny_whileLoop (fun n s'=>∃σ' H',Inv X pins σ' H' s'/\W n σ' H') ?_ m0 ⟨σ,H,I,w0⟩)
 rintro n s1 ⟨σ1,H1,I1,w1⟩
 refine wpAny_passesOwn hp (thn (hc pins s1 σ1 H1 _ I1 (turn n σ1 H1 w1)) fun b s2 ⟨H2,I2,q2⟩=>?_)
 cases b with
 |true=>
  obtain⟨N,hN,q2⟩:=q2
  rw[if_pos rfl]
  refine wpAny_passesOwn hp (thn (hb pins s2 σ1 H2 _ I2 q2) fun f s3 q3=>?_)
  cases f with
  |next=>
   obtain⟨σ3,H3,I3,n3⟩:=q3
   obtain⟨m',hm,w3⟩:=hN σ3 H3 n3
   exact⟨m',hm,σ3,H3,I3,w3⟩
  |cont=>
   obtain⟨σ3,H3,I3,n3⟩:=q3
   obtain⟨m',hm,w3⟩:=hN σ3 H3 n3
   exact⟨m',hm,σ3,H3,I3,w3⟩
  |brk=>exact q3
  |ret v=>exact q3
 |false=>
  rw[if_neg Bool.false_ne_true]
  exact wpAny_execs_nil ⟨σ1,H2,I2,q2⟩
end
structure It where
 go:Nat->Hp->Prop
 yld:Nat->Hp->V->Hp->Prop
 stop:Nat->Hp->Prop
def FpOk (X:Cx)(pins:List (Addr×Obj))(H:Hp)(b:Addr):Prop:=
 H b=none/\b≠X.env.locals/\b∉X.fs/\(b∈X.ex\/X.s₀.heap.objs.size<=b)/\(∀x c,X.env.cells.lookup x=some c->c≠b)/\∀p∈X.pn++pins,p.1≠b
theorem Inv.fpOk {X:Cx}{pins:List (Addr×Obj)}{σ:St}{H H':Hp}{s:Shared}{b:Addr}(I:Inv X pins σ H s)(hb:s.heap.objs.size<=b)(hn:H' b=none):FpOk X pins H' b:=by
 refine⟨hn,Nat.ne_of_gt (Nat.lt_of_lt_of_le I.lt hb),I.nofs hb,.inr (Nat.le_trans I.sz hb),fun x c e z=>?_,fun p hp z=>?_⟩
 ·obtain⟨v,q⟩:=I.cell x c e
  exact absurd (Nat.lt_of_lt_of_le q.lt (by rw[z];exact hb)) (Nat.lt_irrefl _)
 ·exact absurd (Nat.lt_of_lt_of_le (Heap.lt_size (I.pin p hp).1) (by rw[z];exact hb)) (Nat.lt_irrefl _)
structure Turn (P:Program)(w:World)(K:PySem.W.Frag)(tg:Expr)(J:It)(fp:List Addr)(it:Addr)(tn:Nat->Heap->Prop):Prop where
 mem:it∈fp
 obj:∀i h,tn i h->∀b∈fp,∃o,h.get? b=some o/\∀v,o.data ≠ .cell v
 keep:∀i h h',tn i h->(∀b∈fp,∀o,h.get? b=some o->h'.get? b=some o)->tn i h'
 item:∀(X:Cx),X.prog=P->X.w=w->X.K=K->X.calm=true->∀(i:Nat) (pins:List (Addr×Obj)) (s:Shared) (σ:St) (H:Hp) (E:Value->Shared->Prop),Inv X pins σ H s->(∀b∈fp,FpOk X pins H b)->tn i s.heap->J.go i H ->
  wpAny (model P w) X.A (pyNext (.ref it)) (fun r s1=>∃u,r=some u /\
   wpAny (model P w) X.A (letOwnedTupleGo tg (.ref it) u) (fun _ s2=>∃x H',Inv X pins σ H' s2/\RelV x u/\J.yld i H x H'/\tn (i+1) s2.heap/\∀b∈fp,H' b=none) E s1) E s
 done:∀(X:Cx),X.prog=P->X.w=w->X.K=K->X.calm=true->∀(i:Nat) (pins:List (Addr×Obj)) (s:Shared) (σ:St) (H:Hp) (E:Value->Shared->Prop),Inv X pins σ H s->(∀b∈fp,FpOk X pins H b)->tn i s.heap->J.stop i H ->
  wpAny (model P w) X.A (pyNext (.ref it)) (fun r s1=>r=none/\Inv X pins σ H s1) E s
 self:∀(A:Around) (i:Nat) (s:Shared) (Q:Value->Shared->Prop) (E:Value->Shared->Prop),tn i s.heap->Q (.ref it) s->wpAny (model P w) A (pyIter (.ref it)) Q E s
abbrev TI:=St->Hp->(It->Hp->Prop)->Prop
def PIE (X:Cx)(pins:List (Addr×Obj))(σ:St)(tg:Expr)(R:It->Hp->Prop)(itv:Value)(s2:Shared):Prop:=
 ∃(it:Addr) (fp:List Addr) (tn:Nat->Heap->Prop) (J:It) (H':Hp),itv=.ref it/\Inv X pins σ H' s2/\Turn X.prog X.w X.K tg J fp it tn/\tn 0 s2.heap/\(∀b∈fp,FpOk X pins H' b)/\R J H'
def PI (X:Cx)(tg iter:Expr)(wi:TI):Prop:=
 ∀(pins:List (Addr×Obj)) (s:Shared) (σ:St) (H:Hp) (R:It->Hp->Prop),Inv X pins σ H s->wi σ H R ->
  wpAny (model X.prog X.w) X.A (eval iter X.env) (fun v s1=>wpAny (model X.prog X.w) X.A (pyIter v) (PIE X pins σ tg R) X.xe s1) X.xe s
theorem go_of {M:Model}{A:Around}{E:Value->Shared->Prop}{s:Shared}{tg:Expr}{it:Addr}{u:Value}{o:Obj}{n:String}{vs:Array Value}{Q:Unit->Shared->Prop}(ho:s.heap.get? it=some o)(hc:o.cls=.type n)(hd:o.data=.fields vs)
    (hn:["enumerate","zip","dict_itemiterator","dict_reverseitemiterator","odict_iterator","itertools.zip_longest","itertools.pairwise"].contains n=false) (hQ:Q () s):wpAny M A (letOwnedTupleGo tg (.ref it) u) Q E s:=by
  unfold letOwnedTupleGo
  cases tg<;>first
    | exact wpAny_pure hQ
    | (cases u<;>first
        | exact wpAny_pure hQ
        | (refine wpAny_bind (wpAny_load ho ?_)
           rw[hc,hd]
           show wpAny M A (if (["enumerate","zip","dict_itemiterator","dict_reverseitemiterator","odict_iterator","itertools.zip_longest","itertools.pairwise"].contains n&&vs[0]? == some (rawInt _))=true then _ else _) Q E s
           rw[if_neg (by intro h;rw[hn,Bool.false_and]at h;cases h)]
           exact wpAny_pure hQ))
def Itl (K:PySem.W.Frag)(a:Addr):It:=
 ⟨fun i H=>∃xs x,SqL K H a xs/\xs[i]?=some x,fun i H x H'=>H'=H/\∀xs,SqL K H a xs->xs[i]?=some x,fun i H=>∃xs,SqL K H a xs/\xs.length<=i⟩
def Itt (K:PySem.W.Frag)(a:Addr):It:=
 ⟨fun i H=>∃xs x,SqT K H a xs/\xs[i]?=some x,fun i H x H'=>H'=H/\∀xs,SqT K H a xs->xs[i]?=some x,fun i H=>∃xs,SqT K H a xs/\xs.length<=i⟩
def Itr (lo:Int)(n:Nat):It:=⟨fun i _=>i<n,fun i H x H'=>H'=H/\x=.int (lo+i),fun i _=>n<=i⟩
theorem turn_list {P:Program}{w:World}{K:PySem.W.Frag}{tg:Expr}(a it:Addr):Turn P w K tg (Itl K a) [it] it (fun i h=>h.IsListIter it a i) where
 mem:=by simp
 obj:=fun i h st b hb=>by
  have e:b=it:=by simpa using hb
  subst e
  obtain⟨o,e,c,d⟩:=st
  exact⟨o,e,fun v z=>by rw[d]at z;cases z⟩
 keep:=fun i h h' st k=>st.at fun o e=>k it (by simp) o e
 item:=by
  intro X hP hw hK hc i pins s σ H E I hf st hg
  subst hP hw hK
  obtain⟨xs,x,hq,hx⟩:=hg
  obtain⟨its,rv,p,hz⟩:=I.list hq
  obtain⟨u,hu,ru⟩:=rv.get hx
  obtain⟨f0,f1,f2,f3,f4,f5⟩:=hf it (by simp)
  refine wpAny_pyNext_list_item st p.isList (x:=u) (by simpa using hu) fun h' st' sb=>?_
  have I1:Inv X pins σ H {s with heap:=h' }:=I.turned (t':=s.toks) (fun b o hb e=>(sb.2 b hb).trans e) f0 f1 f3 f4 f5
  obtain⟨o,e,c,d⟩:=id st'
  exact⟨u,rfl,go_of (s:={s with heap:=h' }) e c d (by decide) ⟨x,H,I1,ru,⟨rfl,fun ys hy=>by rw[I.list_inj hy hq];exact hx⟩,st',fun b hb=>(hf b hb).1⟩⟩
 done:=by
  intro X hP hw hK hc i pins s σ H E I hf st hg
  subst hP hw hK
  obtain⟨xs,hq,hx⟩:=hg
  obtain⟨its,rv,p,hz⟩:=I.list hq
  obtain⟨f0,f1,f2,f3,f4,f5⟩:=hf it (by simp)
  have hl:=rv.length
  exact wpAny_pyNext_list_end (I.ok.hd hc) st p.isList (by simp;omega) fun h' eb=>⟨rfl,I.turned (t':=s.toks) (fun b o hb e=>eb b o hb e) f0 f1 f3 f4 f5⟩
 self:=fun _ _ _ _ _ st h=>wpAny_pyIter_listiter st h
theorem turn_tuple {P:Program}{w:World}{K:PySem.W.Frag}{tg:Expr}(a it:Addr):Turn P w K tg (Itt K a) [it] it (fun i h=>h.IsTupleIter it a i) where
 mem:=by simp
 obj:=fun i h st b hb=>by
  have e:b=it:=by simpa using hb
  subst e
  obtain⟨o,e,c,d⟩:=st
  exact⟨o,e,fun v z=>by rw[d]at z;cases z⟩
 keep:=fun i h h' st k=>st.at fun o e=>k it (by simp) o e
 item:=by
  intro X hP hw hK hc i pins s σ H E I hf st hg
  subst hP hw hK
  obtain⟨xs,x,hq,hx⟩:=hg
  obtain⟨its,rv,p,hz⟩:=I.tuple hq
  obtain⟨u,hu,ru⟩:=rv.get hx
  obtain⟨f0,f1,f2,f3,f4,f5⟩:=hf it (by simp)
  refine wpAny_pyNext_tuple_item st (show s.heap.IsTuple a its.toArray from p) (x:=u) (by simpa using hu) fun h' st' sb=>?_
  have I1:Inv X pins σ H {s with heap:=h' }:=I.turned (t':=s.toks) (fun b o hb e=>(sb.2 b hb).trans e) f0 f1 f3 f4 f5
  obtain⟨o,e,c,d⟩:=id st'
  exact⟨u,rfl,go_of (s:={s with heap:=h' }) e c d (by decide) ⟨x,H,I1,ru,⟨rfl,fun ys hy=>by rw[I.tuple_inj hy hq];exact hx⟩,st',fun b hb=>(hf b hb).1⟩⟩
 done:=by
  intro X hP hw hK hc i pins s σ H E I hf st hg
  subst hP hw hK
  obtain⟨xs,hq,hx⟩:=hg
  obtain⟨its,rv,p,hz⟩:=I.tuple hq
  obtain⟨f0,f1,f2,f3,f4,f5⟩:=hf it (by simp)
  have hl:=rv.length
  exact wpAny_pyNext_tuple_end (I.ok.hd hc) st (show s.heap.IsTuple a its.toArray from p) (by simp;omega) fun h' eb=>⟨rfl,I.turned (t':=s.toks) (fun b o hb e=>eb b o hb e) f0 f1 f3 f4 f5⟩
 self:=fun _ _ _ _ _ st h=>wpAny_pyIter_tupleiter st h
theorem turn_range {P:Program}{w:World}{K:PySem.W.Frag}{tg:Expr}(it:Addr)(lo:Int)(n:Nat):Turn P w K tg (Itr lo n) [it] it (fun i h=>IsRangeIter h it (lo+(i:Nat)*1) ((n:Int)-(i:Nat)) 1) where
 mem:=by simp
 obj:=fun i h st b hb=>by
  have e:b=it:=by simpa using hb
  subst e
  exact⟨_,st,fun v z=>by
   have z':Data.fields _=Data.cell v:=z
   cases z'⟩
 keep:=fun i h h' st k=>k it (by simp) _ st
 item:=by
  intro X hP hw hK hc i pins s σ H E I hf st hg
  subst hP hw hK
  obtain⟨f0,f1,f2,f3,f4,f5⟩:=hf it (by simp)
  have W:=Walks.range (prog:=X.prog) (w:=X.w) (I.ok.hd hc) it lo 1 n
  refine W.item i s _ _ hg st fun v h' tk hv st' kk=>?_
  obtain⟨t,rfl⟩:=hv
  have I1:Inv X pins σ H {s with heap:=h',toks:=tk}:=I.turned (fun b o hb e=>kk b o (by simpa using hb) e) f0 f1 f3 f4 f5
  refine⟨_,rfl,go_of (s:={s with heap:=h',toks:=tk}) (n := "range_iterator") st' rfl rfl (by decide) ⟨.int (lo+i),H,I1,⟨t,?_⟩,⟨rfl,rfl⟩,st',fun b hb=>(hf b hb).1⟩⟩
  rw[Int.mul_one]
 done:=by
  intro X hP hw hK hc i pins s σ H E I hf st hg
  subst hP hw hK
  obtain⟨f0,f1,f2,f3,f4,f5⟩:=hf it (by simp)
  exact wpAny_pyNext_range_end (I.ok.hd hc) st (by have:n<=i:=hg;omega) fun h' eb=>⟨rfl,I.turned (t':=s.toks) (fun b o hb e=>eb b o hb e) f0 f1 f3 f4 f5⟩
 self:=fun _ _ _ _ _ st h=>wpAny_pyIter_rangeiter st h
end L2
namespace L2
open PySem PySem.Spec PyProof.Rows
section
variable {X:Cx} {tg:Expr}
def iList (K:PySem.W.Frag)(tl:TE):TI:=fun σ H R=>tl σ H fun x H1=>∃a,x=.ref a/\(∃xs,SqL K H1 a xs)/\R (Itl K a) H1
def iTup (K:PySem.W.Frag)(tl:TE):TI:=fun σ H R=>tl σ H fun x H1=>∃a,x=.ref a/\(∃xs,SqT K H1 a xs)/\R (Itt K a) H1
theorem pi_list {l:Expr}{tl:TE}(hl:PE X l tl):PI X tg l (iList X.K tl):=by
 intro pins s σ H R I h
 refine thn (hl pins s σ H _ I h) fun v s1 ⟨x,H1,I1,r1,q1⟩=>?_
 obtain⟨a,e,⟨xs,hq⟩,q⟩:=q1
 subst e
 cases r1
 obtain⟨its,rv,p,hz⟩:=I1.list hq
 refine wpAny_pyIter_list p.isList ?_
 refine⟨s1.heap.objs.size,[s1.heap.objs.size],_,_,H1,rfl,I1.kept (t':=s1.toks) fun b o e=>Heap.get?_push_of_some _ e,turn_list a _,⟨_,Heap.get?_push_size _ rfl,rfl,rfl⟩,fun b hb=>?_,q⟩
 have e:b=s1.heap.objs.size:=by simpa using hb
 subst e
 exact I1.fpOk (Nat.le_refl _) (I1.hok.fresh (Nat.le_refl _))
theorem pi_tup {l:Expr}{tl:TE}(hl:PE X l tl):PI X tg l (iTup X.K tl):=by
 intro pins s σ H R I h
 refine thn (hl pins s σ H _ I h) fun v s1 ⟨x,H1,I1,r1,q1⟩=>?_
 obtain⟨a,e,⟨xs,hq⟩,q⟩:=q1
 subst e
 cases r1
 obtain⟨its,rv,p,hz⟩:=I1.tuple hq
 refine wpAny_pyIter_tuple (show s1.heap.IsTuple a its.toArray from p) ?_
 refine⟨s1.heap.objs.size,[s1.heap.objs.size],_,_,H1,rfl,I1.kept (t':=s1.toks) fun b o e=>Heap.get?_push_of_some _ e,turn_tuple a _,⟨_,Heap.get?_push_size _ rfl,rfl,rfl⟩,fun b hb=>?_,q⟩
 have e:b=s1.heap.objs.size:=by simpa using hb
 subst e
 exact I1.fpOk (Nat.le_refl _) (I1.hok.fresh (Nat.le_refl _))
theorem range_it {pins:List (Addr×Obj)}{σ:St}{H:Hp}{s:Shared}{R:It->Hp->Prop}{E:Value->Shared->Prop}{lo hi:Int}{t u v:Tok}{tk:Nat}(I:Inv X pins σ H s)(h1 : -(2 ^ 62)<=lo)(h2:lo<2 ^ 62)(h3 : -(2 ^ 62)<=hi)(h4:hi<2 ^ 62)
  (q:R (Itr lo (hi-lo).toNat) H):wpAny (model X.prog X.w) X.A (pyIter (.ref s.heap.objs.size)) (PIE X pins σ tg R) E {s with heap:=s.heap.push {cls:=.type "range",data:=.fields #[.int lo t,.int hi u,.int 1 v]},toks:=tk}:=by
 refine wpAny_pyIter_range (IsRange.new ..) (small_one h1 h2 h3 h4) ?_
 have I1:Inv X pins σ H {s with heap:=s.heap.push {cls:=.type "range",data:=.fields #[.int lo t,.int hi u,.int 1 v]},toks:=tk}:=I.kept fun b o e=>Heap.get?_push_of_some _ e
 refine⟨(s.heap.push {cls:=.type "range",data:=.fields #[.int lo t,.int hi u,.int 1 v]}).objs.size,[(s.heap.push {cls:=.type "range",data:=.fields #[.int lo t,.int hi u,.int 1 v]}).objs.size],_,_,H,rfl,
  I1.kept (t':=tk) fun b o e=>Heap.get?_push_of_some _ e,turn_range _ lo (hi-lo).toNat,?_,fun b hb=>?_,q⟩
 ·have e1:lo+((0:Nat):Int)*1=lo:=by simp
  have e2:(((hi-lo).toNat:Nat):Int)-((0:Nat):Int)=Builtin.Range.rangeSize lo hi 1:=by rw[rangeSize_one];split<;>omega
  show IsRangeIter _ _ (lo+((0:Nat):Int)*1) ((((hi-lo).toNat:Nat):Int)-((0:Nat):Int)) 1
  rw[e1,e2]
  exact Heap.get?_push_size _ rfl
 ·have e:b=(s.heap.push {cls:=.type "range",data:=.fields #[.int lo t,.int hi u,.int 1 v]}).objs.size:=by simpa using hb
  subst e
  exact I1.fpOk (Nat.le_refl _) (I1.hok.fresh (Nat.le_refl _))
def iRng1 (ta:TA):TI:=fun σ H R=>ta σ H fun vs H1=>∃j:Int,vs=[.int j] /\ -(2 ^ 62)<=j/\j<2 ^ 62/\R (Itr 0 j.toNat) H1
theorem pi_range1 {a:Expr}{ta:TA}{p pos:Pos}(hg:Gl X "range")(hm:X.mg "range"=none)(ha:PA X [a] ta)(hs:starEach [a] X.env=[(false,eval a X.env)]:=by rfl):PI X tg (.Call (.Name "range" p) [a] [] pos) (iRng1 ta):=by
 intro pins s σ H R I h
 refine Call_ (ld_blt I hg hm boot_range (PyProof.Rows.callWith_type1 (thn (ha pos pins s σ H _ I h) fun us s1 ⟨vs,H1,I1,r1,q1⟩=>?_) hs rfl))
 obtain⟨j,e,q1,q2,q⟩:=q1
 subst e
 cases r1 with
 |cons r rr=>
  cases rr
  obtain⟨t,rfl⟩:=r
  exact call_range_1 (range_it I1 (by omega) (by omega) q1 q2 (by simpa using q))
def tFor (wi:TI)(g:TG)(tb:TS):TS:=fun D σ H=>wi σ H fun J H1=>∃W:Nat->Nat->St->Hp->Prop,(∃m,W 0 m σ H1)/\∀i m σ H,W i m σ H ->
 (J.stop i H/\D.nx σ H)\/(J.go i H/\∃N:St->Hp->Prop,(∀σ' H',N σ' H'->∃m',m'<m/\W (i+1) m' σ' H')/\∀x H',J.yld i H x H'->g x σ H' fun σ2 H2=>tb {D with nx:=N,ct:=N,bk:=D.nx} σ2 H2)
def pinsAt (fp:List Addr)(h:Heap):List (Addr×Obj):=fp.filterMap fun b=>(h.get? b).map fun o=>(b,o)
theorem mem_pinsAt {fp:List Addr}{h:Heap}{b:Addr}{o:Obj}(hb:b∈fp)(e:h.get? b=some o):(b,o)∈pinsAt fp h:=List.mem_filterMap.mpr ⟨b,hb,by rw[e];rfl⟩
theorem of_pinsAt {fp:List Addr}{h:Heap}{p:Addr×Obj}(hp:p∈pinsAt fp h):p.1∈fp/\h.get? p.1=some p.2:=by
 obtain⟨b,hb,e⟩:=List.mem_filterMap.mp hp
 cases q:h.get? b with
 |none=>rw[q]at e;cases e
 |some o=>
  rw[q]at e
  have e':(b,o)=p:=Option.some.inj e
  subst e'
  exact⟨hb,q⟩
theorem Inv.pinned {pins:List (Addr×Obj)}{σ:St}{H:Hp}{s:Shared}{fp:List Addr}(I:Inv X pins σ H s)(hf:∀b∈fp,FpOk X pins H b)(ho:∀b∈fp,∃o,s.heap.get? b=some o/\∀v,o.data ≠ .cell v):Inv X (pins++pinsAt fp s.heap) σ H s:=
 I.pins_of fun p hp=>(List.mem_append.mp hp).elim (fun z=>I.pin p (List.mem_append_right _ z)) fun z=>by
  obtain⟨hb,e⟩:=of_pinsAt z
  obtain⟨f0,f1,f2,_⟩:=hf p.1 hb
  obtain⟨o,e',d⟩:=ho p.1 hb
  rw[e]at e';cases e'
  exact⟨e,f0,f1,f2,d⟩
theorem Inv.unpinned {pins pl:List (Addr×Obj)}{σ:St}{H:Hp}{s:Shared}(I:Inv X (pins++pl) σ H s):Inv X pins σ H s:=I.pins_of fun p hp=>I.pin p (List.mem_append_right _ (List.mem_append_left _ hp))
theorem ps_for {iter:Expr}{body:List Stmt}{wi:TI}{g:TG}{tb:TS}{pos:Pos}(hp:PassesOwn (model X.prog X.w) X.A X.env X.xe)(hc:X.calm=true)(hi:PI X tg iter wi)(hg:PG X tg g)(hb:PSs X body tb)
  (hs:∀x,foldedSetIterable iter X.env x=pure x:=by intro _;rfl):PS X (.For tg iter body [] pos) (tFor wi g tb):=by
 intro pins s σ H D I h
 refine wpAny_For (thn (hi pins s σ H _ I h) fun v s1 h1=>thn h1 fun itv s2 h2=>?_) hs
 obtain⟨it,fp,tn,J,H2,e,I2,T,st2,f2,W,⟨m0,w0⟩,turn⟩:=h2
 subst e
 -- what stays true of the iterator's objects through the loop
 have stat:∀{H':Hp},(∀b∈fp,H' b=none)->∀b∈fp,FpOk X pins H' b:=fun hn b hb=>⟨hn b hb,(f2 b hb).2⟩
 refine codeAny_forLoop_any (fun n s'=>∃i σ' H',Inv X pins σ' H' s'/\tn i s'.heap/\(∀b∈fp,H' b=none)/\W i n σ' H') ?_ m0 ⟨0,σ,H2,I2,st2,fun b hb=>(f2 b hb).1,w0⟩
 rintro n s3 ⟨i,σ3,H3,I3,st3,fr3,w3⟩
 rcases turn i n σ3 H3 w3 with ⟨stop,qn⟩|⟨go,N,hN,step⟩
 ·refine wpAny_passesOwn hp (thn (T.done X rfl rfl rfl hc i pins s3 σ3 H3 X.xe I3 (stat fr3) st3 stop) fun r s4 ⟨hr,I4⟩=>?_)
  subst hr
  exact wpAny_execs_nil ⟨σ3,H3,I4,qn⟩
 ·refine wpAny_passesOwn hp (thn (T.item X rfl rfl rfl hc i pins s3 σ3 H3 X.xe I3 (stat fr3) st3 go) fun r s4 ⟨u,hr,h4⟩=>?_)
  subst hr
  refine wpAny_passesOwn hp (thn h4 fun _ s5 ⟨x,H5,I5,r5,y5,st5,fr5⟩=>?_)
  have I5':=I5.pinned (stat fr5) (T.obj _ _ st5)
  refine wpAny_passesOwn hp (thn (hg _ s5 σ3 H5 x u _ I5' r5 (step x H5 y5)) fun _ s6 ⟨σ6,H6,I6,q6⟩=>?_)
  refine wpAny_passesOwn hp (thn (hb _ s6 σ6 H6 _ I6 q6) fun f s7 q7=>?_)
  have again:∀{σ7:St} {H7:Hp},Inv X (pins++pinsAt fp s5.heap) σ7 H7 s7->N σ7 H7->∃m,m<n/\∃i σ' H',Inv X pins σ' H' s7/\tn i s7.heap/\(∀b∈fp,H' b=none)/\W i m σ' H':=fun {σ7 H7} I7 n7=>by
   obtain⟨m',hm,w7⟩:=hN σ7 H7 n7
   refine⟨m',hm,i+1,σ7,H7,I7.unpinned,T.keep _ _ _ st5 fun b hb o e=>(I7.pin (b,o) (List.mem_append_right _ (List.mem_append_right _ (mem_pinsAt hb e)))).1,fun b hb=>?_,w7⟩
   obtain⟨o,e,d⟩:=T.obj _ _ st5 b hb
   exact (I7.pin (b,o) (List.mem_append_right _ (List.mem_append_right _ (mem_pinsAt hb e)))).2.1
  cases f with
  |next=>obtain⟨σ7,H7,I7,n7⟩:=q7;exact again I7 n7
  |cont=>obtain⟨σ7,H7,I7,n7⟩:=q7;exact again I7 n7
  |brk=>obtain⟨σ7,H7,I7,q7⟩:=q7;exact⟨σ7,H7,I7.unpinned,q7⟩
  |ret v=>obtain⟨x7,σ7,H7,I7,r7,q7⟩:=q7;exact⟨x7,σ7,H7,I7.unpinned,r7,q7⟩
end
theorem for_list {K:PySem.W.Frag}{a:Addr}{xs:List V}{g:TG}{tb:TS}{D:Ends}{σ:St}{H:Hp}(Pv:Nat->St->Hp->Prop)(h0:Pv 0 σ H)(hl:∀i σ H,i<=xs.length->Pv i σ H->SqL K H a xs)
  (hs:∀i x σ H,xs[i]?=some x->Pv i σ H->g x σ H fun σ2 H2=>tb {D with nx:=Pv (i+1),ct:=Pv (i+1),bk:=D.nx} σ2 H2) (hd:∀σ H,Pv xs.length σ H->D.nx σ H):
  ∃W:Nat->Nat->St->Hp->Prop,(∃m,W 0 m σ H)/\∀i m σ H,W i m σ H ->
   ((Itl K a).stop i H/\D.nx σ H)\/((Itl K a).go i H/\∃N:St->Hp->Prop,(∀σ' H',N σ' H'->∃m',m'<m/\W (i+1) m' σ' H')/\∀x H',(Itl K a).yld i H x H'->g x σ H' fun σ2 H2=>tb {D with nx:=N,ct:=N,bk:=D.nx} σ2 H2):=by
 refine⟨fun i m σ H=>m=xs.length-i/\i<=xs.length/\Pv i σ H,⟨xs.length,by simp,Nat.zero_le _,h0⟩,?_⟩
 rintro i m σ H ⟨rfl,hi,p⟩
 have q:=hl i σ H hi p
 by_cases hlt:i<xs.length
 ·refine .inr ⟨⟨xs,xs[i],q,by simp[hlt]⟩,Pv (i+1),fun σ' H' p'=>⟨xs.length-(i+1),by omega,rfl,hlt,p'⟩,fun x H' y=>?_⟩
  obtain⟨e,y⟩:=y
  subst e
  exact hs i x σ _ (y xs q) p
 ·have e:i=xs.length:=by omega
  subst e
  exact .inl ⟨⟨xs,q,Nat.le_refl _⟩,hd σ H p⟩
theorem for_tup {K:PySem.W.Frag}{a:Addr}{xs:List V}{g:TG}{tb:TS}{D:Ends}{σ:St}{H:Hp}(Pv:Nat->St->Hp->Prop)(h0:Pv 0 σ H)(hl:∀i σ H,i<=xs.length->Pv i σ H->SqT K H a xs)
  (hs:∀i x σ H,xs[i]?=some x->Pv i σ H->g x σ H fun σ2 H2=>tb {D with nx:=Pv (i+1),ct:=Pv (i+1),bk:=D.nx} σ2 H2) (hd:∀σ H,Pv xs.length σ H->D.nx σ H):
  ∃W:Nat->Nat->St->Hp->Prop,(∃m,W 0 m σ H)/\∀i m σ H,W i m σ H ->
   ((Itt K a).stop i H/\D.nx σ H)\/((Itt K a).go i H/\∃N:St->Hp->Prop,(∀σ' H',N σ' H'->∃m',m'<m/\W (i+1) m' σ' H')/\∀x H',(Itt K a).yld i H x H'->g x σ H' fun σ2 H2=>tb {D with nx:=N,ct:=N,bk:=D.nx} σ2 H2):=by
 refine⟨fun i m σ H=>m=xs.length-i/\i<=xs.length/\Pv i σ H,⟨xs.length,by simp,Nat.zero_le _,h0⟩,?_⟩
 rintro i m σ H ⟨rfl,hi,p⟩
 have q:=hl i σ H hi p
 by_cases hlt:i<xs.length
 ·refine .inr ⟨⟨xs,xs[i],q,by simp[hlt]⟩,Pv (i+1),fun σ' H' p'=>⟨xs.length-(i+1),by omega,rfl,hlt,p'⟩,fun x H' y=>?_⟩
  obtain⟨e,y⟩:=y
  subst e
  exact hs i x σ _ (y xs q) p
 ·have e:i=xs.length:=by omega
  subst e
  exact .inl ⟨⟨xs,q,Nat.le_refl _⟩,hd σ H p⟩
theorem for_range {lo:Int}{n:Nat}{g:TG}{tb:TS}{D:Ends}{σ:St}{H:Hp}(Pv:Nat->St->Hp->Prop)(h0:Pv 0 σ H)
  (hs:∀i σ H,i<n->Pv i σ H->g (.int (lo+i)) σ H fun σ2 H2=>tb {D with nx:=Pv (i+1),ct:=Pv (i+1),bk:=D.nx} σ2 H2) (hd:∀σ H,Pv n σ H->D.nx σ H):
  ∃W:Nat->Nat->St->Hp->Prop,(∃m,W 0 m σ H)/\∀i m σ H,W i m σ H ->
   ((Itr lo n).stop i H/\D.nx σ H)\/((Itr lo n).go i H/\∃N:St->Hp->Prop,(∀σ' H',N σ' H'->∃m',m'<m/\W (i+1) m' σ' H')/\∀x H',(Itr lo n).yld i H x H'->g x σ H' fun σ2 H2=>tb {D with nx:=N,ct:=N,bk:=D.nx} σ2 H2):=by
 refine⟨fun i m σ H=>m=n-i/\i<=n/\Pv i σ H,⟨n,by simp,Nat.zero_le _,h0⟩,?_⟩
 rintro i m σ H ⟨rfl,hi,p⟩
 by_cases hlt:i<n
 ·refine .inr ⟨hlt,Pv (i+1),fun σ' H' p'=>⟨n-(i+1),by omega,rfl,hlt,p'⟩,fun x H' y=>?_⟩
  obtain⟨e,y⟩:=y
  subst e y
  exact hs i σ _ hlt p
 ·have e:i=n:=by omega
  subst e
  exact .inl ⟨Nat.le_refl _,hd σ H p⟩
end L2
namespace L2
open PySem PySem.Spec PyProof.Rows
abbrev R2:=V->V->Hp->VK->Prop
def OpR (X:Cx)(f:Value->Value->Sem Value)(r:R2):Prop:=
 ∀(pins:List (Addr×Obj)) (s:Shared) (σ:St) (H:Hp) (x y:V) (v u:Value) (Q:VK),Inv X pins σ H s->RelV x v->RelV y u->r x y H Q ->
  wpAny (model X.prog X.w) X.A (f v u) (EP X pins σ Q) X.xe s
def UnR (X:Cx)(f:Value->Sem Value)(r:V->Hp->VK->Prop):Prop:=
 ∀(pins:List (Addr×Obj)) (s:Shared) (σ:St) (H:Hp) (x:V) (v:Value) (Q:VK),Inv X pins σ H s->RelV x v->r x H Q ->
  wpAny (model X.prog X.w) X.A (f v) (EP X pins σ Q) X.xe s
def CallR (X:Cx)(f:Value)(r:List V->Hp->VK->Prop):Prop:=
 ∀(pins:List (Addr×Obj)) (s:Shared) (σ:St) (H:Hp) (xs:List V) (us:List Value) (Q:VK),Inv X pins σ H s->Vals xs us->r xs H Q ->
  wpAny (model X.prog X.w) X.A (call f us) (EP X pins σ Q) X.xe s
def tOp (r:R2)(ta tb:TE):TE:=fun σ H Q=>ta σ H fun x H1=>tb σ H1 fun y H2=>r x y H2 Q
def tUn (r:V->Hp->VK->Prop)(ta:TE):TE:=fun σ H Q=>ta σ H fun x H1=>r x H1 Q
def rI (C:Int->Int->Prop)(g:Int->Int->V):R2:=fun x y H Q=>∃i j,x=.int i/\y=.int j/\C i j/\Q (g i j) H
def rI0 (g:Int->Int->V):R2:=fun x y H Q=>∃i j,x=.int i/\y=.int j/\Q (g i j) H
def rU (g:Int->V):V->Hp->VK->Prop:=fun x H Q=>∃i,x=.int i/\Q (g i) H
section
variable {X:Cx} {a b c:Expr} {ta tb tc:TE} {pos:Pos}
theorem binT (ha:PE X a ta)(hb:PE X b tb){pins:List (Addr×Obj)}{s:Shared}{σ:St}{H:Hp}{R:V->V->Hp->Prop}(I:Inv X pins σ H s)
  (h:ta σ H fun x H1=>tb σ H1 fun y H2=>R x y H2) {Q:Value->Shared->Prop} {f:Value->Value->Sem Value}
  (hf:∀v u s2 x y H2,Inv X pins σ H2 s2->RelV x v->RelV y u->R x y H2->wpAny (model X.prog X.w) X.A (f v u) Q X.xe s2):
  wpAny (model X.prog X.w) X.A (eval a X.env) (fun v s₁=>wpAny (model X.prog X.w) X.A (eval b X.env) (fun u s₂=>wpAny (model X.prog X.w) X.A (f v u) Q X.xe s₂) X.xe s₁) X.xe s:=by
 refine thn (ha pins s σ H _ I h) fun v s1 ⟨x,H1,I1,r1,q1⟩=>?_
 refine thn (hb pins s1 σ H1 _ I1 q1) fun u s2 ⟨y,H2,I2,r2,q2⟩=>?_
 exact hf v u s2 x y H2 I2 r1 r2 q2
theorem pe_op {op:Operator}{r:R2}(ho:OpR X (binaryOp op) r)(ha:PE X a ta)(hb:PE X b tb):PE X (.BinOp a op b pos) (tOp r ta tb):=by
 intro pins s σ H Q I h
 exact wpAny_BinOp (binT ha hb I h fun v u s2 x y H2 I2 rx ry q=>ho pins s2 σ H2 x y v u Q I2 rx ry q)
theorem pe_un {op:UnaryOp}{r:V->Hp->VK->Prop}(ho:UnR X (unaryOp op) r)(ha:PE X a ta):PE X (.UnaryOp op a pos) (tUn r ta):=by
 intro pins s σ H Q I h
 exact UnaryOp_ (thn (ha pins s σ H _ I h) fun v s1 ⟨x,H1,I1,r1,q1⟩=>ho pins s1 σ H1 x v Q I1 r1 q1)
theorem opI {f:Value->Value->Sem Value}{C:Int->Int->Prop}{g:Int->Int->Int}
  (rule:∀(i j:Int) (t u:Tok) (s:Shared) (Q:Value->Shared->Prop) (E:Value->Shared->Prop),C i j->Q (.int (g i j) s.toks) {s with toks:=s.toks+1}->wpAny (model X.prog X.w) X.A (f (.int i t) (.int j u)) Q E s):
  OpR X f (rI C fun i j=>.int (g i j)):=by
 intro pins s σ H x y v u Q I rx ry h
 obtain⟨i,j,rfl,rfl,hc,q⟩:=h
 obtain⟨t,rfl⟩:=rx
 obtain⟨t',rfl⟩:=ry
 exact rule i j t t' s _ _ hc ⟨.int (g i j),H,I.tok _,⟨_,rfl⟩,q⟩
theorem opI0 {f:Value->Value->Sem Value}{g:Int->Int->Int}
  (rule:∀(i j:Int) (t u:Tok) (s:Shared) (Q:Value->Shared->Prop) (E:Value->Shared->Prop),Q (.int (g i j) s.toks) {s with toks:=s.toks+1}->wpAny (model X.prog X.w) X.A (f (.int i t) (.int j u)) Q E s):
  OpR X f (rI0 fun i j=>.int (g i j)):=by
 intro pins s σ H x y v u Q I rx ry h
 obtain⟨i,j,rfl,rfl,q⟩:=h
 obtain⟨t,rfl⟩:=rx
 obtain⟨t',rfl⟩:=ry
 exact rule i j t t' s _ _ ⟨.int (g i j),H,I.tok _,⟨_,rfl⟩,q⟩
theorem opB0 {f:Value->Value->Sem Value}{g:Int->Int->Bool}
  (rule:∀(i j:Int) (t u:Tok) (s:Shared) (Q:Value->Shared->Prop) (E:Value->Shared->Prop),Q (.bool (g i j)) s->wpAny (model X.prog X.w) X.A (f (.int i t) (.int j u)) Q E s):
  OpR X f (rI0 fun i j=>.bl (g i j)):=by
 intro pins s σ H x y v u Q I rx ry h
 obtain⟨i,j,rfl,rfl,q⟩:=h
 obtain⟨t,rfl⟩:=rx
 obtain⟨t',rfl⟩:=ry
 exact rule i j t t' s _ _ ⟨.bl (g i j),H,I,rfl,q⟩
def CDiv (i j:Int):Prop:=0<j/\j<1073741824
def CPow (i j:Int):Prop:=0<=j/\j<=1000000/\i.natAbs<2 ^ 64
def CMul (i j:Int):Prop:=(-(2 ^ 64)<i/\i<2 ^ 64)\/(-(2 ^ 64)<j/\j<2 ^ 64)
theorem CMul.ok {i j:Int}(h:CMul i j):IntMulOk i j:=by
 rcases h with ⟨h1,h2⟩|⟨h1,h2⟩
 ·exact .of_left (intBits_le_64 h1 h2)
 ·exact .of_right (intBits_le_64 h1 h2)
theorem op_add:OpR X (binaryOp .Add) (rI0 fun i j=>.int (i+j)):=opI0 fun _ _ _ _ _ _ _ q=>add_int q
theorem op_sub:OpR X (binaryOp .Sub) (rI0 fun i j=>.int (i-j)):=opI0 fun _ _ _ _ _ _ _ q=>sub_int q
theorem op_mul:OpR X (binaryOp .Mult) (rI CMul fun i j=>.int (i*j)):=opI fun _ _ _ _ _ _ _ hc q=>mul_int q hc.ok
theorem op_fdiv:OpR X (binaryOp .FloorDiv) (rI CDiv fun i j=>.int (i / j)):=opI fun i j _ _ _ _ _ hc q=>by
 have h1:(0:Int)<j:=hc.1
 have h2:j<1073741824:=hc.2
 exact floordiv_int (by omega) (by rw[Int.fdiv_eq_ediv_of_nonneg i (by omega)];exact q) (.inl (PyProof.noPylong_small (by omega)))
theorem op_mod:OpR X (binaryOp .Mod) (rI (fun _ j=>0<j) fun i j=>.int (i%j)):=opI fun i j _ _ _ _ _ hc q=>by
 have h1:(0:Int)<j:=hc
 exact mod_int' (by omega) (by rw[Int.fmod_eq_emod_of_nonneg i (by omega)];exact q)
theorem op_pow:OpR X (binaryOp .Pow) (rI CPow fun i j=>.int (i ^ j.toNat)):=opI fun _ _ _ _ _ _ _ hc q=>pow_int_small hc.1 hc.2.1 hc.2.2 q
theorem unI {f:Value->Sem Value}{g:Int->Int}
  (rule:∀(i:Int) (t:Tok) (s:Shared) (Q:Value->Shared->Prop) (E:Value->Shared->Prop),Q (.int (g i) s.toks) {s with toks:=s.toks+1}->wpAny (model X.prog X.w) X.A (f (.int i t)) Q E s):
  UnR X f (rU fun i=>.int (g i)):=by
 intro pins s σ H x v Q I rx h
 obtain⟨i,rfl,q⟩:=h
 obtain⟨t,rfl⟩:=rx
 exact rule i t s _ _ ⟨.int (g i),H,I.tok _,⟨_,rfl⟩,q⟩
theorem un_neg:UnR X (unaryOp .USub) (rU fun i=>.int (-i)):=unI fun _ _ _ _ _ q=>neg_int q
end
def scal:V->V->Bool
 |.non,.non=>true | .non,.int _=>true | .int _,.non=>true | .non,.bl _=>true | .bl _,.non=>true | .non,.str _=>true | .str _,.non=>true
 |.int _,.int _=>true | .bl _,.bl _=>true | .str _,.str _=>true | .byt _,.byt _=>true
 |.int _,.str _=>true | .str _,.int _=>true | .bl _,.str _=>true | .str _,.bl _=>true
 |_,_=>false
def rEq:R2:=fun x y H Q=>scal x y=true/\Q (.bl (decide (x=y))) H
def rNe:R2:=fun x y H Q=>scal x y=true/\Q (.bl (!decide (x=y))) H
theorem dec_int {i j:Int}:decide (V.int i=V.int j)=(i==j):=by
 rw[Bool.eq_iff_iff]
 simp
theorem dec_bl {i j:Bool}:decide (V.bl i=V.bl j)=(i==j):=by
 rw[Bool.eq_iff_iff]
 simp
theorem dec_str {i j:Str}:decide (V.str i=V.str j)=(i==j):=by
 rw[Bool.eq_iff_iff]
 simp
theorem dec_byt {i j:Array UInt8}:decide (V.byt i=V.byt j)=(i.toList==j.toList):=by
 rw[Bool.eq_iff_iff]
 cases i
 cases j
 simp
section
variable {X:Cx} {a b c:Expr} {ta tb tc:TE} {pos:Pos}
theorem fin_bl {pins:List (Addr×Obj)}{σ:St}{H:Hp}{s:Shared}{Q:VK}{k k':Bool}(I:Inv X pins σ H s)(q:Q (.bl k) H)(e:k=k'):EP X pins σ Q (.bool k') s:=by
 subst e
 exact⟨.bl k,H,I,rfl,q⟩
theorem op_eq:OpR X (compareOp .Eq) rEq:=by
 intro pins s σ H x y v u Q I rx ry h
 obtain⟨hs,q⟩:=h
 cases x with
 |non=>
  cases rx
  cases y with
  |non=>cases ry;exact PySem.EqNone.eq_none_none (fin_bl I q (by simp))
  |bl j=>cases ry;exact PySem.EqNone.eq_none_bool (fin_bl I q (by simp))
  |int j=>obtain⟨t',rfl⟩:=ry;exact PySem.EqNone.eq_none_int (fin_bl I q (by simp))
  |str j=>obtain⟨t',rfl⟩:=ry;exact PySem.EqNone.eq_none_str (fin_bl I q (by simp))
  |_=>exact absurd (show false=true from hs) Bool.false_ne_true
 |bl i=>
  cases rx
  cases y with
  |non=>cases ry;exact PySem.EqNone.eq_bool_none (fin_bl I q (by simp))
  |bl j=>cases ry;exact eq_bool (fin_bl I q dec_bl)
  |str j=>obtain⟨t',rfl⟩:=ry;exact PySem.EqMixed.eq_bool_str (fin_bl I q (by simp))
  |_=>exact absurd (show false=true from hs) Bool.false_ne_true
 |int i=>
  obtain⟨t,rfl⟩:=rx
  cases y with
  |non=>cases ry;exact PySem.EqNone.eq_int_none (fin_bl I q (by simp))
  |int j=>obtain⟨t',rfl⟩:=ry;exact eq_int (fin_bl I q dec_int)
  |str j=>obtain⟨t',rfl⟩:=ry;exact PySem.EqMixed.eq_int_str (fin_bl I q (by simp))
  |_=>exact absurd (show false=true from hs) Bool.false_ne_true
 |str i=>
  obtain⟨t,rfl⟩:=rx
  cases y with
  |non=>cases ry;exact PySem.EqNone.eq_str_none (fin_bl I q (by simp))
  |bl j=>cases ry;exact PySem.EqMixed.eq_str_bool (fin_bl I q (by simp))
  |int j=>obtain⟨t',rfl⟩:=ry;exact PySem.EqMixed.eq_str_int (fin_bl I q (by simp))
  |str j=>obtain⟨t',rfl⟩:=ry;exact eq_str (fin_bl I q dec_str)
  |_=>exact absurd (show false=true from hs) Bool.false_ne_true
 |byt i=>
  obtain⟨t,rfl⟩:=rx
  cases y with
  |byt j=>obtain⟨t',rfl⟩:=ry;exact PySem.W.eq_bytes (fin_bl I q dec_byt)
  |_=>exact absurd (show false=true from hs) Bool.false_ne_true
 |_=>cases y<;>exact absurd (show false=true from hs) Bool.false_ne_true
theorem op_ne:OpR X (compareOp .NotEq) rNe:=by
 intro pins s σ H x y v u Q I rx ry h
 obtain⟨hs,q⟩:=h
 cases x with
 |non=>
  cases rx
  cases y with
  |non=>cases ry;exact PySem.EqNone.ne_none_none (fin_bl I q (by simp))
  |bl j=>cases ry;exact PySem.EqNone.ne_none_bool (fin_bl I q (by simp))
  |int j=>obtain⟨t',rfl⟩:=ry;exact PySem.EqNone.ne_none_int (fin_bl I q (by simp))
  |str j=>obtain⟨t',rfl⟩:=ry;exact PySem.EqNone.ne_none_str (fin_bl I q (by simp))
  |_=>exact absurd (show false=true from hs) Bool.false_ne_true
 |bl i=>
  cases rx
  cases y with
  |non=>cases ry;exact PySem.EqNone.ne_bool_none (fin_bl I q (by simp))
  |bl j=>cases ry;exact ne_bool (fin_bl I q (congrArg not dec_bl))
  |str j=>obtain⟨t',rfl⟩:=ry;exact PySem.EqMixed.ne_bool_str (fin_bl I q (by simp))
  |_=>exact absurd (show false=true from hs) Bool.false_ne_true
 |int i=>
  obtain⟨t,rfl⟩:=rx
  cases y with
  |non=>cases ry;exact PySem.EqNone.ne_int_none (fin_bl I q (by simp))
  |int j=>obtain⟨t',rfl⟩:=ry;exact ne_int (fin_bl I q (congrArg not dec_int))
  |str j=>obtain⟨t',rfl⟩:=ry;exact PySem.EqMixed.ne_int_str (fin_bl I q (by simp))
  |_=>exact absurd (show false=true from hs) Bool.false_ne_true
 |str i=>
  obtain⟨t,rfl⟩:=rx
  cases y with
  |non=>cases ry;exact PySem.EqNone.ne_str_none (fin_bl I q (by simp))
  |bl j=>cases ry;exact PySem.EqMixed.ne_str_bool (fin_bl I q (by simp))
  |int j=>obtain⟨t',rfl⟩:=ry;exact PySem.EqMixed.ne_str_int (fin_bl I q (by simp))
  |str j=>obtain⟨t',rfl⟩:=ry;exact ne_str (fin_bl I q (congrArg not dec_str))
  |_=>exact absurd (show false=true from hs) Bool.false_ne_true
 |byt i=>
  obtain⟨t,rfl⟩:=rx
  cases y with
  |byt j=>obtain⟨t',rfl⟩:=ry;exact PySem.W.ne_bytes (fin_bl I q (congrArg not dec_byt))
  |_=>exact absurd (show false=true from hs) Bool.false_ne_true
 |_=>cases y<;>exact absurd (show false=true from hs) Bool.false_ne_true
theorem op_lt:OpR X (compareOp .Lt) (rI0 fun i j=>.bl (decide (i<j))):=opB0 fun _ _ _ _ _ _ _ q=>lt_int q
theorem op_le:OpR X (compareOp .LtE) (rI0 fun i j=>.bl (decide (i<=j))):=opB0 fun _ _ _ _ _ _ _ q=>le_int q
theorem op_gt:OpR X (compareOp .Gt) (rI0 fun i j=>.bl (decide (j<i))):=opB0 fun _ _ _ _ _ _ _ q=>gt_int q
theorem op_ge:OpR X (compareOp .GtE) (rI0 fun i j=>.bl (decide (j<=i))):=opB0 fun _ _ _ _ _ _ _ q=>ge_int q
theorem op_isN:OpR X (compareOp .Is) (fun x y H Q=>y=.non/\Q (.bl (decide (x=.non))) H):=by
 intro pins s σ H x y v u Q I rx ry h
 obtain⟨rfl,q⟩:=h
 cases ry
 refine is_none_gen (fin_bl I q ?_)
 cases x<;>first
  | (cases rx;rfl)
  | (obtain⟨t,rfl⟩:=rx;rfl)
theorem op_notN:OpR X (compareOp .IsNot) (fun x y H Q=>y=.non/\Q (.bl (!decide (x=.non))) H):=by
 intro pins s σ H x y v u Q I rx ry h
 obtain⟨rfl,q⟩:=h
 cases ry
 refine isnot_none_gen (fin_bl I q ?_)
 cases x<;>first
  | (cases rx;rfl)
  | (obtain⟨t,rfl⟩:=rx;rfl)
theorem nomark (b:Expr){op:CmpOp}(h:op ≠ .In:=by decide)(h2:op ≠ .NotIn:=by decide):behindInMarks op b=false:=by
 have e1:(op==CmpOp.In)=false:=by cases op<;>first|rfl|exact absurd rfl h
 have e2:(op==CmpOp.NotIn)=false:=by cases op<;>first|rfl|exact absurd rfl h2
 cases b<;>simp[behindInMarks,e1,e2]
theorem pe_cmpR {op:CmpOp}{r:R2}(ho:OpR X (compareOp op) r)(ha:PE X a ta)(hb:PE X b tb)(hm:behindInMarks op b=false):PE X (.Compare a [op] [b] pos) (tOp r ta tb):=by
 intro pins s σ H Q I h
 exact wpAny_Compare1 (binT ha hb I h fun v u s2 x y H2 I2 rx ry q=>ho pins s2 σ H2 x y v u Q I2 rx ry q) hm
def tTest (t:TE):TT:=fun σ H Q=>t σ H fun x H'=>∃k,x=.bl k/\Q k H'
theorem pt_cmpR {op:CmpOp}{r:R2}(ho:OpR X (compareOp op) r)(ha:PE X a ta)(hb:PE X b tb)(hm:behindInMarks op b=false):PT X (.Compare a [op] [b] pos) (tTest (tOp r ta tb)):=by
 intro pins s σ H Q I h
 refine wpAny_isTrue_Compare1 (thn (ha pins s σ H _ I h) fun v s1 ⟨x,H1,I1,r1,q1⟩=>thn (hb pins s1 σ H1 _ I1 q1) fun u s2 ⟨y,H2,I2,r2,q2⟩ =>
  thn (ho pins s2 σ H2 x y v u _ I2 r1 r2 q2) fun c s3 ⟨z,H3,I3,r3,k,e,q3⟩=>?_) hm
 subst e
 cases r3
 exact wpAny_truthy_bool ⟨H3,I3,q3⟩
def tChain (r r':R2)(ta tb tc:TE):TE:=fun σ H Q=>ta σ H fun x H1=>tb σ H1 fun y H2=>r x y H2 fun z H3=>∃k,z=.bl k /\
 (if k=true then tc σ H3 fun w' H4=>r' y w' H4 Q else Q (.bl false) H3)
theorem pe_chain {op op':CmpOp}{r r':R2}(ho:OpR X (compareOp op) r)(ho':OpR X (compareOp op') r')(ha:PE X a ta)(hb:PE X b tb)(hc:PE X c tc)
  (hm:lastMarks [op,op'] [b,c]=false:=by with_unfolding_all rfl):PE X (.Compare a [op,op'] [b,c] pos) (tChain r r' ta tb tc):=by
 intro pins s σ H Q I h
 refine Compare_chain (thn (ha pins s σ H _ I h) fun v s1 ⟨x,H1,I1,r1,q1⟩=>chain_link (thn (hb pins s1 σ H1 _ I1 q1) fun u s2 ⟨y,H2,I2,r2,q2⟩ =>
  thn (ho pins s2 σ H2 x y v u _ I2 r1 r2 q2) fun d s3 ⟨z,H3,I3,r3,k,e,q3⟩=>?_)) hm
 subst e
 cases r3
 refine wpAny_truthy_bool ?_
 cases k with
 |false=>exact ite_ff ⟨.bl false,H3,I3,rfl,q3⟩
 |true=>exact ite_tt (chain_last (thn (hc pins s3 σ H3 _ I3 q3) fun w' s4 ⟨z',H4,I4,r4,q4⟩=>ho' pins s4 σ H4 y z' u w' Q I4 r2 r4 q4))
theorem line63:(sizeLine:Nat)<2 ^ 63:=by rw[sizeLine_eq];decide
theorem vals1 {x:V}{us:List Value}(r:Vals [x] us):∃u,us=[u]/\RelV x u:=by
 cases r with
 |cons r1 r2=>cases r2;exact⟨_,rfl,r1⟩
theorem vals2 {x y:V}{us:List Value}(r:Vals [x,y] us):∃u w',us=[u,w']/\RelV x u/\RelV y w':=by
 cases r with
 |cons r1 r2=>
  cases r2 with
  |cons r3 r4=>cases r4;exact⟨_,_,rfl,r1,r3⟩
theorem call_int1:CallR X (.type "int") (fun xs H Q=>(∃i,xs=[.int i]/\Q (.int i) H) \/ ∃k,xs=[.bl k]/\Q (.int (if k then 1 else 0)) H):=by
 intro pins s σ H xs us Q I r h
 rcases h with ⟨i,rfl,q⟩|⟨k,rfl,q⟩
 ·obtain⟨u,rfl,t,rfl⟩:=vals1 r
  exact call_int_int ⟨.int i,H,I,⟨_,rfl⟩,q⟩
 ·obtain⟨u,rfl,r1⟩:=vals1 r
  cases r1
  exact call_int_bool ⟨.int (if k then 1 else 0),H,I.tok _,⟨_,rfl⟩,q⟩
end
end L2
namespace L2
open PySem PySem.Spec PyProof.Rows
structure ObjM (h:Heap)(x dx C:Addr)(mA:Str->Option Value):Prop where
 obj:h.get? x=some (PySem.W.instObj C dx)
 ns:h.Ns1 dx mA
 ne:dx≠x
theorem lookIn_ns {h:Heap}{dx:Addr}{mA:Str->Option Value}(n:h.Ns1 dx mA):∃od,h.get? dx=some od/\∀name,PySem.W.lookIn name od=some (mA name):=by
 obtain⟨o,es,ep,ho,hd,hk,_,hm⟩:=n
 refine⟨o,ho,fun name=>?_⟩
 have e:=hm name
 unfold nsFind findBy at e
 rw[<-Array.find?_toList]at e
 unfold PySem.W.lookIn
 rw[hd]
 dsimp only
 split
 ·rename_i y q
  rw[q]at e
  exact congrArg some e
 ·rename_i q
  rw[q]at e
  have a:es.toList.any (·.refKey)=false:=by
   rw[List.any_eq_false]
   intro y hy
   obtain⟨z,t,hkey⟩:=hk y (Array.mem_toList_iff.mp hy)
   simp[DictEntry.refKey,hkey]
  have a':¬ es.toList.any (·.refKey)=true:=by rw[a];exact Bool.false_ne_true
  rw[if_neg a']
  exact congrArg some e
theorem ObjM.look {h:Heap}{x dx C:Addr}{mA:Str->Option Value}(I:ObjM h x dx C mA):∃od,PySem.W.InstAt h x (PySem.W.instObj C dx) C (some od)/\∀name,PySem.W.lookIn name od=some (mA name):=
 let ⟨od,ho,hl⟩:=lookIn_ns I.ns
 ⟨od,⟨I.obj,rfl,rfl,ho⟩,hl⟩
section
variable {prog:Program} {w:World} {A:Around} {E:Value->Shared->Prop} {s:Shared} {K:PySem.W.Frag} {x dx C f:Addr} {mA:Str->Option Value} {name:Str} {v:Value}
theorem get_map {expr:Bool}{Q:Value->Shared->Prop}(X:K.In s.heap)(I:ObjM s.heap x dx C mA)(hg:PySem.W.plainGet K C name=true)(hh:PySem.W.hasDictIn K C=true)
  (ha:PySem.W.findIn K (.ref C) name=some none) (hv:mA name=some v) (hv':PySem.W.handedIn v=true) (h:Q v {s with toks:=s.toks+1}):
  wpAny (model prog w) A (getAttr (.ref x) name expr) Q E s:=by
 obtain⟨od,J,hl⟩:=I.look
 exact PySem.W.get_value X J (PySem.W.plainGet_of hg).1 (PySem.W.findObj_own hh ha rfl (by rw[hl,hv])) hv' h
theorem get_meth {pl:Sem Bool}{Q:Value×List Value->Shared->Prop}(X:K.In s.heap)(I:ObjM s.heap x dx C mA)(hg:PySem.W.plainGet K C name=true)
  (hf:PySem.W.findIn K (.ref C) name=some (some (.ref f))) (ht:PySem.W.isFn K (.ref f)=true) (hv:mA name=none) (h:Q (.ref f,[.ref x]) s):
  wpAny (model prog w) A (getMethod (.ref x) name pl) Q E s:=by
 obtain⟨od,J,hl⟩:=I.look
 exact PySem.W.method_fn X J (PySem.W.plainGet_of hg).1 (PySem.W.plainGet_of hg).2 hf (beq_iff_eq.mp ht) (by show (PySem.W.lookIn name od).map (·.isSome)=some false;rw[hl,hv];rfl) h
theorem set_map {ns:List Str}{Q:Unit->Shared->Prop}(X:K.In s.heap)(I:ObjM s.heap x dx C mA)
  (hs:PySem.W.findIn K (.ref C) "__setattr__"=some (some (.builtin "object.__setattr__"))) (hp:PySem.W.plainOver K C=true) (ht:PySem.W.takerIn K C name=some none) (hh:PySem.W.hasDictIn K C=true)
  (hw:PySem.Within mA ns) (hsz:ns.length<=sizeLine)
  (h:∀h',ObjM h' x dx C (fun y=>if y=name then some v else mA y)->Heap.SameBut dx s.heap h'->Q () {s with heap:=h',toks:=s.toks+2}):
  wpAny (model prog w) A (setAttr (.ref x) name v) Q E s:=by
 obtain⟨od,J,hl⟩:=I.look
 refine PySem.W.set_plain X J hs (PySem.W.osa_open (s:={s with toks:=s.toks+1}) (r:=none) X J hp ht fun b=>?_)
 obtain⟨cd,hc,hd'⟩:=PySem.W.any_some hh
 have hx:s.heap.get? x=some ⟨.ref C,some dx,.plain,#[]⟩:=I.obj
 refine wpAny_bind (wpAny_pure (wpAny_bind (wpAny_bind (wpAny_loadPart hx (wpAny_bind (PySem.W.Looks.here (s:={s with toks:=s.toks+1}) (PySem.W.looks_clsIn X hc) ?_))))))
 rw[hd']
 refine wpAny_pure (a:=some dx) (wpAny_bind (wpAny_pure (wpAny_bind ?_)))
 refine wpAny_nsSet1 (s:={s with toks:=s.toks+1}) I.ns fun h' hn2 hs2=>?_
 obtain⟨oD,esD,epD,hoD,hdD,hcD⟩:=hn2.count (PySem.Within.cons name v hw)
 refine wpAny_bind (wpAny_lookBehind hoD (by rw[hdD];exact pastItsLine_dict (Nat.le_trans hcD (by rw[List.length_cons];omega))) ?_)
 exact wpAny_pure (h _ ⟨(hs2.2 _ (Ne.symm I.ne)).trans I.obj,hn2,I.ne⟩ hs2)
theorem make_map {R:Result->Shared->Prop}{vs:List Value}{kw:List (Str×Value)}(X:K.In s.heap)(hm:PySem.W.makesIn K C=true)
  (hi:PySem.W.findIn K (.ref C) "__init__"=some (some (.ref f))) (hf:PySem.W.typeIn K (.ref f)=some (.type "function"))
  (h:codeAny (model prog w) (A.under (.builtin "type.__call__" ⟨.ref C::vs,kw⟩)) (.call (.ref f) ⟨.ref (s.heap.objs.size+1)::vs,kw⟩) (PySem.W.InitBack (s.heap.objs.size+1) R)
   {s with heap:=(s.heap.push PySem.W.emptyDict).push (PySem.W.instObj C s.heap.objs.size)}):
  codeAny (model prog w) A (.call (.ref C) ⟨vs,kw⟩) R s:=by
 obtain⟨hh,g,d,t,os⟩:=s
 exact PySem.W.make_core (PySem.W.makes_of X hm) (PySem.W.looks_findIn X hi) (fun self=>PySem.W.bind_fn X self hf) (.inl rfl) h
end
def putF (f:Str)(v:V):List (Str×V)->List (Str×V)
 |[]=>[(f,v)]
 | (g,x)::r=>if g=f then (g,v)::r else (g,x)::putF f v r
theorem lookup_putF (f g:Str)(v:V):∀fs:List (Str×V),(putF f v fs).lookup g=if g=f then some v else fs.lookup g
 |[]=>by
  show List.lookup g [(f,v)]=_
  by_cases h:g=f
  ·have hb:(g==f)=true:=beq_iff_eq.mpr h
   simp only[List.lookup,hb,if_pos h]
  ·have hb:(g==f)=false:=beq_eq_false_iff_ne.mpr h
   simp only[List.lookup,hb,if_neg h]
 | (k,x)::r=>by
  have ih:=lookup_putF f g v r
  rw[show putF f v ((k,x)::r)=(if k=f then (k,v)::r else (k,x)::putF f v r) from rfl]
  by_cases hk:k=f
  ·rw[if_pos hk]
   by_cases h:g=k
   ·have hb:(g==k)=true:=beq_iff_eq.mpr h
    simp only[List.lookup,hb,if_pos (h.trans hk)]
   ·have hb:(g==k)=false:=beq_eq_false_iff_ne.mpr h
    simp only[List.lookup,hb,if_neg (fun e:g=f=>h (e.trans hk.symm))]
  ·rw[if_neg hk]
   by_cases h:g=k
   ·have hb:(g==k)=true:=beq_iff_eq.mpr h
    simp only[List.lookup,hb,if_neg (fun e:g=f=>hk (h.symm.trans e))]
   ·have hb:(g==k)=false:=beq_eq_false_iff_ne.mpr h
    simp only[List.lookup,hb]
    exact ih
theorem keys_putF (f:Str)(v:V):∀fs:List (Str×V),f∈(putF f v fs).map (·.1)/\∀g,g∈fs.map (·.1)->g∈(putF f v fs).map (·.1)
 |[]=>⟨by simp[putF],fun g h=>by simp at h⟩
 | (k,x)::r=>by
  obtain⟨i1,i2⟩:=keys_putF f v r
  rw[show putF f v ((k,x)::r)=(if k=f then (k,v)::r else (k,x)::putF f v r) from rfl]
  by_cases hk:k=f
  ·rw[if_pos hk]
   subst hk
   exact⟨by simp,fun g h=>by simpa using h⟩
  ·rw[if_neg hk]
   refine⟨?_,fun g h=>?_⟩
   ·rw[List.map_cons]
    exact List.mem_cons_of_mem _ i1
   ·rw[List.map_cons]at h ⊢
    rcases List.mem_cons.mp h with e|e
    ·exact List.mem_cons.mpr (.inl e)
    ·exact List.mem_cons_of_mem _ (i2 g e)
theorem length_putF (f:Str)(v:V):∀fs:List (Str×V),(putF f v fs).length<=fs.length+1
 |[]=>by simp[putF]
 | (k,x)::r=>by
  have ih:=length_putF f v r
  rw[show putF f v ((k,x)::r)=(if k=f then (k,v)::r else (k,x)::putF f v r) from rfl]
  by_cases hk:k=f
  ·rw[if_pos hk,List.length_cons,List.length_cons];omega
  ·rw[if_neg hk,List.length_cons,List.length_cons];omega
theorem RelO.some_of {v:V}{o:Option Value}(r:RelO (some v) o):∃u,o=some u/\RelV v u:=by
 cases o with
 |none=>exact (show False from r).elim
 |some u=>exact⟨u,rfl,r⟩
theorem RelO.none_of {o:Option Value}(r:RelO none o):o=none:=by
 cases o with
 |none=>rfl
 |some u=>exact (show False from r).elim
theorem handed_of {v:V}{u:Value}(r:RelV v u):PySem.W.handedIn u=true:=by
 cases v with
 |non=>cases (show u=Value.none from r);rfl
 |bl b=>cases (show u=Value.bool b from r);rfl
 |int i=>obtain⟨t,e⟩:=(show ∃t,u=Value.int i t from r);cases e;rfl
 |str x=>obtain⟨t,e⟩:=(show ∃t,u=Value.str x t from r);cases e;rfl
 |byt b=>obtain⟨t,e⟩:=(show ∃t,u=Value.bytes b t from r);cases e;rfl
 |flt b=>obtain⟨t,e⟩:=(show ∃t,u=Value.float b t from r);cases e;rfl
 |ref a=>cases (show u=Value.ref a from r);rfl
 |ty n=>cases (show u=Value.type n from r);rfl
section
variable {P:Program} {w:World} {H H':Hp} {h h':Heap} {a C dx:Addr} {fs fs':List (Str×V)}
theorem ins_get (hok:HOk P w H h)(e:H a=some (.ins C dx fs)):∃mA,ObjM h a dx C mA/\(∀f,RelO (fs.lookup f) (mA f))/\PySem.Within mA (fs.map (·.1))/\fs.length<=1000/\H dx=some (.own a):=by
 obtain⟨d,z,ne,ob,mA,n,r,q⟩:=(show ObjOk P w H h a (.ins C dx fs) from hok a _ e)
 exact⟨mA,⟨ob,n,ne⟩,r,q,z,d⟩
end
structure Cls (K:PySem.W.Frag)(C:Addr):Prop where
 pg:PySem.W.plainGet K C Str.empty=true
 hd:PySem.W.hasDictIn K C=true
 po:PySem.W.plainOver K C=true
 sa:PySem.W.findIn K (.ref C) "__setattr__"=some (some (.builtin "object.__setattr__"))
theorem Cls.get {K:PySem.W.Frag}{C:Addr}(c:Cls K C)(f:Str):PySem.W.plainGet K C f=true:=c.pg
def NoAttr (K:PySem.W.Frag)(C:Addr)(f:Str):Prop:=PySem.W.findIn K (.ref C) f=some none
theorem NoAttr.taker {K:PySem.W.Frag}{C:Addr}{f:Str}(n:NoAttr K C f):PySem.W.takerIn K C f=some none:=by
 unfold PySem.W.takerIn
 rw[show PySem.W.findIn K (.ref C) f=some none from n]
 rfl
structure Meth (K:PySem.W.Frag)(C:Addr)(m:Str)(f:Addr):Prop where
 at_:PySem.W.findIn K (.ref C) m=some (some (.ref f))
 fn:PySem.W.isFn K (.ref f)=true
 kp:PySem.W.keepIn K (.ref f)=true
section
variable {X:Cx} {pins:List (Addr×Obj)} {σ:St} {H:Hp} {s:Shared} {a C dx:Addr} {fs:List (Str×V)} {f:Str} {v:V} {A:Around} {E:Value->Shared->Prop}
theorem getattr_ok {b:Bool}{Q:Value->Shared->Prop}(I:Inv X pins σ H s)(e:H a=some (.ins C dx fs))(c:Cls X.K C)(n:NoAttr X.K C f)(l:fs.lookup f=some v)
  (h:∀u s',Inv X pins σ H s'->RelV v u->Q u s'):wpAny (model X.prog X.w) A (getAttr (.ref a) f b) Q E s:=by
 obtain⟨mA,O,r,_,_,_⟩:=ins_get I.hok e
 obtain⟨u,hu,ru⟩:=RelO.some_of (v:=v) (o:=mA f) (by rw[<-l];exact r f)
 exact get_map I.kIn O (c.get f) c.hd n hu (handed_of ru) (h u _ (I.tok _) ru)
theorem getmeth_ok {m:Str}{g:Addr}{pl:Sem Bool}{Q:Value×List Value->Shared->Prop}(I:Inv X pins σ H s)(e:H a=some (.ins C dx fs))(c:Cls X.K C)(k:Meth X.K C m g)(l:fs.lookup m=none)
  (h:Q (.ref g,[.ref a]) s):wpAny (model X.prog X.w) A (getMethod (.ref a) m pl) Q E s:=by
 obtain⟨mA,O,r,_,_,_⟩:=ins_get I.hok e
 have hn:mA m=none:=RelO.none_of (by rw[<-l];exact r m)
 exact get_meth I.kIn O (c.get m) k.at_ k.fn hn h
theorem setattr_ok {y:V}{u:Value}{Q:Unit->Shared->Prop}(I:Inv X pins σ H s)(e:H a=some (.ins C dx fs))(c:Cls X.K C)(n:NoAttr X.K C f)(hl:fs.length<1000)(ry:RelV y u)
  (h:∀s',Inv X pins σ (upd H a (.ins C dx (putF f y fs))) s'->Q () s'):wpAny (model X.prog X.w) A (setAttr (.ref a) f u) Q E s:=by
 obtain⟨mA,O,r,wi,_,ho⟩:=ins_get I.hok e
 have hz:(fs.map (·.1)).length<=sizeLine:=by rw[List.length_map,sizeLine_eq];omega
 refine set_map I.kIn O c.sa c.po n.taker c.hd wi hz fun h' O' sb=>h _ ?_
 have hd:∃o,h'.get? dx=some o:=let ⟨o,_,_,e',_⟩:=O'.ns;⟨o,e'⟩
 refine I.write (x:=a) (e:=dx) (by rw[e];exact True.intro) (.inr ho) (fun b q hb z=>(sb.2 b hb).trans z) hd ?_
 refine⟨by rw[upd_ne O.ne];exact ho,?_,O.ne,O'.obj,_,O'.ns,fun g=>?_,fun g hg=>?_⟩
 ·have:=length_putF f y fs;omega
 ·show RelO ((putF f y fs).lookup g) (if g=f then some u else mA g)
  rw[lookup_putF]
  by_cases q:g=f
  ·rw[if_pos q,if_pos q];exact ry
  ·rw[if_neg q,if_neg q];exact r g
 ·by_cases q:g=f
  ·rw[q];exact (keys_putF f y fs).1
  ·refine (keys_putF f y fs).2 g (wi g fun z=>hg ?_)
   show (if g=f then some u else mA g)=none
   rw[if_neg q];exact z
theorem Inv.made (I:Inv X pins σ H s):Inv X pins σ (upd (upd H s.heap.objs.size (.own (s.heap.objs.size+1))) (s.heap.objs.size+1) (.ins C s.heap.objs.size []))
  {s with heap:=(s.heap.push PySem.W.emptyDict).push (PySem.W.instObj C s.heap.objs.size)}:=by
 have e1:(s.heap.push PySem.W.emptyDict).get? s.heap.objs.size=some PySem.W.emptyDict:=Heap.get?_push_size s.heap rfl
 have e2:((s.heap.push PySem.W.emptyDict).push (PySem.W.instObj C s.heap.objs.size)).get? (s.heap.objs.size+1)=some (PySem.W.instObj C s.heap.objs.size):=by
  have:=Heap.get?_push_size (s.heap.push PySem.W.emptyDict) (o:=PySem.W.instObj C s.heap.objs.size) rfl
  rwa [Heap.size_push]at this
 have e3:(s.heap.push PySem.W.emptyDict).Ns s.heap.objs.size (fun _=>none):=⟨PySem.W.emptyDict,#[],_,e1,rfl,(fun e he=>absurd he (by simp)),fun _=>rfl⟩
 have I1:=I.laid (a:=s.heap.objs.size) (o:=.own (s.heap.objs.size+1)) (h':=s.heap.push PySem.W.emptyDict) (t':=s.toks) (fun b u q=>Heap.get?_push_of_some _ q) (Nat.le_refl _) ⟨_,e1⟩
 refine I1.laid (a:=s.heap.objs.size+1) (o:=.ins C s.heap.objs.size []) (t':=s.toks) (fun b u q=>Heap.get?_push_of_some _ q) (Nat.le_of_eq (Heap.size_push _ _)) ?_
 have ne:s.heap.objs.size≠s.heap.objs.size+1:=Nat.ne_of_lt (Nat.lt_succ_self _)
 refine⟨by rw[upd_ne ne,upd_same],Nat.zero_le _,ne,e2,fun _=>none,(Heap.Ns1.of_empty e3).at fun o q=>Heap.get?_push_of_some _ q,fun _=>True.intro,fun y hy=>absurd rfl hy⟩
theorem attr_of {prog:Program}{w:World}{env:Env}{e:Expr}{f:Str}{pos:Pos}{s:Shared}{Q:Value->Shared->Prop}(hb:attributeBase e f env (eval e env)=eval e env)
  (h:wpAny (model prog w) A (eval e env) (fun o s₁=>wpAny (model prog w) A (getAttr o f true) Q E s₁) E s):wpAny (model prog w) A (eval (.Attribute e f pos) env) Q E s:=
 Attribute_any_ h (by rw[arm_eval_Attribute,hb])
end
def tFld (K:PySem.W.Frag)(ta:TE)(f:Str):TE:=fun σ H Q=>ta σ H fun x H1=>∃a C dx fs v,x=.ref a/\H1 a=some (.ins C dx fs)/\Cls K C/\NoAttr K C f/\fs.lookup f=some v/\Q v H1
def sFld (K:PySem.W.Frag)(ta tv:TE)(f:Str):TS:=fun D σ H=>tv σ H fun y H1=>ta σ H1 fun x H2=>∃a C dx fs,x=.ref a/\H2 a=some (.ins C dx fs)/\Cls K C/\NoAttr K C f/\fs.length<1000 /\
 D.nx σ (upd H2 a (.ins C dx (putF f y fs)))
section
variable {X:Cx} {o e value:Expr} {f:Str} {pos pos' tpos:Pos} {ta tv:TE}
theorem pe_fld (he:PE X e ta)(hb:attributeBase e f X.env (eval e X.env)=eval e X.env):PE X (.Attribute e f pos) (tFld X.K ta f):=by
 intro pins s σ H Q I h
 refine attr_of hb (thn (he pins s σ H _ I h) fun u s1 ⟨x,H1,I1,rx,a,C,dx,fs,v,ex,ea,c,n,l,q⟩=>?_)
 subst ex
 obtain rfl:u=Value.ref a:=rx
 exact getattr_ok I1 ea c n l fun u' s2 I2 ru=>⟨v,H1,I2,ru,q⟩
theorem ps_fld (ha:PE X o ta)(hv:PE X value tv)(hs:swapsWith value (some (.Attribute o f pos')) pos.line X.env=pure false):PS X (.Assign [.Attribute o f pos'] value pos) (sFld X.K ta tv f):=by
 intro pins s σ H D I h
 refine plainObj_wpAny_Assign_Attribute (thn (hv pins s σ H _ I h) fun u s1 ⟨y,H1,I1,ry,q⟩=>thn (ha pins s1 σ H1 _ I1 q) fun ov s2 ⟨x,H2,I2,rx,a,C,dx,fs,ex,ea,c,n,l,q2⟩=>?_) hs
 subst ex
 obtain rfl:ov=Value.ref a:=rx
 exact setattr_ok I2 ea c n l ry fun s3 I3=>⟨σ,_,I3,q2⟩
end
section
variable {X:Cx} {pins:List (Addr×Obj)} {σ:St} {H:Hp} {s:Shared} {A:Around} {E:Value->Shared->Prop} {Q:Value->Shared->Prop} {c:Value} {b:Bool}
inductive TyOf (K:PySem.W.Frag)(H:Hp):V->Value->Prop where
 | non:TyOf K H .non (.type "NoneType")
 | bl (x:Bool):TyOf K H (.bl x) (.type "bool")
 | int (i:Int):TyOf K H (.int i) (.type "int")
 | str (x:Str):TyOf K H (.str x) (.type "str")
 | flt (x:UInt64):TyOf K H (.flt x) (.type "float")
 | lst {a:Addr} {xs:List V} (e:H a=some (.lst xs)):TyOf K H (.ref a) (.type "list")
 | frz {a:Addr} {o:Obj} {xs:List V} (e:H a=some (.frz o (.lst xs))):TyOf K H (.ref a) (.type "list")
 | tup {a:Addr} {xs:List V} (e:H a=some (.tup xs)):TyOf K H (.ref a) (.type "tuple")
 | dK {a:Addr} {kvs:List (Key×V)} (e:H a=some (.dK kvs)):TyOf K H (.ref a) (.type "dict")
 | dT {a:Addr} {kvs:List (List Key×V)} (e:H a=some (.dT kvs)):TyOf K H (.ref a) (.type "dict")
 | ins {a C dx:Addr} {fs:List (Str×V)} (e:H a=some (.ins C dx fs)) (cl:Cls K C) (ha:PySem.W.findIn K (.ref C) "__class__"=some (some (.builtin "object.__class__")))
   (hn:PySem.W.specialIn K (.builtin "object.__class__") "__get__"=some (some (.builtin "getset_descriptor.__get__"))) (htk:PySem.W.takesIn K (.builtin "object.__class__")=some true)
   (hm:PySem.W.mroIn K C (.type "object")=some true):TyOf K H (.ref a) (.ref C)
theorem isinst_ok {x:V}{u t:Value}(I:Inv X pins σ H s)(rx:RelV x u)(ty:TyOf X.K H x t)(e:PySem.W.kitOne X.K t c=some b)(h:∀tk,Q (.bool b) {s with toks:=tk}):
  wpAny (model X.prog X.w) A (call (.builtin "isinstance") [u,c]) Q E s:=by
 cases ty with
 |non=>cases (show u=Value.none from rx);exact PySem.W.kia_one PySem.W.kitx_none I.kIn True.intro e (fun z=>nomatch z) h
 |bl y=>cases (show u=Value.bool y from rx);exact PySem.W.kia_one PySem.W.kitx_bool I.kIn True.intro e (fun z=>nomatch z) h
 |int i=>obtain⟨t,q⟩:=(show ∃t,u=Value.int i t from rx);cases q;exact PySem.W.kia_one PySem.W.kitx_int I.kIn True.intro e (fun z=>nomatch z) h
 |str y=>obtain⟨t,q⟩:=(show ∃t,u=Value.str y t from rx);cases q;exact PySem.W.kia_one PySem.W.kitx_str I.kIn True.intro e (fun z=>nomatch z) h
 |flt y=>obtain⟨t,q⟩:=(show ∃t,u=Value.float y t from rx);cases q;exact PySem.W.kia_one PySem.W.kitx_float I.kIn True.intro e (fun z=>nomatch z) h
 |@lst a xs ea=>
  cases (show u=Value.ref a from rx)
  obtain⟨_,_,n,_,h1⟩:=(show ObjOk X.prog X.w H s.heap a (.lst xs) from I.hok a _ ea)
  exact PySem.W.kia_one PySem.W.kitx_list I.kIn ⟨_,h1,rfl⟩ e (fun z=>nomatch z) h
 |@frz a ob xs ea=>
  cases (show u=Value.ref a from rx)
  obtain⟨_,_,_,n,_,h1⟩:=(show ObjOk X.prog X.w H s.heap a (.frz ob (.lst xs)) from I.hok a _ ea)
  exact PySem.W.kia_one PySem.W.kitx_list I.kIn ⟨_,h1,rfl⟩ e (fun z=>nomatch z) h
 |@tup a xs ea=>
  cases (show u=Value.ref a from rx)
  obtain⟨_,_,_,p⟩:=(show ObjOk X.prog X.w H s.heap a (.tup xs) from I.hok a _ ea)
  obtain⟨o,h1,h2,_⟩:=p
  exact PySem.W.kia_one PySem.W.kitx_tuple I.kIn ⟨o,h1,h2⟩ e (fun z=>nomatch z) h
 |@dK a kvs ea=>
  cases (show u=Value.ref a from rx)
  obtain⟨_,_,vs,_,p⟩:=(show ObjOk X.prog X.w H s.heap a (.dK kvs) from I.hok a _ ea)
  obtain⟨o,es,ep,h1,h2,_⟩:=p
  exact PySem.W.kia_one PySem.W.kitx_dict I.kIn ⟨o,h1,h2.1⟩ e (fun z=>nomatch z) h
 |@dT a kvs ea=>
  cases (show u=Value.ref a from rx)
  obtain⟨_,_,xs,_,o,es,ep,h1,h2,_⟩:=(show ObjOk X.prog X.w H s.heap a (.dT kvs) from I.hok a _ ea)
  exact PySem.W.kia_one PySem.W.kitx_dict I.kIn ⟨o,h1,h2.1⟩ e (fun z=>nomatch z) h
 |@ins a C dx fs ea cl ha hn htk hm=>
  cases (show u=Value.ref a from rx)
  obtain⟨mA,O,_⟩:=ins_get I.hok ea
  obtain⟨od,J,_⟩:=O.look
  exact PySem.W.kia_one (PySem.W.kitx_own (cl.get _) cl.hd ha hn htk hm) I.kIn J e (fun z=>nomatch z) h
end
end L2
namespace L2
open PySem PySem.Spec PyProof.Rows
structure Room (k:Nat)(A:Around):Prop where
 hd:A.handled=none
 dp:A.depth+3*k+5<recursionLimit
 un:A.units+16*k+200<cLine
theorem Room.mono {j k:Nat}{A:Around}(r:Room k A)(h:j<=k):Room j A:=⟨r.hd,by have:=r.dp;omega,by have:=r.un;omega⟩
theorem Room.deeper {k:Nat}{A:Around}(r:Room (k+1) A)(env:Env):Room k (A.deeper env):=
 ⟨r.hd,by have:=r.dp;show A.depth+1+3*k+5<_;omega,by have:=r.un;show A.units+3+16*k+200<_;omega⟩
theorem make_depth {A:Around}{C:Addr}{us:List Value}{kw:List (Str×Value)}:(A.under (.builtin "type.__call__" ⟨.ref C::us,kw⟩)).depth=A.depth+1:=by
 first|rfl|simp[Around.under,Code.weight,Code.isCreation,Code.isGuard,Code.isCaller,Code.frames,Code.isFrame,guardIds]
theorem make_units {A:Around}{C:Addr}{us:List Value}{kw:List (Str×Value)}:(A.under (.builtin "type.__call__" ⟨.ref C::us,kw⟩)).units=A.units+1:=by
 first|rfl|simp[Around.under,Code.cUnits,Code.frames,Code.isFrame]
theorem Room.make {k:Nat}{A:Around}(r:Room (k+1) A)(C:Addr)(us:List Value)(kw:List (Str×Value)):Room k (A.under (.builtin "type.__call__" ⟨.ref C::us,kw⟩)):=
 ⟨r.hd,by have:=r.dp;rw[make_depth];omega,by have:=r.un;rw[make_units];omega⟩
theorem Room.depth {k:Nat}{A:Around}(r:Room k A):A.depth<recursionLimit:=by have:=r.dp;omega
theorem Room.units {k:Nat}{A:Around}(r:Room k A):A.units+64<cLine:=by have:=r.un;omega
theorem Room.units0 {k:Nat}{A:Around}(r:Room k A):A.units<cLine:=by have:=r.un;omega
def tNil:TA:=fun _ H Q=>Q [] H
def tCons (ta:TE)(tr:TA):TA:=fun σ H Q=>ta σ H fun x H1=>tr σ H1 fun xs H2=>Q (x::xs) H2
section
variable {X:Cx} {e:Expr} {es:List Expr} {te:TE} {t:TA} {pos:Pos}
theorem pa_nil:PA X [] tNil:=fun _ _ _ _ H Q I h=>Calls.spliced_nil ⟨[],H,I,.nil,h⟩
theorem pa_cons (ha:PE X e te)(hr:PA X es t)(hs:starEach (e::es) X.env=(false,eval e X.env)::starEach es X.env:=by rfl):PA X (e::es) (tCons te t):=by
 intro pos pins s σ H Q I h
 rw[hs]
 show wpAny _ _ (spliced ((false,eval e X.env)::backTo pos (starEach es X.env))) _ _ s
 refine Calls.spliced_cons (thn (ha pins s σ H _ I h) fun u s1 ⟨x,H1,I1,r1,q1⟩=>?_)
 exact thn (hr pos pins s1 σ H1 _ I1 q1) fun us s2 ⟨xs,H2,I2,r2,q2⟩=>⟨x::xs,H2,I2,.cons r1 r2,q2⟩
def tTup (t:TA):TE:=fun σ H Q=>t σ H fun xs H1=>xs.length<=sizeLine/\∀p,H1 p=none->Q (.ref p) (upd H1 p (.tup xs))
def tLst (t:TA):TE:=fun σ H Q=>t σ H fun xs H1=>xs.length<=sizeLine/\∀p,H1 p=none->Q (.ref p) (upd H1 p (.lst xs))
theorem pe_tup {x1}(h:PA X es t):PE X (.Tuple es x1 pos) (tTup t):=by
 intro pins s σ H Q I hq
 refine wpAny_Tuple_spliced (thn (h pos pins s σ H _ I hq) fun us s1 ⟨xs,H1,I1,r,z,q⟩=>⟨by rw[<-r.length];exact z,?_⟩)
 have hf:H1 s1.heap.objs.size=none:=I1.hok.fresh (Nat.le_refl _)
 refine⟨.ref s1.heap.objs.size,upd H1 s1.heap.objs.size (.tup xs),I1.laid (t':=s1.toks) (fun b u e=>Heap.get?_push_of_some _ e) (Nat.le_refl _) ?_,rfl,q _ hf⟩
 exact⟨z,us,r,⟨_,Heap.get?_push_size _ rfl,rfl,_,rfl⟩⟩
theorem pe_lst (h:PA X es t):PE X (.List es pos) (tLst t):=by
 intro pins s σ H Q I hq
 refine wpAny_List_spliced (thn (h pos pins s σ H _ I hq) fun us s1 ⟨xs,H1,I1,r,z,q⟩=>⟨by rw[<-r.length];exact z,?_⟩)
 have hf:H1 s1.heap.objs.size=none:=I1.hok.fresh (Nat.le_refl _)
 refine⟨.ref s1.heap.objs.size,upd H1 s1.heap.objs.size (.lst xs),I1.laid (t':=s1.toks) (fun b u e=>Heap.get?_push_of_some _ e) (Nat.le_refl _) ?_,rfl,q _ hf⟩
 exact⟨z,us,0,r,Heap.get?_push_size _ rfl⟩
end
abbrev Sp:=List V->Hp->VK->XK->Prop
abbrev CXT:=List Env->Hp->Shared->XK->Value->Shared->Prop
structure Env0 (P:Program)(w:World)(K:PySem.W.Frag)(mg:Str->Option Value)(base:Heap)(A:Around)(outer:List Env)(s:Shared)(H:Hp):Prop where
 frames:A.frames=some outer
 mod:Mod K mg base
 bs:∀b o,base.get? b=some o->s.heap.get? b=some o/\H b=none
 bsz:base.objs.size<=s.heap.objs.size
 funs:s.heap.FunFrames base outer
 frf:∀b∈frs outer,H b=none
 hok:HOk P w H s.heap
 bare:AllBare s.gens
def CE (outer:List Env)(P:Program)(w:World)(H:Hp)(s:Shared)(Q:VK)(u:Value)(s':Shared):Prop:=
 ∃v H',s'.os=s.os/\AllBare s'.gens/\Un (frs outer) [] H H' s.heap s'.heap/\HOk P w H' s'.heap/\RelV v u/\Q v H'
def CR (CX:CXT)(outer:List Env)(P:Program)(w:World)(H:Hp)(s:Shared)(Q:VK)(E:XK)(r:Result)(s':Shared):Prop:=
 match r with
 |.ok (.ret u)=>CE outer P w H s Q u s'
 |.ok _=>False
 |.error e=>CX outer H s E e s'
structure FnOk (P:Program)(w:World)(K:PySem.W.Frag)(mg:Str->Option Value)(base:Heap)(CX:CXT)(k:Nat)(f:Addr)(fd:FuncData)(ps:List Str)(sp:Sp):Prop where
 len:∀vs H Q E,sp vs H Q E->vs.length=ps.length
 run:∀(A:Around) (outer:List Env) (s:Shared) (H:Hp) (args:Args) (us:List Value) (vs:List V) (Q:VK) (E:XK),Room k A->Env0 P w K mg base A outer s H->BindsTo s fd args (ps.zip us)->Vals vs us->sp vs H Q E ->
  codeAny (model P w) A (.call (.ref f) args) (CR CX outer P w H s Q E) s
theorem Env0.make {P:Program}{w:World}{K:PySem.W.Frag}{mg:Str->Option Value}{base:Heap}{A:Around}{outer:List Env}{s:Shared}{H:Hp}(e:Env0 P w K mg base A outer s H)(C:Addr)(us:List Value)(kw:List (Str×Value)):
  Env0 P w K mg base (A.under (.builtin "type.__call__" ⟨.ref C::us,kw⟩)) outer s H:=⟨by first|exact e.frames|(simpa [Around.under,Code.envs,Code.isFrame,pushEnvs] using e.frames),e.mod,e.bs,e.bsz,e.funs,e.frf,e.hok,e.bare⟩
section
variable {X:Cx} {pins:List (Addr×Obj)} {σ:St} {H:Hp} {s s':Shared}
theorem Inv.env0 (I:Inv X pins σ H s):Env0 X.prog X.w X.K X.mg X.base X.A X.stack s H:=
 ⟨I.ok.frames,I.ok.mod,I.bs,Nat.le_trans I.ok.bsz I.sz,I.stack,I.stkFree,I.hok,I.bare⟩
theorem Inv.after {Q:VK}{u:Value}(I:Inv X pins σ H s)(h:CE X.stack X.prog X.w H s Q u s'):EP X pins σ Q u s':=by
 obtain⟨v,H',os,bare,un,hok,r,q⟩:=h
 obtain⟨hh,g,d,t,os'⟩:=s'
 obtain rfl:os'=s.os:=os
 exact⟨v,H',I.call (h':=hh) (g':=g) (d':=d) (t':=t) (ch:=[]) un hok bare (fun b z=>absurd z (by simp)),r,q⟩
end
def tCall (sp:Sp)(dvs:List V)(E:XK)(t:TA):TE:=fun σ H Q=>t σ H fun vs H1=>sp (vs++dvs) H1 Q E
def tMeth (C:Addr)(m:Str)(sp:Sp)(dvs:List V)(E:XK)(ta:TE)(t:TA):TE:=fun σ H Q=>ta σ H fun x H1=>∃a dx fs,x=.ref a/\H1 a=some (.ins C dx fs)/\fs.lookup m=none /\
 t σ H1 fun vs H2=>sp (x::(vs++dvs)) H2 Q E
def tMake (C:Addr)(sp:Sp)(dvs:List V)(E:XK)(t:TA):TE:=fun σ H Q=>t σ H fun vs H1=>∀x dx,H1 x=none->H1 dx=none->dx≠x ->
 sp (.ref x::(vs++dvs)) (upd (upd H1 dx (.own x)) x (.ins C dx [])) (fun v H2=>v=.non/\Q (.ref x) H2) E
def Binds (K:PySem.W.Frag)(fd:FuncData)(ps:List Str)(ds:List Value):Prop:=
 ∀(s:Shared) (us:List Value),K.In s.heap->(us++ds).length=ps.length->BindsTo s fd ⟨us,[]⟩ (ps.zip (us++ds))
theorem Binds.all {K:PySem.W.Frag}{fd:FuncData}{ps:List Str}(h:∀us:List Value,us.length=ps.length->bindArgs fd ⟨us,[]⟩=pure (ps.zip us)):Binds K fd ps []:=fun s us _ hl=>by
 rw[List.append_nil]at hl ⊢
 exact .of_eq (h us hl)
def Passes (CX:CXT)(X:Cx)(E:XK):Prop:=∀(pins:List (Addr×Obj)) (σ:St) (H:Hp) (s:Shared) (e:Value) (s':Shared),Inv X pins σ H s->CX X.stack H s E e s'->X.xe e s'
section
variable {X:Cx} {CX:CXT} {k:Nat} {f C:Addr} {fd:FuncData} {ps:List Str} {sp:Sp} {dvs:List V} {ds:List Value} {E:XK} {x m:Str} {p pos apos:Pos} {e o:Expr} {es:List Expr} {ta:TE} {t:TA}
theorem run_fn {pins:List (Addr×Obj)}{σ:St}{H:Hp}{s:Shared}{Q:VK}{us:List Value}{vs:List V}(F:FnOk X.prog X.w X.K X.mg X.base CX k f fd ps sp)(hr:Room k X.A)(hb:Binds X.K fd ps ds)(hd:Vals dvs ds)(hx:Passes CX X E)
  (I:Inv X pins σ H s) (r:Vals vs us) (h:sp (vs++dvs) H Q E):wpAny (model X.prog X.w) X.A (call (.ref f) us) (EP X pins σ Q) X.xe s:=by
 have r2:Vals (vs++dvs) (us++ds):=r.append hd
 have hl:(us++ds).length=ps.length:=by rw[<-r2.length];exact F.len _ _ _ _ h
 refine wpAny_call (codeAny_mono (F.run X.A X.stack s H ⟨us,[]⟩ (us++ds) (vs++dvs) Q E hr I.env0 (hb s us I.kIn hl) r2 h) fun r s' hq=>?_)
 cases r with
 |error e=>exact hx pins σ H s e s' I hq
 |ok fl=>
  cases fl with
  |ret u=>exact I.after hq
  |next=>exact False.elim hq
  |brk=>exact False.elim hq
  |cont=>exact False.elim hq
theorem pe_call (F:FnOk X.prog X.w X.K X.mg X.base CX k f fd ps sp)(hr:Room k X.A)(hg:Gl X x)(hm:X.mg x=some (.ref f))(hk:PySem.W.keepIn X.K (.ref f)=true)(hb:Binds X.K fd ps ds)(hd:Vals dvs ds)(hx:Passes CX X E)
  (ha:PA X (e::es) t) (hdb:(x==("__debug__" : Str))=false:=by decide) (he:starEach (e::es) X.env=(false,eval e X.env)::starEach es X.env:=by rfl) (hpl:(backTo pos (starEach es X.env)).any (·.1)=false:=by rfl):
  PE X (.Call (.Name x p) (e::es) [] pos) (tCall sp dvs E t):=by
 intro pins s σ H Q I h
 refine wpAny_Call_Name_kw (ld_glob I hg hm ?_ hdb)
 refine PySem.W.callWith_K (h₀:=X.base) I.ok.mod.kin hk (thn (ha pos pins s σ H _ I h) fun us s1 ⟨vs,H1,I1,r,q⟩=>⟨I1.kIn,?_⟩) he hpl
 exact run_fn F hr hb hd hx I1 r q
theorem pe_meth {pl:Sem Bool}(he:PE X o ta)(c:Cls X.K C)(hm:Meth X.K C m f)(F:FnOk X.prog X.w X.K X.mg X.base CX k f fd ps sp)(hr:Room k X.A)(hb:Binds X.K fd ps ds)(hd:Vals dvs ds)(hx:Passes CX X E)(ha:PA X (e::es) t)
  (hst:starEach (e::es) X.env=(false,eval e X.env)::starEach es X.env:=by rfl) (hpl:(backTo pos (starEach es X.env)).any (·.1)=false:=by rfl)
  (ht:eval (.Call (.Attribute o m apos) (e::es) [] pos) X.env=(do
   let ov <- eval o X.env
   standAt apos.atName
   let (f,first) <- holding [ov] (getMethod ov m pl)
   callWith pos f first (backTo pos (starEach (e::es) X.env)) (backToKw pos (keywordEach [] X.env))):=by rfl):
  PE X (.Call (.Attribute o m apos) (e::es) [] pos) (tMeth C m sp dvs E ta t):=by
 intro pins s σ H Q I h
 refine PySem.W.methodCall_KW (pl:=pl) (thn (he pins s σ H _ I h) fun u s1 ⟨x,H1,I1,rx,a,dx,fs,ex,ea,l,q⟩=>?_) ht
 subst ex
 obtain rfl:u=Value.ref a:=rx
 refine getmeth_ok I1 ea c hm l ?_
 refine PySem.W.callWith_K (first:=[.ref a]) (h₀:=X.base) I.ok.mod.kin hm.kp (thn (ha pos pins s1 σ H1 _ I1 q) fun us s2 ⟨vs,H2,I2,r,q2⟩=>⟨I2.kIn,?_⟩) hst hpl
 exact run_fn (us:=.ref a::us) (vs:=.ref a::vs) F hr hb hd hx I2 (.cons rfl r) q2
theorem pe_meth0 {pl:Sem Bool}(he:PE X o ta)(c:Cls X.K C)(hm:Meth X.K C m f)(F:FnOk X.prog X.w X.K X.mg X.base CX k f fd ps sp)(hr:Room k X.A)(hb:Binds X.K fd ps ds)(hd:Vals dvs ds)(hx:Passes CX X E)
  (ht:eval (.Call (.Attribute o m apos) [] [] pos) X.env=(do
   let ov <- eval o X.env
   standAt apos.atName
   let (f,first) <- holding [ov] (getMethod ov m pl)
   callWith pos f first (backTo pos (starEach [] X.env)) (backToKw pos (keywordEach [] X.env))):=by rfl):
  PE X (.Call (.Attribute o m apos) [] [] pos) (tMeth C m sp dvs E ta tNil):=by
 intro pins s σ H Q I h
 refine PySem.W.methodCall_KW (pl:=pl) (thn (he pins s σ H _ I h) fun u s1 ⟨x,H1,I1,rx,a,dx,fs,ex,ea,l,q⟩=>?_) ht
 subst ex
 obtain rfl:u=Value.ref a:=rx
 refine getmeth_ok I1 ea c hm l ?_
 exact PySem.W.callWith_K0 (first:=[.ref a]) I1.kIn hm.kp (run_fn (us:=[.ref a]) (vs:=[.ref a]) F hr hb hd hx I1 (.cons rfl .nil) q)
structure Mk (K:PySem.W.Frag)(C f:Addr):Prop where
 makes:PySem.W.makesIn K C=true
 init:PySem.W.findIn K (.ref C) "__init__"=some (some (.ref f))
 fn:PySem.W.isFn K (.ref f)=true
 kp:PySem.W.keepIn K (.ref C)=true
theorem run_make {pins:List (Addr×Obj)}{σ:St}{H:Hp}{s:Shared}{Q:VK}{us:List Value}{vs:List V}(M:Mk X.K C f)(F:FnOk X.prog X.w X.K X.mg X.base CX k f fd ps sp)(hr:Room (k+1) X.A)(hb:Binds X.K fd ps ds)(hd:Vals dvs ds)
  (hx:Passes CX X E) (I:Inv X pins σ H s) (r:Vals vs us)
  (h:∀x dx,H x=none->H dx=none->dx≠x->sp (.ref x::(vs++dvs)) (upd (upd H dx (.own x)) x (.ins C dx [])) (fun v H2=>v=.non/\Q (.ref x) H2) E):
  wpAny (model X.prog X.w) X.A (call (.ref C) us) (EP X pins σ Q) X.xe s:=by
 have hq:=h (s.heap.objs.size+1) s.heap.objs.size (I.hok.fresh (Nat.le_succ _)) (I.hok.fresh (Nat.le_refl _)) (Nat.ne_of_lt (Nat.lt_succ_self _))
 have I2:=Inv.made (C:=C) I
 have r2:Vals (V.ref (s.heap.objs.size+1)::(vs++dvs)) (Value.ref (s.heap.objs.size+1)::(us++ds)):=.cons rfl (r.append hd)
 have hl:(Value.ref (s.heap.objs.size+1)::us++ds).length=ps.length:=by
  have e:=r2.length
  rw[F.len _ _ _ _ hq]at e
  exact e.symm
 refine wpAny_call (make_map (f:=f) I.kIn M.makes M.init (beq_iff_eq.mp M.fn) (codeAny_mono (F.run _ X.stack _ _ ⟨Value.ref (s.heap.objs.size+1)::us,[]⟩ (Value.ref (s.heap.objs.size+1)::(us++ds)) _ _ E (hr.make C us [])
  (I2.env0.make C us []) (hb _ (Value.ref (s.heap.objs.size+1)::us) I2.kIn hl) r2 hq) fun r s' hq'=>?_))
 cases r with
 |error e=>exact hx pins σ _ _ e s' I2 hq'
 |ok fl=>
  cases fl with
  |ret u=>
   obtain⟨v,H',I3,rv,ev,q3⟩:=I2.after hq'
   subst ev
   exact⟨rv,⟨V.ref (s.heap.objs.size+1),H',I3,rfl,q3⟩⟩
  |next=>exact False.elim hq'
  |brk=>exact False.elim hq'
  |cont=>exact False.elim hq'
theorem pe_make (M:Mk X.K C f)(F:FnOk X.prog X.w X.K X.mg X.base CX k f fd ps sp)(hr:Room (k+1) X.A)(hg:Gl X x)(hm:X.mg x=some (.ref C))(hb:Binds X.K fd ps ds)(hd:Vals dvs ds)(hx:Passes CX X E)
  (ha:PA X (e::es) t) (hdb:(x==("__debug__" : Str))=false:=by decide) (he:starEach (e::es) X.env=(false,eval e X.env)::starEach es X.env:=by rfl) (hpl:(backTo pos (starEach es X.env)).any (·.1)=false:=by rfl):
  PE X (.Call (.Name x p) (e::es) [] pos) (tMake C sp dvs E t):=by
 intro pins s σ H Q I h
 refine wpAny_Call_Name_kw (ld_glob I hg hm ?_ hdb)
 refine PySem.W.callWith_K (h₀:=X.base) I.ok.mod.kin M.kp (thn (ha pos pins s σ H _ I h) fun us s1 ⟨vs,H1,I1,r,q⟩=>⟨I1.kIn,?_⟩) he hpl
 exact run_make M F hr hb hd hx I1 r q
end
structure FnScope (N P:List Str)(sc:Scope):Prop where
 kind:sc.kind=.function
 co:sc.isCoroutine=false
 gen:sc.isGenerator=false
 nd:N.Nodup
 pre:N.take P.length=P
 par:∀x∈P,sc.names.lookup x=some .local\/sc.names.lookup x=some .cell
 nofree:∀y∈sc.names,y.2 ≠ .free
theorem bindL_out {kindOf:Str->Option NameKind}{x:Str}:∀{binds:List (Str×Value)} {m:Str->Option Value},(∀v,(x,v)∉binds)->bindL kindOf binds m x=m x
 |[],_,_=>rfl
 | (n,v)::r,m,h=>by
  unfold bindL
  rw[bindL_out fun w hw=>h w (List.mem_cons_of_mem _ hw)]
  split
  ·have:x≠n:=by rintro rfl;exact h v List.mem_cons_self
   simp[this]
  ·rfl
theorem bindC_out {kindOf:Str->Option NameKind}{x:Str}:∀{binds:List (Str×Value)} {m:Str->Option Value},(∀v,(x,v)∉binds)->bindC kindOf binds m x=m x
 |[],_,_=>rfl
 | (n,v)::r,m,h=>by
  unfold bindC
  rw[bindC_out fun w hw=>h w (List.mem_cons_of_mem _ hw)]
  split
  ·rfl
  ·have:x≠n:=by rintro rfl;exact h v List.mem_cons_self
   simp[this]
theorem bindL_get {kindOf:Str->Option NameKind}{x:Str}{v:Value}:∀{P:List Str} {vs:List Value} {i:Nat} {m:Str->Option Value},P.Nodup->P[i]?=some x->vs[i]?=some v->kindOf x=some .local ->
  bindL kindOf (P.zip vs) m x=some v
 |[],_,_,_,_,h,_,_=>by simp at h
 |_::_,[],_,_,_,_,h,_=>by simp at h
 |p::P,w::vs,0,m,nd,h1,h2,hk=>by
  simp at h1 h2;subst h1;subst h2
  show bindL kindOf ((p,w)::P.zip vs) m p=_
  unfold bindL
  rw[bindL_out fun v hv=>(List.nodup_cons.mp nd).1 (List.of_mem_zip hv).1,if_pos hk]
  simp
 |p::P,w::vs,i+1,m,nd,h1,h2,hk=>by
  show bindL kindOf ((p,w)::P.zip vs) m x=_
  unfold bindL
  exact bindL_get (i:=i) (List.nodup_cons.mp nd).2 (by simpa using h1) (by simpa using h2) hk
theorem bindC_get {kindOf:Str->Option NameKind}{x:Str}{v:Value}:∀{P:List Str} {vs:List Value} {i:Nat} {m:Str->Option Value},P.Nodup->P[i]?=some x->vs[i]?=some v->kindOf x≠some .local ->
  bindC kindOf (P.zip vs) m x=some v
 |[],_,_,_,_,h,_,_=>by simp at h
 |_::_,[],_,_,_,_,h,_=>by simp at h
 |p::P,w::vs,0,m,nd,h1,h2,hk=>by
  simp at h1 h2;subst h1;subst h2
  show bindC kindOf ((p,w)::P.zip vs) m p=_
  unfold bindC
  rw[bindC_out fun v hv=>(List.nodup_cons.mp nd).1 (List.of_mem_zip hv).1,if_neg hk]
  simp
 |p::P,w::vs,i+1,m,nd,h1,h2,hk=>by
  show bindC kindOf ((p,w)::P.zip vs) m x=_
  unfold bindC
  exact bindC_get (i:=i) (List.nodup_cons.mp nd).2 (by simpa using h1) (by simpa using h2) hk
def start (N:List Str)(vs:List V):St:=vs.map some++List.replicate (N.length-vs.length) none
def cxOf (CX:CXT)(P:Program)(w:World)(K:PySem.W.Frag)(mg:Str->Option Value)(base:Heap)(N:List Str)(qual:Str)(scope:Scope)(f:Addr)(cd:Value)(A:Around)(outer:List Env)(s:Shared)(H:Hp)(E:XK):Cx where
 prog:=P
 w:=w
 K:=K
 mg:=mg
 base:=base
 A:=A.deeper (envOfC qual scope s.heap.objs.size f cd)
 N:=N
 s₀:=s
 H₀:=H
 env:=envOfC qual scope s.heap.objs.size f cd
 outer:=outer
 stack:=envOfC qual scope s.heap.objs.size f cd::outer
 ex:=[]
 calm:=true
 fn:=fun _=>true
 pn:=[]
 xe:=fun e s'=>wpAny (model P w) (A.deeper (envOfC qual scope s.heap.objs.size f cd)) (leaving (envOfC qual scope s.heap.objs.size f cd) e) (fun _ s''=>CX outer H s E e s'') (fun e' s''=>CX outer H s E e' s'') s'
theorem cell_has {sc:Scope}{n:Nat}{x:Str}(h:sc.names.lookup x=some .cell):∃c,(cellsFrom n sc.names []).lookup x=some c:=by
 have q:=PySem.W.cellsFrom_some sc.names n [] (.inl h)
 exact Option.isSome_iff_exists.mp q
theorem inv_start {CX:CXT}{P:Program}{w:World}{K:PySem.W.Frag}{mg:Str->Option Value}{base:Heap}{N ps:List Str}{qual:Str}{scope:Scope}{f:Addr}{cd:Value}{A:Around}{outer:List Env}{s s1:Shared}{H:Hp}{E:XK}{us:List Value}{vs:List V}
  (S:FnScope N ps scope) (hd:A.handled=none) (e0:Env0 P w K mg base A outer s H) (hl:vs.length=ps.length) (r:Vals vs us)
  (x:InCallC s s.heap.objs.size (bindL (envOfC qual scope s.heap.objs.size f cd).kindOf (ps.zip us) fun _=>none) (cellsFrom (s.heap.objs.size+1) scope.names []) (bindC (envOfC qual scope s.heap.objs.size f cd).kindOf (ps.zip us) fun _=>none) s1):
  Inv (cxOf CX P w K mg base N qual scope f cd A outer s H E) [] (start N vs) H s1:=by
 have hpl:ps.length<=N.length:=by have:=congrArg List.length S.pre;rw[List.length_take]at this;omega
 obtain⟨h1,tk,rfl,hk⟩:=x.done
 have noA:∀b:Addr,b∉(cxOf CX P w K mg base N qual scope f cd A outer s H E).ex:=fun b z=>absurd (show b∈([]:List Addr) from z) (by simp)
 refine⟨⟨e0.mod,S.kind,rfl,rfl,Nat.le_refl _,fun y z c h1 h2=>?_,fun y hy=>?_,fun y c _ h=>?_,fun _=>hd,Around.frames_deeper e0.frames,.inr ⟨rfl,rfl⟩,fun b z=>absurd z (noA b),e0.bs,e0.bsz,fun b _ _=>noA b,fun b z=>absurd z (noA b),e0.funs,e0.frf⟩,
  rfl,e0.bare,Un.kept hk,⟨_,x.toInCall.ns,fun i y v h1 h2 h3=>?_⟩,fun y c h=>⟨_,x.cell y c h⟩,e0.hok.fresh (Nat.le_refl _),fun y c h=>?_,fun p hp=>absurd (show p∈([]:List (Addr×Obj)) from hp) (by simp),e0.hok.kept hk,?_⟩
 ·exact name_of_addr x.apart (PySem.mem_of_lookup h1) (PySem.mem_of_lookup h2)
 ·have hy:scope.names.lookup y=some .cell\/scope.names.lookup y=some .free:=hy
  rcases hy with hy|hy
  ·exact cell_has hy
  ·exact absurd rfl (S.nofree _ (PySem.mem_of_lookup hy))
 ·exact Nat.le_of_lt (x.above y c (PySem.mem_of_lookup h))
 ·have hi:i<vs.length:=by
   unfold start at h2
   by_cases hi:i<vs.length
   ·exact hi
   ·rw[List.getElem?_append_right (by simpa using hi)]at h2
    rw[List.getElem?_replicate]at h2
    split at h2<;>cases h2
  have ha:vs[i]?=some v:=by
   unfold start at h2
   rw[List.getElem?_append_left (by simpa using hi),List.getElem?_map]at h2
   cases e:vs[i]? with
   |none=>rw[e]at h2;cases h2
   |some a=>rw[e]at h2;cases h2;rfl
  obtain⟨u,hu,rv⟩:=r.get ha
  have hp:ps[i]?=some y:=by
   rw[<-S.pre,List.getElem?_take_of_lt (by omega)];exact h1
  have ndP:ps.Nodup:=by rw[<-S.pre];exact S.nd.sublist (List.take_sublist _ _)
  refine⟨u,rv,?_⟩
  rcases S.par y (List.mem_of_getElem? hp) with k|k
  ·exact .inl ⟨k,bindL_get ndP hp hu k⟩
  ·obtain⟨c,e⟩:=cell_has (n:=s.heap.objs.size+1) k
   refine .inr ⟨.inl k,c,e,?_⟩
   have q:=x.cell y c e
   rw[bindC_get ndP hp hu (by show scope.names.lookup y≠_;rw[k];decide)]at q
   exact q
 ·exact e0.hok.fresh (Nat.le_of_lt (x.above y c (PySem.mem_of_lookup h)))
 ·unfold start
  show _=N.length
  rw[List.length_append,List.length_map,List.length_replicate]
  omega
theorem fn_of {CX:CXT}{P:Program}{w:World}{K:PySem.W.Frag}{mg:Str->Option Value}{base:Heap}{k:Nat}{f:Addr}{name qual:Str}{params:Arguments}{body:List Stmt}{scope:Scope}{dV kV doc pm cdv ct oc:Value}{an od:Option Addr}
  {osl:Array (Option Value)} {N ps:List Str} {sp:Sp} (lk:K.lookup f=some ⟨oc,od,.func (PySem.W.fnOf name qual params body scope dV kV doc pm an cdv ct),osl⟩) (hcd:PySem.W.codeIn K cdv qual=true) (S:FnScope N ps scope)
  (len:∀vs H Q E,sp vs H Q E->vs.length=ps.length)
  (hbody:∀(A:Around) (outer:List Env) (s:Shared) (H:Hp) (vs:List V) (Q:VK) (E:XK),Room k (A.deeper (envOfC qual scope s.heap.objs.size f cdv))->sp vs H Q E ->
   ∃t,PSs (cxOf CX P w K mg base N qual scope f cdv A outer s H E) body t/\t {nx:=fun _ H'=>Q .non H',rt:=Q} (start N vs) H):
  FnOk P w K mg base CX (k+1) f (PySem.W.fnOf name qual params body scope dV kV doc pm an cdv ct) ps sp:=by
 refine⟨len,fun A outer s H args us vs Q E hr e0 hb r hsp=>?_⟩
 have hl:=len _ _ _ _ hsp
 have KX:K.In s.heap:=e0.mod.kin.keeps fun b o e=>(e0.bs b o e).1
 have lim:s.heap.NoLimit:=e0.mod.nolimit.keeps fun b o e=>(e0.bs b o e).1
 have hkind:∀y∈ps.zip us,scope.names.lookup y.1=some .local\/(scope.names.lookup y.1=some .cell/\((cellsFrom (s.heap.objs.size+1) scope.names []).lookup y.1).isSome=true):=fun ⟨n,v⟩ hy=>by
  rcases S.par n (List.of_mem_zip hy).1 with q|q
  ·exact .inl q
  ·exact .inr ⟨q,PySem.W.cellsFrom_some _ _ _ (.inl q)⟩
 refine codeAny_call_function hr.depth (KX _ _ lk) rfl S.co S.gen rfl (PySem.W.codeRec_of KX hcd) (hb _ _ _ _ ?_)
 refine wpAny_newFunctionEnv_cells S.kind hkind fun env he s1 x=>?_
 subst he
 refine⟨lim.keeps x.toInCall.keep,codeAny_func ?_⟩
 obtain⟨t,ht,hq⟩:=hbody A outer s H vs Q E (hr.deeper _) hsp
 have I:Inv (cxOf CX P w K mg base N qual scope f cdv A outer s H E) [] (start N vs) H s1:=inv_start S hr.hd e0 hl r x
 refine wpAny_mono (ht [] s1 (start N vs) H _ I hq) (fun fl s' hs=>?_) fun e s' hs=>hs
 have fin:∀{σ':St} {H':Hp} {v:V} {u:Value},Inv (cxOf CX P w K mg base N qual scope f cdv A outer s H E) [] σ' H' s'->RelV v u->Q v H'->CE outer P w H s Q u s' :=
  fun {σ' H' v u} J rv q=>⟨v,H',J.os,J.bare,J.base,J.hok,rv,q⟩
 cases fl with
 |ret u=>
  obtain⟨v,σ',H',J,rv,q⟩:=hs
  exact fin J rv q
 |next=>
  obtain⟨σ',H',J,q⟩:=hs
  exact fin (v:=V.non) (u:=Value.none) J rfl q
 |brk=>
  obtain⟨_,_,_,q⟩:=hs
  exact False.elim q
 |cont=>
  obtain⟨_,_,_,q⟩:=hs
  exact False.elim q
end L2
namespace L2
open PySem PySem.Spec PyProof.Rows
section
variable {X:Cx} {x:Str} {p pos:Pos} {e:Expr} {es:List Expr} {t:TA} {id T:String} {r:List V->Hp->VK->Prop}
def tCB (r:List V->Hp->VK->Prop)(t:TA):TE:=fun σ H Q=>t σ H fun vs H1=>r vs H1 Q
theorem pe_callB (hc:CallR X (.builtin id) r)(hg:Gl X x)(hm:X.mg x=none)(hv:bootBuiltins x=some (.builtin id))(ha:PA X (e::es) t)(hn:x ≠ "__name__" := by decide)(hdb:(x==("__debug__" : Str))=false:=by decide)
  (he:starEach (e::es) X.env=(false,eval e X.env)::starEach es X.env:=by rfl) (hpl:(backTo pos (starEach es X.env)).any (·.1)=false:=by rfl):PE X (.Call (.Name x p) (e::es) [] pos) (tCB r t):=by
 intro pins s σ H Q I h
 refine wpAny_Call_Name_kw (ld_blt I hg hm hv ?_ hn hdb)
 exact PyProof.Rows.callWith_builtin1 (thn (ha pos pins s σ H _ I h) fun us s1 ⟨vs,H1,I1,r1,q1⟩=>hc pins s1 σ H1 vs us Q I1 r1 q1) he hpl
theorem pe_callTy (hc:CallR X (.type T) r)(hg:Gl X x)(hm:X.mg x=none)(hv:bootBuiltins x=some (.type T))(ha:PA X (e::es) t)(hn:x ≠ "__name__" := by decide)(hdb:(x==("__debug__" : Str))=false:=by decide)
  (he:starEach (e::es) X.env=(false,eval e X.env)::starEach es X.env:=by rfl) (hpl:(backTo pos (starEach es X.env)).any (·.1)=false:=by rfl):PE X (.Call (.Name x p) (e::es) [] pos) (tCB r t):=by
 intro pins s σ H Q I h
 refine wpAny_Call_Name_kw (ld_blt I hg hm hv ?_ hn hdb)
 exact PyProof.Rows.callWith_type1 (thn (ha pos pins s σ H _ I h) fun us s1 ⟨vs,H1,I1,r1,q1⟩=>hc pins s1 σ H1 vs us Q I1 r1 q1) he hpl
end
end L2
namespace HT
open PySem PyProof.Rows
section
variable {prog:Program} {w:World} {A:Around} {E:Value->Shared->Prop} {s:Shared}
theorem cat_tup {t b:Addr}{vs ws:List Value}{Q:Value->Shared->Prop}(ht:IsTup s.heap t vs.toArray)(hb:IsTup s.heap b ws.toArray)(hv:vs ≠ [])
  (h1:ws=[]->Q (.ref t) s) (h2:ws ≠ []->Q (.ref s.heap.objs.size) {s with heap:=s.heap.push {cls:=.type "tuple",data:=.seq (vs++ws).toArray} })
  (hsz:vs.length+ws.length<=sizeLine):wpAny (model prog w) A (binaryOp .Add (.ref t) (.ref b)) Q E s:=by
 obtain⟨⟨cls,dd,data,sl⟩,ho,hc,n,hd⟩:=id ht
 obtain⟨⟨cls2,dd2,data2,sl2⟩,ho2,hc2,n2,hd2⟩:=id hb
 simp only at hc hd hc2 hd2
 subst hc hd hc2 hd2
 have e:vs.toArray++ws.toArray=(vs++ws).toArray:=by simp
 by_cases hw:ws=[]
 ·exact concat_meets ⟨_,ho,rfl⟩ ⟨_,ho2,rfl⟩ noFill_tuple_add seq_tuple_add PySem.F.slot_tuple_add PySem.F.entry_tuple_add (PySem.F.args_tuple_add_2 _ _)
   (tuple_addW1 t b vs.toArray ws.toArray n n2 dd dd2 sl sl2 (by simpa using hv) (by simp[hw])) ⟨ho,ho2,h1 hw⟩
 ·refine concat_meets ⟨_,ho,rfl⟩ ⟨_,ho2,rfl⟩ noFill_tuple_add seq_tuple_add PySem.F.slot_tuple_add PySem.F.entry_tuple_add (PySem.F.args_tuple_add_2 _ _)
   (tuple_addW2 t b vs.toArray ws.toArray n n2 dd dd2 sl sl2 (by simpa using hv) (by simpa using hw) (by rw[List.size_toArray,List.size_toArray];exact hsz)) ⟨ho,ho2,?_⟩
  rw[e]
  exact h2 hw
def sIx (n d:Nat):Option Int->Nat
 |none=>d
 |some v=>if v<0 then (v+(n:Int)).toNat else min v.toNat n
theorem sIx_none (n d:Nat):sIx n d none=d:=rfl
theorem sIx_nat (n d k:Nat):sIx n d (some (k:Int))=min k n:=by
 show (if (k:Int)<0 then ((k:Int)+(n:Int)).toNat else min (k:Int).toNat n)=min k n
 rw[if_neg (by omega),Int.toNat_natCast]
theorem sIx_le (n d:Nat)(hd:d<=n)(o:Option Int):sIx n d o<=n:=by
 cases o with
 |none=>exact hd
 |some v=>
  show (if v<0 then (v+(n:Int)).toNat else min v.toNat n)<=n
  by_cases hv:v<0
  ·rw[if_pos hv];omega
  ·rw[if_neg hv];exact Nat.min_le_right _ _
theorem clip_eq (v:Int)(n d:Nat):(if v<0 then max (v+(n:Int)) 0 else min v (n:Int))=((sIx n d (some v):Nat):Int):=by
 show (if v<0 then max (v+(n:Int)) 0 else min v (n:Int))=(((if v<0 then (v+(n:Int)).toNat else min v.toNat n):Nat):Int)
 by_cases hv:v<0
 ·simp only[if_pos hv];omega
 ·simp only[if_neg hv];omega
theorem adjust_gen (lo hi:Option Int)(n:Nat):Builtin.Slice.sliceAdjust lo hi 1 (n:Int)=(((sIx n 0 lo:Nat):Int),((sIx n n hi:Nat):Int)):=by
 have h1:¬ ((1:Int)<0):=by omega
 unfold Builtin.Slice.sliceAdjust
 simp only[h1,if_false]
 refine Prod.ext ?_ ?_
 ·cases lo with
  |none=>rfl
  |some v=>exact clip_eq v n 0
 ·cases hi with
  |none=>rfl
  |some v=>exact clip_eq v n n
theorem places_gen (i j:Nat):Builtin.Slice.slicePlaces (i:Int) (j:Int) 1=j-i:=by
 unfold Builtin.Slice.slicePlaces
 have h1:(1:Int) > 0:=by omega
 simp only[h1,if_true,Int.ediv_one]
 split<;>omega
theorem slicePart_ {v:Value}{o:Option Int}{Q:Option Int->Shared->Prop}(p:IsPart v o)(h:Q o s):wpAny (model prog w) A (Builtin.Slice.slicePartIndex v) Q E s:=by
 cases p with
 |none=>exact slicePart_none h
 |int i t=>exact slicePart_int h
theorem sliceApplied_gen {sl:Addr}{vl vu:Value}{lo hi:Option Int}{n:Nat}{Q:Int×Int×Nat->Shared->Prop}(hs:s.heap.IsSliceOf sl vl vu .none)(pl:IsPart vl lo)(pu:IsPart vu hi)
  (h:Q (((sIx n 0 lo:Nat):Int),1,sIx n n hi-sIx n 0 lo) s):wpAny (model prog w) A (Builtin.Slice.sliceApplied (.ref sl) (pure (n:Int))) Q E s:=by
 obtain⟨os,hos,hcs,hds⟩:=id hs
 unfold Builtin.Slice.sliceApplied Builtin.Slice.sliceFields
 refine wpAny_bind (wpAny_bind (wpAny_field hos hds (x:=vl) rfl (wpAny_bind (wpAny_field hos hds (x:=vu) rfl (wpAny_bind (wpAny_field hos hds (x:=.none) rfl (wpAny_pure ?_)))))))
 refine wpAny_bind (slicePart_none ?_)
 show wpAny _ _ (if ((1:Int)==0)=true then _ else _) _ _ s
 rw[if_neg (by decide)]
 refine wpAny_bind (slicePart_ pl (wpAny_bind (slicePart_ pu (wpAny_bind (wpAny_pure ?_)))))
 show wpAny _ _ (match Builtin.Slice.sliceAdjust lo hi 1 (n:Int) with|(lo,hi)=>pure (lo,(1:Int),Builtin.Slice.slicePlaces lo hi 1)) _ _ s
 rw[adjust_gen lo hi n]
 show wpAny _ _ (pure (((sIx n 0 lo:Nat):Int),(1:Int),Builtin.Slice.slicePlaces ((sIx n 0 lo:Nat):Int) ((sIx n n hi:Nat):Int) 1)) _ _ s
 rw[places_gen]
 exact wpAny_pure h
theorem pick_gen (xs:Array Value)(i k:Nat):((List.range k).filterMap fun (m:Nat)=>xs[((i:Int)+(m:Int)*1).toNat]?).toArray=((xs.toList.drop i).take k).toArray:=by
 have e:(fun (m:Nat)=>xs[((i:Int)+(m:Int)*1).toNat]?)=fun m=>xs[i+m]?:=by
  funext m
  have:((i:Int)+(m:Int)*1).toNat=i+m:=by omega
  rw[this]
 rw[e]
 have:=pick_run xs i k
 rw[List.filterMap_map]at this
 have e2:((fun x=>xs[x]?) ∘ fun x=>i+x)=fun m=>xs[i+m]?:=rfl
 rw[e2]at this
 rw[this]
theorem getItem_tuple_cut {t sl:Addr}{items:Array Value}{vl vu:Value}{lo hi:Option Int}{Q:Value->Shared->Prop}(ht:IsTup s.heap t items)(hs:s.heap.IsSliceOf sl vl vu .none)(pl:IsPart vl lo)(pu:IsPart vu hi)
  (hw:¬ (sIx items.size 0 lo=0/\sIx items.size items.size hi=items.size))
  (h:Q (.ref s.heap.objs.size) {s with heap:=s.heap.push {cls:=.type "tuple",data:=.seq ((items.toList.drop (sIx items.size 0 lo)).take (sIx items.size items.size hi-sIx items.size 0 lo)).toArray} })
  (hsz:items.size<=sizeLine):wpAny (model prog w) A (getItem (.ref t) (.ref sl)) Q E s:=by
 have htake:sizeOk (.seq ((items.toList.drop (sIx items.size 0 lo)).take (sIx items.size items.size hi-sIx items.size 0 lo)).toArray):=by
  show ((items.toList.drop (sIx items.size 0 lo)).take (sIx items.size items.size hi-sIx items.size 0 lo)).toArray.size<=sizeLine
  rw[List.size_toArray,List.length_take,List.length_drop,Array.length_toList]
  omega
 have hj:sIx items.size items.size hi<=items.size:=sIx_le _ _ (Nat.le_refl _) hi
 obtain⟨os,hos,hcs,hds⟩:=id hs
 have hTs:s.TypeIs (.ref sl) "slice" := ⟨os,hos,hcs⟩
 unfold getItem
 try with_reducible refine wpAny_holding ?_
 first|refine wpAny_bind (wpAny_pure ?_)|skip
 refine wpAny_bind (wpAny_sequenceKey ht.typeIs (by decide) ?_)
 refine wpAny_bind (wpAny_callSpecial?_slot (name:=Str.ofString "__getitem__") ht.typeIs PyProof.Rows.slot_tuple_getitem
  (wpAny_call_entry PyProof.Rows.slot_tuple_getitem ht.typeIs entry_tuple_getitem ?_ (args_tuple_getitem _ _)))
 show wpAny _ _ (Builtin.Tuple.tupleItemsOf (.ref t) >>= _) _ _ s
 refine wpAny_bind (tupleItemsOf_ ht ?_)
 refine wpAny_bind (wpAny_typeOf hTs ?_)
 rw[if_pos (by decide)]
 refine wpAny_bind (sliceApplied_gen hs pl pu ?_)
 have hno:¬ ((((sIx items.size 0 lo:Nat):Int)==0&&(1:Int)==1&&(sIx items.size items.size hi-sIx items.size 0 lo)==items.size)=true):=by
  intro q
  rw[Bool.and_eq_true,Bool.and_eq_true]at q
  have q1:((sIx items.size 0 lo:Nat):Int)=0:=eq_of_beq q.1.1
  have q2:sIx items.size items.size hi-sIx items.size 0 lo=items.size:=eq_of_beq q.2
  exact hw ⟨by omega,by omega⟩
 show wpAny _ _ (if (((sIx items.size 0 lo:Nat):Int)==0&&(1:Int)==1&&(sIx items.size items.size hi-sIx items.size 0 lo)==items.size)=true then _ else _) _ _ s
 rw[if_neg hno,pick_gen]
 first
  | exact wpAny_bind (m:=Builtin.Tuple.tupleExact _) (wpAny_newObj_type (wpAny_pure ⟨_,rfl,wpAny_pure h⟩) htake)
  | exact wpAny_bind (m:=Builtin.Tuple.tupleExact _) (wpAny_newObj_type (wpAny_bind (wpAny_pure (wpAny_pure ⟨_,rfl,wpAny_pure h⟩))) htake)
  | exact wpAny_bind (wpAny_bind (m:=Builtin.Tuple.tupleExact _) (wpAny_newObj_type (wpAny_pure (wpAny_pure ⟨_,rfl,wpAny_pure h⟩)) htake))
  | exact wpAny_bind (wpAny_bind (m:=Builtin.Tuple.tupleExact _) (wpAny_newObj_type (wpAny_pure ⟨_,rfl,wpAny_pure h⟩) htake))
end
end HT
namespace L2
open PySem PySem.Spec PyProof.Rows
abbrev TO:=St->Hp->(Option Int->Hp->Prop)->Prop
def PO (X:Cx)(e:Option Expr)(t:TO):Prop:=
 ∀(pins:List (Addr×Obj)) (s:Shared) (σ:St) (H:Hp) (Q:Option Int->Hp->Prop),Inv X pins σ H s->t σ H Q ->
  wpAny (model X.prog X.w) X.A (evalPart e X.env) (fun u s'=>∃o H',Inv X pins σ H' s'/\IsPart u o/\Q o H') X.xe s
def tNoPart:TO:=fun _ H Q=>Q none H
def tPart (t:TE):TO:=fun σ H Q=>t σ H fun x H1=>∃i,x=.int i/\Q (some i) H1
theorem intsAre_of {ns:List Int}:∀{us:List Value},Vals (ns.map V.int) us->IntsAre us ns:=by
 induction ns with
 |nil=>intro us r;rw[List.map_nil]at r;cases r;exact .nil
 |cons n ns ih=>
  intro us r
  rw[List.map_cons]at r
  cases r with
  |cons r1 r2=>
   obtain⟨t,e⟩:=r1
   subst e
   exact .cons n t (ih r2)
section
variable {X:Cx} {e:Expr} {te:TE} {lo hi:Option Expr} {tl th:TO} {pos p2:Pos}
theorem po_none:PO X none tNoPart:=by
 intro pins s σ H Q I h
 rw[evalPart_none]
 exact wpAny_pure ⟨none,H,I,.none,h⟩
theorem po_some (h:PE X e te):PO X (some e) (tPart te):=by
 intro pins s σ H Q I hw
 rw[evalPart_some]
 refine thn (h pins s σ H _ I hw) fun u s1 ⟨x,H1,I1,r1,q1⟩=>?_
 obtain⟨i,rfl,q⟩:=q1
 obtain⟨t,rfl⟩:=r1
 exact⟨some i,H1,I1,.int i t,q⟩
def SlR (X:Cx)(r:V->Option Int->Option Int->Hp->VK->Prop):Prop:=
 ∀(pins:List (Addr×Obj)) (s:Shared) (σ:St) (H:Hp) (x:V) (v vl vu:Value) (lo hi:Option Int) (sl:Addr) (Q:VK),Inv X pins σ H s->RelV x v->s.heap.IsSliceOf sl vl vu .none->IsPart vl lo->IsPart vu hi->r x lo hi H Q ->
  ∃T id,typeLookup (.type T) "__getitem__"=pure (some (.builtin id))/\s.TypeIs v T/\wpAny (model X.prog X.w) X.A (getItem v (.ref sl)) (EP X pins σ Q) X.xe s
def tSl (r:V->Option Int->Option Int->Hp->VK->Prop)(te:TE)(tl th:TO):TE:=fun σ H Q=>te σ H fun x H1=>tl σ H1 fun l H2=>th σ H2 fun u H3=>r x l u H3 Q
theorem pe_slice {r:V->Option Int->Option Int->Hp->VK->Prop}(hr:SlR X r)(he:PE X e te)(hl:PO X lo tl)(hu:PO X hi th):PE X (.Subscript e (.Slice lo hi none p2) pos) (tSl r te tl th):=by
 intro pins s σ H Q I h
 refine Subscript_ (thn (he pins s σ H _ I h) fun v s1 ⟨x,H1,I1,r1,q1⟩=>?_)
 refine wpAny_Slice (thn (hl pins s1 σ H1 _ I1 q1) fun vl s2 ⟨l,H2,I2,pl,q2⟩=>thn (hu pins s2 σ H2 _ I2 q2) fun vu s3 ⟨u,H3,I3,pu,q3⟩=>?_)
 rw[evalPart_none]
 refine wpAny_pure ?_
 have I4:Inv X pins σ H3 {s3 with heap:=s3.heap.push {cls:=.type "slice",data:=.fields #[vl,vu,.none]} }:=I3.kept (t':=s3.toks) fun b ob q=>Heap.get?_push_of_some _ q
 obtain⟨T,id,hT,ht,hg⟩:=hr pins {s3 with heap:=s3.heap.push {cls:=.type "slice",data:=.fields #[vl,vu,.none]} } σ H3 x v vl vu l u s3.heap.objs.size Q I4 r1 (Heap.IsSliceOf.new ..) pl pu q3
 show wpAny (model X.prog X.w) X.A (subscriptTail e (.Slice lo hi none p2) v (.ref s3.heap.objs.size)) (EP X pins σ Q) X.xe {s3 with heap:=s3.heap.push {cls:=.type "slice",data:=.fields #[vl,vu,.none]} }
 exact tail_any (ops:=[.ref s3.heap.objs.size,v]) ht hT hg (by with_unfolding_all rfl)
def cutV (xs:List V)(lo hi:Option Int):List V:=(xs.drop (HT.sIx xs.length 0 lo)).take (HT.sIx xs.length xs.length hi-HT.sIx xs.length 0 lo)
theorem cutV_length (xs:List V)(lo hi:Option Int):(cutV xs lo hi).length<=xs.length:=by
 unfold cutV
 rw[List.length_take,List.length_drop]
 omega
def rSlT (K:PySem.W.Frag):V->Option Int->Option Int->Hp->VK->Prop:=fun x lo hi H Q=>∃a xs,x=.ref a/\SqT K H a xs /\
 ¬ (HT.sIx xs.length 0 lo=0/\HT.sIx xs.length xs.length hi=xs.length)/\∀p,H p=none->Q (.ref p) (upd H p (.tup (cutV xs lo hi)))
theorem sl_tup:SlR X (rSlT X.K):=by
 intro pins s σ H x v vl vu lo hi sl Q I rx hs pl pu h
 obtain⟨a,xs,rfl,hx,hw,q⟩:=h
 cases rx
 obtain⟨its,r,ht,hz⟩:=I.tuple hx
 have hlen:its.toArray.size=xs.length:=by rw[List.size_toArray];exact r.length.symm
 refine⟨"tuple",_,PyProof.Rows.slot_tuple_getitem.lookup,ht.typeIs,?_⟩
 refine HT.getItem_tuple_cut ht hs pl pu (by rw[hlen];exact hw) ?_ (by rw[hlen];exact hz)
 rw[hlen]
 refine⟨.ref s.heap.objs.size,_,I.laid (t':=s.toks) (o:=.tup (cutV xs lo hi)) (fun b ob q=>Heap.get?_push_of_some _ q) (Nat.le_refl _) ?_,rfl,q _ (I.hok.fresh (Nat.le_refl _))⟩
 exact⟨Nat.le_trans (cutV_length xs lo hi) hz,_,(r.drop (HT.sIx xs.length 0 lo)).take (HT.sIx xs.length xs.length hi-HT.sIx xs.length 0 lo),IsTup.new _ _⟩
def rCatT (K:PySem.W.Frag):R2:=fun x y H Q=>∃a b xs ys,x=.ref a/\y=.ref b/\SqT K H a xs/\SqT K H b ys/\xs ≠ []/\xs.length+ys.length<=sizeLine /\
 (ys=[]->Q (.ref a) H)/\(ys ≠ []->∀p,H p=none->Q (.ref p) (upd H p (.tup (xs++ys))))
theorem Vals.nil_iff {xs:List V}{us:List Value}(r:Vals xs us):us=[]↔xs=[]:=by
 cases r with
 |nil=>simp
 |cons _ _=>simp
theorem op_catT:OpR X (binaryOp .Add) (rCatT X.K):=by
 intro pins s σ H x y v u Q I rx ry h
 obtain⟨a,b,xs,ys,rfl,rfl,ha,hb,hx,hz,q1,q2⟩:=h
 cases rx
 cases ry
 obtain⟨its,r1,p1,_⟩:=I.tuple ha
 obtain⟨its2,r2,p2,_⟩:=I.tuple hb
 refine HT.cat_tup p1 p2 (fun z=>hx (r1.nil_iff.mp z)) (fun z=>⟨.ref a,H,I,rfl,q1 (r2.nil_iff.mp z)⟩) (fun z=>?_) (by rw[<-r1.length,<-r2.length];exact hz)
 refine⟨.ref s.heap.objs.size,_,I.laid (t':=s.toks) (o:=.tup (xs++ys)) (fun b ob q=>Heap.get?_push_of_some _ q) (Nat.le_refl _) ?_,rfl,q2 (fun w=>z (r2.nil_iff.mpr w)) _ (I.hok.fresh (Nat.le_refl _))⟩
 exact⟨by rw[List.length_append];exact hz,_,r1.append r2,IsTup.new _ _⟩
end
end L2
namespace L2
open PySem PySem.Spec PyProof.Rows
def ixN (n:Nat)(i:Int):Option Nat:=if 0<=i then (if i<n then some i.toNat else none) else if -(n:Int)<=i then some (i+n).toNat else none
def atI {α:Type}(xs:List α)(i:Int):Option α:=(ixN xs.length i).bind fun j=>xs[j]?
theorem ixN_seq {n:Nat}{i:Int}{j:Nat}(h:ixN n i=some j):seqIndex? i n=some j/\j<n /\ -(n:Int)<=i/\i<n:=by
 unfold ixN at h
 by_cases h0:0<=i
 ·rw[if_pos h0]at h
  by_cases h1:i<n
  ·rw[if_pos h1]at h
   have e:i.toNat=j:=Option.some.inj h
   exact⟨by rw[seqIndex_of h0 h1,e],by omega,by omega,h1⟩
  ·rw[if_neg h1]at h;cases h
 ·rw[if_neg h0]at h
  by_cases h1 : -(n:Int)<=i
  ·rw[if_pos h1]at h
   have e:(i+n).toNat=j:=Option.some.inj h
   exact⟨by rw[seqIndex_neg (by omega) h1,e],by omega,h1,by omega⟩
  ·rw[if_neg h1]at h;cases h
theorem atI_get {α:Type}{xs:List α}{i:Int}{v:α}(h:atI xs i=some v):∃j,seqIndex? i xs.length=some j/\xs[j]?=some v/\j<xs.length /\ -(xs.length:Int)<=i/\i<xs.length:=by
 unfold atI at h
 cases e:ixN xs.length i with
 |none=>rw[e]at h;cases h
 |some j=>
  rw[e]at h
  obtain⟨h1,h2,h3,h4⟩:=ixN_seq e
  exact⟨j,h1,h,h2,h3,h4⟩
theorem atI_nat {α:Type}{xs:List α}{j:Nat}{v:α}(h:xs[j]?=some v):atI xs (j:Int)=some v:=by
 have hj:j<xs.length:=(List.getElem?_eq_some_iff.mp h).1
 have e:ixN xs.length (j:Int)=some j:=by
  unfold ixN
  rw[if_pos (by omega),if_pos (by omega)];simp
 unfold atI;rw[e];exact h
def PlainIx (b:Expr):Prop:=∀o i,subscripted b false o i=operate [o,i] (getItem o i)
def IxR (X:Cx)(r:R2):Prop:=
 ∀(value slice:Expr) (pins:List (Addr×Obj)) (s:Shared) (σ:St) (H:Hp) (x y:V) (v u:Value) (Q:VK),Inv X pins σ H s->RelV x v->RelV y u->r x y H Q ->
  subscripted slice false v u=operate [v,u] (getItem v u)->wpAny (model X.prog X.w) X.A (subscriptTail value slice v u) (EP X pins σ Q) X.xe s
def MtR (X:Cx)(id:String)(r:V->List V->Hp->VK->Prop):Prop:=
 ∀(pins:List (Addr×Obj)) (s:Shared) (σ:St) (H:Hp) (x:V) (xs:List V) (v:Value) (us:List Value) (Q:VK),Inv X pins σ H s->RelV x v->Vals xs us->r x xs H Q ->
  wpAny (model X.prog X.w) X.A (call (.builtin id) (v::us)) (EP X pins σ Q) X.xe s
section
variable {X:Cx} {a b:Expr} {ta tb:TE} {pos:Pos}
theorem pe_ix {r:R2}(hr:IxR X r)(ha:PE X a ta)(hb:PE X b tb)(hs:PlainIx b):PE X (.Subscript a b pos) (tOp r ta tb):=by
 intro pins s σ H Q I h
 exact Subscript_ (binT ha hb I h fun v u s2 x y H2 I2 rx ry q=>hr a b pins s2 σ H2 x y v u Q I2 rx ry q (hs _ _))
def rIxL (K:PySem.W.Frag):R2:=fun x y H Q=>∃p xs i v,x=.ref p/\y=.int i/\SqL K H p xs/\atI xs i=some v/\Q v H
def rIxT (K:PySem.W.Frag):R2:=fun x y H Q=>∃p xs i v,x=.ref p/\y=.int i/\SqT K H p xs/\atI xs i=some v/\Q v H
theorem ix_list:IxR X (rIxL X.K):=by
 intro value slice pins s σ H x y v u Q I rx ry h hs
 obtain⟨p,xs,i,z,rfl,rfl,hq,he,q⟩:=h
 cases rx
 obtain⟨t,rfl⟩:=ry
 obtain⟨its,r,pl,hz⟩:=I.list hq
 obtain⟨j,h1,h2,h3,h4,h5⟩:=atI_get he
 obtain⟨w,ew,rw'⟩:=r.get h2
 have hl:=r.length
 have hn:=line63
 have fin:EP X pins σ Q w s:=⟨z,H,I,rw',q⟩
 by_cases h0:0<=i
 ·have hj:i.toNat=j:=by
   rw[seqIndex_of h0 h5]at h1
   exact Option.some.inj h1
  exact item_listR pl.isList h0 (by omega) (by rw[hj];simpa using ew) fin hs
 ·have hj:(i+(its.toArray.size:Int)).toNat=j:=by
   rw[seqIndex_neg (by omega) h4]at h1
   rw[List.size_toArray,<-hl]
   exact Option.some.inj h1
  exact subscriptTail_builtinR (x:=w) pl.isList.typeIs slot_list_getitem.lookup
   (wpAny_getItem_list_neg (Q:=fun r s'=>r=w/\EP X pins σ Q r s') pl.isList (by omega) (by rw[List.size_toArray]<;>omega) (by omega) (by rw[hj];simpa using ew) ⟨rfl,fin⟩) hs
theorem ix_tup:IxR X (rIxT X.K):=by
 intro value slice pins s σ H x y v u Q I rx ry h hs
 obtain⟨p,xs,i,z,rfl,rfl,hq,he,q⟩:=h
 cases rx
 obtain⟨t,rfl⟩:=ry
 obtain⟨its,r,pl,hz⟩:=I.tuple hq
 obtain⟨j,h1,h2,h3,h4,h5⟩:=atI_get he
 obtain⟨w,ew,rw'⟩:=r.get h2
 have hl:=r.length
 have hn:=line63
 have fin:EP X pins σ Q w s:=⟨z,H,I,rw',q⟩
 exact subscriptTail_builtinR (x:=w) pl.typeIs slot_tuple_getitem.lookup
  (getItem_tuple (j:=j) (Q:=fun r s'=>r=w/\EP X pins σ Q r s') pl (by omega) (by omega) (by rw[List.size_toArray,<-hl];exact h1) (by simpa using ew) ⟨rfl,fin⟩) hs
theorem slice_bounds (lo hi:Option Int)(n:Nat):(sliceBounds lo hi none n).1=((HT.sIx n 0 lo:Nat):Int)/\(sliceBounds lo hi none n).2.1=((HT.sIx n n hi:Nat):Int)/\(sliceBounds lo hi none n).2.2=1:=by
 refine⟨?_,?_,rfl⟩
 ·cases lo with
  |none=>simp[sliceBounds,HT.sIx]
  |some i=>
   simp only[sliceBounds,HT.sIx,Option.getD_none,show (1:Int) > 0 by decide,if_true]
   by_cases h:i<0
   ·simp only[h,if_true]<;>omega
   ·simp only[h,if_false]<;>omega
 ·cases hi with
  |none=>simp[sliceBounds,HT.sIx]
  |some i=>
   simp only[sliceBounds,HT.sIx,Option.getD_none,show (1:Int) > 0 by decide,if_true]
   by_cases h:i<0
   ·simp only[h,if_true]<;>omega
   ·simp only[h,if_false]<;>omega
theorem slicePick_cut (its:List Value)(lo hi:Option Int):slicePick its.toArray lo hi none=((its.drop (HT.sIx its.length 0 lo)).take (HT.sIx its.length its.length hi-HT.sIx its.length 0 lo)).toArray:=by
 obtain⟨h1,h2,h3⟩:=slice_bounds lo hi its.toArray.size
 unfold slicePick
 rw[h1,h2,h3]
 simp only[sliceRange_one,pick_run,List.size_toArray]<;>rfl
def rSlL (K:PySem.W.Frag):V->Option Int->Option Int->Hp->VK->Prop:=fun x lo hi H Q=>∃a xs,x=.ref a/\SqL K H a xs/\∀p,H p=none->Q (.ref p) (upd H p (.lst (cutV xs lo hi)))
theorem sl_list:SlR X (rSlL X.K):=by
 intro pins s σ H x v vl vu lo hi sl Q I rx hs pl pu h
 obtain⟨a,xs,rfl,hx,q⟩:=h
 cases rx
 obtain⟨its,r,ht,hz⟩:=I.list hx
 have hlen:=r.length
 refine⟨"list",_,slot_list_getitem.lookup,ht.isList.typeIs,?_⟩
 refine wpAny_getItem_list_slice ht.isList hs pl pu .none (by simp) ?_ (by rw[List.size_toArray]<;>omega)
 rw[slicePick_cut,<-hlen]
 refine⟨.ref s.heap.objs.size,_,I.laid (t':=s.toks) (o:=.lst (cutV xs lo hi)) (fun b ob q=>Heap.get?_push_of_some _ q) (Nat.le_refl _) ?_,rfl,q _ (I.hok.fresh (Nat.le_refl _))⟩
 exact⟨Nat.le_trans (cutV_length xs lo hi) hz,_,0,(r.drop (HT.sIx xs.length 0 lo)).take (HT.sIx xs.length xs.length hi-HT.sIx xs.length 0 lo),Heap.get?_push_size _ rfl⟩
def flatV:V->Bool
 |.non=>true
 |.bl _=>true
 |.int _=>true
 |.str _=>true
 |_=>false
def eqV:V->V->Bool
 |.non,.non=>true
 |.bl a,.bl b=>a==b
 |.bl a,.int b=>(if a then 1 else 0)==b
 |.int a,.bl b=>a==(if b then 1 else 0)
 |.int a,.int b=>a==b
 |.str a,.str b=>a==b
 |_,_=>false
theorem eqAt_V {A:Around}{s:Shared}{y x:V}{u v:Value}(ry:RelV y u)(rx:RelV x v)(fy:flatV y=true)(fx:flatV x=true):SeqAt.EqAt A s u v (eqV y x):=by
 cases y with
 |non=>
  cases ry
  cases x with
  |non=>cases rx;exact SeqAt.EqAt.same _
  |bl b=>cases rx;exact SeqAt.EqAt.none_bool b
  |int b=>obtain⟨t,rfl⟩:=rx;exact SeqAt.EqAt.none_int b t
  |str b=>obtain⟨t,rfl⟩:=rx;exact SeqAt.EqAt.none_str b t
  |_=>exact absurd (show false=true from fx) Bool.false_ne_true
 |bl a=>
  cases ry
  cases x with
  |non=>cases rx;exact SeqAt.EqAt.bool_none a
  |bl b=>cases rx;exact SeqAt.EqAt.bool_bool a b
  |int b=>obtain⟨t,rfl⟩:=rx;exact SeqAt.EqAt.bool_int a b t
  |str b=>obtain⟨t,rfl⟩:=rx;exact SeqAt.EqAt.bool_str a b t
  |_=>exact absurd (show false=true from fx) Bool.false_ne_true
 |int a=>
  obtain⟨t',rfl⟩:=ry
  cases x with
  |non=>cases rx;exact SeqAt.EqAt.int_none a t'
  |bl b=>cases rx;exact SeqAt.EqAt.int_bool a t' b
  |int b=>obtain⟨t,rfl⟩:=rx;exact SeqAt.EqAt.int_int a t' b t
  |str b=>obtain⟨t,rfl⟩:=rx;exact SeqAt.EqAt.int_str a t' b t
  |_=>exact absurd (show false=true from fx) Bool.false_ne_true
 |str a=>
  obtain⟨t',rfl⟩:=ry
  cases x with
  |non=>cases rx;exact SeqAt.EqAt.str_none a t'
  |bl b=>cases rx;exact SeqAt.EqAt.str_bool a t' b
  |int b=>obtain⟨t,rfl⟩:=rx;exact SeqAt.EqAt.str_int a t' b t
  |str b=>obtain⟨t,rfl⟩:=rx;exact SeqAt.EqAt.str_str a t' b t
  |_=>exact absurd (show false=true from fx) Bool.false_ne_true
 |_=>exact absurd (show false=true from fy) Bool.false_ne_true
def eqU (x:V)(u:Value):Bool:=match u with
 |.none=>eqV .non x
 |.bool b=>eqV (.bl b) x
 |.int i _=>eqV (.int i) x
 |.str z _=>eqV (.str z) x
 |_=>false
theorem eqU_of {x y:V}{u:Value}(r:RelV y u)(f:flatV y=true):eqU x u=eqV y x:=by
 cases y with
 |non=>cases r;rfl
 |bl b=>cases r;rfl
 |int i=>obtain⟨t,rfl⟩:=r;rfl
 |str z=>obtain⟨t,rfl⟩:=r;rfl
 |_=>exact absurd (show false=true from f) Bool.false_ne_true
theorem any_eqU {x:V}:∀{xs:List V} {us:List Value},Vals xs us->xs.all flatV=true->us.any (eqU x)=xs.any fun y=>eqV y x
 |_,_,.nil,_=>rfl
 |y::xs,u::us,.cons r t,f=>by
  rw[List.all_cons,Bool.and_eq_true]at f
  rw[List.any_cons,List.any_cons,eqU_of r f.1,any_eqU t f.2]
theorem mem_eqAt {A:Around}{s:Shared}{x:V}{v:Value}(rx:RelV x v)(fx:flatV x=true):∀{xs:List V} {us:List Value},Vals xs us->xs.all flatV=true->∀u∈us,SeqAt.EqAt A s u v (eqU x u)
 |_,_,.nil,_=>fun u hu=>by cases hu
 |y::xs,u::us,.cons r t,f=>fun u' hu=>by
  rw[List.all_cons,Bool.and_eq_true]at f
  rcases List.mem_cons.mp hu with rfl|hu
  ·rw[eqU_of r f.1];exact eqAt_V r rx f.1 fx
  ·exact mem_eqAt rx fx t f.2 u' hu
theorem call_len_seq:CallR X (.builtin "len") (fun xs H Q=>∃p ys,xs=[.ref p]/\(SqL X.K H p ys\/SqT X.K H p ys)/\Q (.int ys.length) H):=by
 intro pins s σ H xs us Q I r h
 obtain⟨p,ys,rfl,hq,q⟩:=h
 obtain⟨u,rfl,rx⟩:=vals1 r
 cases rx
 have hn:=line63
 rcases hq with hq|hq
 ·obtain⟨its,r',pl,hz⟩:=I.list hq
  have hlen:=r'.length
  exact Calls.call_len_list pl.isList (by simp only[List.size_toArray]<;>omega) ⟨.int ys.length,H,I.tok _,⟨s.toks+1,by rw[List.size_toArray,hlen]⟩,q⟩
 ·obtain⟨its,r',pl,hz⟩:=I.tuple hq
  have hlen:=r'.length
  exact len_tuple pl (by simp only[List.size_toArray]<;>omega) ⟨.int ys.length,H,I.tok _,⟨s.toks+1,by rw[List.size_toArray,hlen]⟩,q⟩
theorem call_list_of:CallR X (.type "list") (fun xs H Q=>∃p ys,xs=[.ref p]/\(SqL X.K H p ys\/SqT X.K H p ys)/\∀l,H l=none->Q (.ref l) (upd H l (.lst ys))):=by
 intro pins s σ H xs us Q I r h
 obtain⟨p,ys,rfl,hq,q⟩:=h
 obtain⟨u,rfl,rx⟩:=vals1 r
 cases rx
 have fin:∀(its:List Value),Vals ys its->ys.length<=sizeLine->∀(h':Heap) (c':Nat),(∀b o',s.heap.get? b=some o'->h'.get? b=some o') ->
   h'.get? s.heap.objs.size=some {cls:=.type "list",dict:=none,data:=.seq its.toArray c',slots := #[]}->EP X pins σ Q (.ref s.heap.objs.size) {s with heap:=h' }:=fun its r' hz h' c' kp e=>
  ⟨.ref s.heap.objs.size,_,I.laid (t':=s.toks) kp (Nat.le_refl _) (show ObjOk X.prog X.w _ h' _ (.lst ys) from ⟨hz,its,c',r',e⟩),rfl,q _ (I.hok.fresh (Nat.le_refl _))⟩
 rcases hq with hq|hq
 ·obtain⟨its,r',pl,hz⟩:=I.list hq
  have hlen:=r'.length
  obtain⟨o,ho,hc,n,hd⟩:=pl.isList
  exact call_list_seq p (.inl rfl) ho hc hd (fun h' c' kp e=>fin its r' hz h' c' kp e) (by simp only[List.size_toArray]<;>omega)
 ·obtain⟨its,r',pl,hz⟩:=I.tuple hq
  have hlen:=r'.length
  obtain⟨o,ho,hc,n,hd⟩:=pl
  exact call_list_seq p (.inr rfl) ho hc hd (fun h' c' kp e=>fin its r' hz h' c' kp e) (by simp only[List.size_toArray]<;>omega)
theorem call_tuple_of:CallR X (.type "tuple") (fun xs H Q=>∃p ys,xs=[.ref p]/\((SqL X.K H p ys/\∀l,H l=none->Q (.ref l) (upd H l (.tup ys)))\/(SqT X.K H p ys/\Q (.ref p) H))):=by
 intro pins s σ H xs us Q I r h
 obtain⟨p,ys,rfl,h⟩:=h
 obtain⟨u,rfl,rx⟩:=vals1 r
 cases rx
 rcases h with ⟨hq,q⟩|⟨hq,q⟩
 ·obtain⟨its,r',pl,hz⟩:=I.list hq
  have hlen:=r'.length
  refine call_tuple_list pl.isList (fun h' kp=>?_) (by simp only[List.size_toArray]<;>omega)
  have I1:Inv X pins σ H {s with heap:=h' }:=I.kept (t':=s.toks) kp
  have I2:Inv X pins σ (upd H h'.objs.size (.tup ys)) {s with heap:=h'.push {cls:=.type "tuple",data:=.seq its.toArray} }:=
   I1.laid (t':=s.toks) (fun b o e=>Heap.get?_push_of_some _ e) (Nat.le_refl _) (show ObjOk X.prog X.w _ _ _ (.tup ys) from ⟨hz,its,r',IsTup.new _ _⟩)
  exact⟨.ref h'.objs.size,_,I2,rfl,q _ (I1.hok.fresh (Nat.le_refl _))⟩
 ·obtain⟨its,r',pl,hz⟩:=I.tuple hq
  exact call_tuple_same pl ⟨.ref p,H,I,rfl,q⟩
def tyV (K:PySem.W.Frag)(T:String)(x:V)(H:Hp):Prop:=match x with
 |.str _=>T = "str"
 |.int _=>T = "int"
 |.ref p=>(T = "list" /\ ∃xs,SqL K H p xs)\/(T = "tuple" /\ ∃o,K.lookup p=some o/\o.cls=.type "tuple" /\ o.dict=none) \/
   (T = "dict" /\ ((∃kvs,H p=some (.dK kvs)) \/ ∃kvs,H p=some (.dT kvs)))\/(T = "set" /\ ∃S n,H p=some (.set S n))
 |_=>False
theorem tyV_is {pins:List (Addr×Obj)}{σ:St}{H:Hp}{s:Shared}{T:String}{x:V}{v:Value}(I:Inv X pins σ H s)(r:RelV x v)(ty:tyV X.K T x H):
  s.TypeIs v T/\∀a,v=.ref a->∃ob,s.heap.get? a=some ob/\ob.dict=none:=by
 cases x with
 |str z=>
  obtain⟨t,rfl⟩:=r
  cases (show T = "str" from ty)
  exact⟨typeIs_str s z t,fun _ e=>nomatch e⟩
 |int i=>
  obtain⟨t,rfl⟩:=r
  cases (show T = "int" from ty)
  exact⟨typeIs_int s i t,fun _ e=>nomatch e⟩
 |ref p=>
  cases r
  rcases ty with ⟨rfl,xs,hq⟩|⟨rfl,o,hk,hc,hd⟩|⟨rfl,hk⟩|⟨rfl,S,n,hk⟩
  ·obtain⟨its,_,pl,_⟩:=I.list hq
   refine⟨pl.isList.typeIs,fun a e=>?_⟩
   cases e
   obtain⟨o,n,e,c,hd,_⟩:=pl
   exact⟨o,e,hd⟩
  ·refine⟨⟨o,I.kIn p o hk,hc⟩,fun a e=>?_⟩
   cases e
   exact⟨o,I.kIn _ o hk,hd⟩
  ·have z:∃o,s.heap.get? p=some o/\o.ExactDict:=by
    rcases hk with ⟨kvs,hk⟩|⟨kvs,hk⟩
    ·obtain⟨_,_,_,_,o,_,_,e,ex,_⟩:=I.hok p _ hk
     exact⟨o,e,ex⟩
    ·obtain⟨_,_,_,_,o,_,_,e,ex,_⟩:=I.hok p _ hk
     exact⟨o,e,ex⟩
   obtain⟨o,e,ex⟩:=z
   refine⟨⟨o,e,ex.1⟩,fun a e2=>?_⟩
   cases e2
   exact⟨o,e,ex.2.1⟩
  ·obtain⟨o,_,_,_,e,ex,_⟩:=I.hok p _ hk
   refine⟨⟨o,e,ex.1⟩,fun a e2=>?_⟩
   cases e2
   exact⟨o,e,ex.2.1⟩
 |_=>exact False.elim ty
def tBM (K:PySem.W.Frag)(T:String)(r:V->List V->Hp->VK->Prop)(to:TE)(t:TA):TE:=fun σ H Q=>to σ H fun x H1=>tyV K T x H1/\t σ H1 fun xs H2=>r x xs H2 Q
variable {o e:Expr} {es:List Expr} {to:TE} {t:TA} {name:Str} {apos cpos:Pos} {T id:String} {r:V->List V->Hp->VK->Prop}
theorem pe_bm (pa:PlainAttrs T)(slot:Slot T name id)(hty:typeOf (.builtin id)=pure (.type "method_descriptor"))(hm:MtR X id r)(ho:PE X o to)(ha:PA X (e::es) t)
  (hbase:attributeBase o name X.env (eval o X.env)=eval o X.env:=by rfl)
  (hfew:((backTo cpos (starEach (e::es) X.env)).all (fun x => !x.1)&&(backToKw cpos (keywordEach [] X.env)).all (fun x=>x.1.isSome)
   && decide ((e::es).length+([]:List Keyword).length+(if ([]:List Keyword).isEmpty then 0 else 1)<30))=true:=by rfl)
  (hline:(apos.endLine==cpos.line)=true:=by rfl) (hs:starEach (e::es) X.env=(false,eval e X.env)::starEach es X.env:=by rfl) (hplain:(backTo cpos (starEach es X.env)).any (·.1)=false:=by rfl):
  PE X (.Call (.Attribute o name apos) (e::es) [] cpos) (tBM X.K T r to t):=by
 intro pins s σ H Q I h
 refine wpAny_Call_method_late hbase hfew hline rfl (thn (ho pins s σ H _ I h) fun v s1 ⟨x,H1,I1,r1,ty,q1⟩=>?_)
 obtain⟨h1,h2⟩:=tyV_is I1 r1 ty
 refine⟨T,id,pa,slot,hty,h1,h2,?_⟩
 have hA:=ha cpos pins s1 σ H1 _ I1 q1
 rw[hs]at hA ⊢
 refine Calls.callWith_builtin (by show (false||(backTo cpos (starEach es X.env)).any (·.1))=false;rw[hplain]<;>rfl) (Calls.evalArgs_plain ?_)
 exact thn hA fun us s2 ⟨vs,H2,I2,r2,q2⟩=>hm pins s2 σ H2 x vs v us Q I2 r1 r2 q2
/- xs.append(e),list.index on a module's tuple .. are MtR facts of 06m -/
end
end L2
namespace L2
open PySem PySem.Spec PyProof.Rows
def MtM (X:Cx)(id:String)(r:V->List V->Hp->VK->Prop):Prop:=
 ∀(pins:List (Addr×Obj)) (s:Shared) (σ:St) (H:Hp) (x:V) (xs:List V) (v:Value) (us:List Value) (Q:VK),Inv X pins σ H s->RelV x v->Vals xs us->r x xs H Q ->
  wpAny (model X.prog X.w) X.A (call (.builtin id) (v::us)) (EP X pins σ Q) X.xe s
theorem Vals.one:∀{x:V} {us:List Value},Vals [x] us->∃u,us=[u]/\RelV x u
 |_,_,.cons r .nil=>⟨_,rfl,r⟩
theorem Vals.eraseIdx:∀{xs:List V} {us:List Value} (i:Nat),Vals xs us->Vals (xs.eraseIdx i) (us.eraseIdx i)
 |_,_,_,.nil=>.nil
 |_,_,0,.cons _ t=>t
 |_,_,i+1,.cons r t=>.cons r (Vals.eraseIdx i t)
theorem len_erase {α:Type}:∀(l:List α) (i:Nat),(l.eraseIdx i).length<=l.length
 |[],_=>Nat.le_refl _
 |_::_,0=>Nat.le_succ _
 |_::r,i+1=>Nat.succ_le_succ (len_erase r i)
section
variable {X:Cx} {pins:List (Addr×Obj)} {σ:St} {H:Hp} {s:Shared} {l b:Addr} {xs ys zs:List V}
theorem Inv.lset {its its':List Value}{n:Nat}{f:Array Value->Array Value}{t':Nat}(I:Inv X pins σ H s)(hH:H l=some (.lst xs))
  (e:s.heap.get? l=some {cls:=.type "list",data:=.seq its.toArray n}) (hf:f its.toArray=its'.toArray) (hv:Vals ys its') (hz:ys.length<=sizeLine):
  Inv X pins σ (upd H l (.lst ys)) {s with heap:=s.heap.update l (Obj.mapSeq f),toks:=t' }:=by
 have q:=PySem.IsL.update e f
 rw[hf]at q
 refine I.write (x:=l) (e:=l) (by rw[hH];exact trivial) (.inl rfl) (fun b' u hb hu=>(Heap.get?_update_other s.heap (Obj.mapSeq f) (Ne.symm hb)).trans hu) ⟨_,q⟩ ?_
 exact⟨hz,its',_,hv,q⟩
theorem Inv.lnew {its:List Value}{t':Nat}(I:Inv X pins σ H s)(hv:Vals ys its)(hz:ys.length<=sizeLine):
  Inv X pins σ (upd H s.heap.objs.size (.lst ys)) {s with heap:=s.heap.push {cls:=.type "list",data:=.seq its.toArray},toks:=t' }:=
 I.laid (fun _ _ q=>Heap.get?_push_of_some _ q) (Nat.le_refl _) ⟨hz,its,0,hv,Heap.get?_push_size _ rfl⟩
theorem Inv.fresh (I:Inv X pins σ H s):H s.heap.objs.size=none:=I.hok.fresh (Nat.le_refl _)
theorem Inv.lstM (I:Inv X pins σ H s)(hH:H l=some (.lst xs)):xs.length<=sizeLine/\∃(its:List Value) (n:Nat),Vals xs its/\xs.length=its.length/\s.heap.get? l=some {cls:=.type "list",data:=.seq its.toArray n}:=by
 obtain⟨z,its,n,r,e⟩:=I.hok l _ hH
 exact⟨z,its,n,r,r.length,e⟩
end
section
variable {X:Cx}
def rAppend:V->List V->Hp->VK->Prop:=fun x vs H Q=>∃l xs y,x=.ref l/\vs=[y]/\H l=some (.lst xs)/\xs.length<sizeLine/\Q .non (upd H l (.lst (xs++[y])))
theorem mt_append:MtM X "list.append" rAppend:=by
 intro pins s σ H x vs v us Q I rx rv h
 obtain⟨l,xs,y,rfl,rfl,hH,hz,q⟩:=h
 cases rx
 obtain⟨u,rfl,ru⟩:=rv.one
 obtain⟨z,its,n,r,hl,e⟩:=I.lstM hH
 refine call_meets F.slot_list_append ⟨_,e,rfl⟩ F.entry_list_append (F.args_list_append_2 _ _) (PySem.list_append l its.toArray n u (by rw[List.size_toArray];omega)) ⟨e,?_⟩
 refine⟨.non,_,I.lset (its':=its++[u]) hH e (by simp) (r.append (.cons ru .nil)) ?_,rfl,q⟩
 rw[List.length_append,List.length_singleton]
 omega
def rPopAt:V->List V->Hp->VK->Prop:=fun x vs H Q=>∃l xs i k y,x=.ref l/\vs=[.int i]/\H l=some (.lst xs) /\ -(2 ^ 63)<=i/\i<2 ^ 63/\seqIndex? i xs.length=some k/\xs[k]?=some y/\Q y (upd H l (.lst (xs.eraseIdx k)))
theorem mt_popAt:MtM X "list.pop" rPopAt:=by
 intro pins s σ H x vs v us Q I rx rv h
 obtain⟨l,xs,i,k,y,rfl,rfl,hH,h1,h2,hk,hy,q⟩:=h
 cases rx
 obtain⟨u,rfl,ru⟩:=rv.one
 obtain⟨t,rfl⟩:=ru
 obtain⟨z,its,n,r,hl,e⟩:=I.lstM hH
 obtain⟨w,hw,rw'⟩:=r.get hy
 refine call_meets F.slot_list_pop ⟨_,e,rfl⟩ F.entry_list_pop (F.args_list_pop_2 _ _)
  (MeetsSeq.list_pop_at l its.toArray n i t k w (fitsIndex_both h1 h2) (by rw[List.size_toArray,<-hl];exact hk) (by rw[<-Array.getElem?_toList];exact hw) (by rw[List.size_toArray];omega)) ⟨e,?_⟩
 refine⟨y,_,I.lset (its':=its.eraseIdx k) hH e ?_ (r.eraseIdx k) ?_,rw',q⟩
 ·show its.toArray.eraseIdxIfInBounds k=(its.eraseIdx k).toArray
  rw[List.eraseIdxIfInBounds_toArray]
 ·have:=len_erase xs k
  omega
def rCat:R2:=fun x y H Q=>∃l b xs zs,x=.ref l/\y=.ref b/\H l=some (.lst xs)/\H b=some (.lst zs)/\xs.length+zs.length<=sizeLine/\∀p,H p=none->Q (.ref p) (upd H p (.lst (xs++zs)))
theorem op_cat:OpR X (binaryOp .Add) rCat:=by
 intro pins s σ H x y v u Q I rx ry h
 obtain⟨l,b,xs,zs,rfl,rfl,hH,hB,hz,q⟩:=h
 cases rx
 cases ry
 obtain⟨z,its,n,r,hl,e⟩:=I.lstM hH
 obtain⟨z2,its2,n2,r2,hl2,e2⟩:=I.lstM hB
 refine PySem.P.add_list e e2 ?_ (by rw[List.size_toArray,List.size_toArray];omega)
 have ea:its.toArray++its2.toArray=(its++its2).toArray:=by simp
 rw[ea]
 exact⟨.ref _,_,I.lnew (t':=s.toks) (r.append r2) (by rw[List.length_append];omega),rfl,q _ I.fresh⟩
end
end L2
namespace Att
open PySem PySem.W PySem.Calls PyProof.Rows
theorem ints_of_wellAll {P:Params}{h:Heap}:∀(ns:List Int) (vs:List Value),WellAll P h vs (ns.map WData.int)->IntsAre vs ns:=by
 intro ns
 induction ns with
 |nil=>
  intro vs w
  rw[List.map_nil]at w
  cases w
  exact .nil
 |cons n ns ih=>
  intro vs w
  rw[List.map_cons]at w
  cases w with
  |cons a b=>
   cases a
   exact .cons _ _ (ih _ b)
theorem script_of {l:OpenLaw}{n:Nat}(hn:l.most=some n){P:Params}{h:Heap}{args:List WData}{vals:List Value}
  (hpre:l.row.toRowW.claim.pre args=true) (hwl:WellAll P h vals args):
  ∃a vs ns,vals=[Value.ref a]/\args=[WData.list (ns.map WData.int)]/\h.get? a=some {cls:=.type "list",data:=.seq vs.toArray}/\IntsAre vs ns/\ns.length<=n:=by
 have hsh:WShape.hasAll [] args [.list .int]=true:=(pre_splitW hpre).1
 have hc:l.pre.holds [] {args:=args}=true:=(pre_splitW hpre).2
 obtain⟨d,r,rfl,h1,h2⟩:=hasAllW_cons hsh
 obtain rfl:=hasAllW_nil h2
 obtain⟨xs,rfl,h3⟩:=hasW_list h1
 obtain⟨ns,rfl⟩:=items_int h3
 have hlen:ns.length<=n:=by
  unfold OpenLaw.pre at hc
  have h4:(WTm.not (.lt (.lit (.int (n:Int))) (.len (.arg 0)))).holds [] {args:=[.list (ns.map .int)]}=true:=by
   have h4:=(holds_andW hc).1
   rw[hn]at h4
   exact h4
  have h5:=condW_of h4 (w_not (w_lt w_lit (w_len_list (w_arg rfl))))
  rw[List.length_map]at h5
  refine Nat.le_of_not_lt fun q=>?_
  have q':(n:Int)<((ns.length:Nat):Int):=by omega
  first
   | (rw[decide_eq_true q']at h5;exact absurd h5 (by decide))
   | (simp at h5;omega)
 cases hwl with
 |cons w1 w2=>
  cases w2
  cases w1 with
  |list ho hall=>exact⟨_,_,ns,rfl,rfl,ho,ints_of_wellAll ns _ hall,hlen⟩
theorem post_true (l:OpenLaw)(args:List WData):l.row.toRowW.claim.post args (.bool true) args=true:=
 postW_of (r:=l.row.toRowW) (X:=(true==true))
  (show WShape.has [] (.bool true) .bool=true by first|rfl|decide|simp[WShape.has,WShape.arms,WShape.armsAll])
  (show (WTm.eq .res (.lit (.bool true))).value [] {args:=args,res:=some (.bool true),after:=args}=some (.bool (true==true)) from w_eq_bool (w_res rfl) w_lit) rfl
theorem attach_call {l:OpenLaw}{n:Nat}{q:Program}{loose:List Str}{XP:(Str->Option Value)->Heap->Prop}{YP:World->Heap->Prop}{d:DefRec}
  (hn:l.most=some n) (hdf:d.params.defaults=[])
  (call:∀(w:World) (s₀ s₁:Shared) (mg mb:Str->Option Value) (fa:Addr) (o:Obj) (pm cd doc:Value) (a:Addr) (vs:List Value) (ns:List Int),
   Ground q loose [] XP w s₀ mg mb s₁.heap->YP w s₁.heap ->
   s₁.heap.get? fa=some o->o.data=.func (docDef d.name d.params d.body d.scope pm cd doc)->s₁.heap.CodeRec cd d.name->mg d.name=some (.ref fa) ->
   s₁.heap.get? a=some {cls:=.type "list",data:=.seq vs.toArray}->IntsAre vs ns->ns.length<=n->s₁.gens = #[] ->
   codeAny (model l.prog w) callerA (.call (.ref fa) ⟨[.ref a],[]⟩) (fun r s'=>r=.ok (.ret (.bool true))/\OldK s₁.heap s'.heap/\s'.os=s₁.os/\AllBare s'.gens) s₁):
  WalkO q loose XP YP l.row.toRowW d [] (fun f vs=>PySem.call f vs):=by
 intro w s₀ s₁ mg mb G Y fa o pm cd doc dV kV ho hd hcd hD hmg hg args vals as hpre hlay hrd hwl hlo
 obtain rfl:dV=.none:=Dflts.none hD hdf
 obtain rfl:kV=.none:=Dflts.noKw hD
 obtain⟨a,vs,ns,rfl,rfl,hobj,hints,hlen⟩:=script_of hn hpre hwl
 refine enter_call (codeAny_mono (call w s₀ s₁ mg mb fa o pm cd doc a vs ns G Y ho (fd_plain hd) hcd hmg hobj hints hlen hg) fun r s' hq=>?_)
 obtain⟨rfl,h2,h3,h4⟩:=hq
 exact⟨.inl ⟨.bool true,.bool true,[],rfl,fun _=>rfl,.bool true,post_true l _,fun _=>⟨List.Pairwise.nil,fun _ hm=>(nomatch hm)⟩⟩,h2,h3,h4⟩
end Att
namespace L2
open PySem PySem.Spec PyProof.Rows
theorem vals_ints:∀{vs:List Value} {ns:List Int},IntsAre vs ns->Vals (ns.map V.int) vs
 |_,_,.nil=>.nil
 |_,_,.cons n t h=>.cons ⟨t,rfl⟩ (vals_ints h)
def Only (H:Hp):Prop:=∀b,H b=none \/ ∃o xs,H b=some (.frz o (.lst xs))
theorem law_call {P:Program}{w:World}{K:PySem.W.Frag}{mg mb:Str->Option Value}{CX:CXT}{k:Nat}{fa a:Addr}{fd:FuncData}{x:Str}{sp:Sp}{s₁:Shared}{vs:List Value}{ns:List Int}
  (KX:K.In s₁.heap) (hns:s₁.heap.Ns mainGlobals mg) (hb:s₁.heap.Ns builtinsNs mb) (hbb:∀x:Str,x ≠ "__name__" -> mb x=bootBuiltins x) (hlim:s₁.heap.NoLimit) (hg:s₁.gens = #[])
  (ha:s₁.heap.get? a=some {cls:=.type "list",data:=.seq vs.toArray}) (hi:IntsAre vs ns) (hl:ns.length<=sizeLine) (hr:Room k callerA)
  (F:∀base:Heap,K.In base->base.Ns mainGlobals mg->FnOk P w K mg base CX k fa fd [x] sp) (hbind:∀(s:Shared) (u:Value),BindsTo s fd ⟨[u],[]⟩ [(x,u)])
  (hsp:∀H:Hp,Only H->SqL K H a (ns.map V.int)->sp [.ref a] H (fun v _=>v=.bl true) fun _ _ _=>False)
  (hCX:∀H e s',CX [] H s₁ (fun _ _ _=>False) e s'->False):
  codeAny (model P w) callerA (.call (.ref fa) ⟨[.ref a],[]⟩) (fun r s'=>r=.ok (.ret (.bool true))/\OldK s₁.heap s'.heap/\s'.os=s₁.os/\AllBare s'.gens) s₁:=by
 have rv:=vals_ints hi
 have lenV:=hi.length
 -- from an abstract heap in which nothing but the script may be tracked
 have core:∀H:Hp,Only H->SqL K H a (ns.map V.int)->HOk P w H s₁.heap->(∀b,H b≠none->b=a)->(H a≠none->K.lookup a=none) ->
   codeAny (model P w) callerA (.call (.ref fa) ⟨[.ref a],[]⟩) (fun r s'=>r=.ok (.ret (.bool true))/\OldK s₁.heap s'.heap/\s'.os=s₁.os/\AllBare s'.gens) s₁:=by
  intro H hO hS hok hA hK
  have base_of:∀{b:Addr} {o:Obj},s₁.heap.get? b=some o->H b=none->(hidT s₁.heap H).get? b=some o:=fun e n=>hidT_get e n
  have noA:∀{b:Addr} {o:Obj} {es:Array DictEntry} {ep:Nat},s₁.heap.get? b=some o->o.data=.dict es ep->H b=none:=fun {b o es ep} e d=>by
   cases q:H b with
   |none=>rfl
   |some u=>
    have e':b=a:=hA b (by rw[q];simp)
    subst e'
    rw[ha]at e;cases e
    have d':Data.seq vs.toArray _=Data.dict es ep:=d
    cases d'
  have nsK:∀{b:Addr} {m:Str->Option Value},s₁.heap.Ns b m->(hidT s₁.heap H).Ns b m:=fun {b m} ⟨o,es,ep,e,d,r⟩=>⟨o,es,ep,base_of e (noA e d),d,r⟩
  have hKb:K.In (hidT s₁.heap H):=fun b o e=>base_of (KX b o e) (by
   cases q:H b with
   |none=>rfl
   |some u=>
    have e':b=a:=hA b (by rw[q];simp)
    subst e'
    rw[hK (by rw[q];simp)]at e;cases e)
  have hM:Mod K mg (hidT s₁.heap H):=⟨hKb,nsK hns,⟨mb,nsK hb,hbb⟩,let ⟨mc,h1,h2⟩:=hlim;⟨mc,nsK h1,h2⟩⟩
  have e0:Env0 P w K mg (hidT s₁.heap H) callerA [] s₁ H:=⟨rfl,hM,fun b o e=>of_hidT e,Nat.le_of_eq (hidT_size _ _),trivial,fun b hb=>absurd (show b∈([]:List Addr) from hb) (by simp),hok,.of_eq hg⟩
  refine codeAny_mono ((F _ hKb (nsK hns)).run callerA [] s₁ H ⟨[.ref a],[]⟩ [.ref a] [.ref a] _ _ hr e0 (hbind s₁ (.ref a)) (.cons rfl .nil) (hsp H hO hS)) fun r s' h=>?_
  cases r with
  |error e=>exact (hCX H e s' h).elim
  |ok fl=>
   cases fl with
   |next=>exact False.elim h
   |brk=>exact False.elim h
   |cont=>exact False.elim h
   |ret u=>
    obtain⟨v,H',os,bare,un,hok',r',q⟩:=h
    have q':v=.bl true:=q
    subst q'
    obtain rfl:u=Value.bool true:=r'
    refine⟨rfl,OldK.of_keep fun b o e=>?_,os,bare⟩
    cases q:H b with
    |none=>exact un.keep b o e q (by intro z;exact absurd (show b∈([]:List Addr) from z) (by simp)) (by simp)
    |some u=>
     rcases hO b with z|⟨ob,xs,z⟩
     ·rw[q]at z;cases z
     ·have z2:=un.frzs b ob _ z
      obtain⟨e1,_⟩:=hok b _ z
      obtain⟨e2,_⟩:=hok' b _ z2
      rw[e]at e1;cases e1
      exact e2
 cases hk:K.lookup a with
 |some o=>
  -- the script is one of the module's own objects
  have e:=KX a o hk
  rw[ha]at e
  cases e
  refine core (fun _=>none) (fun _=>.inl rfl) (.inr ⟨_,vs.toArray,_,hk,rfl,rfl,rfl,by rw[List.size_toArray,lenV];exact hl,by simpa using rv⟩) (fun b u z=>by have z':(none:Option HO)=some u:=z;cases z') (fun b z=>absurd rfl z) fun z=>absurd rfl z
 |none=>
  refine core (fun b=>if b=a then some (.frz {cls:=.type "list",data:=.seq vs.toArray} (.lst (ns.map V.int))) else none) (fun b=>?_) (.inl (.inr ⟨{cls:=.type "list",data:=.seq vs.toArray},if_pos rfl⟩)) (fun b u z=>?_) (fun b z=>?_) fun _=>hk
  ·by_cases hb:b=a
   ·exact .inr ⟨_,_,if_pos hb⟩
   ·exact .inl (if_neg hb)
  ·by_cases hb:b=a
   ·have z':=(if_pos hb).symm.trans z
    cases z'
    subst hb
    exact⟨ha,by rw[List.length_map];exact hl,vs,_,rv,ha⟩
   ·have z':=(if_neg hb).symm.trans z
    cases z'
  ·by_cases hb:b=a
   ·exact hb
   ·exact absurd (if_neg hb) z
theorem walk_of {l:PySem.W.OpenLaw}{n k:Nat}{q:Program}{loose:List Str}{XP:(Str->Option Value)->Heap->Prop}{YP:World->Heap->Prop}{d:DefRec}{K:Params->PySem.W.Frag}{CX:World->CXT}{sp:World->Sp}{x:Str}
  (hn:l.most=some n) (hn2:n<=sizeLine) (hdf:d.params.defaults=[]) (hr:Room k callerA)
  (hY:∀(w:World) (h:Heap),YP w h->(K w.params).In h)
  (F:∀(w:World) (mg:Str->Option Value) (fa:Addr) (h:Heap),(K w.params).In h->h.Ns mainGlobals mg->mg d.name=some (.ref fa) ->
   ∃fd:FuncData,(∀(s:Shared) (u:Value),BindsTo s fd ⟨[u],[]⟩ [(x,u)]) /\
    ∀base:Heap,(K w.params).In base->base.Ns mainGlobals mg->FnOk l.prog w (K w.params) mg base (CX w) k fa fd [x] (sp w))
  (hsp:∀(w:World) (H:Hp) (a:Addr) (ns:List Int),ns.length<=n->Only H->SqL (K w.params) H a (ns.map V.int)->sp w [.ref a] H (fun v _=>v=.bl true) fun _ _ _=>False)
  (hCX:∀(w:World) (H:Hp) (s:Shared) (e:Value) (s':Shared),CX w [] H s (fun _ _ _=>False) e s'->False):
  PySem.W.WalkO q loose XP YP l.row.toRowW d [] (fun f vs=>PySem.call f vs):=by
 refine Att.attach_call hn hdf fun w s₀ s₁ mg mb fa o pm cd doc a vs ns G Y ho hd hcd hmg hobj hints hlen hg=>?_
 have KX:=hY w _ Y
 obtain⟨fd,hb,hF⟩:=F w mg fa _ KX G.T.g hmg
 exact law_call KX G.T.g G.T.b G.T.builtins G.T.nolimit hg hobj hints (Nat.le_trans hlen hn2) hr hF hb (fun H hO hS=>hsp w H a ns hlen hO hS) fun H e s'=>hCX w H s₁ e s'
def inClass (s:Stmt)(j:Nat):Stmt:=match s with
 |.ClassDef _ _ _ body _ _ _ _ _ _ _=>body.getD j (.Pass ⟨0,0,0,0⟩)
 |_=>.Pass ⟨0,0,0,0⟩
def defArgs (s:Stmt):Arguments:=match s with
 |.FunctionDef _ a _ _ _ _ _ _ _ _=>a
 |_=>{posonlyargs:=[],args:=[],vararg:=none,kwonlyargs:=[],kw_defaults:=[],kwarg:=none,defaults:=[]}
def defBody (s:Stmt):List Stmt:=match s with
 |.FunctionDef _ _ b _ _ _ _ _ _ _=>b
 |_=>[]
def defScope (s:Stmt):Scope:=match s with
 |.FunctionDef _ _ _ _ _ _ sc _ _ _=>sc
 |_=>{kind:=.function,names:=[],isGenerator:=false,isCoroutine:=false}
abbrev CX0:CXT:=fun _ _ _ _ _ _=>False
abbrev E0:XK:=fun _ _ _=>False
theorem pass0 {X:Cx}:Passes CX0 X E0:=fun _ _ _ _ _ _ _ h=>h.elim
structure Fun (K:PySem.W.Frag)(x qual:Str)(st:Stmt)(f:Addr)(fd:FuncData):Prop where
 ex:∃(oc:Value) (od:Option Addr) (kV doc pm:Value) (an:Option Addr) (cdv ct:Value) (osl:Array (Option Value)),
  fd=PySem.W.fnOf x qual (defArgs st) (defBody st) (defScope st) .none kV doc pm an cdv ct/\K.lookup f=some ⟨oc,od,.func fd,osl⟩/\PySem.W.codeIn K cdv qual=true
 kp:PySem.W.keepIn K (.ref f)=true
section
variable {P:Program} {w:World} {K:PySem.W.Frag} {mg:Str->Option Value} {base:Heap}
theorem Fun.ok {x qual:Str}{st:Stmt}{f:Addr}{fd:FuncData}{N ps:List Str}{k:Nat}{sp:Sp}(F:Fun K x qual st f fd)(S:FnScope N ps (defScope st))(len:∀vs H Q E,sp vs H Q E->vs.length=ps.length)
  (hbody:∀(cdv:Value) (A:Around) (outer:List Env) (s:Shared) (H:Hp) (vs:List V) (Q:VK) (E:XK),Room k (A.deeper (envOfC qual (defScope st) s.heap.objs.size f cdv))->sp vs H Q E ->
   ∃t,PSs (cxOf CX0 P w K mg base N qual (defScope st) f cdv A outer s H E).nox (defBody st) t/\t {nx:=fun _ H'=>Q .non H',rt:=Q} (start N vs) H):FnOk P w K mg base CX0 (k+1) f fd ps sp:=by
 obtain⟨oc,od,kV,doc,pm,an,cdv,ct,osl,rfl,lk,hcd⟩:=F.ex
 refine fn_of lk hcd S len fun A outer s H vs Q E hr hsp=>?_
 obtain⟨t,h,q⟩:=hbody cdv A outer s H vs Q E hr hsp
 exact⟨t,h.nox,q⟩
theorem Fun.binds {x qual:Str}{st:Stmt}{f:Addr}{fd:FuncData}{ps:List Str}(F:Fun K x qual st f fd)
  (h:∀(kV doc pm:Value) (an:Option Addr) (cdv ct:Value) (us:List Value),us.length=ps.length->bindArgs (PySem.W.fnOf x qual (defArgs st) (defBody st) (defScope st) .none kV doc pm an cdv ct) ⟨us,[]⟩=pure (ps.zip us)):Binds K fd ps []:=by
 obtain⟨oc,od,kV,doc,pm,an,cdv,ct,osl,rfl,lk,hcd⟩:=F.ex
 exact .all (h kV doc pm an cdv ct)
theorem fun_mk {x qual:Str}{st:Stmt}{f:Addr}{oc:Value}{od an:Option Addr}{osl:Array (Option Value)}{kV doc pm cdv ct:Value}(l:K.lookup f=some ⟨oc,od,.func (PySem.W.fnOf x qual (defArgs st) (defBody st) (defScope st) .none kV doc pm an cdv ct),osl⟩)
  (c:PySem.W.codeIn K cdv qual=true) (k:PySem.W.keepIn K (.ref f)=true):Fun K x qual st f (PySem.W.fnOf x qual (defArgs st) (defBody st) (defScope st) .none kV doc pm an cdv ct):=⟨⟨oc,od,kV,doc,pm,an,cdv,ct,osl,rfl,l,c⟩,k⟩
end
theorem hu_of {A:Around}{k:Nat}(hr:Room k A):A.units+1<cLine:=Nat.lt_of_le_of_lt (Nat.add_le_add_left (by decide:1<=64) _) hr.units
section
variable {X:Cx}
theorem pv (i:Nat){x:Str}{pos:Pos}(hN:X.N[i]?=some x:=by rfl)(hv:Vis X.env.scope x:=by first|exact Or.inl rfl|exact Or.inr (Or.inl rfl)|exact Or.inr (Or.inr rfl))(hd:(x==("__debug__" : Str))=false:=by decide)
  (hcd:(x==("__classdict__" : Str))=false:=by decide):PE X (.Name x pos) (tVar i):=pe_var hN hv hd hcd
end
theorem ite2 {c A B:Prop}[Decidable c](h1:c->A)(h2:¬ c->B):if c then A else B:=by
 by_cases h:c
 ·rw[if_pos h]
  exact h1 h
 ·rw[if_neg h]
  exact h2 h
def Same (H H':Hp):Prop:=∀b o,H b=some o->H' b=some o
theorem Same.refl (H:Hp):Same H H:=fun _ _ h=>h
theorem Same.trans {H H1 H2:Hp}(a:Same H H1)(b:Same H1 H2):Same H H2:=fun c o h=>b c o (a c o h)
theorem Same.free {H H':Hp}(e:Same H H'){l:Addr}(h:H' l=Option.none):H l=Option.none:=by
 cases q:H l with
 |none=>rfl
 |some o=>
  rw[e l o q]at h
  cases h
theorem Same.seq {K:PySem.W.Frag}{H H':Hp}{a:Addr}{xs:List V}(e:Same H H')(h:SqL K H a xs):SqL K H' a xs:=by
 rcases h with (h|⟨o,h⟩)|h
 ·exact .inl (.inl (e _ _ h))
 ·exact .inl (.inr ⟨o,e _ _ h⟩)
 ·exact .inr h
end L2
set_option maxHeartbeats 4000000
namespace L2
open PySem PySem.Spec PyProof.Rows
section
variable {κ:Type} [DecidableEq κ]
def valV (kvs:List (κ×V))(k:κ):Option V:=(kvs.find? fun kv=>decide (kv.1=k)).map (·.2)
def putK (kvs:List (κ×V))(k:κ)(v:V):List (κ×V):=
 if (kvs.any fun kv=>decide (kv.1=k))=true then kvs.map (fun kv=>if kv.1=k then (kv.1,v) else kv) else kvs++[(k,v)]
theorem valV_pos {p:κ×V}{r:List (κ×V)}{k:κ}(e:p.1=k):valV (p::r) k=some p.2:=by simp[valV,List.find?_cons,e]
theorem valV_neg {p:κ×V}{r:List (κ×V)}{k:κ}(e:¬ p.1=k):valV (p::r) k=valV r k:=by simp[valV,List.find?_cons,e]
theorem valV_any (k:κ):∀kvs:List (κ×V),(kvs.any fun kv=>decide (kv.1=k))=(valV kvs k).isSome
 |[]=>rfl
 |p::r=>by
  rw[List.any_cons]
  by_cases e:p.1=k
  ·simp only[valV_pos e,decide_eq_true e,Bool.true_or,Option.isSome_some]
  ·rw[valV_neg e,decide_eq_false e,Bool.false_or];exact valV_any k r
theorem length_putK (kvs:List (κ×V))(k:κ)(v:V):(putK kvs k v).length<=kvs.length+1:=by
 unfold putK
 split
 ·rw[List.length_map];omega
 ·rw[List.length_append,List.length_cons,List.length_nil];omega
theorem putK_new {kvs:List (κ×V)}{k:κ}(v:V)(h:valV kvs k=none):putK kvs k v=kvs++[(k,v)]:=by
 unfold putK
 rw[valV_any,h]
 exact if_neg (by decide)
theorem RelO.isSome_eq {o:Option V}{u:Option Value}(r:RelO o u):o.isSome=u.isSome:=by
 cases o with
 |none=>cases u with
  |none=>rfl
  |some _=>exact (show False from r).elim
 |some _=>cases u with
  |none=>exact (show False from r).elim
  |some _=>rfl
theorem RelO.getD {o:Option V}{u:Option Value}{d:V}{d':Value}(r:RelO o u)(rd:RelV d d'):RelV (o.getD d) (u.getD d'):=by
 cases o with
 |none=>cases u with
  |none=>exact rd
  |some _=>exact (show False from r).elim
 |some _=>cases u with
  |none=>exact (show False from r).elim
  |some _=>exact r
theorem KV.val {kvs:List (κ×V)}{vs:List (κ×Value)}(r:KV kvs vs)(k:κ):RelO (valV kvs k) (valueAt vs k):=by
 unfold KV at r
 induction r with
 |nil=>exact True.intro
 |@cons p q ps qs h t ih=>
  obtain⟨h1,h2⟩:=h
  by_cases e:p.1=k
  ·have e':q.1=k:=h1.symm.trans e
   have b:valueAt (q::qs) k=some q.2:=by simp[valueAt,List.find?_cons,e']
   rw[valV_pos e,b];exact h2
  ·have e':¬ q.1=k:=fun z=>e (h1.trans z)
   have b:valueAt (q::qs) k=valueAt qs k:=by simp[valueAt,List.find?_cons,e']
   rw[valV_neg e,b];exact ih
theorem KV.any {kvs:List (κ×V)}{vs:List (κ×Value)}(r:KV kvs vs)(k:κ):(kvs.any fun kv=>decide (kv.1=k))=vs.any fun kv=>decide (kv.1=k):=by
 unfold KV at r
 induction r with
 |nil=>rfl
 |cons h t ih=>rw[List.any_cons,List.any_cons,ih,h.1]
theorem KV.repl {kvs:List (κ×V)}{vs:List (κ×Value)}(r:KV kvs vs)(k:κ){y:V}{u:Value}(ry:RelV y u):
  KV (kvs.map fun kv=>if kv.1=k then (kv.1,y) else kv) (vs.map fun kv=>if kv.1=k then (kv.1,u) else kv):=by
 unfold KV at r ⊢
 induction r with
 |nil=>exact .nil
 |@cons p q ps qs h t ih=>
  rw[List.map_cons,List.map_cons]
  refine .cons ?_ ih
  obtain⟨h1,h2⟩:=h
  by_cases e:p.1=k
  ·rw[if_pos e,if_pos (h1.symm.trans e)];exact⟨h1,ry⟩
  ·rw[if_neg e,if_neg (fun z=>e (h1.trans z))];exact⟨h1,h2⟩
theorem KV.put {kvs:List (κ×V)}{vs:List (κ×Value)}(r:KV kvs vs)(k:κ){y:V}{u:Value}(ry:RelV y u):KV (putK kvs k y) (stored vs k u):=by
 unfold putK stored
 rw[r.any k]
 by_cases e:(vs.any fun kv=>decide (kv.1=k))=true
 ·rw[if_pos e,if_pos e];exact r.repl k ry
 ·rw[if_neg e,if_neg e];exact Paired.snoc r ⟨rfl,ry⟩
theorem KV.length {kvs:List (κ×V)}{vs:List (κ×Value)}(r:KV kvs vs):kvs.length=vs.length:=Paired.length r
end
theorem kV_is {P:Program}{w:World}{k:Key}{u:Value}(r:RelV (kV k) u):(mixKind P w).is k u=true:=by
 cases k with
 |inl i=>obtain⟨t,e⟩:=(show ∃t,u=Value.int i t from r);subst e;exact mixKind_int P w i t
 |inr x=>obtain⟨t,e⟩:=(show ∃t,u=Value.str x t from r);subst e;exact mixKind_str P w x t
theorem items_are {P:Program}{w:World}:∀{ks:List Key} {us:List Value},Vals (ks.map kV) us->ItemsAre (mixKind P w) ks us
 |[],_,r=>by rw[List.map_nil]at r;cases r;exact .nil
 |k::ks,_,r=>by
  rw[List.map_cons]at r
  cases r with
  |cons h t=>exact .cons (kV_is h) (items_are t)
abbrev KT (H:Hp):List (List Key×V)->List (List Key×Addr×Value)->Prop:=Paired fun p q=>p.1=q.1/\H q.2.1=some (.tup (p.1.map kV))/\RelV p.2 q.2.2
theorem KT.val {H:Hp}{kvs:List (List Key×V)}{xs:List (List Key×Addr×Value)}(r:KT H kvs xs)(k:List Key):RelO (valV kvs k) ((atKey xs k).map (·.2)):=by
 induction r with
 |nil=>exact True.intro
 |@cons p q ps qs h t ih=>
  obtain⟨h1,_,h2⟩:=h
  by_cases e:p.1=k
  ·have e':q.1=k:=h1.symm.trans e
   have b:atKey (q::qs) k=some q.2:=by simp[atKey,List.find?_cons,e']
   rw[valV_pos e,b];exact h2
  ·have e':¬ q.1=k:=fun z=>e (h1.trans z)
   have b:atKey (q::qs) k=atKey qs k:=by simp[atKey,List.find?_cons,e']
   rw[valV_neg e,b];exact ih
theorem KT.repl {H:Hp}{kvs:List (List Key×V)}{xs:List (List Key×Addr×Value)}(r:KT H kvs xs)(k:List Key){y:V}{u:Value}(ry:RelV y u):
  KT H (kvs.map fun kv=>if kv.1=k then (kv.1,y) else kv) (xs.map (putAt k u)):=by
 induction r with
 |nil=>exact .nil
 |@cons p q ps qs h t ih=>
  rw[List.map_cons,List.map_cons]
  refine .cons ?_ ih
  obtain⟨h1,h2,h3⟩:=h
  unfold putAt
  by_cases e:p.1=k
  ·rw[if_pos e,if_pos (h1.symm.trans e)];exact⟨h1,h2,ry⟩
  ·rw[if_neg e,if_neg (fun z=>e (h1.trans z))];exact⟨h1,h2,h3⟩
theorem KT.put {H:Hp}{kvs:List (List Key×V)}{xs:List (List Key×Addr×Value)}(r:KT H kvs xs)(k:List Key){b:Addr}{y:V}{u:Value}(hb:H b=some (.tup (k.map kV)))(ry:RelV y u):
  KT H (putK kvs k y) (storedH xs k b u):=by
 have e:(kvs.any fun kv=>decide (kv.1=k))=(atKey xs k).isSome:=by
  rw[valV_any,(r.val k).isSome_eq,Option.isSome_map]
 unfold putK storedH
 rw[e]
 by_cases q:(atKey xs k).isSome=true
 ·rw[if_pos q,if_pos q];exact r.repl k ry
 ·rw[if_neg q,if_neg q];exact Paired.snoc r ⟨rfl,hb,ry⟩
theorem KT.keeps {H H':Hp}{kvs:List (List Key×V)}{xs:List (List Key×Addr×Value)}(r:KT H kvs xs)(ht:∀b ys,H b=some (.tup ys)->H' b=some (.tup ys)):KT H' kvs xs:=
 Paired.mapP r fun _ _ z=>⟨z.1,ht _ _ z.2.1,z.2.2⟩
section
variable {P:Program} {w:World} {H:Hp} {h:Heap} {a:Addr}
theorem rd_of {u:HO}(ok:HOk P w H h)(e:Rd H a u):ObjOk P w H h a u:=e.ok ok
theorem dk_rd {kvs:List (Key×V)}(ok:HOk P w H h)(e:Rd H a (.dK kvs)):kvs.length<=sizeLine/\(a==sysModules)=false/\∃vs,KV kvs vs/\h.DictOf (mixKind P w) a vs:=
 show ObjOk P w H h a (.dK kvs) from rd_of ok e
theorem dk_of {kvs:List (Key×V)}(ok:HOk P w H h)(e:H a=some (.dK kvs)):kvs.length<=sizeLine/\(a==sysModules)=false/\∃vs,KV kvs vs/\h.DictOf (mixKind P w) a vs:=dk_rd ok (.inl e)
theorem key_of {ks:List Key}(ok:HOk P w H h)(e:H a=some (.tup (ks.map kV))):(tupleKind (mixKind P w)).is h ks a:=by
 obtain⟨_,its,r,o,h1,h2,n,h3⟩:=(show ObjOk P w H h a (.tup (ks.map kV)) from ok a _ e)
 exact⟨o,its.toArray,n,h1,h2,h3,by simpa using items_are r⟩
theorem dt_rd {kvs:List (List Key×V)}(ok:HOk P w H h)(e:Rd H a (.dT kvs)):kvs.length<=sizeLine/\(a==sysModules)=false /\
  ∃xs,KT H kvs xs/\h.DictOfH (tupleKind (mixKind P w)) a xs:=by
 obtain⟨z,y,xs,r,o,es,ep,h1,h2,h3,h4,h5⟩:=(show ObjOk P w H h a (.dT kvs) from rd_of ok e)
 refine⟨z,y,xs,r,o,es,ep,h1,h2,h3,h4,fun x hx=>?_,h5⟩
 have all:∀{l:List (List Key×V)} {m:List (List Key×Addr×Value)},KT H l m->∀x∈m,(tupleKind (mixKind P w)).is h x.1 x.2.1:=by
  intro l m q
  induction q with
  |nil=>intro x hx;exact nomatch hx
  |@cons p q ps qs hq t ih=>
   intro x hx
   rcases List.mem_cons.mp hx with e|hx
   ·subst e
    exact key_of ok (by rw[<-hq.1];exact hq.2.1)
   ·exact ih x hx
 exact all r x hx
theorem dt_of {kvs:List (List Key×V)}(ok:HOk P w H h)(e:H a=some (.dT kvs)):kvs.length<=sizeLine/\(a==sysModules)=false /\
  ∃xs,KT H kvs xs/\h.DictOfH (tupleKind (mixKind P w)) a xs:=dt_rd ok (.inl e)
end
def DGet (H:Hp)(a:Addr)(y:V)(r:Option V):Prop:=
 (∃kvs k,Rd H a (.dK kvs)/\y=kV k/\r=valV kvs k) \/ ∃kvs k b,Rd H a (.dT kvs)/\y=.ref b/\H b=some (.tup (k.map kV))/\r=valV kvs k
def DPut (H:Hp)(a:Addr)(y v:V)(H':Hp):Prop:=
 (∃kvs k,H a=some (.dK kvs)/\y=kV k/\kvs.length<sizeLine/\H'=upd H a (.dK (putK kvs k v))) \/
 ∃kvs k b,H a=some (.dT kvs)/\y=.ref b/\H b=some (.tup (k.map kV))/\kvs.length<sizeLine/\H'=upd H a (.dT (putK kvs k v))
theorem DGet.t {H:Hp}{a b:Addr}{kvs:List (List Key×V)}{k:List Key}(e:H a=some (.dT kvs))(eb:H b=some (.tup (k.map kV))):DGet H a (.ref b) (valV kvs k):=.inr ⟨kvs,k,b,.inl e,rfl,eb,rfl⟩
theorem DPut.t {H:Hp}{a b:Addr}{kvs:List (List Key×V)}{k:List Key}{v:V}(e:H a=some (.dT kvs))(eb:H b=some (.tup (k.map kV)))(hl:kvs.length<sizeLine):
  DPut H a (.ref b) v (upd H a (.dT (putK kvs k v))):=.inr ⟨kvs,k,b,e,rfl,eb,hl,rfl⟩
section
variable {X:Cx} {pins:List (Addr×Obj)} {σ:St} {H:Hp} {s:Shared} {a:Addr} {y v:V} {u r:Value} {o:Option V} {A:Around} {E:Value->Shared->Prop}
theorem Inv.big (I:Inv X pins σ H s):sysModules<s.heap.objs.size:=by
 have h:mainGlobals<s.heap.objs.size:=(I.mod.glob.keeps I.bk).lt
 exact Nat.lt_trans (by decide) h
theorem d_getItem {Q:Value->Shared->Prop}(hu:A.units+1<cLine)(I:Inv X pins σ H s)(g:DGet H a y (some v))(ry:RelV y u)(h:∀w' s',Inv X pins σ H s'->RelV v w'->Q w' s'):
  wpAny (model X.prog X.w) A (getItem (.ref a) u) Q E s:=by
 rcases g with ⟨kvs,k,e,ey,l⟩|⟨kvs,k,b,e,ey,eb,l⟩
 ·subst ey
  obtain⟨z,hd,vs,rel,dd⟩:=dk_rd I.hok e
  obtain⟨w',hw,rw'⟩:=RelO.some_of (v:=v) (o:=valueAt vs k) (by rw[l];exact rel.val k)
  exact wpAny_getItem_of (kV_is ry) dd.mapOf hw (h w' _ (I.tok _) rw')
 ·subst ey
  cases (show u=Value.ref b from ry)
  obtain⟨z,hd,xs,rel,dd⟩:=dt_rd I.hok e
  obtain⟨w',hw,rw'⟩:=RelO.some_of (v:=v) (o:=(atKey xs k).map (·.2)) (by rw[l];exact rel.val k)
  obtain⟨p,hp,hp2⟩:=Option.map_eq_some_iff.mp hw
  refine wpAny_getItem_heap (tupleKind_room_in1 hu) (key_of I.hok eb) dd hp ?_
  rw[hp2]
  exact h w' _ (I.tok _) rw'
theorem d_in {Q:Value->Shared->Prop}(hu:A.units+1<cLine)(I:Inv X pins σ H s)(g:DGet H a y o)(ry:RelV y u)(h:∀s',Inv X pins σ H s'->Q (.bool o.isSome) s'):
  wpAny (model X.prog X.w) A (compareOp .In u (.ref a)) Q E s:=by
 rcases g with ⟨kvs,k,e,ey,l⟩|⟨kvs,k,b,e,ey,eb,l⟩
 ·subst ey
  obtain⟨z,hd,vs,rel,dd⟩:=dk_rd I.hok e
  refine wpAny_in_of (kV_is ry) hd dd.mapOf ?_
  rw[<-(rel.val k).isSome_eq,<-l]
  exact h _ (I.tok _)
 ·subst ey
  cases (show u=Value.ref b from ry)
  obtain⟨z,hd,xs,rel,dd⟩:=dt_rd I.hok e
  refine wpAny_in_heap (tupleKind_room_in1 hu) (key_of I.hok eb) hd dd ?_
  have q:=(rel.val k).isSome_eq
  rw[Option.isSome_map]at q
  rw[<-q,<-l]
  exact h _ (I.tok _)
theorem d_write {h':Heap}{t':Nat}{ob:HO}(I:Inv X pins σ H s)(mu:Mut (H a))(hs:Heap.SameBut a s.heap h')(he:∃q,h'.get? a=some q)(new:ObjOk X.prog X.w (upd H a ob) h' a ob):
  Inv X pins σ (upd H a ob) {s with heap:=h',toks:=t' }:=
 I.write (x:=a) (e:=a) mu (.inl rfl) (fun b q hb z=>(hs.2 b hb).trans z) he new
theorem dk_new {P:Program}{w:World}{H':Hp}{h':Heap}{kvs:List (Key×V)}{vs:List (Key×Value)}(z:kvs.length<=sizeLine)(hd:(a==sysModules)=false)(rel:KV kvs vs)(dd:h'.DictOf (mixKind P w) a vs):
  ObjOk P w H' h' a (.dK kvs):=⟨z,hd,vs,rel,dd⟩
theorem d_setItem {H':Hp}{Q:Unit->Shared->Prop}(hu:A.units+1<cLine)(I:Inv X pins σ H s)(g:DPut H a y v H')(ry:RelV y u)(rv:RelV v r)(h:∀s',Inv X pins σ H' s'->Q () s'):
  wpAny (model X.prog X.w) A (setItem (.ref a) u r) Q E s:=by
 rcases g with ⟨kvs,k,e,ey,l,eH⟩|⟨kvs,k,b,e,ey,eb,l,eH⟩
 ·subst ey eH
  obtain⟨z,hd,vs,rel,dd⟩:=dk_of I.hok e
  have hz:vs.length<=sizeLine:=by rw[<-rel.length];exact z
  have hl:(putK kvs k v).length<=sizeLine:=by have:=length_putK kvs k v;omega
  refine wpAny_setItem_pairs (hsz:=hz) (kV_is ry) dd fun h' dd' hs=>h _ ?_
  have he:∃q,h'.get? a=some q:=let ⟨q,_,_,hq,_⟩:=dd';⟨q,hq⟩
  exact d_write I (by rw[e];exact True.intro) hs he (dk_new hl hd (rel.put k rv) dd')
 ·subst ey eH
  cases (show u=Value.ref b from ry)
  obtain⟨z,hd,xs,rel,dd⟩:=dt_of I.hok e
  have hz:xs.length<=sizeLine:=by rw[<-Paired.length rel];exact z
  have hl:(putK kvs k v).length<=sizeLine:=by have:=length_putK kvs k v;omega
  refine wpAny_setItem_heap (hsz:=hz) (tupleKind_room_in1 hu) (key_of I.hok eb) dd fun h' dd' hs=>h _ ?_
  obtain⟨q,es,ep,hq,h2,h3,h4,_,h5⟩:=dd'
  refine d_write I (by rw[e];exact True.intro) hs ⟨q,hq⟩ ⟨hl,hd,_,(rel.put k eb rv).keeps fun c ys ec=>?_,q,es,ep,hq,h2,h3,h4,h5⟩
  rw[upd_ne (ne_of ec e (fun z=>nomatch z))]
  exact ec
end
def NoSl (i:Expr):Prop:=∀ov iv,subscripted i false ov iv=operate [ov,iv] (getItem ov iv)
theorem subD_of {prog:Program}{w:World}{A:Around}{E:Value->Shared->Prop}{s:Shared}{env:Env}{value slice:Expr}{pos:Pos}{T id:String}{Q:Value->Shared->Prop}
  (hl:typeLookup (.type T) "__getitem__"=pure (some (.builtin id))) (hs:NoSl slice)
  (h:wpAny (model prog w) A (eval value env) (fun o s₁=>wpAny (model prog w) A (eval slice env) (fun i s₂=>s₂.TypeIs o T/\wpAny (model prog w) A (getItem o i) Q E s₂) E s₁) E s):
  wpAny (model prog w) A (eval (.Subscript value slice pos) env) Q E s:=by
 refine Subscript_ (wpAny_mono h (fun o s₁ h₁=>wpAny_mono h₁ (fun i s₂ h₂=>?_) fun _ _ x=>x) fun _ _ x=>x)
 obtain⟨hT,h₂⟩:=h₂
 unfold subscriptTail
 refine wpAny_bind ?_
 rw[getitemInPython_of_ne hT.not_modules]
 refine wpAny_bind (wpAny_specialOf hT hl ?_)
 have fin:wpAny (model prog w) A (subscripted slice false o i) (fun r s₃=>wpAny (model prog w) A (letTemporaryGo value o r >>= fun _=>pure r) Q E s₃) E s₂:=by
  rw[hs o i]
  exact wpAny_operating (wpAny_mono h₂ (fun r s₃ h₃=>wpAny_bind (wpAny_letTemporaryGo (wpAny_pure h₃))) fun _ _ x=>x)
 first
  | exact wpAny_pure (wpAny_bind fin)
  | exact wpAny_bind (wpAny_pure (wpAny_bind fin))
  | exact wpAny_bind fin
theorem dict_typeIs {X:Cx}{pins:List (Addr×Obj)}{σ:St}{H:Hp}{s:Shared}{a:Addr}{y:V}{o:Option V}(I:Inv X pins σ H s)(g:DGet H a y o):s.TypeIs (.ref a) "dict" := by
 rcases g with ⟨kvs,k,e,_,_⟩|⟨kvs,k,b,e,_,_,_⟩
 ·obtain⟨_,_,vs,_,dd⟩:=dk_rd I.hok e
  exact dd.typeIs
 ·obtain⟨_,_,xs,_,dd⟩:=dt_rd I.hok e
  exact dd.typeIs
def tDGet (td ty:TE):TE:=fun σ H Q=>td σ H fun x H1=>ty σ H1 fun y H2=>∃a v,x=.ref a/\DGet H2 a y (some v)/\Q v H2
def tDIn (ty td:TE):TE:=fun σ H Q=>ty σ H fun y H1=>td σ H1 fun x H2=>∃a o,x=.ref a/\DGet H2 a y o/\Q (.bl o.isSome) H2
def sDPut (td ty tv:TE):TS:=fun D σ H=>tv σ H fun v H1=>td σ H1 fun x H2=>ty σ H2 fun y H3=>∃a H4,x=.ref a/\DPut H3 a y v H4/\D.nx σ H4
section
variable {X:Cx} {o i e value:Expr} {pos pos' tpos:Pos} {td ty tv:TE}
theorem pe_dget (hu:X.A.units+1<cLine)(ho:PE X o td)(hi:PE X i ty)(hs:NoSl i):PE X (.Subscript o i pos) (tDGet td ty):=by
 intro pins s σ H Q I h
 refine subD_of PySem.F.slot_dict_getitem.lookup hs (thn (ho pins s σ H _ I h) fun u s1 ⟨x,H1,I1,rx,q1⟩=>thn (hi pins s1 σ H1 _ I1 q1) fun iv s2 ⟨y,H2,I2,ry,a,v,ex,g,q2⟩=>?_)
 subst ex
 obtain rfl:u=Value.ref a:=rx
 exact⟨dict_typeIs I2 g,d_getItem hu I2 g ry fun w' s3 I3 rw'=>⟨v,H2,I3,rw',q2⟩⟩
theorem pc_din (hu:X.A.units+1<cLine)(hi:PE X i ty)(ho:PE X o td):PC X .In i o (tDIn ty td):=by
 intro pins s σ H Q I h
 refine thn (hi pins s σ H _ I h) fun iv s1 ⟨y,H1,I1,ry,q1⟩=>thn (ho pins s1 σ H1 _ I1 q1) fun u s2 ⟨x,H2,I2,rx,a,ov,ex,g,q2⟩=>?_
 subst ex
 obtain rfl:u=Value.ref a:=rx
 exact d_in hu I2 g ry fun s3 I3=>⟨.bl ov.isSome,H2,I3,rfl,q2⟩
theorem ps_dput (hu:X.A.units+1<cLine)(ho:PE X o td)(hi:PE X i ty)(hv:PE X value tv)(hs:swapsWith value (some (.Subscript o i pos')) pos.line X.env=pure false):
  PS X (.Assign [.Subscript o i pos'] value pos) (sDPut td ty tv):=by
 intro pins s σ H D I h
 refine wpAny_Assign_Subscript (thn (hv pins s σ H _ I h) fun r s1 ⟨v,H1,I1,rv,q1⟩=>thn (ho pins s1 σ H1 _ I1 q1) fun u s2 ⟨x,H2,I2,rx,q2⟩=>thn (hi pins s2 σ H2 _ I2 q2) fun iv s3 ⟨y,H3,I3,ry,a,H4,ex,g,q3⟩=>?_) hs
 subst ex
 obtain rfl:u=Value.ref a:=rx
 exact d_setItem hu I3 g ry rv fun s4 I4=>⟨σ,H4,I4,q3⟩
end
theorem dk_empty {P:Program}{w:World}{H:Hp}(h:Heap)(hb:sysModules<h.objs.size):ObjOk P w H (h.push {cls:=.type "dict",data:=.dict #[]}) h.objs.size (.dK []):=
 ⟨Nat.zero_le _,beq_eq_false_iff_ne.mpr (Ne.symm (Nat.ne_of_lt hb)),[],.nil,Heap.DictOf.new h⟩
theorem dt_empty {P:Program}{w:World}{H:Hp}(h:Heap)(hb:sysModules<h.objs.size):ObjOk P w H (h.push {cls:=.type "dict",data:=.dict #[]}) h.objs.size (.dT []):=
 ⟨Nat.zero_le _,beq_eq_false_iff_ne.mpr (Ne.symm (Nat.ne_of_lt hb)),[],.nil,_,#[],0,Heap.get?_push_size _ rfl,⟨rfl,rfl,rfl⟩,rfl,rfl,List.nodup_nil⟩
def tDNewK:TE:=fun _ H Q=>∀p,H p=none->Q (.ref p) (upd H p (.dK []))
def tDNewT:TE:=fun _ H Q=>∀p,H p=none->Q (.ref p) (upd H p (.dT []))
section
variable {X:Cx} {pos:Pos}
theorem pe_dnewK:PE X (.Dict [] [] pos) tDNewK:=fun pins s σ H Q I h=>
 wpAny_Dict_empty ⟨.ref s.heap.objs.size,_,I.laid (a:=s.heap.objs.size) (o:=.dK []) (t':=s.toks) (fun _ _ q=>Heap.get?_push_of_some _ q) (Nat.le_refl _) (dk_empty s.heap I.big),rfl,h _ (I.hok.fresh (Nat.le_refl _))⟩
theorem pe_dnewT:PE X (.Dict [] [] pos) tDNewT:=fun pins s σ H Q I h=>
 wpAny_Dict_empty ⟨.ref s.heap.objs.size,_,I.laid (a:=s.heap.objs.size) (o:=.dT []) (t':=s.toks) (fun _ _ q=>Heap.get?_push_of_some _ q) (Nat.le_refl _) (dt_empty s.heap I.big),rfl,h _ (I.hok.fresh (Nat.le_refl _))⟩
end
structure M1 (X:Cx)(o:Expr)(m:Str)(apos:Pos)(e:Expr)(cpos:Pos):Prop where
 base:attributeBase o m X.env (eval o X.env)=eval o X.env
 few:((backTo cpos (starEach [e] X.env)).all (fun x => !x.1)&&(backToKw cpos (keywordEach [] X.env)).all (fun x=>x.1.isSome)
  && decide (([e]:List Expr).length+([]:List Keyword).length+(if ([]:List Keyword).isEmpty then 0 else 1)<30))=true
 line:(apos.endLine==cpos.line)=true
 trees:backTo cpos (starEach [e] X.env)=[(false,eval e X.env)]
structure M2 (X:Cx)(o:Expr)(m:Str)(apos:Pos)(e f:Expr)(cpos:Pos):Prop where
 base:attributeBase o m X.env (eval o X.env)=eval o X.env
 few:((backTo cpos (starEach [e,f] X.env)).all (fun x => !x.1)&&(backToKw cpos (keywordEach [] X.env)).all (fun x=>x.1.isSome)
  && decide (([e,f]:List Expr).length+([]:List Keyword).length+(if ([]:List Keyword).isEmpty then 0 else 1)<30))=true
 line:(apos.endLine==cpos.line)=true
 trees:backTo cpos (starEach [e,f] X.env)=[(false,eval e X.env),(false,eval f X.env)]
def IsD (H:Hp)(a:Addr):Prop:=(∃kvs,Rd H a (.dK kvs)) \/ ∃kvs,Rd H a (.dT kvs)
theorem isD_at {X:Cx}{pins:List (Addr×Obj)}{σ:St}{H:Hp}{s:Shared}{a:Addr}(I:Inv X pins σ H s)(d:IsD H a):
  s.TypeIs (.ref a) "dict" /\ (∀b,Value.ref a=.ref b->∃ob,s.heap.get? b=some ob/\ob.dict=none)/\(a==sysModules)=false:=by
 rcases d with ⟨kvs,e⟩|⟨kvs,e⟩
 ·obtain⟨_,hd,vs,_,dd⟩:=dk_rd I.hok e
  refine⟨dd.typeIs,fun b q=>?_,hd⟩
  cases q
  obtain⟨ob,_,_,h1,h2,_⟩:=dd
  exact⟨ob,h1,h2.2.1⟩
 ·obtain⟨_,hd,xs,_,dd⟩:=dt_rd I.hok e
  refine⟨dd.typeIs,fun b q=>?_,hd⟩
  cases q
  obtain⟨ob,_,_,h1,h2,_⟩:=dd
  exact⟨ob,h1,h2.2.1⟩
section
variable {X:Cx} {pins:List (Addr×Obj)} {σ:St} {H:Hp} {s:Shared} {a:Addr} {y d:V} {u r:Value} {o:Option V} {A:Around} {E:Value->Shared->Prop}
theorem d_get1 {Q:Value->Shared->Prop}(hu:A.units+1<cLine)(I:Inv X pins σ H s)(g:DGet H a y o)(ry:RelV y u)(h:∀w' s',Inv X pins σ H s'->RelV (o.getD .non) w'->Q w' s'):
  wpAny (model X.prog X.w) A (call (.builtin "dict.get") [.ref a,u]) Q E s:=by
 rcases g with ⟨kvs,k,e,ey,l⟩|⟨kvs,k,b,e,ey,eb,l⟩
 ·subst ey
  obtain⟨z,hd,vs,rel,dd⟩:=dk_rd I.hok e
  refine call_meetsIn PySem.F.slot_dict_get dd.typeIs PySem.F.entry_dict_get (PySem.F.args_dict_get_2 _ _) (meets_dict_get (mixKind X.prog X.w) a (kV_is ry) hd) ⟨_,dd.mapOf,h _ _ (I.tok _) ?_⟩
  rw[l]
  exact (rel.val k).getD rfl
 ·subst ey
  cases (show u=Value.ref b from ry)
  obtain⟨z,hd,xs,rel,dd⟩:=dt_rd I.hok e
  refine call_meetsIn PySem.F.slot_dict_get dd.typeIs PySem.F.entry_dict_get (PySem.F.args_dict_get_2 _ _) (meetsH_dict_get (tupleKind (mixKind X.prog X.w)) a b hd) ⟨tupleKind_room_in1 hu,k,xs,key_of I.hok eb,dd,h _ _ (I.tok _) ?_⟩
  rw[l]
  exact (rel.val k).getD rfl
theorem d_get2 {Q:Value->Shared->Prop}(hu:A.units+1<cLine)(I:Inv X pins σ H s)(g:DGet H a y o)(ry:RelV y u)(rd:RelV d r)(h:∀w' s',Inv X pins σ H s'->RelV (o.getD d) w'->Q w' s'):
  wpAny (model X.prog X.w) A (call (.builtin "dict.get") [.ref a,u,r]) Q E s:=by
 rcases g with ⟨kvs,k,e,ey,l⟩|⟨kvs,k,b,e,ey,eb,l⟩
 ·subst ey
  obtain⟨z,hd,vs,rel,dd⟩:=dk_rd I.hok e
  refine call_meetsIn PySem.F.slot_dict_get dd.typeIs PySem.F.entry_dict_get (PySem.F.args_dict_get_3 _ _ _) (meets_dict_get_default (mixKind X.prog X.w) a (kV_is ry) hd r) ⟨_,dd.mapOf,h _ _ (I.tok _) ?_⟩
  rw[l]
  exact (rel.val k).getD rd
 ·subst ey
  cases (show u=Value.ref b from ry)
  obtain⟨z,hd,xs,rel,dd⟩:=dt_rd I.hok e
  refine call_meetsIn PySem.F.slot_dict_get dd.typeIs PySem.F.entry_dict_get (PySem.F.args_dict_get_3 _ _ _) (meetsH_dict_get_default (tupleKind (mixKind X.prog X.w)) a b hd r) ⟨tupleKind_room_in1 hu,k,xs,key_of I.hok eb,dd,h _ _ (I.tok _) ?_⟩
  rw[l]
  exact (rel.val k).getD rd
end
def tDGet1 (td ty:TE):TE:=fun σ H Q=>td σ H fun x H1=>∃a,x=.ref a/\IsD H1 a/\ty σ H1 fun y H2=>∃o,DGet H2 a y o/\Q (o.getD .non) H2
def tDGet2 (td ty tx:TE):TE:=fun σ H Q=>td σ H fun x H1=>∃a,x=.ref a/\IsD H1 a/\ty σ H1 fun y H2=>tx σ H2 fun z H3=>∃o,DGet H3 a y o/\Q (o.getD z) H3
section
variable {X:Cx} {o e f:Expr} {apos cpos:Pos} {td ty tx:TE}
theorem pe_dget1 (hu:X.A.units+1<cLine)(ho:PE X o td)(he:PE X e ty)(m:M1 X o "get" apos e cpos):PE X (.Call (.Attribute o "get" apos) [e] [] cpos) (tDGet1 td ty):=by
 intro pins s σ H Q I h
 refine wpAny_Call_method m.base m.few m.line PySem.F.plainAttrs_dict PySem.F.slot_dict_get PySem.F.type_dict_get (thn (ho pins s σ H _ I h) fun u s1 ⟨x,H1,I1,rx,a,ex,d,q1⟩=>?_)
 subst ex
 obtain rfl:u=Value.ref a:=rx
 obtain⟨t1,t2,_⟩:=isD_at I1 d
 refine⟨t1,t2,?_⟩
 rw[m.trees]
 refine Calls.callWith_builtin rfl (Calls.evalArgs_plain (Calls.spliced_cons (thn (he pins s1 σ H1 _ I1 q1) fun iv s2 ⟨y,H2,I2,ry,ov,g,q2⟩=>Calls.spliced_nil ?_)))
 exact d_get1 hu I2 g ry fun w' s3 I3 rw'=>⟨_,H2,I3,rw',q2⟩
theorem pe_dget2 (hu:X.A.units+1<cLine)(ho:PE X o td)(he:PE X e ty)(hf:PE X f tx)(m:M2 X o "get" apos e f cpos):PE X (.Call (.Attribute o "get" apos) [e,f] [] cpos) (tDGet2 td ty tx):=by
 intro pins s σ H Q I h
 refine wpAny_Call_method m.base m.few m.line PySem.F.plainAttrs_dict PySem.F.slot_dict_get PySem.F.type_dict_get (thn (ho pins s σ H _ I h) fun u s1 ⟨x,H1,I1,rx,a,ex,d,q1⟩=>?_)
 subst ex
 obtain rfl:u=Value.ref a:=rx
 obtain⟨t1,t2,_⟩:=isD_at I1 d
 refine⟨t1,t2,?_⟩
 rw[m.trees]
 refine Calls.callWith_builtin rfl (Calls.evalArgs_plain (Calls.spliced_cons (thn (he pins s1 σ H1 _ I1 q1) fun iv s2 ⟨y,H2,I2,ry,q2⟩ =>
  Calls.spliced_cons (thn (hf pins s2 σ H2 _ I2 q2) fun fv s3 ⟨z,H3,I3,rz,ov,g,q3⟩=>Calls.spliced_nil ?_))))
 exact d_get2 hu I3 g ry rz fun w' s4 I4 rw'=>⟨_,H3,I4,rw',q3⟩
end
end L2
namespace L2
open PySem PySem.Spec PyProof.Rows
def clOf (env:Env):List (Str×NameKind)->List (Str×Addr)->List (Str×Addr)
 |[],acc=>acc
 | (n,k)::r,acc=>if (k == .free)=true then clOf env r ((n,(env.cells.lookup n).getD 0)::acc) else clOf env r acc
theorem closure_eq {env:Env}{scope:Scope}(h:∀p∈scope.names,p.2=.free->∃c,env.cells.lookup p.1=some c):closureFor scope env=pure (clOf env scope.names []):=by
 have go:∀(l:List (Str×NameKind)) (acc:List (Str×Addr)),(∀p∈l,p.2=.free->∃c,env.cells.lookup p.1=some c) ->
   (forIn l acc fun (x:Str×NameKind) (cs:List (Str×Addr))=>(if (x.2 == .free)=true then do let c <- cellOf env x.1;pure (ForInStep.yield ((x.1,c)::cs)) else pure (ForInStep.yield cs):Sem (ForInStep (List (Str×Addr)))))=(pure (clOf env l acc):Sem (List (Str×Addr))):=by
  intro l
  induction l with
  |nil=>intro acc _;rfl
  |cons p r ih=>
   intro acc hl
   obtain⟨n,k⟩:=p
   rw[List.forIn_cons]
   by_cases hk:(k == .free)=true
   ·obtain⟨c,hc⟩:=hl (n,k) List.mem_cons_self (by simpa using hk)
    have e1:cellOf env n=pure c:=by unfold cellOf;rw[hc]
    have ih':=ih ((n,c)::acc) fun q hq=>hl q (List.mem_cons_of_mem _ hq)
    show ((if (k == .free)=true then do let c <- cellOf env n;pure (ForInStep.yield ((n,c)::acc)) else pure (ForInStep.yield acc):Sem _) >>= _)=_
    rw[if_pos hk,e1]
    show (forIn r ((n,c)::acc) _:Sem _)=_
    rw[clOf,if_pos hk,hc]
    exact ih'
   ·have ih':=ih acc fun q hq=>hl q (List.mem_cons_of_mem _ hq)
    show ((if (k == .free)=true then do let c <- cellOf env n;pure (ForInStep.yield ((n,c)::acc)) else pure (ForInStep.yield acc):Sem _) >>= _)=_
    rw[if_neg hk]
    show (forIn r acc _:Sem _)=_
    rw[clOf,if_neg hk]
    exact ih'
 have e:=go scope.names [] h
 unfold closureFor
 show (forIn scope.names [] _ >>= fun cs=>pure cs:Sem _)=_
 have e2:(forIn scope.names [] (fun (x:Str×NameKind) (r:List (Str×Addr))=>(match x with
   | (name,kind)=>if (kind == .free)=true then do let c <- cellOf env name;pure (ForInStep.yield ((name,c)::r)) else do pure PUnit.unit;pure (ForInStep.yield r):Sem (ForInStep (List (Str×Addr))))))=(pure (clOf env scope.names []):Sem (List (Str×Addr))):=e
 exact congrArg (fun z=>z >>= fun cs=>pure cs) e2
theorem clOf_mem {env:Env}:∀(l:List (Str×NameKind)) (acc:List (Str×Addr)),(∀p∈l,p.2=.free->∃c,env.cells.lookup p.1=some c)->(∀q∈acc,env.cells.lookup q.1=some q.2)->∀q∈clOf env l acc,env.cells.lookup q.1=some q.2
 |[],_,_,ha,q,hq=>ha q hq
 | (n,k)::r,acc,hl,ha,q,hq=>by
  unfold clOf at hq
  by_cases hk:(k == .free)=true
  ·rw[if_pos hk]at hq
   obtain⟨c,hc⟩:=hl (n,k) List.mem_cons_self (by simpa using hk)
   refine clOf_mem r _ (fun p hp=>hl p (List.mem_cons_of_mem _ hp)) (fun p hp=>?_) q hq
   rcases List.mem_cons.mp hp with rfl|hp
   ·show env.cells.lookup n=some ((env.cells.lookup n).getD 0)
    rw[hc];rfl
   ·exact ha p hp
  ·rw[if_neg hk]at hq
   exact clOf_mem r _ (fun p hp=>hl p (List.mem_cons_of_mem _ hp)) ha q hq
theorem clOf_has {env:Env}:∀(l:List (Str×NameKind)) (acc:List (Str×Addr)) (x:Str),((x,NameKind.free)∈l \/ ∃c,(x,c)∈acc)->∃c,(x,c)∈clOf env l acc
 |[],_,_,h=>by
  rcases h with h|h
  ·cases h
  ·exact h
 | (n,k)::r,acc,x,h=>by
  unfold clOf
  by_cases hk:(k == .free)=true
  ·rw[if_pos hk]
   refine clOf_has r _ x ?_
   rcases h with h|⟨c,h⟩
   ·rcases List.mem_cons.mp h with h|h
    ·cases h
     exact .inr ⟨_,List.mem_cons_self⟩
    ·exact .inl h
   ·exact .inr ⟨c,List.mem_cons_of_mem _ h⟩
  ·rw[if_neg hk]
   refine clOf_has r _ x ?_
   rcases h with h|h
   ·rcases List.mem_cons.mp h with h|h
    ·cases h
     exact absurd rfl hk
    ·exact .inl h
   ·exact .inr h
theorem lookup_some_of_mem {β:Type}:∀{l:List (Str×β)} {x:Str} {c:β},(x,c)∈l->∃c',l.lookup x=some c'
 |[],_,_,h=>by cases h
 | (n,d)::r,x,c,h=>by
  by_cases hx:(x==n)=true
  ·exact⟨d,by rw[List.lookup_cons,hx]⟩
  ·rcases List.mem_cons.mp h with h|h
   ·cases h;exact absurd (beq_self_eq_true _) hx
   ·obtain⟨c',e⟩:=lookup_some_of_mem h
    exact⟨c',by rw[List.lookup_cons];simp only[Bool.not_eq_true]at hx;rw[hx];exact e⟩
def relF (env:Env):Str×NameKind->Str×NameKind:=fun (n,k)=>if (k==NameKind.free&&env.scope.kind == .function&&env.kindOf n==some .cell) then (n,NameKind.cell) else (n,k)
theorem relF_yes {env:Env}{n:Str}{k:NameKind}(h:(k==NameKind.free&&env.scope.kind == .function&&env.kindOf n==some .cell)=true):relF env (n,k)=(n,.cell):=if_pos h
theorem relF_no {env:Env}{n:Str}{k:NameKind}(h:¬ (k==NameKind.free&&env.scope.kind == .function&&env.kindOf n==some .cell)=true):relF env (n,k)=(n,k):=if_neg h
theorem relabel_kind {env:Env}:∀{names:List (Str×NameKind)} {x:Str} {k:NameKind},(∀y∈names,y.2 ≠ .cell) ->
  (names.map (relF env)).lookup x=some k->(k=.cell\/k=.free)->(x,NameKind.free)∈names
 |[],_,_,_,h,_=>by simp at h
 | (n,k')::r,x,k,hc,h,hk=>by
  have ih := @relabel_kind env r x k (fun y hy=>hc y (List.mem_cons_of_mem _ hy))
  rw[List.map_cons]at h
  by_cases hb:(k'==NameKind.free&&env.scope.kind == .function&&env.kindOf n==some .cell)=true
  ·rw[relF_yes hb,List.lookup_cons]at h
   cases hx:x==n with
   |true=>
    have e:x=n:=by simpa using hx
    subst e
    have e2:k'=.free:=by
     simp only[Bool.and_eq_true]at hb
     simpa using hb.1.1
    subst e2
    exact List.mem_cons_self
   |false=>
    rw[hx]at h
    exact List.mem_cons_of_mem _ (ih h hk)
  ·rw[relF_no hb,List.lookup_cons]at h
   cases hx:x==n with
   |true=>
    rw[hx]at h
    have e:x=n:=by simpa using hx
    subst e
    have e2:k'=k:=Option.some.inj h
    subst e2
    rcases hk with rfl|rfl
    ·exact absurd rfl (hc _ List.mem_cons_self)
    ·exact List.mem_cons_self
   |false=>
    rw[hx]at h
    exact List.mem_cons_of_mem _ (ih h hk)
theorem relabel_free {env:Env}:∀{names:List (Str×NameKind)} {x:Str},names.lookup x=some .free ->
  ∃k,(k=NameKind.cell\/k=NameKind.free)/\(names.map (relF env)).lookup x=some k
 |[],_,h=>by simp at h
 | (n,k')::r,x,h=>by
  have ih := @relabel_free env r x
  rw[List.lookup_cons]at h
  rw[List.map_cons]
  cases hx:x==n with
  |true=>
   rw[hx]at h
   have e2:k'=.free:=Option.some.inj h
   subst e2
   by_cases hb:((NameKind.free:NameKind)==NameKind.free&&env.scope.kind == .function&&env.kindOf n==some .cell)=true
   ·exact⟨.cell,.inl rfl,by rw[relF_yes hb,List.lookup_cons,hx]⟩
   ·exact⟨.free,.inr rfl,by rw[relF_no hb,List.lookup_cons,hx]⟩
  |false=>
   rw[hx]at h
   obtain⟨k,hk,e⟩:=ih h
   refine⟨k,hk,?_⟩
   by_cases hb:(k'==NameKind.free&&env.scope.kind == .function&&env.kindOf n==some .cell)=true
   ·rw[relF_yes hb,List.lookup_cons,hx];exact e
   ·rw[relF_no hb,List.lookup_cons,hx];exact e
end L2
namespace L2
open PySem PySem.Spec PyProof.Rows
section
variable {prog:Program} {w:World} {A:Around} {R:Result->Shared->Prop} {s:Shared}
abbrev cpW (prog:Program)(w:World)(A:Around)(R:Result->Shared->Prop)(env:Env){α:Type}(m:Sem α)(Q:α->Shared->Prop):Shared->Prop:=wpAny (model prog w) A m Q (notedBy (model prog w) A env fun e t=>R (.error e) t)
theorem compLoop_gen {elt target iter:Expr}{ifs:List Expr}{scope:Scope}{pos:Pos}{it acc:Value}{env:Env}(I:Nat->Shared->Prop)
  (turn:∀n s,I n s->cpW prog w A R env (pyNext it) (fun r s=>match r with
   |none=>R (.ok .next) s
   |some v=>cpW prog w A R env (letOwnedTupleGo target it v) (fun _=>cpW prog w A R env (assign target env v) fun _=>cpW prog w A R env (forIn ifs true fun c r=>if r=true then do let ok <- isTrue c env (eval c env);pure (ForInStep.yield ok) else pure (ForInStep.yield r)) fun ok s=>
     if ok=true then cpW prog w A R env (eval elt env) (fun x=>cpW prog w A R env (call (.builtin "list.append") [acc,x]) fun _ t=>∃m,m<n/\I m t) s else ∃m,m<n/\I m s) s) s)
  (n:Nat) (h:I n s):codeAny (model prog w) A (.compLoop (.ListComp elt [⟨target,iter,ifs,0⟩] scope pos) 0 it acc env) R s:=by
 have mono:∀{α β:Type} {m:Sem α} {f:α->Sem β} {Q:α->Shared->Prop} {Q':β->Shared->Prop} {s:Shared},cpW prog w A R env m Q s->(∀a t,Q a t->cpW prog w A R env (f a) Q' t)->cpW prog w A R env (m >>= f) Q' s:=fun h k=>wpAny_bind (wpAny_mono h k fun _ _ e=>e)
 refine codeAny_loop rfl I (fun n s hI=>wpAny_noted ?_) n h
 rw[compTurn_list]
 refine wpAny_bind (wpAny_standAt (mono (turn n s hI) fun r s1 h1=>?_))
 cases r with
 |none=>exact wpAny_pure h1
 |some v=>
  refine mono h1 fun _ _ h2=>mono h2 fun _ _ h3=>mono h3 fun ok s4 h4=>?_
  cases ok with
  |false=>exact wpAny_pure ⟨rfl,h4⟩
  |true=>exact wpAny_bind (mono h4 fun _ _ h5=>mono h5 fun _ _ h6=>wpAny_pure (wpAny_pure ⟨rfl,h6⟩))
end
abbrev Cx.blk (X:Cx)(N:List Str)(sc:Scope)(C:Addr)(s₀:Shared)(H₀:Hp)(ex:List Addr):Cx:=
 {X with N:=N,env:=compEnvC sc (clOf X.env sc.names []) C X.env,outer:=X.stack,s₀:=s₀,H₀:=H₀,ex:=ex,fn:=fun _=>false,pn:=[],xe:=fun _ _=>False}
structure BlkSc (X:Cx)(sc:Scope):Prop where
 kind:sc.kind=.function
 nocell:∀y∈sc.names,y.2 ≠ .cell
 loc:∀y∈sc.names,y.2=.local->sc.names.lookup y.1=some .local
 free:∀y∈sc.names,y.2=.free->X.env.kindOf y.1=some .cell\/X.env.kindOf y.1=some .free
abbrev Caps:=List (Str×Option Nat)
def Caps.names (c:Caps):List Str:=c.map (·.1)
def Caps.st (c:Caps)(σ:St):St:=c.map fun p=>p.2.bind fun j=>(σ[j]?).join
def CapsOk (N:List Str)(sc:Scope):Caps->Prop
 |[]=>True
 | (_,none)::r=>CapsOk N sc r
 | (x,some j)::r=>(N[j]?=some x/\sc.names.lookup x=some .free)/\CapsOk N sc r
theorem CapsOk.get {N:List Str}{sc:Scope}:∀{c:Caps} {i:Nat} {x:Str} {j:Nat},CapsOk N sc c->c[i]?=some (x,some j)->N[j]?=some x/\sc.names.lookup x=some .free
 |[],_,_,_,_,h=>by simp at h
 | (y,none)::r,0,x,j,_,h=>by simp at h
 | (y,none)::r,i+1,x,j,ok,h=>CapsOk.get (c:=r) (i:=i) ok (by simpa using h)
 | (y,some k)::r,0,x,j,ok,h=>by
  simp only[List.getElem?_cons_zero,Option.some.injEq,Prod.mk.injEq]at h
  obtain⟨rfl,rfl⟩:=h
  exact ok.1
 | (y,some k)::r,i+1,x,j,ok,h=>CapsOk.get (c:=r) (i:=i) ok.2 (by simpa using h)
section
variable {X:Cx} {pins:List (Addr×Obj)} {σ:St} {H:Hp} {s:Shared} {sc:Scope} {fp:List Addr}
theorem blk_cells (I:Inv X pins σ H s)(S:BlkSc X sc):∀p∈sc.names,p.2=.free->∃c,X.env.cells.lookup p.1=some c:=fun p hp e=>I.ok.has p.1 (S.free p hp e)
theorem blk_lookup (I:Inv X pins σ H s)(S:BlkSc X sc){x:Str}{c:Addr}(h:(clOf X.env sc.names []).lookup x=some c):X.env.cells.lookup x=some c:=
 clOf_mem sc.names [] (blk_cells I S) (fun q hq=>by cases hq) (x,c) (PySem.mem_of_lookup h)
theorem blk_ok {N:List Str}{C:Addr}(I:Inv X pins σ H s)(S:BlkSc X sc)(hC:s.heap.objs.size<=C)(hf:∀b∈fp,FpOk X pins H b)(ho:∀b∈fp,∃o,s.heap.get? b=some o):(X.blk N sc C s H fp).Ok where
 mod:=I.ok.mod
 kind:=S.kind
 glob:=I.ok.glob
 blt:=I.ok.blt
 above:=hC
 inj:=fun x y c h1 h2=>I.ok.inj x y c (blk_lookup I S h1) (blk_lookup I S h2)
 has:=fun x hx=>by
  have hx':(x,NameKind.free)∈sc.names:=by
   rcases hx with hx|hx
   ·exact relabel_kind (env:=X.env) S.nocell hx (.inl rfl)
   ·exact relabel_kind (env:=X.env) S.nocell hx (.inr rfl)
  obtain⟨c,hc⟩:=clOf_has (env:=X.env) sc.names [] x (.inl hx')
  exact lookup_some_of_mem hc
 cab:=fun x c h=>absurd (show false=true from h) Bool.false_ne_true
 hd:=I.ok.hd
 frames:=I.ok.frames
 stk:=.inl rfl
 exf:=fun b hb=>by
  obtain⟨o,ho⟩:=ho b hb
  refine⟨Nat.ne_of_lt (Nat.lt_of_lt_of_le (Heap.lt_size ho) hC),fun x c h=>(hf b hb).2.2.2.2.1 x c (blk_lookup I S h)⟩
 bs:=I.bs
 bsz:=Nat.le_trans I.ok.bsz I.sz
 noex:=fun b o e hb=>by
  rcases (hf b hb).2.2.2.1 with z|z
  ·exact I.ok.noex b o e z
  ·exact absurd (Nat.lt_of_lt_of_le (Heap.lt_size (I.ok.bs b o e).1) z) (Nat.lt_irrefl _)
 exfs:=fun b hb z=>by
  rcases List.mem_cons.mp (I.stkSub b z) with e|e
  ·exact (hf b hb).2.1 e
  ·exact (hf b hb).2.2.1 e
 funs:=I.stack
 frf:=I.stkFree
theorem blk_start {c:Caps}{C:Addr}{s4:Shared}{m:Str->Option Value}(I:Inv X pins σ H s)(S:BlkSc X sc)(hc:CapsOk X.N sc c)(hC:s.heap.objs.size<=C)(hf:∀b∈fp,FpOk X pins H b)(ho:∀b∈fp,∃o,s.heap.get? b=some o)
  (hos:s4.os=s.os) (hb:s4.gens=s.gens) (hk:∀b o,s.heap.get? b=some o->s4.heap.get? b=some o) (hn:s4.heap.Ns C m):Inv (X.blk c.names sc C s H fp) [] (c.st σ) H s4 where
 ok:=blk_ok I S hC hf ho
 os:=hos
 bare:=by rw[hb];exact I.bare
 base:=Un.kept hk
 loc:=by
  refine⟨m,hn,fun i x v h1 h2 hv=>?_⟩
  have h1':(c.map (·.1))[i]?=some x:=h1
  have h2':(c.map fun p=>p.2.bind fun j=>(σ[j]?).join)[i]?=some (some v):=h2
  rw[List.getElem?_map]at h1' h2'
  cases e:c[i]? with
  |none=>rw[e]at h1';cases h1'
  |some p=>
   obtain⟨y,oj⟩:=p
   rw[e]at h1' h2'
   have e1:y=x:=Option.some.inj h1'
   subst e1
   have e2:(oj.bind fun j=>(σ[j]?).join)=some v:=Option.some.inj h2'
   cases oj with
   |none=>cases e2
   |some j=>
    have e3:(σ[j]?).join=some v:=e2
    have e4:σ[j]?=some (some v):=by
     cases q:σ[j]? with
     |none=>rw[q]at e3;cases e3
     |some z=>rw[q]at e3;exact congrArg some e3
    obtain⟨k1,k2⟩:=CapsOk.get hc e
    have k3:X.env.kindOf y=some .cell\/X.env.kindOf y=some .free:=S.free (y,.free) (PySem.mem_of_lookup k2) rfl
    have vis:Vis X.env.scope y:=by
     rcases k3 with k|k
     ·exact .inr (.inl k)
     ·exact .inr (.inr k)
    obtain⟨mX,hnX,hl⟩:=I.loc
    obtain⟨u,r,l⟩:=hl j y v k1 e4 vis
    refine⟨u,r,?_⟩
    rcases l with ⟨k,_⟩|⟨_,ca,hca,z⟩
    ·rcases k3 with k' | k'<;>(rw[k]at k';cases k')
    ·obtain⟨kd,hkd,ek⟩:=relabel_free (env:=X.env) k2
     have hk2:(compEnvC sc (clOf X.env sc.names []) C X.env).kindOf y=some kd:=ek
     obtain⟨c',hc'⟩:=clOf_has (env:=X.env) sc.names [] y (.inl (PySem.mem_of_lookup k2))
     obtain⟨c2,hc2⟩:=lookup_some_of_mem hc'
     have e5:=blk_lookup I S hc2
     rw[hca]at e5
     have e6:ca=c2:=Option.some.inj e5
     subst e6
     refine .inr ⟨?_,ca,hc2,?_⟩
     ·rcases hkd with rfl|rfl
      ·exact .inl hk2
      ·exact .inr hk2
     ·obtain⟨oc,hoc,hd⟩:=z
      exact⟨oc,hk _ _ hoc,hd⟩
 cell:=fun x ca h=>by
  obtain⟨v,oc,hoc,hd⟩:=I.cell x ca (blk_lookup I S h)
  exact⟨v,oc,hk _ _ hoc,hd⟩
 free:=I.hok.fresh hC
 freeC:=fun x ca h=>I.freeC x ca (blk_lookup I S h)
 pin:=fun p hp=>absurd (show p∈([]:List (Addr×Obj)) from hp) (by simp)
 hok:=I.hok.kept hk
 len:=by show (c.map _).length=(c.map _).length;rw[List.length_map,List.length_map]
theorem HOk.track {P:Program}{w:World}{H:Hp}{h:Heap}{a:Addr}{o:HO}(x:HOk P w H h)(hn:H a=none)(new:ObjOk P w (upd H a o) h a o):HOk P w (upd H a o) h:=fun b u e=>by
 by_cases hb:b=a
 ·subst hb;rw[upd_same]at e;cases e;exact new
 ·rw[upd_ne hb]at e
  exact (x b u e).stay (fun c v _ q=>q) (fun c q=>by rw[upd_ne (ne_of_none q hn)];exact q) fun c xs q=>by rw[upd_ne (ne_of_none q hn)];exact q
theorem Un.track {fs ex:List Addr}{H H':Hp}{h h':Heap}{a:Addr}{o:HO}(u:Un fs ex H H' h h')(ha:h.objs.size<=a)(hn:H' a=none):Un fs ex H (upd H' a o) h h' where
 keep:=u.keep
 slot:=u.slot
 free:=fun b ob q n hx=>by rw[upd_ne (Nat.ne_of_lt (Nat.lt_of_lt_of_le (Heap.lt_size q) ha))];exact u.free b ob q n hx
 there:=u.there
 tups:=fun b xs q=>by rw[upd_ne (ne_of_none (u.tups b xs q) hn)];exact u.tups b xs q
 frzs:=fun b ob xs q=>by rw[upd_ne (ne_of_none (u.frzs b ob xs q) hn)];exact u.frzs b ob xs q
 tbls:=fun b ps q=>by
  obtain⟨more,e⟩:=u.tbls b ps q
  exact⟨more,by rw[upd_ne (ne_of_none e hn)];exact e⟩
theorem blk_end {c:Caps}{C D:Addr}{s':Shared}{σ':St}{H':Hp}{o:HO}(I:Inv X pins σ H s)(J:Inv (X.blk c.names sc C s H fp) [] σ' H' s')(hf:∀b∈fp,FpOk X pins H b)(hD:s.heap.objs.size<=D)(hn:H' D=none)
  (new:ObjOk X.prog X.w (upd H' D o) s'.heap D o):Inv X pins σ (upd H' D o) s':=by
 have u:Un (frs X.stack) fp H H' s.heap s'.heap:=J.base
 exact I.call' J.os (u.track hD hn) (J.hok.track hn new) J.bare fun b hb=>⟨(hf b hb).2.2.2.1,(hf b hb).2.1,(hf b hb).2.2.2.2.1,(hf b hb).2.2.2.2.2⟩
end
def PF (X:Cx)(ifs:List Expr)(t:TT):Prop:=
 ∀(pins:List (Addr×Obj)) (s:Shared) (σ:St) (H:Hp) (Q:Bool->Hp->Prop),Inv X pins σ H s->t σ H Q ->
  wpAny (model X.prog X.w) X.A (forIn ifs true fun c r=>if r=true then do let ok <- isTrue c X.env (eval c X.env);pure (ForInStep.yield ok) else pure (ForInStep.yield r)) (TP X pins σ Q) X.xe s
def tTrue:TT:=fun _ H Q=>Q true H
theorem pf_nil {X:Cx}:PF X [] tTrue:=fun _ _ _ H _ I h=>wpAny_tests_nil ⟨H,I,h⟩
def tComp (wi:TI)(cp:Caps)(g:TG)(tc:TT)(te:TE):TE:=fun σ H Q=>wi σ H fun J H1=>∃W:Nat->Nat->List V->St->Hp->Prop,(∃m,W 0 m [] (cp.st σ) H1)/\∀i m ys σ' H',W i m ys σ' H' ->
 ys.length<sizeLine/\((J.stop i H'/\∀D,H' D=none->Q (.ref D) (upd H' D (.lst ys)))\/(J.go i H'/\∃N:List V->St->Hp->Prop,(∀zs σ2 H2,N zs σ2 H2->∃m',m'<m/\W (i+1) m' zs σ2 H2)/\∀x H2,J.yld i H' x H2->g x σ' H2 fun σ2 H3=>tc σ2 H3 fun b H4=>
  if b=true then te σ2 H4 fun v H5=>N (ys++[v]) σ2 H5 else N ys σ2 H4))
section
variable {X:Cx} {tg iter elt:Expr} {ifs:List Expr} {sc:Scope} {pos:Pos} {wi:TI} {cp:Caps} {g:TG} {tc:TT} {te:TE}
theorem comp_core (hc:X.calm=true)(S:BlkSc X sc)(hcp:CapsOk X.N sc cp)
  (hg:∀C s₀ H₀ ex,PG (X.blk cp.names sc C s₀ H₀ ex) tg g) (hf:∀C s₀ H₀ ex,PF (X.blk cp.names sc C s₀ H₀ ex) ifs tc) (he:∀C s₀ H₀ ex,PE (X.blk cp.names sc C s₀ H₀ ex) elt te)
  {pins:List (Addr×Obj)} {σ:St} {H:Hp} {s:Shared} {J:It} {it:Addr} {fp:List Addr} {tn:Nat->Heap->Prop} {Q:VK} {RR:Value->Addr->Result->Shared->Prop} {E:Value->Shared->Prop}
  (I:Inv X pins σ H s) (T:Turn X.prog X.w X.K tg J fp it tn) (st:tn 0 s.heap) (fpo:∀b∈fp,FpOk X pins H b)
  (hw:∃W:Nat->Nat->List V->St->Hp->Prop,(∃m,W 0 m [] (cp.st σ) H)/\∀i m ys σ' H',W i m ys σ' H' ->
   ys.length<sizeLine/\((J.stop i H'/\∀D,H' D=none->Q (.ref D) (upd H' D (.lst ys)))\/(J.go i H'/\∃N:List V->St->Hp->Prop,(∀zs σ2 H2,N zs σ2 H2->∃m',m'<m/\W (i+1) m' zs σ2 H2)/\∀x H2,J.yld i H' x H2->g x σ' H2 fun σ2 H3=>tc σ2 H3 fun b H4=>
    if b=true then te σ2 H4 fun v H5=>N (ys++[v]) σ2 H5 else N ys σ2 H4)))
  (hR:∀D C s' H' (m:Str->Option Value),Inv X pins σ H' s'->Q (.ref D) H'->s'.heap.Ns C m->H' C=none->C≠X.env.locals->X.s₀.heap.objs.size<=C->(∀x c,X.env.cells.lookup x=some c->c≠C)->(∀p∈X.pn++pins,p.1≠C)->RR (.ref D) C (.ok .next) s'):
  wpAny (model X.prog X.w) X.A (newList []) (fun acc s₃=>wpAny (model X.prog X.w) X.A (newFunctionEnv sc X.env.globals (clOf X.env sc.names []) [] X.env.qual none .none (some X.env)) (fun cenv s₄=>
   codeAny (model X.prog X.w) X.A (.compStart (.ListComp elt [⟨tg,iter,ifs,0⟩] sc pos) 0 (.ref it) acc {cenv with scope:=relabel sc X.env}) (RR acc cenv.locals) s₄) E s₃) E s:=by
 obtain⟨W,⟨m0,w0⟩,turn⟩:=hw
 refine wpAny_newObj_type (wpAny_newFunctionEnv S.nocell (by intro y hy;simp at hy) (fun h₁ hns₁ hsb₁=>?_) S.kind)
 dsimp only at hns₁ hsb₁ ⊢
 generalize hH2:s.heap.push {cls:=.type "list",dict:=none,data:=.seq ([]:List Value).toArray}=H2 at hns₁ hsb₁ ⊢
 have hC:H2.objs.size=s.heap.objs.size+1:=by rw[<-hH2,Heap.size_push]
 have hDC:s.heap.objs.size≠H2.objs.size:=by rw[hC];exact Nat.ne_of_lt (Nat.lt_succ_self _)
 have hCle:s.heap.objs.size<=H2.objs.size:=by rw[hC];exact Nat.le_succ _
 have below:∀b,b<s.heap.objs.size->b≠H2.objs.size:=fun b hb=>by rw[hC];exact Nat.ne_of_lt (Nat.lt_succ_of_lt hb)
 have old:∀b o,s.heap.get? b=some o->h₁.get? b=some o:=fun b o e=>hsb₁.extBut b o (below b (Heap.lt_size e)) (Heap.get?_push_of_some _ (hH2 ▸ Heap.get?_push_of_some _ e))
 have hacc:h₁.get? s.heap.objs.size=some {cls:=.type "list",data:=.seq ([]:List Value).toArray 0}:=hsb₁.extBut _ _ hDC (Heap.get?_push_of_some _ (hH2 ▸ Heap.get?_push_size _ rfl))
 have hst₁:tn 0 h₁:=T.keep 0 _ _ st fun b _ o e=>old b o e
 have hobj:∀b∈fp,∃o,s.heap.get? b=some o:=fun b hb=>let ⟨o,e,_⟩:=T.obj 0 _ st b hb;⟨o,e⟩
 have J0:Inv (X.blk cp.names sc H2.objs.size s H fp) [] (cp.st σ) H {s with heap:=h₁,toks:=s.toks+([]:List (Str×Value)).length}:=blk_start I S hcp hCle fpo hobj rfl rfl old hns₁
 have nfs:∀b,s.heap.objs.size<=b->b∉frs X.stack:=fun b hb z=>by
  rcases List.mem_cons.mp (I.stkSub b z) with e|e
  ·exact absurd (Nat.lt_of_lt_of_le I.lt (by rw[<-e];exact hb)) (Nat.lt_irrefl _)
  ·exact I.nofs hb e
 have ncell:∀b,s.heap.objs.size<=b->∀x c,X.env.cells.lookup x=some c->c≠b:=fun b hb x c e z=>by
  obtain⟨v,q⟩:=I.cell x c e
  exact absurd (Nat.lt_of_lt_of_le q.lt (by rw[z];exact hb)) (Nat.lt_irrefl _)
 have fpb:∀{pins':List (Addr×Obj)} {H':Hp},(∀b∈fp,H' b=none)->(∀p∈pins',p.1∉fp)->∀b∈fp,FpOk (X.blk cp.names sc H2.objs.size s H fp) pins' H' b:=fun {pins' H'} hn hp b hb=>by
  obtain⟨o,e⟩:=hobj b hb
  refine⟨hn b hb,below b (Heap.lt_size e),fun z=>?_,.inl hb,fun x c h=>(fpo b hb).2.2.2.2.1 x c (blk_lookup I S h),fun p hp' z=>?_⟩
  ·rcases List.mem_cons.mp (I.stkSub b z) with e|e
   ·exact (fpo b hb).2.1 e
   ·exact (fpo b hb).2.2.1 e
  ·have hp'':p∈pins':=by simpa using hp'
   exact hp p hp'' (by rw[z];exact hb)
 have loop:∀s₃:Shared,s₃={s with heap:=h₁,toks:=s.toks+([]:List (Str×Value)).length} ->
   codeAny (model X.prog X.w) X.A (.compLoop (.ListComp elt [⟨tg,iter,ifs,0⟩] sc pos) 0 (.ref it) (.ref s.heap.objs.size) (compEnvC sc (clOf X.env sc.names []) H2.objs.size X.env))
    (RR (.ref s.heap.objs.size) H2.objs.size) s₃:=by
  rintro s₃ rfl
  refine compLoop_gen (fun n s'=>∃i σ' H' ys its k,Inv (X.blk cp.names sc H2.objs.size s H fp) [] σ' H' s'/\tn i s'.heap/\(∀b∈fp,H' b=none)/\H' s.heap.objs.size=none /\
   s'.heap.get? s.heap.objs.size=some {cls:=.type "list",data:=.seq its.toArray k}/\Vals ys its/\W i n ys σ' H') ?_ m0
   ⟨0,_,H,[],[],0,J0,hst₁,fun b hb=>(fpo b hb).1,I.hok.fresh (Nat.le_refl _),hacc,.nil,w0⟩
  rintro n s3 ⟨i,σ3,H3,ys,its,k,I3,st3,fr3,hD3,e3,rv,w3⟩
  obtain⟨hz,tr⟩:=turn i n ys σ3 H3 w3
  have hlen:=rv.length
  -- the accumulator stands still while anything else runs
  have dpin:∀p ∈ [(s.heap.objs.size,({cls:=.type "list",data:=.seq its.toArray k}:Obj))],p.1∉fp:=fun p hp z=>by
   have e:p=_:=List.mem_singleton.mp hp
   subst e
   obtain⟨o,e⟩:=hobj _ z
   exact absurd (Heap.lt_size e) (Nat.lt_irrefl _)
  have I3':Inv (X.blk cp.names sc H2.objs.size s H fp) [(s.heap.objs.size,({cls:=.type "list",data:=.seq its.toArray k}:Obj))] σ3 H3 s3:=I3.pins_of fun p hp=>by
   have e:p=_:=List.mem_singleton.mp hp
   subst e
   exact⟨e3,hD3,hDC,nfs _ (Nat.le_refl _),fun v z=>by cases z⟩
  have stat:∀b∈fp,FpOk (X.blk cp.names sc H2.objs.size s H fp) [(s.heap.objs.size,({cls:=.type "list",data:=.seq its.toArray k}:Obj))] H3 b:=fpb fr3 dpin
  rcases tr with ⟨stop,qn⟩|⟨go,N,hN,step⟩
  ·refine thn (T.done (X.blk cp.names sc H2.objs.size s H fp) rfl rfl rfl hc i _ s3 σ3 H3 _ I3' stat st3 stop) fun r s4 ⟨hr,I4⟩=>?_
   subst hr
   obtain⟨e4,n4,_⟩:=I4.pin (s.heap.objs.size,({cls:=.type "list",data:=.seq its.toArray k}:Obj)) (by simp)
   have new:ObjOk X.prog X.w (upd H3 s.heap.objs.size (.lst ys)) s4.heap s.heap.objs.size (.lst ys):=⟨Nat.le_of_lt hz,its,k,rv,e4⟩
   obtain⟨mC,hnC,_⟩:=I4.loc
   have I4':Inv (X.blk cp.names sc H2.objs.size s H fp) [] σ3 H3 s4:=I4.pins_of fun p hp=>by cases hp
   have I5:=blk_end I I4' fpo (Nat.le_refl _) n4 new
   refine hR _ _ s4 _ mC I5 (qn _ n4) hnC ?_ (Nat.ne_of_gt (Nat.lt_of_lt_of_le I.lt hCle)) (Nat.le_trans I.sz hCle) (ncell _ hCle) fun p hp z=>?_
   ·rw[upd_ne (Ne.symm hDC)];exact I4.free
   ·exact absurd (Nat.lt_of_lt_of_le (Heap.lt_size (I.pin p hp).1) (by rw[z];exact hCle)) (Nat.lt_irrefl _)
  ·refine thn (T.item (X.blk cp.names sc H2.objs.size s H fp) rfl rfl rfl hc i _ s3 σ3 H3 _ I3' stat st3 go) fun r s4 ⟨u,hr,h4⟩=>?_
   subst hr
   refine thn h4 fun _ s5 ⟨x,H5,I5,r5,y5,st5,fr5⟩=>?_
   have I5':=I5.pinned (fpb fr5 dpin) (T.obj _ _ st5)
   have fin:∀{σ7:St} {H7:Hp} {s7:Shared},Inv (X.blk cp.names sc H2.objs.size s H fp) ([(s.heap.objs.size,({cls:=.type "list",data:=.seq its.toArray k}:Obj))]++pinsAt fp s5.heap) σ7 H7 s7 ->
     s7.heap.get? s.heap.objs.size=some {cls:=.type "list",data:=.seq its.toArray k}/\H7 s.heap.objs.size=none/\(∀b∈fp,H7 b=none)/\∀b∈fp,∀o,s5.heap.get? b=some o->s7.heap.get? b=some o:=fun {σ7 H7 s7} I7=>by
    obtain⟨e7,n7,_⟩:=I7.pin (s.heap.objs.size,({cls:=.type "list",data:=.seq its.toArray k}:Obj)) (by simp)
    refine⟨e7,n7,fun b hb=>?_,fun b hb o e=>?_⟩
    ·obtain⟨o,e,_⟩:=T.obj _ _ st5 b hb
     exact (I7.pin (b,o) (List.mem_append_right _ (List.mem_append_right _ (mem_pinsAt hb e)))).2.1
    ·exact (I7.pin (b,o) (List.mem_append_right _ (List.mem_append_right _ (mem_pinsAt hb e)))).1
   refine wpAny_mono (hg _ _ _ _ _ s5 σ3 H5 x u _ I5' r5 (step x H5 y5)) (fun _ s6 ⟨σ6,H6,I6,q6⟩=>?_) fun _ _ z=>False.elim z
   refine wpAny_mono (hf _ _ _ _ _ s6 σ6 H6 _ I6 q6) (fun ok s7 ⟨H7,I7,q7⟩=>?_) fun _ _ z=>False.elim z
   cases ok with
   |false=>
    rw[if_neg Bool.false_ne_true]
    rw[if_neg Bool.false_ne_true]at q7
    obtain⟨m',hm,w7⟩:=hN _ _ _ q7
    obtain⟨e7,n7,fr7,k7⟩:=fin I7
    exact⟨m',hm,i+1,σ6,H7,ys,its,k,I7.pins_of (fun p hp=>by cases hp),T.keep _ _ _ st5 k7,fr7,n7,e7,rv,w7⟩
   |true=>
    rw[if_pos rfl]
    rw[if_pos rfl]at q7
    refine wpAny_mono (he _ _ _ _ _ s7 σ6 H7 _ I7 q7) (fun v s8 ⟨y,H8,I8,r8,q8⟩=>?_) fun _ _ z=>False.elim z
    obtain⟨m',hm,w8⟩:=hN _ _ _ q8
    obtain⟨e8,n8,fr8,k8⟩:=fin I8
    refine call_meets F.slot_list_append ⟨_,e8,rfl⟩ F.entry_list_append (F.args_list_append_2 _ _) (PySem.list_append s.heap.objs.size its.toArray k v (by rw[List.size_toArray];omega)) ⟨e8,?_⟩
    obtain⟨k',q⟩:∃k',(s8.heap.update s.heap.objs.size (Obj.mapSeq fun x=>x.push v)).get? s.heap.objs.size=some {cls:=.type "list",data:=.seq (its++[v]).toArray k' }:=⟨_,by
     have q:=PySem.IsL.update e8 fun x=>x.push v
     have e:(its++[v]).toArray=its.toArray.push v:=by simp
     rw[e]
     exact q⟩
    have I8':Inv (X.blk cp.names sc H2.objs.size s H fp) [] σ6 H8 s8:=I8.pins_of fun p hp=>by cases hp
    have I9:Inv (X.blk cp.names sc H2.objs.size s H fp) [] σ6 H8 {s8 with heap:=s8.heap.update s.heap.objs.size (Obj.mapSeq fun x=>x.push v),toks:=s8.toks}:=
     I8'.turned (it:=s.heap.objs.size) (fun b o hb e=>(Heap.get?_update_other _ _ (Ne.symm hb)).trans e) n8 hDC (.inr (Nat.le_refl _)) (fun x c e=>ncell _ (Nat.le_refl _) x c (blk_lookup I S e)) (fun p hp=>by cases hp)
    refine⟨m',hm,i+1,σ6,H8,ys++[y],its++[v],k',I9,T.keep (i+1) s5.heap _ st5 (fun b hb o e=>?_),fr8,n8,q,rv.append (.cons r8 .nil),w8⟩
    ·refine (Heap.get?_update_other _ _ ?_).trans (k8 b hb o e)
     intro z
     obtain⟨ob,eb⟩:=hobj b hb
     exact absurd (Heap.lt_size eb) (by rw[<-z];exact Nat.lt_irrefl _)
 exact codeAny_compStart_list (loop _ rfl) (T.self _ 0 _ _ _ hst₁ (loop _ rfl))
theorem pe_comp (hc:X.calm=true)(S:BlkSc X sc)(hcp:CapsOk X.N sc cp)(hi:PI X tg iter wi)
  (hg:∀C s₀ H₀ ex,PG (X.blk cp.names sc C s₀ H₀ ex) tg g) (hf:∀C s₀ H₀ ex,PF (X.blk cp.names sc C s₀ H₀ ex) ifs tc) (he:∀C s₀ H₀ ex,PE (X.blk cp.names sc C s₀ H₀ ex) elt te)
  (hs:∀x,foldedSetIterable iter X.env x=pure x:=by intro _;rfl):PE X (.ListComp elt [⟨tg,iter,ifs,0⟩] sc pos) (tComp wi cp g tc te):=by
 intro pins s σ H Q I h
 rw[eval_ListComp]
 refine wpAny_comprehension_free (use:=none) rfl hs (closure_eq (blk_cells I S)) S.kind S.loc (thn (hi pins s σ H _ I h) fun xv s₁ h₁=>thn h₁ fun itv s₂ h₂=>?_)
 obtain⟨it,fp,tn,J,H2,e,I2,T,st2,f2,hw⟩:=h₂
 subst e
 refine comp_core (RR:=fun acc C=>compPost (model X.prog X.w) X.A X.xe none (EP X pins σ Q) acc C) hc S hcp hg hf he I2 T st2 f2 hw ?_
 intro D C s' H' m I' q hn hC hL hz hcl hp
 exact⟨m,hn,fun h' hs'=>⟨.ref D,H',I'.turned (t':=s'.toks) (it:=C) (fun b o hb e=>hs'.extBut b o hb e) hC hL (.inr hz) hcl hp,rfl,q⟩⟩
theorem ps_setC {i:Nat}{x:Str}{px spos:Pos}(hN:X.N.Nodup)(hi:X.N[i]?=some x)(hx:X.env.scope.names.lookup x=some .local)(hc:X.calm=true)(S:BlkSc X sc)(hcp:CapsOk X.N sc cp)(hit:PI X tg iter wi)
  (hg:∀C s₀ H₀ ex,PG (X.blk cp.names sc C s₀ H₀ ex) tg g) (hf:∀C s₀ H₀ ex,PF (X.blk cp.names sc C s₀ H₀ ex) ifs tc) (he:∀C s₀ H₀ ex,PE (X.blk cp.names sc C s₀ H₀ ex) elt te)
  (hsw:swapsWith (.ListComp elt [⟨tg,iter,ifs,0⟩] sc pos) (some (.Name x px)) spos.line X.env=pure true:=by rfl)
  (hs:∀x,foldedSetIterable iter X.env x=pure x:=by intro _;rfl):PS X (.Assign [.Name x px] (.ListComp elt [⟨tg,iter,ifs,0⟩] sc pos) spos) (tAsg (tComp wi cp g tc te) (gName i)):=by
 intro pins s σ H D I h
 rw[exec_Assign_Name_used _ _ _ _ hsw]
 refine wpAny_bind (wpAny_standAt (wpAny_bind ?_))
 show wpAny _ X.A (do let _ <- comprehension (.ListComp elt [⟨tg,iter,ifs,0⟩] sc pos) sc X.env _ (newList []) false (eval iter X.env) (some (assign (.Name x px) X.env))) _ _ s
 refine wpAny_bind (wpAny_mono (wpAny_comprehension_free (use:=some (assign (.Name x px) X.env)) (Q:=fun _ s'=>SP X pins D .next s') rfl hs (closure_eq (blk_cells I S)) S.kind S.loc
  (thn (hit pins s σ H _ I h) fun xv s₁ h₁=>thn h₁ fun itv s₂ h₂=>?_)) (fun _ s' hq=>wpAny_pure (wpAny_pure hq)) fun _ _ e=>e)
 obtain⟨it,fp,tn,J,H2,e,I2,T,st2,f2,hw⟩:=h₂
 subst e
 refine comp_core (RR:=fun acc C=>compPost (model X.prog X.w) X.A X.xe (some (assign (.Name x px) X.env)) (fun _ s'=>SP X pins D .next s') acc C) (Q:=fun v H1=>gName i v σ H1 D.nx) hc S hcp hg hf he I2 T st2 f2 hw ?_
 intro Dl C s' H' m I' q hn hC hL hz hcl hp
 show wpAny _ X.A (assign (.Name x px) X.env (.ref Dl)) _ _ _
 refine wpAny_assign_Name (store_ok2 I' hN hi (.inl hx) (v:=.ref Dl) rfl (fun s'' I'' ⟨a,hsb,ha⟩=>?_) (.inr hx))
 have hne:C≠a:=by
  rcases ha with rfl|ha
  ·exact hL
  ·exact fun z=>hcl _ _ ha z.symm
 refine⟨m,hn.sameBut hsb hne,fun h' hs'=>⟨_,H',I''.turned (t':=s''.toks) (it:=C) (fun b o hb e=>hs'.extBut b o hb e) hC hL (.inr hz) hcl hp,q⟩⟩
end
theorem comp_list {K:PySem.W.Frag}{a:Addr}{xs:List V}{g:TG}{tc:TT}{te:TE}{Q:VK}{σ:St}{H:Hp}(Pv:Nat->List V->St->Hp->Prop)(h0:Pv 0 [] σ H)(hz:xs.length<sizeLine)
  (hl:∀i ys σ H,i<=xs.length->Pv i ys σ H->SqL K H a xs/\ys.length<=i)
  (hs:∀i x ys σ H,xs[i]?=some x->Pv i ys σ H->g x σ H fun σ2 H2=>tc σ2 H2 fun b H3=>if b=true then te σ2 H3 fun v H4=>Pv (i+1) (ys++[v]) σ2 H4 else Pv (i+1) ys σ2 H3)
  (hd:∀ys σ H,Pv xs.length ys σ H->∀D,H D=none->Q (.ref D) (upd H D (.lst ys))):
  ∃W:Nat->Nat->List V->St->Hp->Prop,(∃m,W 0 m [] σ H)/\∀i m ys σ' H',W i m ys σ' H' ->
   ys.length<sizeLine/\(((Itl K a).stop i H'/\∀D,H' D=none->Q (.ref D) (upd H' D (.lst ys)))\/((Itl K a).go i H'/\∃N:List V->St->Hp->Prop,(∀zs σ2 H2,N zs σ2 H2->∃m',m'<m/\W (i+1) m' zs σ2 H2)/\∀x H2,(Itl K a).yld i H' x H2->g x σ' H2 fun σ2 H3=>tc σ2 H3 fun b H4=>
    if b=true then te σ2 H4 fun v H5=>N (ys++[v]) σ2 H5 else N ys σ2 H4)):=by
 refine⟨fun i m ys σ H=>m=xs.length-i/\i<=xs.length/\Pv i ys σ H,⟨xs.length,by simp,Nat.zero_le _,h0⟩,?_⟩
 rintro i m ys σ H ⟨rfl,hi,p⟩
 obtain⟨q,ly⟩:=hl i ys σ H hi p
 refine⟨by omega,?_⟩
 by_cases hlt:i<xs.length
 ·refine .inr ⟨⟨xs,xs[i],q,by simp[hlt]⟩,Pv (i+1),fun zs σ' H' p'=>⟨xs.length-(i+1),by omega,rfl,hlt,p'⟩,fun x H' y=>?_⟩
  obtain⟨e,y⟩:=y
  subst e
  exact hs i x ys σ _ (y xs q) p
 ·have e:i=xs.length:=by omega
  subst e
  exact .inl ⟨⟨xs,q,Nat.le_refl _⟩,hd ys σ H p⟩
theorem comp_tup {K:PySem.W.Frag}{a:Addr}{xs:List V}{g:TG}{tc:TT}{te:TE}{Q:VK}{σ:St}{H:Hp}(Pv:Nat->List V->St->Hp->Prop)(h0:Pv 0 [] σ H)(hz:xs.length<sizeLine)
  (hl:∀i ys σ H,i<=xs.length->Pv i ys σ H->SqT K H a xs/\ys.length<=i)
  (hs:∀i x ys σ H,xs[i]?=some x->Pv i ys σ H->g x σ H fun σ2 H2=>tc σ2 H2 fun b H3=>if b=true then te σ2 H3 fun v H4=>Pv (i+1) (ys++[v]) σ2 H4 else Pv (i+1) ys σ2 H3)
  (hd:∀ys σ H,Pv xs.length ys σ H->∀D,H D=none->Q (.ref D) (upd H D (.lst ys))):
  ∃W:Nat->Nat->List V->St->Hp->Prop,(∃m,W 0 m [] σ H)/\∀i m ys σ' H',W i m ys σ' H' ->
   ys.length<sizeLine/\(((Itt K a).stop i H'/\∀D,H' D=none->Q (.ref D) (upd H' D (.lst ys)))\/((Itt K a).go i H'/\∃N:List V->St->Hp->Prop,(∀zs σ2 H2,N zs σ2 H2->∃m',m'<m/\W (i+1) m' zs σ2 H2)/\∀x H2,(Itt K a).yld i H' x H2->g x σ' H2 fun σ2 H3=>tc σ2 H3 fun b H4=>
    if b=true then te σ2 H4 fun v H5=>N (ys++[v]) σ2 H5 else N ys σ2 H4)):=by
 refine⟨fun i m ys σ H=>m=xs.length-i/\i<=xs.length/\Pv i ys σ H,⟨xs.length,by simp,Nat.zero_le _,h0⟩,?_⟩
 rintro i m ys σ H ⟨rfl,hi,p⟩
 obtain⟨q,ly⟩:=hl i ys σ H hi p
 refine⟨by omega,?_⟩
 by_cases hlt:i<xs.length
 ·refine .inr ⟨⟨xs,xs[i],q,by simp[hlt]⟩,Pv (i+1),fun zs σ' H' p'=>⟨xs.length-(i+1),by omega,rfl,hlt,p'⟩,fun x H' y=>?_⟩
  obtain⟨e,y⟩:=y
  subst e
  exact hs i x ys σ _ (y xs q) p
 ·have e:i=xs.length:=by omega
  subst e
  exact .inl ⟨⟨xs,q,Nat.le_refl _⟩,hd ys σ H p⟩
theorem comp_range {lo:Int}{n:Nat}{g:TG}{tc:TT}{te:TE}{Q:VK}{σ:St}{H:Hp}(Pv:Nat->List V->St->Hp->Prop)(h0:Pv 0 [] σ H)(hz:n<sizeLine)
  (hl:∀i ys σ H,i<=n->Pv i ys σ H->ys.length<=i)
  (hs:∀i ys σ H,i<n->Pv i ys σ H->g (.int (lo+i)) σ H fun σ2 H2=>tc σ2 H2 fun b H3=>if b=true then te σ2 H3 fun v H4=>Pv (i+1) (ys++[v]) σ2 H4 else Pv (i+1) ys σ2 H3)
  (hd:∀ys σ H,Pv n ys σ H->∀D,H D=none->Q (.ref D) (upd H D (.lst ys))):
  ∃W:Nat->Nat->List V->St->Hp->Prop,(∃m,W 0 m [] σ H)/\∀i m ys σ' H',W i m ys σ' H' ->
   ys.length<sizeLine/\(((Itr lo n).stop i H'/\∀D,H' D=none->Q (.ref D) (upd H' D (.lst ys)))\/((Itr lo n).go i H'/\∃N:List V->St->Hp->Prop,(∀zs σ2 H2,N zs σ2 H2->∃m',m'<m/\W (i+1) m' zs σ2 H2)/\∀x H2,(Itr lo n).yld i H' x H2->g x σ' H2 fun σ2 H3=>tc σ2 H3 fun b H4=>
    if b=true then te σ2 H4 fun v H5=>N (ys++[v]) σ2 H5 else N ys σ2 H4)):=by
 refine⟨fun i m ys σ H=>m=n-i/\i<=n/\Pv i ys σ H,⟨n,by simp,Nat.zero_le _,h0⟩,?_⟩
 rintro i m ys σ H ⟨rfl,hi,p⟩
 have ly:=hl i ys σ H hi p
 refine⟨by omega,?_⟩
 by_cases hlt:i<n
 ·refine .inr ⟨hlt,Pv (i+1),fun zs σ' H' p'=>⟨n-(i+1),by omega,rfl,hlt,p'⟩,fun x H' y=>?_⟩
  obtain⟨e,y⟩:=y
  subst e y
  exact hs i ys σ _ hlt p
 ·have e:i=n:=by omega
  subst e
  exact .inl ⟨Nat.le_refl _,hd ys σ H p⟩
end L2
namespace L2
open PySem PySem.Spec PyProof.Rows
section
variable {X:Cx}
theorem vals_bool_get {bs:List Bool}{its:List Value}(r:Vals (bs.map V.bl) its){i:Nat}{v:Value}(h:its[i]?=some v):∃b,bs[i]?=some b/\v=.bool b:=by
 have hi:i<its.length:=(List.getElem?_eq_some_iff.mp h).1
 have hl:=r.length
 rw[List.length_map]at hl
 obtain⟨u,hu,ru⟩:=r.get (i:=i) (x:=V.bl bs[i]) (by rw[List.getElem?_map];simp[show i<bs.length by omega])
 rw[h]at hu
 cases hu
 exact⟨bs[i],by simp[show i<bs.length by omega],ru⟩
theorem map_at (bs:List Bool):(List.range bs.length).map (fun i=>bs.getD i false)=bs:=
 List.ext_getElem (by simp) fun i _ h=>by simp[h]
theorem range_all {bs:List Bool}:(List.range bs.length).all (fun i=>bs.getD i false)=bs.all id:=by
 have e:=congrArg (fun l=>l.all id) (map_at bs)
 rw[List.all_map]at e;exact e
theorem truth_bools {bs:List Bool}{its:List Value}{A:Around}{P:Program}{w:World}(r:Vals (bs.map V.bl) its):TruthOf P w A (fun i v=>its.toArray[i]?=some v) (fun i=>bs.getD i false):=by
 intro i v s Q E hv hq
 obtain⟨b,hb,e⟩:=vals_bool_get r (by simpa using hv)
 subst e
 refine wpAny_truthy_bool ?_
 have e:bs.getD i false=b:=by rw[List.getD_eq_getElem?_getD,hb];rfl
 have hq':Q (bs.getD i false) s:=hq
 rw[e]at hq'
 exact hq'
theorem call_all (hc:X.calm=true):CallR X (.builtin "all") (fun xs H Q=>∃(p:Addr) (bs:List Bool),xs=[.ref p]/\SqL X.K H p (bs.map V.bl)/\Q (.bl (bs.all id)) H):=by
 intro pins s σ H xs us Q I r h
 obtain⟨p,bs,rfl,hq,q⟩:=h
 obtain⟨u,rfl,ru⟩:=vals1 r
 cases ru
 obtain⟨its,rv,pl,hz⟩:=I.list hq
 have hlen:=rv.length
 rw[List.length_map]at hlen
 have hh:X.A.in1.handled=none:=I.ok.hd hc
 obtain⟨o,ho,_⟩:=id pl.isList
 have hne:p≠s.heap.objs.size:=Nat.ne_of_lt (Heap.lt_size ho)
 refine call_all_walk (wpAny_pyIter_list pl.isList ?_)
 refine⟨s.heap.objs.size,_,_,its.toArray.size,_,_,fun i=>bs.getD i false,rfl,Walks.list hh _ p hne its.toArray,⟨⟨_,Heap.get?_push_size _ rfl,rfl,rfl⟩,pl.isList.at fun o e=>Heap.get?_push_of_some _ e⟩,truth_bools rv,fun h' tk hk=>?_⟩
 refine⟨.bl (bs.all id),H,I.kept (t':=tk) fun b o e=>hk b o ?_ (Heap.get?_push_of_some _ e),?_,q⟩
 ·intro hb
  have e':b=s.heap.objs.size:=by simpa using hb
  exact absurd (Heap.lt_size e) (by rw[e'];exact Nat.lt_irrefl _)
 ·rw[List.size_toArray,<-hlen,range_all];rfl
theorem call_isinst:CallR X (.builtin "isinstance") (fun xs H Q=>∃x c cv t b,xs=[x,c]/\TyOf X.K H x t/\(∀u,RelV c u->u=cv)/\PySem.W.kitOne X.K t cv=some b/\Q (.bl b) H):=by
 intro pins s σ H xs us Q I r h
 obtain⟨x,c,cv,t,b,rfl,ty,hc,hk,q⟩:=h
 obtain⟨u,w',rfl,rx,rc⟩:=vals2 r
 rw[hc _ rc]
 exact isinst_ok I rx ty hk fun tk=>⟨.bl b,H,I.tok tk,rfl,q⟩
def EqD (K:PySem.W.Frag)(H:Hp):Nat->V->V->Bool->Prop
 |0,x,y,b=>flatV x=true/\flatV y=true/\b=eqV x y
 |n+1,x,y,b=>(flatV x=true/\flatV y=true/\b=eqV x y) \/ ∃a c xs ys,x=.ref a/\y=.ref c/\((SqL K H a xs/\SqL K H c ys)\/(SqT K H a xs/\SqT K H c ys)) /\
   ∃e:Nat->Bool,(∀i x y,xs[i]?=some x->ys[i]?=some y->EqD K H n x y (e i))/\b=(decide (xs.length=ys.length)&&(List.range (min xs.length ys.length)).all e)
theorem in1_units (A:Around):A.in1.units=A.units+1:=rfl
theorem eqV_self {x:V}(h:flatV x=true):eqV x x=true:=by
 cases x<;>first|rfl|(simp[eqV];done)|exact absurd (show false=true from h) Bool.false_ne_true
theorem EqD.self {pins:List (Addr×Obj)}{s:Shared}{σ:St}{H:Hp}(I:Inv X pins σ H s):∀(n:Nat) {x:V} {b:Bool},EqD X.K H n x x b->b=true:=by
 intro n
 induction n with
 |zero=>
  rintro x b ⟨fx,_,rfl⟩
  exact eqV_self fx
 |succ n ih=>
  rintro x b (⟨fx,_,rfl⟩|⟨a,c,xs,ys,rfl,e2,hq,e,he,rfl⟩)
  ·exact eqV_self fx
  ·cases e2
   have exy:xs=ys:=by
    rcases hq with ⟨h1,h2⟩|⟨h1,h2⟩
    ·exact I.list_inj h1 h2
    ·exact I.tuple_inj h1 h2
   subst exy
   simp only[decide_true,Bool.true_and,Nat.min_self,List.all_eq_true,List.mem_range]
   intro i hi
   exact ih (he i xs[i] xs[i] (by simp[hi]) (by simp[hi]))
theorem all_and {n m:Nat}{e:Nat->Bool}:((List.range (min n m)).all e&&n==m)=(decide (n=m)&&(List.range (min n m)).all e):=by
 rw[Bool.and_comm]
 congr 1
theorem EqD.at {pins:List (Addr×Obj)}{s:Shared}{σ:St}{H:Hp}(I:Inv X pins σ H s):∀(n:Nat) (A:Around) {x y:V} {u v:Value} {b:Bool},A.units+n<cLine->RelV x u->RelV y v->EqD X.K H n x y b ->
  SeqAt.EqAt A s u v b/\∀a c,x=.ref a->y=.ref c->SeqAt.RcAt A s u v b:=by
 intro n
 induction n with
 |zero=>
  intro A x y u v b hu rx ry h
  obtain⟨fx,fy,rfl⟩:=h
  refine⟨eqAt_V rx ry fx fy,?_⟩
  rintro a c rfl rfl
  exact absurd (show false=true from fx) Bool.false_ne_true
 |succ n ih=>
  intro A x y u v b hu rx ry h
  have hself:=h
  rcases h with ⟨fx,fy,rfl⟩|⟨a,c,xs,ys,rfl,rfl,hq,e,he,rfl⟩
  ·refine⟨eqAt_V rx ry fx fy,?_⟩
   rintro a c rfl rfl
   exact absurd (show false=true from fx) Bool.false_ne_true
  ·cases rx
   cases ry
   have key:∀(its its2:List Value),Vals xs its->Vals ys its2->∀j (h1:j<its.toArray.size) (h2:j<its2.toArray.size),SeqAt.EqAt A.in1 s its.toArray[j] its2.toArray[j] (e j):=fun its its2 r1 r2 j h1 h2=>by
    have l1:=r1.length
    have l2:=r2.length
    rw[List.size_toArray]at h1 h2
    obtain⟨u1,g1,q1⟩:=r1.get (i:=j) (x:=xs[j]'(by omega)) (by simp[show j<xs.length by omega])
    obtain⟨u2,g2,q2⟩:=r2.get (i:=j) (x:=ys[j]'(by omega)) (by simp[show j<ys.length by omega])
    have k1:its.toArray[j]'(by rw[List.size_toArray];exact h1)=u1:=by
     have:=(List.getElem?_eq_some_iff.mp g1).2
     simpa using this
    have k2:its2.toArray[j]'(by rw[List.size_toArray];exact h2)=u2:=by
     have:=(List.getElem?_eq_some_iff.mp g2).2
     simpa using this
    rw[k1,k2]
    exact (ih A.in1 (by rw[in1_units];omega) q1 q2 (he j _ _ (by simp[show j<xs.length by omega]) (by simp[show j<ys.length by omega]))).1
   have rc:SeqAt.RcAt A s (.ref a) (.ref c) (decide (xs.length=ys.length)&&(List.range (min xs.length ys.length)).all e):=by
    rcases hq with ⟨h1,h2⟩|⟨h1,h2⟩
    ·obtain⟨its,r1,p1,_⟩:=I.list h1
     obtain⟨its2,r2,p2,_⟩:=I.list h2
     have l1:=r1.length
     have l2:=r2.length
     by_cases hl:xs.length=ys.length
     ·have:=SeqAt.RcAt.lists (e:=e) p1.isList p2.isList (by rw[List.size_toArray,List.size_toArray];omega) (by omega) (key its its2 r1 r2)
      rw[List.size_toArray,<-l1]at this
      rw[decide_eq_true hl,Bool.true_and,<-hl,Nat.min_self]
      exact this
     ·rw[decide_eq_false hl,Bool.false_and]
      exact SeqAt.RcAt.lists_lengths p1.isList p2.isList (by rw[List.size_toArray,List.size_toArray];simp;omega) (by omega)
    ·obtain⟨its,r1,p1,_⟩:=I.tuple h1
     obtain⟨its2,r2,p2,_⟩:=I.tuple h2
     have l1:=r1.length
     have l2:=r2.length
     have:=SeqAt.RcAt.tuples (e:=e) (show s.heap.IsTuple a its.toArray from p1) (show s.heap.IsTuple c its2.toArray from p2) (by omega) (key its its2 r1 r2)
     rw[List.size_toArray,List.size_toArray,<-l1,<-l2,all_and]at this
     exact this
   refine⟨?_,fun a' c' _ _=>rc⟩
   by_cases hac:a=c
   ·subst hac
    rw[EqD.self I (n+1) hself]
    exact SeqAt.EqAt.same _
   ·exact SeqAt.EqAt.of_refs hac rc
theorem EqD.flat {K:PySem.W.Frag}{H:Hp}{a c:Addr}{xs ys:List V}(hq:(SqL K H a xs/\SqL K H c ys)\/(SqT K H a xs/\SqT K H c ys))(fx:∀x∈xs,flatV x=true)(fy:∀y∈ys,flatV y=true)(hi:∀x∈xs,∀y∈ys,eqV x y=decide (x=y))(n:Nat):
  EqD K H (n+1) (.ref a) (.ref c) (decide (xs=ys)):=by
 have base:∀m i x y,xs[i]?=some x->ys[i]?=some y->EqD K H m x y (decide (x=y)):=fun m i x y h1 h2=>by
  have m1:=List.mem_of_getElem? h1
  have m2:=List.mem_of_getElem? h2
  cases m with
  |zero=>exact⟨fx _ m1,fy _ m2,(hi _ m1 _ m2).symm⟩
  |succ m=>exact .inl ⟨fx _ m1,fy _ m2,(hi _ m1 _ m2).symm⟩
 refine .inr ⟨a,c,xs,ys,rfl,rfl,hq,fun i=>match xs[i]?,ys[i]? with|some x,some y=>decide (x=y)|_,_=>true,fun i x y h1 h2=>?_,?_⟩
 ·simp only[h1,h2]
  exact base n i x y h1 h2
 ·rw[Bool.eq_iff_iff]
  simp only[decide_eq_true_eq,Bool.and_eq_true,List.all_eq_true,List.mem_range]
  constructor
  ·rintro rfl
   refine⟨rfl,fun i hi=>?_⟩
   have hi:i<xs.length:=by omega
   simp[hi]
  ·rintro⟨hl,h⟩
   refine List.ext_getElem? fun i=>?_
   by_cases hi:i<xs.length
   ·have:=h i (by omega)
    simp[hi,show i<ys.length by omega]at this
    simp[hi,show i<ys.length by omega,this]
   ·rw[List.getElem?_eq_none (by omega),List.getElem?_eq_none (by omega)]
end
end L2
namespace L2
open PySem PySem.Spec PyProof.Rows
def blkOk (outer:List (Str×NameKind))(sc:Scope):Bool:=
 sc.kind == .function&&sc.names.all (fun y=>y.2 != .cell&&(y.2 != .local||sc.names.lookup y.1==some .local)&&(y.2 != .free||outer.lookup y.1==some .cell||outer.lookup y.1==some .free))
theorem blk_mk {X:Cx}{sc:Scope}(h:blkOk X.env.scope.names sc=true):BlkSc X sc:=by
 unfold blkOk at h
 rw[Bool.and_eq_true,List.all_eq_true]at h
 obtain⟨h1,h2⟩:=h
 refine⟨by simpa using h1,fun y hy z=>?_,fun y hy z=>?_,fun y hy z=>?_⟩
 ·have:=h2 y hy
  simp only[Bool.and_eq_true]at this
  have:=this.1.1
  rw[z]at this
  exact absurd this (by decide)
 ·have:=h2 y hy
  simp only[Bool.and_eq_true]at this
  have:=this.1.2
  rw[z]at this
  simpa using this
 ·have:=h2 y hy
  simp only[Bool.and_eq_true]at this
  have:=this.2
  rw[z]at this
  have t:(X.env.scope.names.lookup y.1==some .cell||X.env.scope.names.lookup y.1==some .free)=true:=by simpa using this
  rw[Bool.or_eq_true]at t
  rcases t with t|t
  ·exact .inl (by show X.env.scope.names.lookup y.1=some .cell;simpa using t)
  ·exact .inr (by show X.env.scope.names.lookup y.1=some .free;simpa using t)
section
variable {t u:TS} {te ta tb tc':TE} {tt tu:TT} {A B:TA} {D:Ends} {σ:St} {H:Hp} {Q:VK} {R:Bool->Hp->Prop} {S:List V->Hp->Prop} {i:Nat} {v:V} {g:TG} {r r':R2} {K:PySem.W.Frag} {wi:TI} {cp:Caps}
theorem r_seq:tSeq t u D σ H=t {D with nx:=u D} σ H:=rfl
theorem r_next:tNext D σ H=D.nx σ H:=rfl
theorem r_asg:tAsg te g D σ H=te σ H fun x H1=>g x σ H1 D.nx:=rfl
theorem r_gname {N:St->Hp->Prop}:gName i v σ H N=N (σ.set i (some v)) H:=rfl
theorem r_var:tVar i σ H Q=∃v,σ[i]?=some (some v)/\Q v H:=rfl
theorem r_c:tC v σ H Q=Q v H:=rfl
theorem r_op:tOp r ta tb σ H Q=ta σ H fun x H1=>tb σ H1 fun y H2=>r x y H2 Q:=rfl
theorem r_un {f:V->Hp->VK->Prop}:tUn f ta σ H Q=ta σ H fun x H1=>f x H1 Q:=rfl
theorem r_I {C:Int->Int->Prop}{f:Int->Int->V}{x y:V}:rI C f x y H Q=∃i j,x=.int i/\y=.int j/\C i j/\Q (f i j) H:=rfl
theorem r_I0 {f:Int->Int->V}{x y:V}:rI0 f x y H Q=∃i j,x=.int i/\y=.int j/\Q (f i j) H:=rfl
theorem r_U {f:Int->V}{x:V}:rU f x H Q=∃i,x=.int i/\Q (f i) H:=rfl
theorem r_call {sp:Sp}{dvs:List V}{E:XK}:tCall sp dvs E A σ H Q=A σ H fun vs H1=>sp (vs++dvs) H1 Q E:=rfl
theorem r_cons:tCons te A σ H S=te σ H fun x H1=>A σ H1 fun xs H2=>S (x::xs) H2:=rfl
theorem r_nil:tNil σ H S=S [] H:=rfl
theorem r_ret:tRet te D σ H=te σ H D.rt:=rfl
theorem r_drop:tDrop te D σ H=te σ H fun _ H1=>D.nx σ H1:=rfl
theorem r_if:tIfS tt t u D σ H=tt σ H fun b H1=>if b=true then t D σ H1 else u D σ H1:=rfl
theorem r_B:tB te σ H R=te σ H fun x H1=>∃c,x=.bl c/\R c H1:=rfl
theorem r_test:tTest te σ H R=te σ H fun x H1=>∃c,x=.bl c/\R c H1:=rfl
theorem r_and:tAnd tt tu σ H R=tt σ H fun c H1=>if c=true then tu σ H1 R else R false H1:=rfl
theorem r_or:tOr tt tu σ H R=tt σ H fun c H1=>if c=true then R true H1 else tu σ H1 R:=rfl
theorem r_not:tNot tt σ H R=tt σ H fun c H1=>R (!c) H1:=rfl
theorem r_chain:tChain r r' ta tb tc' σ H Q=ta σ H fun x H1=>tb σ H1 fun y H2=>r x y H2 fun z H3=>∃k,z=.bl k/\(if k=true then tc' σ H3 fun w' H4=>r' y w' H4 Q else Q (.bl false) H3):=rfl
theorem r_CB {f:List V->Hp->VK->Prop}:tCB f A σ H Q=A σ H fun vs H1=>f vs H1 Q:=rfl
theorem r_lst:tLst A σ H Q=A σ H fun xs H1=>xs.length<=sizeLine/\∀p,H1 p=none->Q (.ref p) (upd H1 p (.lst xs)):=rfl
theorem r_tup:tTup A σ H Q=A σ H fun xs H1=>xs.length<=sizeLine/\∀p,H1 p=none->Q (.ref p) (upd H1 p (.tup xs)):=rfl
theorem r_ixL {x y:V}:rIxL K x y H Q=∃p xs i v,x=.ref p/\y=.int i/\SqL K H p xs/\atI xs i=some v/\Q v H:=rfl
theorem r_ixT {x y:V}:rIxT K x y H Q=∃p xs i v,x=.ref p/\y=.int i/\SqT K H p xs/\atI xs i=some v/\Q v H:=rfl
theorem r_sl {f:V->Option Int->Option Int->Hp->VK->Prop}{tl th:TO}:tSl f te tl th σ H Q=te σ H fun x H1=>tl σ H1 fun l H2=>th σ H2 fun u H3=>f x l u H3 Q:=rfl
theorem r_part {U:Option Int->Hp->Prop}:tPart te σ H U=te σ H fun x H1=>∃i,x=.int i/\U (some i) H1:=rfl
theorem r_nopart {U:Option Int->Hp->Prop}:tNoPart σ H U=U none H:=rfl
theorem r_slL {x:V}{lo hi:Option Int}:rSlL K x lo hi H Q=∃a xs,x=.ref a/\SqL K H a xs/\∀p,H p=none->Q (.ref p) (upd H p (.lst (cutV xs lo hi))):=rfl
theorem r_BM {T:String}{f:V->List V->Hp->VK->Prop}:tBM K T f te A σ H Q=te σ H fun x H1=>tyV K T x H1/\A σ H1 fun xs H2=>f x xs H2 Q:=rfl
theorem r_append {x:V}{vs:List V}:rAppend x vs H Q=∃l xs y,x=.ref l/\vs=[y]/\H l=some (.lst xs)/\xs.length<sizeLine/\Q .non (upd H l (.lst (xs++[y]))):=rfl
theorem r_Eq {x y:V}:rEq x y H Q=(scal x y=true/\Q (.bl (decide (x=y))) H):=rfl
theorem r_Ne {x y:V}:rNe x y H Q=(scal x y=true/\Q (.bl (!decide (x=y))) H):=rfl
theorem r_iList {Z:It->Hp->Prop}:iList K te σ H Z=te σ H fun x H1=>∃a,x=.ref a/\(∃xs,SqL K H1 a xs)/\Z (Itl K a) H1:=rfl
theorem r_iTup {Z:It->Hp->Prop}:iTup K te σ H Z=te σ H fun x H1=>∃a,x=.ref a/\(∃xs,SqT K H1 a xs)/\Z (Itt K a) H1:=rfl
theorem r_iRng1 {Z:It->Hp->Prop}:iRng1 A σ H Z=A σ H fun vs H1=>∃j:Int,vs=[.int j] /\ -(2 ^ 62)<=j/\j<2 ^ 62/\Z (Itr 0 j.toNat) H1:=rfl
theorem r_true:tTrue σ H R=R true H:=rfl
end
theorem Same.new {H:Hp}{p:Addr}{o:HO}(h:H p=none):Same H (upd H p o):=fun b u e=>by rw[upd_ne (ne_of_none e h)];exact e
theorem Same.newT {H H':Hp}{p:Addr}{o:HO}(s:Same H H')(h:H' p=none):Same H (upd H' p o):=s.trans (Same.new h)
theorem Same.over {H H':Hp}{p:Addr}{o:HO}(s:Same H H')(h:H p=none):Same H (upd H' p o):=fun b u e=>by rw[upd_ne (ne_of_none e h)];exact s b u e
theorem none_of_upd {H:Hp}{p D:Addr}{o:HO}(h:upd H p o D=none):H D=none/\D≠p:=by
 by_cases e:D=p
 ·subst e;rw[upd_same]at h;cases h
 ·rw[upd_ne e]at h;exact⟨h,e⟩
theorem Same.seqT {K:PySem.W.Frag}{H H':Hp}{a:Addr}{xs:List V}(e:Same H H')(h:SqT K H a xs):SqT K H' a xs:=by
 rcases h with (h|⟨o,h⟩)|h
 ·exact .inl (.inl (e _ _ h))
 ·exact .inl (.inr ⟨o,e _ _ h⟩)
 ·exact .inr h
theorem hu9 {k:Nat}{A:Around}(hr:Room k A):A.units+8<cLine:=by have:=hr.units;omega
section
variable {K:PySem.W.Frag} {wi:TI} {cp:Caps} {g:TG} {tc:TT} {te:TE} {σ:St} {H:Hp} {Q:VK}
theorem r_cxK {CX:CXT}{P:Program}{w:World}{mg:Str->Option Value}{base:Heap}{N:List Str}{qual:Str}{scope:Scope}{f:Addr}{cd:Value}{A:Around}{outer:List Env}{s:Shared}{E:XK}:(cxOf CX P w K mg base N qual scope f cd A outer s H E).K=K:=rfl
def CompW (J:It)(cp:Caps)(g:TG)(tc:TT)(te:TE)(σ:St)(H1:Hp)(Q:VK):Prop:=∃W:Nat->Nat->List V->St->Hp->Prop,(∃m,W 0 m [] (cp.st σ) H1)/\∀i m ys σ' H',W i m ys σ' H' ->
 ys.length<sizeLine/\((J.stop i H'/\∀D,H' D=none->Q (.ref D) (upd H' D (.lst ys)))\/(J.go i H'/\∃N:List V->St->Hp->Prop,(∀zs σ2 H2,N zs σ2 H2->∃m',m'<m/\W (i+1) m' zs σ2 H2)/\∀x H2,J.yld i H' x H2->g x σ' H2 fun σ2 H3=>tc σ2 H3 fun b H4=>
  if b=true then te σ2 H4 fun v H5=>N (ys++[v]) σ2 H5 else N ys σ2 H4))
theorem r_comp:tComp wi cp g tc te σ H Q=wi σ H fun J H1=>CompW J cp g tc te σ H1 Q:=rfl
def ForW (J:It)(g:TG)(tb:TS)(D:Ends)(σ:St)(H1:Hp):Prop:=∃W:Nat->Nat->St->Hp->Prop,(∃m,W 0 m σ H1)/\∀i m σ H,W i m σ H ->
 (J.stop i H/\D.nx σ H)\/(J.go i H/\∃N:St->Hp->Prop,(∀σ' H',N σ' H'->∃m',m'<m/\W (i+1) m' σ' H')/\∀x H',J.yld i H x H'->g x σ H' fun σ2 H2=>tb {D with nx:=N,ct:=N,bk:=D.nx} σ2 H2)
theorem r_for {tb:TS}{D:Ends}:tFor wi g tb D σ H=wi σ H fun J H1=>ForW J g tb D σ H1:=rfl
theorem forL {a:Addr}{xs:List V}{g:TG}{tb:TS}{D:Ends}{σ:St}{H:Hp}(Pv:Nat->St->Hp->Prop)(h0:Pv 0 σ H)(hl:∀i σ H,i<=xs.length->Pv i σ H->SqL K H a xs)
  (hs:∀i x σ H,xs[i]?=some x->Pv i σ H->g x σ H fun σ2 H2=>tb {D with nx:=Pv (i+1),ct:=Pv (i+1),bk:=D.nx} σ2 H2) (hd:∀σ H,Pv xs.length σ H->D.nx σ H):ForW (Itl K a) g tb D σ H:=for_list Pv h0 hl hs hd
theorem forT {a:Addr}{xs:List V}{g:TG}{tb:TS}{D:Ends}{σ:St}{H:Hp}(Pv:Nat->St->Hp->Prop)(h0:Pv 0 σ H)(hl:∀i σ H,i<=xs.length->Pv i σ H->SqT K H a xs)
  (hs:∀i x σ H,xs[i]?=some x->Pv i σ H->g x σ H fun σ2 H2=>tb {D with nx:=Pv (i+1),ct:=Pv (i+1),bk:=D.nx} σ2 H2) (hd:∀σ H,Pv xs.length σ H->D.nx σ H):ForW (Itt K a) g tb D σ H:=for_tup Pv h0 hl hs hd
theorem forR {lo:Int}{n:Nat}{g:TG}{tb:TS}{D:Ends}{σ:St}{H:Hp}(Pv:Nat->St->Hp->Prop)(h0:Pv 0 σ H)
  (hs:∀i σ H,i<n->Pv i σ H->g (.int (lo+i)) σ H fun σ2 H2=>tb {D with nx:=Pv (i+1),ct:=Pv (i+1),bk:=D.nx} σ2 H2) (hd:∀σ H,Pv n σ H->D.nx σ H):ForW (Itr lo n) g tb D σ H:=for_range Pv h0 hs hd
theorem compL {a:Addr}{xs:List V}(Pv:Nat->List V->St->Hp->Prop)(h0:Pv 0 [] (cp.st σ) H)(hz:xs.length<sizeLine)
  (hl:∀i ys σ H,i<=xs.length->Pv i ys σ H->SqL K H a xs/\ys.length<=i)
  (hs:∀i x ys σ H,xs[i]?=some x->Pv i ys σ H->g x σ H fun σ2 H2=>tc σ2 H2 fun b H3=>if b=true then te σ2 H3 fun v H4=>Pv (i+1) (ys++[v]) σ2 H4 else Pv (i+1) ys σ2 H3)
  (hd:∀ys σ H,Pv xs.length ys σ H->∀D,H D=none->Q (.ref D) (upd H D (.lst ys))):CompW (Itl K a) cp g tc te σ H Q:=comp_list Pv h0 hz hl hs hd
theorem compT {a:Addr}{xs:List V}(Pv:Nat->List V->St->Hp->Prop)(h0:Pv 0 [] (cp.st σ) H)(hz:xs.length<sizeLine)
  (hl:∀i ys σ H,i<=xs.length->Pv i ys σ H->SqT K H a xs/\ys.length<=i)
  (hs:∀i x ys σ H,xs[i]?=some x->Pv i ys σ H->g x σ H fun σ2 H2=>tc σ2 H2 fun b H3=>if b=true then te σ2 H3 fun v H4=>Pv (i+1) (ys++[v]) σ2 H4 else Pv (i+1) ys σ2 H3)
  (hd:∀ys σ H,Pv xs.length ys σ H->∀D,H D=none->Q (.ref D) (upd H D (.lst ys))):CompW (Itt K a) cp g tc te σ H Q:=comp_tup Pv h0 hz hl hs hd
theorem compR {lo:Int}{n:Nat}(Pv:Nat->List V->St->Hp->Prop)(h0:Pv 0 [] (cp.st σ) H)(hz:n<sizeLine)
  (hl:∀i ys σ H,i<=n->Pv i ys σ H->ys.length<=i)
  (hs:∀i ys σ H,i<n->Pv i ys σ H->g (.int (lo+i)) σ H fun σ2 H2=>tc σ2 H2 fun b H3=>if b=true then te σ2 H3 fun v H4=>Pv (i+1) (ys++[v]) σ2 H4 else Pv (i+1) ys σ2 H3)
  (hd:∀ys σ H,Pv n ys σ H->∀D,H D=none->Q (.ref D) (upd H D (.lst ys))):CompW (Itr lo n) cp g tc te σ H Q:=comp_range Pv h0 hz hl hs hd
theorem compMapT {a:Addr}{xs:List V}{σ':St}(f:V->V)(e:cp.st σ=none::σ')(hl:SqT K H a xs)(hz:xs.length<sizeLine)(hs:∀x∈xs,∀R:VK,R (f x) H->te (some x::σ') H R)(hd:∀D,H D=none->Q (.ref D) (upd H D (.lst (xs.map f)))):
  CompW (Itt K a) cp (gName 0) tTrue te σ H Q:=by
 refine compT (xs:=xs) (fun i ys σ2 H2=>H2=H/\ys=(xs.take i).map f/\∃o,σ2=o::σ') ⟨rfl,by simp,none,e⟩ hz (fun i ys σ2 H2 hi h=>?_) (fun i x ys σ2 H2 hx h=>?_) (fun ys σ2 H2 h=>?_)
 ·obtain⟨rfl,rfl,_⟩:=h
  exact⟨hl,by rw[List.length_map,List.length_take];omega⟩
 ·obtain⟨rfl,rfl,o,rfl⟩:=h
  refine hs x (List.mem_of_getElem? hx) _ ⟨rfl,?_,some x,rfl⟩
  rw[List.take_add_one,hx];simp
 ·obtain⟨rfl,rfl,_⟩:=h
  rw[List.take_length]
  exact hd
end
def tCut (t u:TS):TS:=fun D σ H=>∃R:St->Hp->Prop,t {D with nx:=R} σ H/\∀σ' H',R σ' H'->u D σ' H'
theorem pss_cut {X:Cx}{st:Stmt}{rest:List Stmt}{t u:TS}(h1:PS X st t)(h2:PSs X rest u):PSs X (st::rest) (tCut t u):=by
 intro pins s σ H D I h
 obtain⟨R,ha,hb⟩:=h
 refine wpAny_execs_cons (thn (h1 pins s σ H {D with nx:=R} I ha) fun f s1 q=>?_)
 cases f with
 |next=>
  obtain⟨σ',H',I',q⟩:=q
  exact h2 pins s1 σ' H' D I' (hb σ' H' q)
 |ret v=>exact q
 |brk=>exact q
 |cont=>exact q
theorem line1000:1000000<sizeLine:=by rw[sizeLine_eq];decide
theorem mem_mapI {ns:List Int}{x:V}(h:x∈ns.map V.int):∃n,n∈ns/\x=.int n:=by
 obtain⟨n,hn,e⟩:=List.mem_map.mp h
 exact⟨n,hn,e.symm⟩
theorem get_mapI {ns:List Int}{i:Nat}{x:V}(h:(ns.map V.int)[i]?=some x):∃n,ns[i]?=some n/\x=.int n:=by
 rw[List.getElem?_map]at h
 cases e:ns[i]? with
 |none=>rw[e]at h;cases h
 |some n=>rw[e]at h;exact⟨n,rfl,(Option.some.inj h).symm⟩
def cutI (ns:List Int)(lo hi:Option Int):List Int:=(ns.drop (HT.sIx ns.length 0 lo)).take (HT.sIx ns.length ns.length hi-HT.sIx ns.length 0 lo)
theorem cut_ints (ns:List Int)(lo hi:Option Int):cutV (ns.map V.int) lo hi=(cutI ns lo hi).map V.int:=by
 unfold cutV cutI
 rw[List.length_map,<-List.map_drop,<-List.map_take]
theorem atI_of {α:Type}{xs:List α}{i:Int}{v:α}(h0:0<=i)(h:xs[i.toNat]?=some v):atI xs i=some v:=by
 have:=atI_nat h
 rwa [show ((i.toNat:Nat):Int)=i by omega]at this
theorem rel_ty {n:String}:∀u,RelV (V.ty n) u->u=.type n:=fun _ h=>h
theorem rel_ref {a:Addr}:∀u,RelV (V.ref a) u->u=.ref a:=fun _ h=>h
end L2
namespace L2
open PySem PySem.W PySem.Spec PySem.Calls PyProof.Rows
section
variable {prog:Program} {w:World} {A:Around} {E:Value->Shared->Prop} {s:Shared} {K:Frag} {x D:Addr} {ox:Obj}
structure ExcCls (K:Frag)(D:Addr):Prop where
 ga:findIn K (.ref D) "__getattribute__"=some (some (.builtin "BaseException.__getattribute__"))
 hk:findIn K (.ref D) "__getattr__"=some none
 cl:(clsIn K D).isSome=true
 ca:findIn K (.ref D) "__class__"=some (some (.builtin "object.__class__"))
 gs:specialIn K (.builtin "object.__class__") "__get__"=some (some (.builtin "getset_descriptor.__get__"))
 tk:takesIn K (.builtin "object.__class__")=some true
 mo:mroIn K D (.type "object")=some true
 mb:mroIn K D (.type "BaseException")=some true
def ExcAt (x D:Addr)(h:Heap):Prop:=∃ox,h.get? x=some ox/\ox.cls=.ref D
theorem ExcAt.type {M:Model}{h:Heap}(I:ExcAt x D h):Looks M h (typeOf (.ref x)) (.ref D):=by
 obtain⟨ox,h1,h2⟩:=I
 exact h2 ▸ (Looks.ld h1).andThen .now
theorem exc_find {M:Model}{h:Heap}(X:K.In h)(C:ExcCls K D):Looks M h (Builtin.ObjectAttr.find (.ref x) (.ref D) "__class__") (.bind (.builtin "getset_descriptor.__get__") (.builtin "object.__class__")):=
 (looks_findIn X C.ca).andThen ((show Looks M h (Builtin.ObjectAttr.getOf (some (.builtin "object.__class__"))) _ from looks_specialIn X C.gs).andThen
  ((show Looks M h (Builtin.ObjectAttr.dataDescriptor? (some (.builtin "object.__class__")) (some (.builtin "getset_descriptor.__get__"))) (some (.builtin "getset_descriptor.__get__",.builtin "object.__class__")) from (looks_takesIn X C.tk).andThen .now).andThen (Looks.tag .now)))
open Builtin Builtin.ObjectAttr Builtin.Getset_descriptor in
theorem exc_get {R:Result->Shared->Prop}{tp:Value}(X:K.In s.heap)(I:ExcAt x D s.heap)(hm:mroIn K D (.type "object")=some true)(h:R (.ok (.ret (.ref D))) s):codeAny (model prog w) A (.call (.builtin "getset_descriptor.__get__") ⟨[.builtin "object.__class__",.ref x,tp],[]⟩) R s:=by
 have l0:=I.type (M:=model prog w)
 have l1:=looks_mroIn (M:=model prog w) X hm
 obtain⟨_,_,_,_,_⟩:=s
 have sg:=KF.slot_gs
 refine codeAny_call_builtin sg.plain KF.entry_gs (sg.check _ _ _ _ _ _ _ _ KF.type_class (KF.args_gs _ _ _) ?_)
 unfold Builtin.«getset_descriptor.__get__» descrGet
 rw[dga_obj]
 unfold descrGetter descrCheckInstance isInstance descrNameAndClass
 refine wpAny_bind (wpAny_pure ?_)
 simp only[KF.owner_class]
 repeat lk
 refine⟨Code.quiet_builtin _ (by decide +kernel),codeAny_builtin KF.entry_class ?_⟩
 unfold Builtin.«object.__class__» shownTypeOf
 repeat lk
 exact h
theorem exc_check {M:Model}{nameV:Value}{Q:Unit->Shared->Prop}(X:K.In s.heap)(I:ExcAt x D s.heap)(C:ExcCls K D)(hq:Q () s):wpAny M A (checkBuiltinCall "BaseException.__getattribute__" ⟨[.ref x,nameV],[]⟩) Q E s:=by
 have a1:=F.args_bexc_ga (.ref x) nameV
 have l0:=I.type (M:=M)
 have l1:=looks_mroIn (M:=M) X C.mb
 obtain⟨_,_,_,_,_⟩:=s
 simp only[checkBuiltinCall,show builtinKind "BaseException.__getattribute__"=some .slot by decide +kernel,show splitId "BaseException.__getattribute__"=some ("BaseException","__getattribute__") by decide +kernel,isInstance]
 repeat (first|lk|wp_step)
 exact hq
theorem exc_entry {tk:Tok}{Q:Fin->Shared->Prop}(X:K.In s.heap)(I:ExcAt x D s.heap)(C:ExcCls K D)(hq:Q (.done (.ret (.ref D))) s):wpAny (model prog w) A (Builtin.«object.__getattribute__» ⟨[.ref x,.str "__class__" tk],[]⟩) Q E s:=by
 obtain⟨hh,g,d,t,os⟩:=s
 have L0:=I.type (M:=model prog w)
 have L1:=exc_find (M:=model prog w) (x:=x) X C
 unfold Builtin.«object.__getattribute__»
 refine wpAny_bind (wpAny_pure ?_)
 refine wpAny_bind (wpAny_pure ?_)
 refine wpAny_bind (L0.at ?_)
 refine wpAny_bind (L1.at ?_)
 show wpAny _ _ (Builtin.ObjectAttr.bindTo _ _ _ _) _ _ _
 unfold Builtin.ObjectAttr.bindTo
 dsimp only
 refine wpAny_bind (wpAny_holding (wpAny_call (exc_get (K:=K) (s:=⟨hh,g,d,t,os⟩) X I C.mo ?_)))
 exact wpAny_pure hq
theorem exc_class {Q:Option Value->Shared->Prop}(X:K.In s.heap)(I:ExcAt x D s.heap)(C:ExcCls K D)(h:Q (some (.ref D)) {s with toks:=s.toks+1}):wpAny (model prog w) A (getAttr? (.ref x) "__class__") Q E s:=by
 obtain⟨hh,g,d,t,os⟩:=s
 have L0:=I.type (M:=model prog w)
 have L1:=looks_findIn (M:=model prog w) X C.ga
 have L2:=looks_findIn (M:=model prog w) X C.hk
 unfold getAttr? getAttrBy? getAttrBy
 refine wpAny_bind (wpAny_mkText (wpAny_bind (wpAny_attempt (wpAny_holding (wpAny_bind (L0.at (wpAny_bind (L1.at ?_))))))))
 show wpAny _ _ (getAttrByItsOwn _ _ _ _ _ _) _ _ _
 unfold getAttrByItsOwn hookBefore
 refine wpAny_bind ?_
 rw[if_pos (by rfl)]
 refine L2.at (wpAny_bind (wpAny_attempt (wpAny_holding ?_)))
 unfold callGetattribute
 rw[if_neg (by decide)]
 unfold boundAndCalled
 have f3:=PySem.F.attr_ValueError.ga.bind (.ref x)
 refine wpAny_bind (wpAny_of_eq f3 ?_)
 refine wpAny_call (codeAny_call_builtin PySem.F.attr_ValueError.ga.plain F.entry_bexc_ga (exc_check (K:=K) (s:=⟨hh,g,d,t+1,os⟩) X I C (exc_entry (K:=K) (s:=⟨hh,g,d,t+1,os⟩) X I C ?_)))
 exact wpAny_pure (wpAny_pure h)
theorem kitx_exc (C:ExcCls K D):KitX K (.ref x) (.ref D) (ExcAt x D):=by
 have cl:=C.cl
 unfold clsIn at cl
 refine⟨fun _ _ _ I=>I.type,fun _ _ X _=>?_,fun h tp dd its n sl X htp=>?_,fun X I k=>exc_class X I C k⟩
 ·split at cl
  ·rename_i ho
   intro A' Q' E' s' k q
   exact wpAny_bind (wpAny_loadPart (k _ _ (X _ _ ho)) (wpAny_pure q))
  ·cases cl
 ·split at cl
  ·rename_i ho
   cases hb:(Value.ref D==Value.ref tp) with
   |false=>rfl
   |true=>
    obtain rfl:D=tp:=Value.ref.inj (beq_iff_eq.mp hb)
    cases (X _ _ ho).symm.trans htp
  ·cases cl
end
section
variable {P:Program} {w:World}
theorem ObjOk.there {H:Hp}{h:Heap}{a:Addr}{o:HO}(x:ObjOk P w H h a o):∃ob,h.get? a=some ob:=by
 induction o with
 |lst xs=>obtain⟨_,_,_,_,e⟩:=x;exact⟨_,e⟩
 |tup xs=>obtain⟨_,_,_,ob,e,_⟩:=x;exact⟨_,e⟩
 |dK kvs=>obtain⟨_,_,_,_,o,_,_,e,_⟩:=x;exact⟨_,e⟩
 |dT kvs=>obtain⟨_,_,_,_,o,_,_,e,_⟩:=x;exact⟨_,e⟩
 |set S n=>obtain⟨o,_,_,_,e,_⟩:=x;exact⟨_,e⟩
 |ins C dx fs=>obtain⟨_,_,_,e,_⟩:=x;exact⟨_,e⟩
 |own y=>obtain⟨_,e⟩:=x;exact⟨_,e⟩
 |xd fs=>obtain⟨_,⟨_,_,_,e,_⟩,_⟩:=x;exact⟨_,e⟩
 |rng lo hi=>obtain⟨_,_,_,e⟩:=x;exact⟨_,e⟩
 |frz ob u ih=>obtain⟨e,_⟩:=x;exact⟨_,e⟩
 |tbl ps=>exact⟨_,(show h.get? a=some _ from x)⟩
 |met f y=>exact⟨_,(show h.get? a=some _ from x)⟩
 |ext φ=>obtain⟨_,⟨_,e⟩,_⟩:=x;exact⟨_,e⟩
structure Fly (P:Program)(w:World)(fs:List Addr)(H1 H':Hp)(h1 g B:Heap):Prop where
 un:Un fs [] H1 H' h1 g
 hok:HOk P w H' g
 cov:∀b o,g.get? b=some o->(H' b≠none \/ ∃o',h1.get? b=some o')->b∉fs->B.get? b=some o
theorem Fly.move {fs:List Addr}{H1 H':Hp}{h1 g B h2:Heap}(x:Fly P w fs H1 H' h1 g B)(frees:∀b∈fs,H' b=none)(st:B.StaysIn h2)(up:∀b∈fs,∀o,g.get? b=some o->∃sl,h2.get? b=some {o with slots:=sl}):Fly P w fs H1 H' h1 h2 B:=by
 have keep:∀b o,g.get? b=some o->(H' b≠none \/ ∃o',h1.get? b=some o')->b∉fs->h2.get? b=some o:=fun b o e h n=>st b o (x.cov b o e h n)
 have nfs:∀b u,H' b=some u->b∉fs:=fun b u e z=>by rw[frees b z]at e;cases e
 refine⟨⟨fun b o e n hb hx=>?_,fun b o e n hb hx=>?_,fun b o e n hx=>x.un.free b o e n hx,fun b o e hx=>?_,x.un.tups,x.un.frzs,x.un.tbls⟩,fun b u e=>?_,fun b o e h n=>?_⟩
 ·exact keep b o (x.un.keep b o e n hb hx) (.inr ⟨o,e⟩) hb
 ·obtain⟨sl,e1⟩:=x.un.slot b o e n hb hx
  obtain⟨sl',e2⟩:=up b hb _ e1
  exact⟨sl',e2⟩
 ·obtain⟨o',e1⟩:=x.un.there b o e hx
  by_cases hb:b∈fs
  ·obtain⟨sl',e2⟩:=up b hb _ e1
   exact⟨_,e2⟩
  ·exact⟨o',keep b o' e1 (.inr ⟨o,e⟩) hb⟩
 ·refine (x.hok b u e).stay (fun c v hc q=>?_) (fun _ q=>q) fun _ _ q=>q
  rcases hc with rfl|hc
  ·exact keep c v q (.inl (by rw[e];simp)) (nfs c u e)
  ·exact keep c v q (.inl (by rw[hc];simp)) (nfs c _ hc)
 ·-- B has it still
  have ⟨o1,e1⟩:∃o1,g.get? b=some o1:=by
   rcases h with h|⟨o',h⟩
   ·cases q:H' b with
    |none=>exact absurd q h
    |some u=>exact (x.hok b u q).there
   ·exact x.un.there b o' h (by simp)
  have e2:=x.cov b o1 e1 h n
  have e3:=st b o1 e2
  rw[e]at e3
  cases e3
  exact e2
def CXe (P:Program)(w:World):CXT:=fun outer H s E e s'=>∃(ea:Addr) (cls a0:Value) (H':Hp) (B:Heap),e=.ref ea/\s'.os=s.os/\AllBare s'.gens/\Fly P w (frs outer) H H' s.heap s'.heap B/\Heap.FlyingW B outer ea cls a0 s'.heap/\E cls none H'
theorem fly_frees {X:Cx}{pins:List (Addr×Obj)}{σ:St}{H1 H':Hp}{s1:Shared}{g B:Heap}(I:Inv X pins σ H1 s1)(x:Fly P w (frs X.stack) H1 H' s1.heap g B):∀b∈frs X.stack,H' b=none:=fun b hb=>by
 obtain⟨_,o,ho,_⟩:=I.stack.mem hb
 exact x.un.free b o ho (I.stkFree b hb) (by simp)
theorem passE {K:PySem.W.Frag}{mg:Str->Option Value}{base:Heap}{N:List Str}{qual:Str}{scope:Scope}{f:Addr}{cd:Value}{A:Around}{outer:List Env}{s:Shared}{H:Hp}{E E':XK}(hE:∀c d H',E' c d H'->E c d H'):
  Passes (CXe P w) (cxOf (CXe P w) P w K mg base N qual scope f cd A outer s H E) E':=by
 intro pins σ H1 s1 e s' I hc
 obtain⟨ea,cls,a0,H',B,rfl,os,bare,fl,fw,q⟩:=hc
 have fr:(cxOf (CXe P w) P w K mg base N qual scope f cd A outer s H E).A.frames=some (envOfC qual scope s.heap.objs.size f cd::outer):=I.ok.frames
 refine wpAny_leaves_onW fr rfl fw fun h' fw' ups=>?_
 have fl2:=fl.move (fly_frees I fl) fw'.1 (fun b hb o e=>by
  obtain⟨_,o',ho',nf⟩:=fw.2.2.1.mem hb
  rw[e]at ho';cases ho'
  exact ups b o e nf)
 have I2:Inv (cxOf (CXe P w) P w K mg base N qual scope f cd A outer s H E) pins σ H' {s' with heap:=h' }:=I.call' (s':={s' with heap:=h' }) os fl2.un fl2.hok bare (fun b hb=>by cases hb)
 refine⟨ea,cls,a0,H',B,rfl,I2.os,I2.bare,⟨I2.base,I2.hok,fun b o e h n=>fl2.cov b o e ?_ (fun z=>?_)⟩,fw',hE _ _ _ q⟩
 ·rcases h with h|⟨o',h⟩
  ·exact .inl h
  ·obtain⟨o2,e2⟩:=I.base.there b o' h (by show b∉([]:List Addr);simp)
   exact .inr ⟨o2,e2⟩
 ·rcases List.mem_cons.mp (I.stkSub b z) with e' | e'
  ·rcases h with h|⟨o',h⟩
   ·exact h (by rw[e'];exact I2.free)
   ·have:=Heap.lt_size h
    rw[e']at this
    exact absurd (Nat.lt_of_lt_of_le this I.ok.above) (Nat.lt_irrefl _)
  ·exact n e'
theorem raiseE {K:PySem.W.Frag}{mg:Str->Option Value}{base:Heap}{N:List Str}{qual:Str}{scope:Scope}{f:Addr}{cd:Value}{A:Around}{outer:List Env}{s:Shared}{H:Hp}{E:XK}
  {pins:List (Addr×Obj)} {σ:St} {H1:Hp} {s1:Shared} {h':Heap} {ea:Addr} {cls:Value} {vs:List Value}
  (I:Inv (cxOf (CXe P w) P w K mg base N qual scope f cd A outer s H E) pins σ H1 s1) (hx:Heap.MadeExcOf s1.heap h' ea cls vs) (q:E cls none H1):
  (cxOf (CXe P w) P w K mg base N qual scope f cd A outer s H E).xe (.ref ea) {s1 with heap:=h' }:=by
 have fr:(cxOf (CXe P w) P w K mg base N qual scope f cd A outer s H E).A.frames=some (envOfC qual scope s.heap.objs.size f cd::outer):=I.ok.frames
 have hin:∀env∈(envOfC qual scope s.heap.objs.size f cd::outer),∀b,env.frame=some b->b∈frs (envOfC qual scope s.heap.objs.size f cd::outer):=fun env he b hb=>List.mem_filterMap.mpr ⟨env,he,hb⟩
 have stk:=I.stack
 have fl:Fly P w (frs (envOfC qual scope s.heap.objs.size f cd::outer)) H1 H1 s1.heap s1.heap (PySem.W.hideAll s1.heap (frs (envOfC qual scope s.heap.objs.size f cd::outer))):=⟨Un.refl,I.hok,fun b o e _ n=>PySem.W.hideAll_get _ e n⟩
 refine wpAny_leaves_madeW (base:=PySem.W.hideAll s1.heap (frs (envOfC qual scope s.heap.objs.size f cd::outer))) (h:=s1.heap) fr rfl (fun b o q=>PySem.W.of_hideAll _ q) ?_ hx fun h'' t fw' ht hnt ups=>?_
 ·exact PySem.W.funFrames_hide stk hin
 ·have fl2:=fl.move (fly_frees (X:=cxOf (CXe P w) P w K mg base N qual scope f cd A outer s H E) I fl) fw'.1 (fun b hb o e=>by
   obtain⟨_,o',ho',nf⟩:=stk.mem hb
   rw[e]at ho';cases ho'
   exact ups b o (hx.keeps b o e) nf)
  have I2:Inv (cxOf (CXe P w) P w K mg base N qual scope f cd A outer s H E) pins σ H1 {s1 with heap:=h'' }:=I.call' (s':={s1 with heap:=h'' }) rfl fl2.un fl2.hok I.bare (fun b hb=>by cases hb)
  refine⟨ea,cls,.ref t,H1,_,rfl,I2.os,I2.bare,⟨I2.base,I2.hok,fun b o e h n=>fl2.cov b o e ?_ (fun z=>?_)⟩,fw',q⟩
  ·rcases h with h|⟨o',h⟩
   ·exact .inl h
   ·obtain⟨o2,e2⟩:=I.base.there b o' h (by show b∉([]:List Addr);simp)
    exact .inr ⟨o2,e2⟩
  ·rcases List.mem_cons.mp (I.stkSub b z) with e' | e'
   ·rcases h with h|⟨o',h⟩
    ·exact h (by rw[e'];exact I2.free)
    ·have:=Heap.lt_size h
     rw[e']at this
     exact absurd (Nat.lt_of_lt_of_le this I.ok.above) (Nat.lt_irrefl _)
   ·exact n e'
end
theorem exc_obj {K:Frag}{h:Heap}{C:Addr}{bmB:List Value}{newId:String}(X:K.In h)(q:excIn K C bmB newId=true):
  ∃bm N nm q bs hdct sn sub ab col dd k0 k1 k2 k3 k5 mN,h.get? C=some (excClassObj nm q C N bs bm hdct sn sub ab col dd k0 k1 k2 k3 k5 newId)/\h.Ns N mN/\mN "__init__"=none/\OwnTail h bmB bm:=by
 unfold excIn at q
 split at q
 case h_2=>cases q
 rename_i d0 c0 s0 hl
 split at q
 case h_2=>cases q
 rename_i B tl a0 a1 a2 a3 id0 a5 em es
 have g:=X C _ hl
 repeat rw[Bool.and_eq_true]at q
 rcases q with ⟨⟨⟨⟨⟨e1,e2⟩,e3⟩,e4⟩,e5⟩,e6⟩
 cases eq_of_beq e1
 cases eq_of_beq e2
 rcases s0 with ⟨l0⟩
 cases es
 rcases c0 with ⟨f0,f1,f2,f3,f4,f5,f6,f7,f8,f9,f10⟩
 cases em
 cases f10
 ·exact⟨tl,f3,f0,f4,f1,f5,f6,f7,f8,f9,d0,a0,a1,a2,a3,a5,h.nsMap f3,g,.of_isNs (isNs_of_in X e5),nsMap_none_of_in X e5 (eq_of_beq e6),tail_of_in X e4⟩
 ·cases e3
def bmV:List Value:=[.type "ValueError",.type "Exception",.type "BaseException",.type "object"]
section
variable {P:Program} {w:World} {K:PySem.W.Frag} {mg:Str->Option Value} {base:Heap} {N:List Str} {qual:Str} {scope:Scope} {f:Addr} {cd:Value} {A:Around} {outer:List Env} {s:Shared} {H:Hp} {E:XK}
def tRaise (C:Addr)(E:XK)(ta:TA):TS:=fun _ σ H=>ta σ H fun vs H1=>vs.length<=sizeLine/\E (.ref C) none H1
theorem ps_raise {x:Str}{C:Addr}{newId:String}{np cpos pos:Pos}{e₀:Expr}{rest:List Expr}{ta:TA}(hm:mg x=some (.ref C))(hx:excIn K C bmV newId=true)(hg:Gl (cxOf (CXe P w) P w K mg base N qual scope f cd A outer s H E) x)
  (hn:newId = "ValueError.__new__") (ha:PA (cxOf (CXe P w) P w K mg base N qual scope f cd A outer s H E) (e₀::rest) ta)
  (he:starEach (e₀::rest) (cxOf (CXe P w) P w K mg base N qual scope f cd A outer s H E).env=(false,eval e₀ (cxOf (CXe P w) P w K mg base N qual scope f cd A outer s H E).env)::starEach rest (cxOf (CXe P w) P w K mg base N qual scope f cd A outer s H E).env:=by rfl)
  (hplain:(backTo cpos (starEach rest (cxOf (CXe P w) P w K mg base N qual scope f cd A outer s H E).env)).any (·.1)=false:=by rfl) (hd:(x==("__debug__" : Str))=false:=by decide):
  PS (cxOf (CXe P w) P w K mg base N qual scope f cd A outer s H E) (.Raise (some (.Call (.Name x np) (e₀::rest) [] cpos)) none pos) (tRaise C E ta):=by
 intro pins s1 σ H1 D I h
 subst hn
 obtain⟨bm,Nc,nm,q,bs,hdct,sn,sub,ab,col,dd,k0,k1,k2,k3,k5,mN,hC,hN,hni,T⟩:=exc_obj I.mod.kin hx
 refine wpAny_Raise_call_subU (C:=C) (nm:=nm) (q:=q) (N:=Nc) (bs:=bs) (bm:=bm) (hdct:=hdct) (sn:=sn) (sub:=sub) (ab:=ab) (col:=col) (dd:=dd) (k0:=k0) (k1:=k1) (k2:=k2) (k3:=k3) (k5:=k5)
  PySem.F.excBase_ValueError (bmB:=bmV) (by decide +kernel) PySem.F.excBase_ValueError (mN:=mN) (T.hasType PySem.F.excBase_ValueError.hasBase) (I.ok.hd rfl) (by rw[he];show (false||(backTo cpos (starEach rest _)).any (·.1))=false;rw[hplain];rfl) hni (ld_glob I hg hm ⟨rfl,?_⟩ hd)
 have hA:=ha cpos pins s1 σ H1 _ I h
 rw[he]at hA ⊢
 refine Calls.evalArgs_plain (thn hA fun us s2 ⟨vs,H2,I2,r2,hz,q2⟩=>⟨rfl,by rw[<-r2.length];exact hz,I2.bk _ _ hC,hN.keeps I2.bk,T.keeps I2.bk,fun h' e hm=>raiseE I2 hm q2⟩)
end
end L2
namespace L2
open PySem PySem.Spec PyProof.Rows
abbrev Cx.body (X:Cx)(xe:Value->Shared->Prop)(pn:List (Addr×Obj)):Cx:={X with xe:=xe,pn:=pn}
abbrev Cx.suite (X:Cx)(ea:Addr)(pn:List (Addr×Obj)):Cx:={X with A:=X.A.mark (some (.ref ea)),calm:=false,xe:=fun _ _=>False,pn:=pn}
section
variable {X:Cx} {pins pins':List (Addr×Obj)} {σ:St} {H:Hp} {s:Shared} {xe xe':Value->Shared->Prop} {ea:Addr}
theorem Inv.toBody (I:Inv X pins σ H s):Inv (X.body xe (X.pn++pins)) [] σ H s:=
 ⟨⟨I.ok.mod,I.ok.kind,I.ok.glob,I.ok.blt,I.ok.above,I.ok.inj,I.ok.has,I.ok.cab,I.ok.hd,I.ok.frames,I.ok.stk,I.ok.exf,I.ok.bs,I.ok.bsz,I.ok.noex,I.ok.exfs,I.ok.funs,I.ok.frf⟩,I.os,I.bare,I.base,I.loc,I.cell,I.free,I.freeC,fun p hp=>I.pin p (by simpa using hp),I.hok,I.len⟩
theorem Inv.ofBody (I:Inv (X.body xe (X.pn++pins)) pins' σ H s):Inv X pins σ H s:=
 ⟨⟨I.ok.mod,I.ok.kind,I.ok.glob,I.ok.blt,I.ok.above,I.ok.inj,I.ok.has,I.ok.cab,I.ok.hd,I.ok.frames,I.ok.stk,I.ok.exf,I.ok.bs,I.ok.bsz,I.ok.noex,I.ok.exfs,I.ok.funs,I.ok.frf⟩,I.os,I.bare,I.base,I.loc,I.cell,I.free,I.freeC,fun p hp=>I.pin p (List.mem_append_left _ hp),I.hok,I.len⟩
theorem Inv.reBody {pn:List (Addr×Obj)}(I:Inv (X.body xe pn) pins' σ H s):Inv (X.body xe' pn) pins' σ H s:=
 ⟨⟨I.ok.mod,I.ok.kind,I.ok.glob,I.ok.blt,I.ok.above,I.ok.inj,I.ok.has,I.ok.cab,I.ok.hd,I.ok.frames,I.ok.stk,I.ok.exf,I.ok.bs,I.ok.bsz,I.ok.noex,I.ok.exfs,I.ok.funs,I.ok.frf⟩,I.os,I.bare,I.base,I.loc,I.cell,I.free,I.freeC,I.pin,I.hok,I.len⟩
theorem Inv.toSuite (I:Inv X pins σ H s):Inv (X.suite ea (X.pn++pins)) [] σ H s:=
 ⟨⟨I.ok.mod,I.ok.kind,I.ok.glob,I.ok.blt,I.ok.above,I.ok.inj,I.ok.has,I.ok.cab,fun z=>absurd (show false=true from z) Bool.false_ne_true,I.ok.frames,I.ok.stk,I.ok.exf,I.ok.bs,I.ok.bsz,I.ok.noex,I.ok.exfs,I.ok.funs,I.ok.frf⟩,I.os,I.bare,I.base,I.loc,I.cell,I.free,I.freeC,fun p hp=>I.pin p (by simpa using hp),I.hok,I.len⟩
theorem Inv.ofSuite (hd:X.calm=true->X.A.handled=none)(I:Inv (X.suite ea (X.pn++pins)) pins' σ H s):Inv X pins σ H s:=
 ⟨⟨I.ok.mod,I.ok.kind,I.ok.glob,I.ok.blt,I.ok.above,I.ok.inj,I.ok.has,I.ok.cab,hd,I.ok.frames,I.ok.stk,I.ok.exf,I.ok.bs,I.ok.bsz,I.ok.noex,I.ok.exfs,I.ok.funs,I.ok.frf⟩,I.os,I.bare,I.base,I.loc,I.cell,I.free,I.freeC,fun p hp=>I.pin p (List.mem_append_left _ hp),I.hok,I.len⟩
theorem Inv.forget {i:Nat}{n:Str}{m:Str->Option Value}{v:Option Value}{h':Heap}{t':Nat}(I:Inv X pins σ H s)(hN:X.N.Nodup)(hi:X.N[i]?=some n)(hx:X.env.scope.names.lookup n=some .local)
  (hl:∀(i:Nat) (x:Str) (v:V),X.N[i]?=some x->σ[i]?=some (some v)->Vis X.env.scope x->∃u,RelV v u/\Look X.env s.heap m x u) (hn:s.heap.Ns X.env.locals m)
  (hn':h'.Ns X.env.locals (fun x=>if x=n then v else m x)) (hs:Heap.SameBut X.env.locals s.heap h'):Inv X pins (σ.set i none) H {s with heap:=h',toks:=t' }:=by
 have cne:=I.cne
 obtain⟨oL,_,_,hoL,_⟩:=id hn
 have tracked:HOk X.prog X.w H h':=fun b ob e=>by
  refine (I.hok b ob e).stay (fun c w' hc q=>(hs.2 c ?_).trans q) (fun _ q=>q) fun _ _ q=>q
  rintro rfl
  rcases hc with rfl|hc
  ·rw[I.free]at e;cases e
  ·rw[I.free]at hc;cases hc
 refine⟨I.ok,I.os,I.bare,⟨fun b o e n hb hx=>?_,fun b o e n hb hx=>?_,I.base.free,fun b o e hx=>?_,I.base.tups,I.base.frzs,I.base.tbls⟩,⟨_,hn',fun j y v' e1 e2 e3=>?_⟩,fun y c e=>?_,I.free,I.freeC,fun p hp=>?_,tracked,by simpa using I.len⟩
 ·exact (hs.2 b (Nat.ne_of_lt (Nat.lt_of_lt_of_le (Heap.lt_size e) I.ok.above))).trans (I.base.keep b o e n hb hx)
 ·obtain⟨sl,e1⟩:=I.base.slot b o e n hb hx
  exact⟨sl,(hs.2 b (Nat.ne_of_lt (Nat.lt_of_lt_of_le (Heap.lt_size e) I.ok.above))).trans e1⟩
 ·obtain⟨o',e1⟩:=I.base.there b o e hx
  exact⟨o',(hs.2 b (Nat.ne_of_lt (Nat.lt_of_lt_of_le (Heap.lt_size e) I.ok.above))).trans e1⟩
 ·by_cases hj:j=i
  ·subst hj
   have hlt:j<σ.length:=by
    have:=(List.getElem?_eq_some_iff.mp e2).1
    simpa using this
   rw[List.getElem?_set_self hlt]at e2
   cases e2
  ·rw[List.getElem?_set_ne (Ne.symm hj)]at e2
   obtain⟨u',r',q⟩:=hl j y v' e1 e2 e3
   refine⟨u',r',?_⟩
   rcases q with ⟨k,e⟩|⟨k,c,e,z⟩
   ·refine .inl ⟨k,?_⟩
    have:y≠n:=fun e=>hj (nodup_ix hN e1 (e ▸ hi))
    simp[this,e]
   ·exact .inr ⟨k,c,e,z.sameBut hs (cne y c e)⟩
 ·obtain⟨w',z⟩:=I.cell y c e
  exact⟨w',z.sameBut hs (cne y c e)⟩
 ·obtain⟨e,n,ne,nf,d⟩:=I.pin p hp
  exact⟨(hs.2 p.1 ne).trans e,n,ne,nf,d⟩
end
def PassesAt (CX:CXT)(X:Cx)(σ:St)(E:XK):Prop:=∀(pins:List (Addr×Obj)) (H:Hp) (s:Shared) (e:Value) (s':Shared),Inv X pins σ H s->CX X.stack H s E e s'->X.xe e s'
section
variable {X:Cx} {CX:CXT} {k:Nat} {f C:Addr} {fd:FuncData} {ps:List Str} {sp:Sp} {dvs:List V} {ds:List Value} {E:St->XK} {x:Str} {p pos:Pos} {e:Expr} {es:List Expr} {t:TA}
theorem run_fnE {pins:List (Addr×Obj)}{σ:St}{H:Hp}{s:Shared}{Q:VK}{us:List Value}{vs:List V}{E:XK}(F:FnOk X.prog X.w X.K X.mg X.base CX k f fd ps sp)(hr:Room k X.A)(hb:Binds X.K fd ps ds)(hd:Vals dvs ds)(hx:PassesAt CX X σ E)
  (I:Inv X pins σ H s) (r:Vals vs us) (h:sp (vs++dvs) H Q E):wpAny (model X.prog X.w) X.A (call (.ref f) us) (EP X pins σ Q) X.xe s:=by
 have r2:Vals (vs++dvs) (us++ds):=r.append hd
 have hl:(us++ds).length=ps.length:=by rw[<-r2.length];exact F.len _ _ _ _ h
 refine wpAny_call (codeAny_mono (F.run X.A X.stack s H ⟨us,[]⟩ (us++ds) (vs++dvs) Q E hr I.env0 (hb s us I.kIn hl) r2 h) fun r s' hq=>?_)
 cases r with
 |error e=>exact hx pins H s e s' I hq
 |ok fl=>
  cases fl with
  |ret u=>exact I.after hq
  |next=>exact False.elim hq
  |brk=>exact False.elim hq
  |cont=>exact False.elim hq
end
def excO (ea C:Addr):HO:=.ext (ExcAt ea C)
def Ends.un (D:Ends)(i:Nat):Ends:={nx:=fun σ H=>D.nx (σ.set i none) H,rt:=D.rt,bk:=fun σ H=>D.bk (σ.set i none) H,ct:=fun σ H=>D.ct (σ.set i none) H}
def tTry (K:PySem.W.Frag)(Ca:Addr)(i:Nat)(E:St->XK)(tb ts:TS):TS:=fun D σ H=>tb D σ H/\∀σ' cls H',E σ' cls none H' ->
 ∃C,cls=.ref C/\PySem.W.exmOne K (.ref C) (.ref Ca)=some true/\∀ea,H' ea=none->ts (D.un i) (σ'.set i (some (.ref ea))) (upd H' ea (excO ea C))
theorem ps_try {X:Cx}{body:List Stmt}{c n:Str}{Ca:Addr}{np hpos pos:Pos}{b₀:Stmt}{suite:List Stmt}{i:Nat}{E:St->XK}{tb ts:TS}(hN:X.N.Nodup)(hi:X.N[i]?=some n)(hn:X.env.scope.names.lookup n=some .local)
  (hg:Gl X c) (hm:X.mg c=some (.ref Ca)) (hst:X.stack=X.env::X.outer) (hL:X.env.frame=some X.env.locals) (hex:X.ex=[])
  (hb:∀xe pn,(∀σ,PassesAt (CXe X.prog X.w) (X.body xe pn) σ (E σ))->PSs (X.body xe pn) body tb) (hs:∀ea pn,PSs (X.suite ea pn) (b₀::suite) ts) (hd:(c==("__debug__" : Str))=false:=by decide):
  PS X (.Try body [.ExceptHandler (some (.Name c np)) (some n) (b₀::suite) hpos] [] [] pos) (tTry X.K Ca i E tb ts):=by
 intro pins s σ H D I h
 obtain⟨hbody,hhand⟩:=h
 have hB:=hb (fun e s'=>∃pins' σ' H1 s1,Inv (X.body (fun _ _=>True) (X.pn++pins)) pins' σ' H1 s1/\CXe X.prog X.w X.stack H1 s1 (E σ') e s') (X.pn++pins) (fun σ pins' H s e s' I' hcx=>⟨pins',σ,H,s,I'.reBody,hcx⟩) [] s σ H D I.toBody hbody
 refine wpAny_Try_except (wpAny_mono hB (fun f s1 q=>?_) fun e s1 q=>?_)
 ·cases f with
  |next=>obtain⟨σ1,H1,I1,q1⟩:=q;exact wpAny_execs_nil ⟨σ1,H1,I1.ofBody,q1⟩
  |brk=>obtain⟨σ1,H1,I1,q1⟩:=q;exact⟨σ1,H1,I1.ofBody,q1⟩
  |cont=>obtain⟨σ1,H1,I1,q1⟩:=q;exact⟨σ1,H1,I1.ofBody,q1⟩
  |ret v=>obtain⟨x1,σ1,H1,I1,r1,q1⟩:=q;exact⟨x1,σ1,H1,I1.ofBody,r1,q1⟩
 ·obtain⟨pins',σ',H1,s2,I2,ea,cls,a0,H',B,rfl,os,bare,fl,fw,hE⟩:=q
  obtain⟨C,rfl,hexm,hts⟩:=hhand σ' cls H' hE
  have I2':Inv X pins σ' H1 s2:=I2.ofBody
  have fr:X.A.frames=some (X.env::X.outer):=by rw[I.ok.frames,hst]
  have frees:=fly_frees I2' fl
  have fw0:=fw
  rw[hst]at fw
  have invAt:∀h',Heap.FlyingW B (X.env::X.outer) ea (.ref C) a0 h'->s1.heap.UpToSlots h'->Inv X pins σ' H' {s1 with heap:=h' }:=fun h' fw' ups=>by
   have fl2:=fl.move frees fw'.1 (fun b hb o e=>by
    obtain⟨_,o',ho',nf⟩:=fw0.2.2.1.mem hb
    rw[e]at ho';cases ho'
    exact ups b o e nf)
   exact I2'.call' (s':={s1 with heap:=h' }) os fl2.un fl2.hok bare (fun b hb=>by cases hb)
  refine wpAny_looks_onW fr hL fw fun h4 held4 up4=>?_
  refine wpAny_landsW held4 fun h5 fw5 up5=>?_
  have I5:=invAt h5 fw5 (up4.trans up5)
  have I5m:Inv (X.suite ea (X.pn++pins)) [] σ' H' {s1 with heap:=h5}:=I5.toSuite
  refine wpAny_handleBy_cons (codeAny_handlers_test (ld_glob (X:=X.suite ea (X.pn++pins)) I5m hg hm ?_ hd)) (by intro q;cases q)
  have LT:PySem.W.Looks (model X.prog X.w) h5 (typeOf (.ref ea)) (.ref C):=by
   obtain⟨ob,hob,hoc⟩:=fw5.there
   exact hoc ▸ (PySem.W.Looks.ld hob).andThen .now
  refine (PySem.W.exm_one (K:=X.K) (M:=model X.prog X.w) I5.kIn LT hexm) _ _ _ _ (fun b o e=>e) ?_
  refine codeAny_handlers_suite_as ?_
  refine lands_againW fw5 fun h6 fw6 up6=>?_
  have I6:=invAt h6 fw6 ((up4.trans up5).trans up6)
  -- the exception's object is not tracked yet
  have hne:H' ea=none:=by
   cases q:H' ea with
   |none=>rfl
   |some u=>
    have nfs:ea∉frs X.stack:=fun z=>by rw[frees ea z]at q;cases q
    obtain⟨o,ho⟩:=(fl.hok ea u q).there
    have:=fl.cov ea o ho (.inl (by rw[q];simp)) nfs
    rw[fw.2.1]at this
    cases this
  have new:ObjOk X.prog X.w (upd H' ea (excO ea C)) h6 ea (excO ea C):=by
   obtain⟨ob,hob,hoc⟩:=fw6.there
   refine⟨⟨ob,hob,hoc⟩,⟨ob,hob⟩,fun g1 g2 ⟨o1,e1,c1⟩ k=>⟨o1,k o1 e1,c1⟩⟩
  have hsz:s2.heap.get? ea=none:=by
   cases q:s2.heap.get? ea with
   |none=>rfl
   |some o=>
    by_cases z:ea∈frs X.stack
    ·obtain⟨_,o',ho',nf⟩:=fw0.2.2.1.mem z
     obtain⟨oe,vs,hoe,_,hdt,_⟩:=fw.first
     rw[ho']at hoe;cases hoe
     exact absurd hdt (nf vs)
    ·obtain⟨o',e'⟩:=fl.un.there ea o q (by simp)
     have:=fl.cov ea o' e' (.inr ⟨o,q⟩) z
     rw[fw.2.1]at this
     cases this
  have I6t:Inv X pins σ' (upd H' ea (excO ea C)) {s1 with heap:=h6}:=by
   refine⟨I6.ok,I6.os,I6.bare,?_,I6.loc,I6.cell,?_,fun x c e=>?_,fun p hp=>?_,I6.hok.track hne new,I6.len⟩
   ·-- newer than the entry
    have h0:X.s₀.heap.get? ea=none:=by
     cases q:X.s₀.heap.get? ea with
     |none=>rfl
     |some o=>
      obtain⟨o',e'⟩:=I2'.base.there ea o q (by rw[hex];simp)
      rw[hsz]at e';cases e'
    refine⟨I6.base.keep,I6.base.slot,fun b o e n hx=>?_,I6.base.there,fun b xs q=>?_,fun b ob xs q=>?_,fun b ps q=>?_⟩
    ·rw[upd_ne (fun z=>by rw[z,h0]at e;cases e)];exact I6.base.free b o e n hx
    ·have:=I6.base.tups b xs q;rw[upd_ne (ne_of_none this hne)];exact this
    ·have:=I6.base.frzs b ob xs q;rw[upd_ne (ne_of_none this hne)];exact this
    ·obtain⟨more,e⟩:=I6.base.tbls b ps q
     exact⟨more,by rw[upd_ne (ne_of_none e hne)];exact e⟩
   ·rw[upd_ne (fun z=>?_)]
    ·exact I6.free
    ·have:=I2'.lt
     obtain⟨m,⟨o,_,_,ho,_⟩,_⟩:=I2'.loc
     rw[z,hsz]at ho;cases ho
   ·rw[upd_ne (fun z=>?_)]
    ·exact I6.freeC x c e
    ·obtain⟨v,o,ho,_⟩:=I2'.cell x c e
     rw[z,hsz]at ho;cases ho
   ·obtain⟨e,n,r⟩:=I6.pin p hp
    refine⟨e,?_,r⟩
    rw[upd_ne (fun z=>?_)]
    ·exact n
    ·have:=(I2'.pin p hp).1
     rw[z,hsz]at this;cases this
  have I6m:Inv (X.suite ea (X.pn++pins)) [] σ' (upd H' ea (excO ea C)) {s1 with heap:=h6}:=I6t.toSuite
  refine store_ok (X:=X.suite ea (X.pn++pins)) I6m hN hi (.inl hn) (v:=.ref ea) rfl (fun s7 I7=>?_) (.inr hn)
  refine wpAny_mono (hs ea (X.pn++pins) [] s7 _ _ (D.un i) I7 (hts ea hne)) (fun f s8 q8=>?_) (fun _ _ z=>False.elim z)
  have hcl:(X.env.scope.kind == .class||(X.env.scope.kind == .module&&X.env.locals != X.env.globals))=false:=by rw[I.ok.kind];rfl
  have goes:∀{σ8:St} {H8:Hp},Inv (X.suite ea (X.pn++pins)) [] σ8 H8 s8->∀(R:Unit->Shared->Prop),(∀s9,Inv X pins (σ8.set i none) H8 s9->R () s9) ->
    wpAny (model X.prog X.w) X.A (do bindName X.env n .none;unbindBehindTheSuite X.env n hpos) R X.xe s8:=fun {σ8 H8} I8 R hR=>by
   have I8':Inv X pins σ8 H8 s8:=I8.ofSuite I.ok.hd
   obtain⟨m,hns,hl⟩:=I8'.loc
   exact wpAny_nameGoes_keeps hn hns hcl fun h9 v hn9 sb=>hR _ (I8'.forget hN hi hn hl hns hn9 sb)
  cases f with
  |next=>obtain⟨σ8,H8,I8,q⟩:=q8;exact goes I8 _ fun s9 I9=>⟨_,H8,I9,q⟩
  |brk=>obtain⟨σ8,H8,I8,q⟩:=q8;exact goes I8 _ fun s9 I9=>⟨_,H8,I9,q⟩
  |cont=>obtain⟨σ8,H8,I8,q⟩:=q8;exact goes I8 _ fun s9 I9=>⟨_,H8,I9,q⟩
  |ret v=>obtain⟨x8,σ8,H8,I8,r8,q⟩:=q8;exact goes I8 _ fun s9 I9=>⟨x8,_,H8,I9,r8,q⟩
theorem call_isinstE {X:Cx}:CallR X (.builtin "isinstance") (fun xs H Q=>∃ea C c cv b,xs=[.ref ea,c]/\H ea=some (excO ea C)/\ExcCls X.K C/\(∀u,RelV c u->u=cv)/\PySem.W.kitOne X.K (.ref C) cv=some b/\Q (.bl b) H):=by
 intro pins s σ H xs us Q I r h
 obtain⟨ea,C,c,cv,b,rfl,hea,hC,hc,hk,q⟩:=h
 obtain⟨u,w',rfl,rx,rc⟩:=vals2 r
 rw[hc _ rc]
 cases rx
 obtain⟨p,_,_⟩:=(show ObjOk X.prog X.w H s.heap ea (.ext (ExcAt ea C)) from I.hok ea _ hea)
 exact PySem.W.kia_one (kitx_exc hC) I.kIn p hk (fun z=>nomatch z) fun tk=>⟨.bl b,H,I.tok tk,rfl,q⟩
end L2
namespace L2
open PySem PySem.Spec PyProof.Rows
section
variable {X:Cx}
def rCatT2 (K:PySem.W.Frag):R2:=fun x y H Q=>∃a b xs ys,x=.ref a/\y=.ref b/\SqT K H a xs/\SqT K H b ys/\xs.length+ys.length<=sizeLine /\
 (xs=[]->Q (.ref b) H)/\(xs ≠ []->ys=[]->Q (.ref a) H)/\(xs ≠ []->ys ≠ []->∀p,H p=none->Q (.ref p) (upd H p (.tup (xs++ys))))
theorem op_catT2:OpR X (binaryOp .Add) (rCatT2 X.K):=by
 intro pins s σ H x y v u Q I rx ry h
 obtain⟨a,b,xs,ys,rfl,rfl,ha,hb,hz,q0,q1,q2⟩:=h
 by_cases hx:xs=[]
 ·subst hx
  cases rx
  cases ry
  obtain⟨its,r1,p1,_⟩:=I.tuple ha
  obtain⟨its2,r2,p2,_⟩:=I.tuple hb
  have:its=[]:=r1.nil_iff.mpr rfl
  subst this
  obtain⟨⟨cls,dd,data,sl⟩,ho,hc,n,hd⟩:=id p1
  obtain⟨⟨cls2,dd2,data2,sl2⟩,ho2,hc2,n2,hd2⟩:=id p2
  simp only at hc hd hc2 hd2
  subst hc hd hc2 hd2
  exact concat_meets ⟨_,ho,rfl⟩ ⟨_,ho2,rfl⟩ noFill_tuple_add seq_tuple_add PySem.F.slot_tuple_add PySem.F.entry_tuple_add (PySem.F.args_tuple_add_2 _ _)
   (PyProof.Rows.tuple_addW0 a b _ _ n n2 dd dd2 sl sl2 rfl) ⟨ho,ho2,⟨.ref b,H,I,rfl,q0 rfl⟩⟩
 ·exact op_catT pins s σ H _ _ v u Q I rx ry ⟨a,b,xs,ys,rfl,rfl,ha,hb,hx,hz,q1 hx,q2 hx⟩
end
theorem whileW {c:TT}{tb:TS}{D:Ends}{σ:St}{H:Hp}(Pv:Nat->St->Hp->Prop)(h0:∃m,Pv m σ H)
  (hs:∀m σ H,Pv m σ H->c σ H fun b H1=>if b=true then ∃N:St->Hp->Prop,(∀σ' H',N σ' H'->∃m',m'<m/\Pv m' σ' H')/\tb {D with nx:=N,ct:=N,bk:=D.nx} σ H1 else D.nx σ H1):tWhile c tb D σ H:=⟨Pv,h0,hs⟩
theorem r_slT {K:PySem.W.Frag}{H:Hp}{Q:VK}{x:V}{lo hi:Option Int}:rSlT K x lo hi H Q=∃a xs,x=.ref a/\SqT K H a xs /\
 ¬ (HT.sIx xs.length 0 lo=0/\HT.sIx xs.length xs.length hi=xs.length)/\∀p,H p=none->Q (.ref p) (upd H p (.tup (cutV xs lo hi))):=rfl
inductive TyW (K:PySem.W.Frag)(H:Hp):V->Value->Prop where
 | non:TyW K H .non (.type "NoneType")
 | bl (x:Bool):TyW K H (.bl x) (.type "bool")
 | int (i:Int):TyW K H (.int i) (.type "int")
 | str (x:Str):TyW K H (.str x) (.type "str")
 | lst {a:Addr} {xs:List V} (e:SqL K H a xs):TyW K H (.ref a) (.type "list")
 | tup {a:Addr} {xs:List V} (e:SqT K H a xs):TyW K H (.ref a) (.type "tuple")
 | exc {a C:Addr} (e:H a=some (excO a C)) (c:ExcCls K C):TyW K H (.ref a) (.ref C)
theorem call_isinstW {X:Cx}:CallR X (.builtin "isinstance") (fun xs H Q=>∃x c cv t b,xs=[x,c]/\TyW X.K H x t/\(∀u,RelV c u->u=cv)/\PySem.W.kitOne X.K t cv=some b/\Q (.bl b) H):=by
 intro pins s σ H xs us Q I r h
 obtain⟨x,c,cv,t,b,rfl,ty,hc,hk,q⟩:=h
 cases ty with
 |non=>exact call_isinst pins s σ H _ us Q I r ⟨_,c,cv,_,b,rfl,.non,hc,hk,q⟩
 |bl y=>exact call_isinst pins s σ H _ us Q I r ⟨_,c,cv,_,b,rfl,.bl y,hc,hk,q⟩
 |int y=>exact call_isinst pins s σ H _ us Q I r ⟨_,c,cv,_,b,rfl,.int y,hc,hk,q⟩
 |str y=>exact call_isinst pins s σ H _ us Q I r ⟨_,c,cv,_,b,rfl,.str y,hc,hk,q⟩
 |exc e hC=>exact call_isinstE pins s σ H _ us Q I r ⟨_,_,c,cv,b,rfl,e,hC,hc,hk,q⟩
 |@lst a xs e=>
  obtain⟨u,w',rfl,rx,rc⟩:=vals2 r
  rw[hc _ rc]
  cases rx
  obtain⟨its,_,pl,_⟩:=I.list e
  obtain⟨o,ho,hcl,_⟩:=pl.isList
  exact PySem.W.kia_one PySem.W.kitx_list I.kIn ⟨o,ho,hcl⟩ hk (fun z=>nomatch z) fun tk=>⟨.bl b,H,I.tok tk,rfl,q⟩
 |@tup a xs e=>
  obtain⟨u,w',rfl,rx,rc⟩:=vals2 r
  rw[hc _ rc]
  cases rx
  obtain⟨its,_,⟨o,ho,hcl,_⟩,_⟩:=I.tuple e
  exact PySem.W.kia_one PySem.W.kitx_tuple I.kIn ⟨o,ho,hcl⟩ hk (fun z=>nomatch z) fun tk=>⟨.bl b,H,I.tok tk,rfl,q⟩
end L2
namespace GW
def nextR (L:Int):List Int->List Int
 |[]=>[0]
 |x::r=>if x=L-1 then 0::nextR L r else (x+1)::r
def nextW (L:Int)(w:List Int):List Int:=(nextR L w.reverse).reverse
def placeR (L:Int):List Int->Int
 |[]=>0
 |x::r=>placeR L r*L+x+1
def place (L:Int)(w:List Int):Int:=placeR L w.reverse
def inW (L x:Int):Bool:=decide (0<=x)&&decide (x<L)
def isW (L:Int)(ws:List Int):Bool:=ws.all (inW L)
theorem inW_iff {L x:Int}:inW L x=true↔0<=x/\x<L:=by simp[inW]
theorem isW_iff {L:Int}{ws:List Int}:isW L ws=true ↔ ∀x∈ws,0<=x/\x<L:=by simp[isW,inW_iff]
def val (L:Int):List Int->Int
 |[]=>0
 |x::r=>val L r*L+x
end GW
namespace PySem
section
variable {prog:Program} {w:World} {A:Around} {E:Value->Shared->Prop} {s:Shared}
abbrev lsO (acc:Array Value)(c:Nat):Obj:={cls:=.type "list",dict:=none,data:=.seq acc c,slots := #[]}
def KP (wr:Addr->Prop)(h h':Heap):Prop:=∀b o,¬ wr b->h.get? b=some o->h'.get? b=some o
structure Gat (prog:Program)(w:World)(s:Shared)(r I:Addr)(T:String)(n:Nat)(wr:Addr->Prop)(J:Nat->List Value->Heap->Prop)(Fn:List Value->Heap->Prop):Prop where
 type:s.TypeIs (.ref r) T
 nl:(Value.type T==Value.type "list")=false
 nt:(Value.type T==Value.type "tuple")=false
 le:n<=sizeLine
 hint:∀(A:Around) (t:Shared) (Q:Bool->Shared->Prop) (E:Value->Shared->Prop),(∀b o,s.heap.get? b=some o->t.heap.get? b=some o)->(∀b tk,Q b {t with toks:=tk})->wpAny (model prog w) A (Builtin.List.listLengthHint (.ref r)) Q E t
 iter:∀(A:Around) (h1:Heap) (Q:Value->Shared->Prop) (E:Value->Shared->Prop),(∀b o,s.heap.get? b=some o->h1.get? b=some o)->h1.objs.size=s.heap.objs.size+1->(∀h',J 0 [] h'->(∀b o,h1.get? b=some o->h'.get? b=some o)->Q (.ref I) {s with heap:=h' })->wpAny (model prog w) A (pyIter (.ref r)) Q E {s with heap:=h1}
 next:∀(A:Around) i acc (t:Shared) (Q:Option Value->Shared->Prop) (E:Value->Shared->Prop),A.handled=none->J i acc t.heap->acc.length=i->i<=n->s.heap.objs.size<t.heap.objs.size ->
  (∀v h' tk,i<n->J (i+1) (acc++[v]) h'->KP wr t.heap h'->Q (some v) {t with heap:=h',toks:=tk})->(∀h' tk,i=n->Fn acc h'->KP wr t.heap h'->Q none {t with heap:=h',toks:=tk})->wpAny (model prog w) A (pyNext (.ref I)) Q E t
 frame:∀i acc h h',J i acc h->(∀b o,b≠s.heap.objs.size->h.get? b=some o->h'.get? b=some o)->J i acc h'
 nw:¬ wr s.heap.objs.size
variable {I r:Addr} {T:String} {n:Nat} {wr:Addr->Prop} {J:Nat->List Value->Heap->Prop} {Fn:List Value->Heap->Prop} {R:Result->Shared->Prop} {res:Value}
theorem Gat.loop (G:Gat prog w s r I T n wr J Fn)(hh:A.handled=none)
  (hR:∀h' tk acc c,Fn acc h'->acc.length=n->h'.get? s.heap.objs.size=some (lsO acc.toArray c)->KP wr s.heap h'->R (.ok (.ret res)) {s with heap:=h',toks:=tk}):
  ∀(k:Nat) (h:Heap) (tk c:Nat) (acc:List Value),n-acc.length=k->acc.length<=n->J acc.length acc h->h.get? s.heap.objs.size=some (lsO acc.toArray c)->KP wr s.heap h->codeAny (model prog w) A (.builtin "list.extend.loop" ⟨[.ref s.heap.objs.size,.ref I,res],[]⟩) R {s with heap:=h,toks:=tk}:=by
 intro k
 induction k with
 |zero=>
  intro h tk c acc hk hi j hS kp
  refine codeAny_builtin F.entry_extend_loop ?_
  rw[Around.under_plainId F.plain_extend_loop _]
  refine wpAny_bind (G.next A.in1 _ acc {s with heap:=h,toks:=tk} _ _ hh j rfl hi (Heap.lt_size hS) (fun v h' tk l=>by omega) fun h' tk e j' kk=>?_)
  exact wpAny_pure (hR h' tk acc c j' (by omega) (kk _ _ G.nw hS) fun b o m q=>kk b o m (kp b o m q))
 |succ k ih=>
  intro h tk c acc hk hi j hS kp
  refine codeAny_builtin F.entry_extend_loop ?_
  rw[Around.under_plainId F.plain_extend_loop _]
  refine wpAny_bind (G.next A.in1 _ acc {s with heap:=h,toks:=tk} _ _ hh j rfl hi (Heap.lt_size hS) (fun v h' tk l j' kk=>?_) fun h' tk e=>by omega)
  have hS':=kk _ _ G.nw hS
  have up:∀b o,b≠s.heap.objs.size->h'.get? b=some o->(h'.update s.heap.objs.size (Obj.mapSeq (·.push v))).get? b=some o:=fun b o m q=>(Heap.get?_update_other _ _ (Ne.symm m)).trans q
  have hl:(acc++[v]).length=acc.length+1:=by simp
  have:=G.le
  obtain⟨c',hS2⟩:∃c',(h'.update s.heap.objs.size (Obj.mapSeq (·.push v))).get? s.heap.objs.size=some (lsO (acc++[v]).toArray c'):=⟨_,by rw[<-List.push_toArray];exact Heap.get?_update_self _ hS' rfl⟩
  exact wpAny_bind (wpAny_updateSeq hS' rfl (wpAny_pure ⟨plainId_quiet F.plain_extend_loop _,ih _ tk c' (acc++[v]) (by omega) (by omega) (by rw[hl];exact G.frame _ _ _ _ j' up) hS2 fun b o m q=>up b o (Nat.ne_of_lt (Heap.lt_size q)) (kk b o m (kp b o m q))⟩) (by simp;omega))
theorem Gat.extend {Z:Fin->Shared->Prop}{c₀:Nat}{h1:Heap}(G:Gat prog w s r I T n wr J Fn)(hh:A.handled=none)(k1:∀b o,s.heap.get? b=some o->h1.get? b=some o)(hz:h1.objs.size=s.heap.objs.size+1)(hS:h1.get? s.heap.objs.size=some (lsO #[] c₀))
  (hZ:∀c t,c.quiet=true->codeAny (model prog w) A c R t->Z (.again c) t)
  (hR:∀h' tk acc c,Fn acc h'->acc.length=n->h'.get? s.heap.objs.size=some (lsO acc.toArray c)->KP wr s.heap h'->R (.ok (.ret res)) {s with heap:=h',toks:=tk}):
  wpAny (model prog w) A.in1 (Builtin.List.listExtendWith (.ref s.heap.objs.size) (.ref r) res) Z E {s with heap:=h1}:=by
 have hr:r<s.heap.objs.size:=let ⟨_,ho,_⟩:=G.type;Heap.lt_size ho
 have e1:Builtin.List.listSameRef (.ref s.heap.objs.size) (.ref r)=false:=by simp[Builtin.List.listSameRef,Nat.ne_of_gt hr]
 have hT:Shared.TypeIs {s with heap:=h1} (.ref r) T:=let ⟨o,ho,x⟩:=G.type;⟨o,k1 _ _ ho,x⟩
 have oth:∀(h:Heap) f b o,b≠s.heap.objs.size->h.get? b=some o->(h.update s.heap.objs.size f).get? b=some o:=fun h f b o n q=>(Heap.get?_update_other _ _ (Ne.symm n)).trans q
 have go:∀(h:Heap) c tk,J 0 [] h->h.get? s.heap.objs.size=some (lsO #[] c)->(∀b o,b≠s.heap.objs.size->h1.get? b=some o->h.get? b=some o)->Z (.again (.builtin "list.extend.loop" ⟨[.ref s.heap.objs.size,.ref I,res],[]⟩)) {s with heap:=h,toks:=tk}:=fun h c tk j q k=>
  hZ _ _ (plainId_quiet F.plain_extend_loop _) (G.loop hh hR n h tk c [] rfl (Nat.zero_le _) j q fun b o _ x=>k b o (Nat.ne_of_lt (Heap.lt_size x)) (k1 b o x))
 unfold Builtin.List.listExtendWith
 refine wpAny_bind (wpAny_typeOf hT ?_)
 simp only[e1,G.nl,G.nt,Bool.or_false,Bool.false_eq_true,if_false]
 refine wpAny_bind (G.iter A.in1 h1 _ _ k1 hz fun h' j kk=>wpAny_bind (wpAny_holding (G.hint A.in1 _ _ _ (fun b o q=>kk b o (k1 b o q)) fun bb tk=>?_)))
 have hS':=kk _ _ hS
 refine wpAny_ite_split (fun _=>?_) fun _=>wpAny_pure (go h' c₀ tk j hS' fun b o _ q=>kk b o q)
 wp_walk
 exact go _ _ tk (G.frame _ _ _ _ (G.frame _ _ _ _ j fun b o m q=>oth _ _ b o m q) fun b o m q=>oth _ _ b o m q) (Heap.get?_update_self _ (Heap.get?_update_self _ hS' rfl) rfl) fun b o m q=>oth _ _ b o m (oth _ _ b o m (kk b o q))
theorem Gat.list {Q:Value->Shared->Prop}(G:Gat prog w s r I T n wr J Fn)(hh:A.handled=none)
  (hQ:∀h' tk acc c,Fn acc h'->acc.length=n->h'.get? s.heap.objs.size=some (lsO acc.toArray c)->KP wr s.heap h'->Q (.ref s.heap.objs.size) {s with heap:=h',toks:=tk}):wpAny (model prog w) A (call (.type "list") [.ref r]) Q E s:=by
 have hS:(s.heap.push (lsO #[] 0)).get? s.heap.objs.size=some (lsO #[] 0):=Heap.get?_push_size _ rfl
 refine callType_codes (Q₁:=fun obj s₁=>obj=.ref s.heap.objs.size/\s₁={s with heap:=s.heap.push (lsO #[] 0)}) F.called_list (F.typeCall_list_1 _) F.entry_list_init (code_list_new _ ⟨rfl,rfl⟩) fun obj s₁ h₁=>?_
 obtain⟨rfl,rfl⟩:=h₁
 have oth:∀b o,s.heap.get? b=some o->((s.heap.push (lsO #[] 0)).update s.heap.objs.size (Obj.mapSeq fun _ => #[])).get? b=some o:=fun b o q=>(Heap.get?_update_other _ _ (Nat.ne_of_gt (Heap.lt_size q))).trans (Heap.get?_push_of_some _ q)
 obtain⟨c2,hS2⟩:∃c,((s.heap.push (lsO #[] 0)).update s.heap.objs.size (Obj.mapSeq fun _ => #[])).get? s.heap.objs.size=some (lsO #[] c):=⟨_,Heap.get?_update_self _ hS rfl⟩
 have hz:((s.heap.push (lsO #[] 0)).update s.heap.objs.size (Obj.mapSeq fun _ => #[])).objs.size=s.heap.objs.size+1:=by rw[Heap.size_after_update,Heap.size_push]
 refine⟨⟨_,hS,rfl⟩,F.args_list_init_2 _ _,?_⟩
 wp_walk using Gat.extend (A:=A.in1) (R:=wants (fun r s₂=>r=.none/\Q (.ref s.heap.objs.size) s₂) E) (c₀:=c2) G hh oth hz hS2
 ·exact fun _ _ a b=>⟨a,b⟩
 exact fun h' tk acc c k1 k2 k3 k4=>⟨rfl,hQ h' tk acc c k1 k2 k3 k4⟩
end
end PySem
namespace L2
open PySem PySem.Spec PyProof.Rows
theorem boot_ValueError:bootBuiltins "ValueError"=some (.type "ValueError"):=by decide +kernel
section
variable {P:Program} {w:World} {K:PySem.W.Frag} {mg:Str->Option Value} {base:Heap}
theorem Fun.okE {x qual:Str}{st:Stmt}{f:Addr}{fd:FuncData}{N ps:List Str}{k:Nat}{sp:Sp}(F:Fun K x qual st f fd)(S:FnScope N ps (defScope st))(len:∀vs H Q E,sp vs H Q E->vs.length=ps.length)
  (hbody:∀(cdv:Value) (A:Around) (outer:List Env) (s:Shared) (H:Hp) (vs:List V) (Q:VK) (E:XK),Room k (A.deeper (envOfC qual (defScope st) s.heap.objs.size f cdv))->sp vs H Q E ->
   ∃t,PSs (cxOf (CXe P w) P w K mg base N qual (defScope st) f cdv A outer s H E) (defBody st) t/\t {nx:=fun _ H'=>Q .non H',rt:=Q} (start N vs) H):FnOk P w K mg base (CXe P w) (k+1) f fd ps sp:=by
 obtain⟨oc,od,kV,doc,pm,an,cdv,ct,osl,rfl,lk,hcd⟩:=F.ex
 exact fn_of lk hcd S len fun A outer s H vs Q E hr hsp=>hbody cdv A outer s H vs Q E hr hsp
theorem passNev {X:Cx}:Passes (CXe P w) X E0:=fun _ _ _ _ _ _ _ h=>by
 obtain⟨_,_,_,_,_,_,_,_,_,_,q⟩:=h
 exact q.elim
end
section
variable {te ta tb:TE} {A:TA} {D:Ends} {σ:St} {H:Hp} {Q:VK} {K:PySem.W.Frag} {tbd ts:TS}
theorem r_cat {x y:V}:rCat x y H Q=∃l b xs zs,x=.ref l/\y=.ref b/\H l=some (.lst xs)/\H b=some (.lst zs)/\xs.length+zs.length<=sizeLine/\∀p,H p=none->Q (.ref p) (upd H p (.lst (xs++zs))):=rfl
theorem r_raise {C:Addr}{E:XK}:tRaise C E A D σ H=A σ H fun vs H1=>vs.length<=sizeLine/\E (.ref C) none H1:=rfl
theorem r_try {Ca:Addr}{i:Nat}{E:St->XK}:tTry K Ca i E tbd ts D σ H=(tbd D σ H/\∀σ' cls H',E σ' cls none H' ->
 ∃C,cls=.ref C/\PySem.W.exmOne K (.ref C) (.ref Ca)=some true/\∀ea,H' ea=none->ts (D.un i) (σ'.set i (some (.ref ea))) (upd H' ea (excO ea C))):=rfl
theorem r_unnx {i:Nat}:(Ends.un D i).nx σ H=D.nx (σ.set i none) H:=rfl
theorem r_unrt {i:Nat}{v:V}:(Ends.un D i).rt v H=D.rt v H:=rfl
end
end L2
namespace L2
open PySem PySem.Spec PyProof.Rows
theorem eqV_int (x y:Int):eqV (.int x) (.int y)=decide (V.int x=V.int y):=by
 by_cases h:x=y
 ·subst h;simp[eqV]
 ·rw[decide_eq_false (fun z=>h (by injection z))];simp[eqV,h]
theorem EqD.ints {K:PySem.W.Frag}{H:Hp}{a c:Addr}{xs ys:List Int}(hq:(SqL K H a (xs.map V.int)/\SqL K H c (ys.map V.int))\/(SqT K H a (xs.map V.int)/\SqT K H c (ys.map V.int)))(n:Nat):EqD K H (n+1) (.ref a) (.ref c) (decide (xs=ys)):=by
 have:=EqD.flat hq (fun x hx=>by obtain⟨_,_,rfl⟩:=mem_mapI hx;rfl) (fun x hx=>by obtain⟨_,_,rfl⟩:=mem_mapI hx;rfl) (fun x hx y hy=>by obtain⟨_,_,rfl⟩:=mem_mapI hx;obtain⟨_,_,rfl⟩:=mem_mapI hy;exact eqV_int _ _) n
 have e:decide (xs.map V.int=ys.map V.int)=decide (xs=ys):=by
  rw[Bool.eq_iff_iff]
  simp only[decide_eq_true_eq]
  constructor
  ·intro h
   exact (List.map_inj_right (fun a b h=>by injection h)).mp h
  ·intro h;rw[h]
 rw[e]at this
 exact this
end L2
namespace L2
open PySem PySem.Spec PyProof.Rows
section
variable {X:Cx} {K:PySem.W.Frag}
theorem ix_tupK (h:X.K=K):IxR X (rIxT K):=by subst h;exact ix_tup
end
end L2
namespace GW
def stepW (ways:List (List Int))(r x:Int):Int:=(ways.getD r.toNat []).getD x.toNat 0
def walkW (ways:List (List Int))(ws:List Int):Int:=ws.foldl (stepW ways) 0
def trailW (ways:List (List Int))(ws:List Int):List Int:=(List.range (ws.length+1)).map fun j=>walkW ways (ws.take j)
structure Wf (L:Int)(marks:List Int)(ways:List (List Int)):Prop where
 l1:1<=L
 l6:L<=6
 n1:1<=marks.length
 n40:marks.length<=40
 len:ways.length=marks.length
 rows:∀row∈ways,(row.length:Int)=L/\∀x∈row,0<=x/\x<marks.length
 mks:∀m∈marks,0<=m/\m<=1000000000
theorem stepW_of {ways:List (List Int)}{r x:Int}{row:List Int}{g:Int}(h1:ways[r.toNat]?=some row)(h2:row[x.toNat]?=some g):stepW ways r x=g:=by
 unfold stepW
 have e:ways.getD r.toNat []=row:=by rw[List.getD_eq_getElem?_getD,h1];rfl
 rw[e,List.getD_eq_getElem?_getD,h2];rfl
theorem Wf.row {L:Int}{marks:List Int}{ways:List (List Int)}(wf:Wf L marks ways){r:Int}(h0:0<=r)(h1:r<marks.length):∃row,ways[r.toNat]?=some row/\row∈ways/\(row.length:Int)=L:=by
 have hlt:r.toNat<ways.length:=by rw[wf.len];omega
 exact⟨ways[r.toNat],by simp[hlt],List.getElem_mem hlt,(wf.rows _ (List.getElem_mem hlt)).1⟩
theorem Wf.step {L:Int}{marks:List Int}{ways:List (List Int)}(wf:Wf L marks ways){r x:Int}(h0:0<=r)(h1:r<marks.length)(x0:0<=x)(x1:x<L):∃row g,ways[r.toNat]?=some row/\row[x.toNat]?=some g/\stepW ways r x=g/\0<=g/\g<marks.length:=by
 obtain⟨row,hr,hm,hl⟩:=wf.row h0 h1
 have hlt:x.toNat<row.length:=by omega
 have hg:row[x.toNat]?=some row[x.toNat]:=by simp[hlt]
 exact⟨row,row[x.toNat],hr,hg,stepW_of hr hg,(wf.rows row hm).2 _ (List.getElem_mem hlt)⟩
theorem walkW_snoc (ways:List (List Int))(ws:List Int)(x:Int):walkW ways (ws++[x])=stepW ways (walkW ways ws) x:=by
 unfold walkW
 rw[List.foldl_append];rfl
theorem walkW_take {ways:List (List Int)}{ws:List Int}{i:Nat}{x:Int}(h:ws[i]?=some x):walkW ways (ws.take (i+1))=stepW ways (walkW ways (ws.take i)) x:=by
 rw[List.take_add_one,h]
 exact walkW_snoc _ _ _
theorem Wf.walk {L:Int}{marks:List Int}{ways:List (List Int)}(wf:Wf L marks ways){ws:List Int}(hw:isW L ws=true):∀i,0<=walkW ways (ws.take i)/\walkW ways (ws.take i)<marks.length:=by
 intro i
 induction i with
 |zero=>have:=wf.n1;simp[walkW];omega
 |succ i ih=>
  cases e:ws[i]? with
  |none=>
   have hle:=List.getElem?_eq_none_iff.mp e
   rw[List.take_of_length_le (by omega)]
   rw[List.take_of_length_le hle]at ih
   exact ih
  |some x=>
   rw[walkW_take e]
   have hx:=isW_iff.mp hw x (List.mem_of_getElem? e)
   obtain⟨_,g,_,_,h,h0,h1⟩:=wf.step ih.1 ih.2 hx.1 hx.2
   rw[h];exact⟨h0,h1⟩
theorem trailW_length (ways:List (List Int))(ws:List Int):(trailW ways ws).length=ws.length+1:=by simp[trailW]
theorem trailW_get {ways:List (List Int)}{ws:List Int}{i:Nat}(h:i<=ws.length):(trailW ways ws)[i]?=some (walkW ways (ws.take i)):=by
 unfold trailW
 rw[List.getElem?_map,List.getElem?_range (by omega)];rfl
theorem trailW_last (ways:List (List Int))(ws:List Int):(trailW ways ws)[ws.length]?=some (walkW ways ws):=by
 rw[trailW_get (Nat.le_refl _),List.take_length]
end GW
namespace L2
open PySem PySem.Spec PyProof.Rows GW
def Rows (K:PySem.W.Frag)(H:Hp)(w:Addr)(ways:List (List Int)):Prop:=∃ts:List Addr,SqT K H w (ts.map V.ref)/\ts.length=ways.length/\∀(i:Nat) (t:Addr) (row:List Int),ts[i]?=some t->ways[i]?=some row->SqT K H t (row.map V.int)
def House (K:PySem.W.Frag)(H:Hp)(h:Addr)(L:Int)(marks:List Int)(ways:List (List Int)):Prop:=∃m w:Addr,SqT K H h [.int L,.ref m,.ref w]/\SqT K H m (marks.map V.int)/\Rows K H w ways
theorem Rows.mono {K:PySem.W.Frag}{H H':Hp}{w:Addr}{ways:List (List Int)}(h:Rows K H w ways)(e:Same H H'):Rows K H' w ways:=by
 obtain⟨ts,h1,h2,h3⟩:=h
 exact⟨ts,e.seqT h1,h2,fun i t r a b=>e.seqT (h3 i t r a b)⟩
theorem House.mono {K:PySem.W.Frag}{H H':Hp}{h:Addr}{L:Int}{marks:List Int}{ways:List (List Int)}(x:House K H h L marks ways)(e:Same H H'):House K H' h L marks ways:=by
 obtain⟨m,w,h1,h2,h3⟩:=x
 exact⟨m,w,e.seqT h1,e.seqT h2,h3.mono e⟩
theorem Rows.at {K:PySem.W.Frag}{H:Hp}{w:Addr}{ways:List (List Int)}(h:Rows K H w ways){i:Nat}{row:List Int}(hr:ways[i]?=some row):∃xs t,SqT K H w xs/\atI xs (i:Int)=some (V.ref t)/\SqT K H t (row.map V.int):=by
 obtain⟨ts,h1,h2,h3⟩:=h
 have hlt:i<ts.length:=by rw[h2];exact (List.getElem?_eq_some_iff.mp hr).1
 have ht:ts[i]?=some ts[i]:=by simp[hlt]
 exact⟨_,ts[i],h1,atI_nat (by rw[List.getElem?_map,ht];rfl),h3 i _ _ ht hr⟩
theorem Rows.atZ {K:PySem.W.Frag}{H:Hp}{w:Addr}{ways:List (List Int)}(h:Rows K H w ways){r:Int}{row:List Int}(h0:0<=r)(hr:ways[r.toNat]?=some row):∃xs t,SqT K H w xs/\atI xs r=some (V.ref t)/\SqT K H t (row.map V.int):=by
 obtain⟨xs,t,a,b,c⟩:=h.at hr
 exact⟨xs,t,a,by rw[<-b];congr 1;omega,c⟩
theorem atI_end {α:Type}{xs:List α}{v:α}(h:xs[xs.length-1]?=some v):atI xs (-1)=some v:=by
 have hlt:=(List.getElem?_eq_some_iff.mp h).1
 unfold atI ixN
 rw[if_neg (by omega),if_pos (by omega)]
 show xs[(-1+(xs.length:Int)).toNat]?=some v
 rw[show (-1+(xs.length:Int)).toNat=xs.length-1 by omega]
 exact h
theorem atI_int {ns:List Int}{i:Int}{v:Int}(h0:0<=i)(h:ns[i.toNat]?=some v):atI (ns.map V.int) i=some (V.int v):=atI_of h0 (by rw[List.getElem?_map,h];rfl)
end L2
namespace PySem
open Sem (wp)
open AutoSeq1 (wpAny_loadPart')
section
variable {prog:Program} {w:World} {A:Around} {E:Value->Shared->Prop} {s:Shared}
theorem newT {l:List Value}{Q:Value->Shared->Prop}(hl:l.length<=sizeLine)(h:∀h',s.heap.push {cls:=.type "tuple",data:=.seq l.toArray}=h'->Q (.ref s.heap.objs.size) {s with heap:=h' }):wpAny (model prog w) A (newTuple l) Q E s:=wpAny_newTuple (h _ rfl)
end
end PySem
namespace L2
open PySem PySem.Spec PyProof.Rows
section
variable {X:Cx} {pins:List (Addr×Obj)} {σ:St} {H:Hp} {s:Shared}
theorem Inv.un2 {h':Heap}{e it:Addr}(I:Inv X pins σ H s)(k:∀b o,b≠e->b≠it->s.heap.get? b=some o->h'.get? b=some o)(f1:FpOk X pins H e)(f2:FpOk X pins H it):Un (frs X.stack) [e,it] H H s.heap h'/\HOk X.prog X.w H h':=by
 have ne:∀b u,H b=some u->b≠e/\b≠it:=fun b u q=>⟨(fun z=>by rw[z,f1.1]at q;cases q),(fun z=>by rw[z,f2.1]at q;cases q)⟩
 have nch:∀{b:Addr},b ∉ [e,it]->b≠e/\b≠it:=fun hb=>by simpa using hb
 refine⟨⟨fun b o q _ _ hb=>k b o (nch hb).1 (nch hb).2 q,fun b o q _ _ hb=>⟨o.slots,k b o (nch hb).1 (nch hb).2 q⟩,fun _ _ _ n _=>n,fun b o q hb=>⟨o,k b o (nch hb).1 (nch hb).2 q⟩,fun _ _ q=>q,fun _ _ _ q=>q,fun b ps q=>⟨#[],by rw[q];simp⟩⟩,fun b u q=>?_⟩
 refine (I.hok b u q).stay (fun c v hc qv=>?_) (fun _ q=>q) fun _ _ q=>q
 have hne:c≠e/\c≠it:=by
  rcases hc with rfl|hc
  ·exact ne _ _ q
  ·exact ne _ _ hc
 exact k c v hne.1 hne.2 qv
theorem FpOk.ch {b:Addr}(f:FpOk X pins H b):(b∈X.ex\/X.s₀.heap.objs.size<=b)/\b≠X.env.locals/\(∀x c,X.env.cells.lookup x=some c->c≠b)/\∀p∈X.pn++pins,p.1≠b:=⟨f.2.2.2.1,f.2.1,f.2.2.2.2.1,f.2.2.2.2.2⟩
end
theorem r_gTup {K:PySem.W.Frag}{n:Nat}{t:TGs}{v:V}{σ:St}{H:Hp}{N:St->Hp->Prop}:gTup K n t v σ H N=∃a xs,v=.ref a/\SqT K H a xs/\xs.length=n/\t xs σ H N:=rfl
theorem r_gCons {t:TG}{u:TGs}{vs:List V}{σ:St}{H:Hp}{N:St->Hp->Prop}:gCons t u vs σ H N=∃v r,vs=v::r/\t v σ H fun σ' H'=>u r σ' H' N:=rfl
theorem r_gNil {vs:List V}{σ:St}{H:Hp}{N:St->Hp->Prop}:gNil vs σ H N=(vs=[]/\N σ H):=rfl
section
variable {td ty tv tx:TE} {D:Ends} {σ:St} {H:Hp} {Q:VK}
theorem r_dget:tDGet td ty σ H Q=td σ H fun x H1=>ty σ H1 fun y H2=>∃a v,x=.ref a/\DGet H2 a y (some v)/\Q v H2:=rfl
theorem r_din:tDIn ty td σ H Q=ty σ H fun y H1=>td σ H1 fun x H2=>∃a o,x=.ref a/\DGet H2 a y o/\Q (.bl o.isSome) H2:=rfl
theorem r_dput:sDPut td ty tv D σ H=tv σ H fun v H1=>td σ H1 fun x H2=>ty σ H2 fun y H3=>∃a H4,x=.ref a/\DPut H3 a y v H4/\D.nx σ H4:=rfl
theorem r_dget1:tDGet1 td ty σ H Q=td σ H fun x H1=>∃a,x=.ref a/\IsD H1 a/\ty σ H1 fun y H2=>∃o,DGet H2 a y o/\Q (o.getD .non) H2:=rfl
end
end L2
namespace GW
def addRow (w:List Int):List (Int×List Int)->Nat->List Int->List (Int×List Int)
 |ents,_,[]=>ents
 |ents,x,g::r=>addRow w (if g∈ents.map (·.1) then ents else ents++[(g,w++[(x:Int)])]) (x+1) r
def bfs (ways:List (List Int)):Nat->List (Int×List Int)->Nat->List (Int×List Int)
 |0,ents,_=>ents
 |f+1,ents,i=>match ents[i]? with
  |none=>ents
  |some e=>bfs ways f (addRow e.2 ents 0 (ways.getD e.1.toNat [])) (i+1)
def wordsIn (ways:List (List Int)):List (Int×List Int):=bfs ways (ways.length+1) [(0,[])] 0
end GW
namespace L2
open PySem PySem.Spec PyProof.Rows
def ups (n:Nat):List Int:=(List.range n).map fun i:Nat=>(i:Int)
def rNeD (K:PySem.W.Frag)(n:Nat):R2:=fun x y H Q=>∃a c b,x=.ref a/\y=.ref c/\EqD K H n x y b/\Q (.bl (!b)) H
theorem r_neD {K:PySem.W.Frag}{n:Nat}{x y:V}{H:Hp}{Q:VK}:rNeD K n x y H Q=∃a c b,x=.ref a/\y=.ref c/\EqD K H n x y b/\Q (.bl (!b)) H:=rfl
theorem op_neD {X:Cx}(n:Nat)(hu:X.A.units+n<cLine):OpR X (compareOp .NotEq) (rNeD X.K n):=by
 intro pins s σ H x y v u Q I rx ry h
 obtain⟨a,c,b,rfl,rfl,h,q⟩:=h
 cases rx
 cases ry
 cases n with
 |zero=>exact absurd (show false=true from h.1) Bool.false_ne_true
 |succ n=>
  rcases h with ⟨fx,_⟩|⟨a',c',xs,ys,e1,e2,hq,e,he,rfl⟩
  ·exact absurd (show false=true from fx) Bool.false_ne_true
  ·cases e1
   cases e2
   have key:∀(its its2:List Value),Vals xs its->Vals ys its2->∀j (h1:j<its.toArray.size) (h2:j<its2.toArray.size),SeqAt.EqAt X.A.in1 s its.toArray[j] its2.toArray[j] (e j):=fun its its2 r1 r2 j h1 h2=>by
    have l1:=r1.length
    have l2:=r2.length
    rw[List.size_toArray]at h1 h2
    obtain⟨u1,g1,q1⟩:=r1.get (i:=j) (x:=xs[j]'(by omega)) (by simp[show j<xs.length by omega])
    obtain⟨u2,g2,q2⟩:=r2.get (i:=j) (x:=ys[j]'(by omega)) (by simp[show j<ys.length by omega])
    have k1:its.toArray[j]'(by rw[List.size_toArray];exact h1)=u1:=by
     have:=(List.getElem?_eq_some_iff.mp g1).2
     simpa using this
    have k2:its2.toArray[j]'(by rw[List.size_toArray];exact h2)=u2:=by
     have:=(List.getElem?_eq_some_iff.mp g2).2
     simpa using this
    rw[k1,k2]
    exact (EqD.at I n X.A.in1 (by rw[in1_units];omega) q1 q2 (he j _ _ (by simp[show j<xs.length by omega]) (by simp[show j<ys.length by omega]))).1
   have fin:EP X pins σ Q (.bool (!(decide (xs.length=ys.length)&&(List.range (min xs.length ys.length)).all e))) s:=⟨.bl _,H,I,rfl,q⟩
   rcases hq with ⟨h1,h2⟩|⟨h1,h2⟩
   ·obtain⟨its,r1,p1,_⟩:=I.list h1
    obtain⟨its2,r2,p2,_⟩:=I.list h2
    have l1:=r1.length
    have l2:=r2.length
    by_cases hl:xs.length=ys.length
    ·have:=SeqAt.RcNeAt.lists (e:=e) p1.isList p2.isList (by rw[List.size_toArray,List.size_toArray];omega) (by omega) (key its its2 r1 r2)
     rw[List.size_toArray,<-l1]at this
     rw[decide_eq_true hl,Bool.true_and,<-hl,Nat.min_self]at fin
     exact this _ _ _ _ fin
    ·have:=SeqAt.RcNeAt.lists_lengths (A:=X.A) p1.isList p2.isList (by rw[List.size_toArray,List.size_toArray];simp;omega) (by omega)
     rw[decide_eq_false hl,Bool.false_and]at fin
     exact this _ _ _ _ fin
   ·obtain⟨its,r1,p1,_⟩:=I.tuple h1
    obtain⟨its2,r2,p2,_⟩:=I.tuple h2
    have l1:=r1.length
    have l2:=r2.length
    have:=SeqAt.RcNeAt.tuples (e:=e) (show s.heap.IsTuple a its.toArray from p1) (show s.heap.IsTuple c its2.toArray from p2) (by omega) (key its its2 r1 r2)
    rw[List.size_toArray,List.size_toArray,<-l1,<-l2,all_and]at this
    exact this _ _ _ _ fin
end L2
namespace L2
open PySem GW
def mkW (marks:List Int)(r:Int):Int:=marks.getD r.toNat 0
theorem mkW_at {marks:List Int}{r:Int}(h0:0<=r)(h1:r<marks.length):atI (marks.map V.int) r=some (V.int (mkW marks r)):=by
 have hlt:r.toNat<marks.length:=by omega
 refine atI_int h0 ?_
 unfold mkW
 rw[List.getD_eq_getElem?_getD,List.getElem?_eq_getElem hlt];rfl
end L2
namespace L2
open PySem PySem.Spec PyProof.Rows
theorem Vals.ofIx:∀{xs:List V} {us:List Value},us.length=xs.length->(∀(i:Nat) (v:Value),us[i]?=some v->∃x,xs[i]?=some x/\RelV x v)->Vals xs us
 |[],[],_,_=>.nil
 |[],_::_,h,_=>by simp at h
 |_::_,[],h,_=>by simp at h
 |x::xs,u::us,h,k=>by
  refine .cons ?_ (Vals.ofIx (by simpa using h) fun i v hv=>?_)
  ·obtain⟨y,e,r⟩:=k 0 u rfl
   cases e
   exact r
  ·obtain⟨y,e,r⟩:=k (i+1) v (by simpa using hv)
   exact⟨y,by simpa using e,r⟩
def Itm (K:PySem.W.Frag)(a:Addr)(xs:List V):It:=⟨fun i H=>i<xs.length/\SqL K H a xs,fun i H x H'=>∃t v,H t=none/\xs[i]?=some v/\x=.ref t/\H'=upd H t (.tup [.int i,v]),fun i H=>i=xs.length/\SqL K H a xs⟩
theorem turn_enumL {P:Program}{w:World}{K:PySem.W.Frag}{elts:List Expr}{x1}{tpos:Pos}(a e it:Addr)(hei:e≠it)(hai:a≠it)(hae:a≠e)(xs:List V):Turn P w K (.Tuple elts x1 tpos) (Itm K a xs) [e,it] e (fun i h=>∃old,IsEnum h e it (i:Nat) old/\h.IsListIter it a i) where
 mem:=by simp
 obj:=fun i h st b hb=>by
  obtain⟨old,h1,o,h2,c,d⟩:=st
  rcases List.mem_cons.mp hb with rfl|hb
  ·exact⟨_,h1,fun v z=>by cases z⟩
  ·rw[List.mem_singleton.mp hb]
   exact⟨o,h2,fun v z=>by rw[d]at z;cases z⟩
 keep:=fun i h h' st k=>by
  obtain⟨old,h1,h2⟩:=st
  exact⟨old,k e (by simp) _ h1,h2.at fun o q=>k it (by simp) o q⟩
 item:=by
  intro X hP hw hK hc i pins s σ H E I hf st hg
  subst hP hw hK
  obtain⟨hi,hq⟩:=hg
  obtain⟨old,he,hit⟩:=st
  obtain⟨its,rv,p,hz⟩:=I.list hq
  have hl:=rv.length
  have pt:s.heap.IsList a its.toArray:=p.isList
  have f1:=hf e (by simp)
  have f2:=hf it (by simp)
  have Dw:=Draws.list (prog:=X.prog) (w:=X.w) (A:=X.A.in1) (I.ok.hd hc) it a hai its.toArray
  refine wpAny_pyNext_enum_itemD Dw he ⟨hit,pt⟩ (by simp;omega) hei (by simp[hei,Ne.symm hae]) fun u h' tk hu heo hst' hget hsz hk=>?_
  have hT:s.heap.objs.size≠e:=Nat.ne_of_gt (Heap.lt_size he)
  refine⟨_,rfl,wpAny_letOwnedTupleGo_enum heo fun h2 he2 hs2=>?_⟩
  have hk2:∀b o,b≠e->b≠it->s.heap.get? b=some o->h2.get? b=some o:=fun b o h1 h3 q=>(hs2.2 b h1).trans (hk b o h1 h3 q)
  obtain⟨un,hok⟩:=I.un2 hk2 f1 f2
  have hn:H s.heap.objs.size=none:=I.hok.fresh (Nat.le_refl _)
  have hv:xs[i]?=some xs[i]:=by simp[hi]
  obtain⟨u',hu',ru⟩:=rv.get hv
  have eu:u'=u:=by
   have hu2:its[i]?=some u:=by simpa using hu
   rw[hu']at hu2
   exact Option.some.inj hu2
  subst eu
  have hget2:h2.get? s.heap.objs.size=some {cls:=.type "tuple",data:=.seq #[.int i tk,u']}:=(hs2.2 _ hT).trans hget
  have new:ObjOk X.prog X.w (upd H s.heap.objs.size (.tup [.int i,xs[i]])) h2 s.heap.objs.size (.tup [.int i,xs[i]]):=⟨by have:=line1000;simp;omega,[.int i tk,u'],.cons ⟨tk,rfl⟩ (.cons ru .nil),_,hget2,rfl,_,rfl⟩
  refine⟨.ref s.heap.objs.size,upd H s.heap.objs.size (.tup [.int i,xs[i]]),I.call' (s':={s with heap:=h2,toks:=tk+1}) (ch:=[e,it]) rfl (un.track (Nat.le_refl _) hn) (hok.track hn new) I.bare (fun b hb=>?_),rfl,⟨_,_,hn,hv,rfl,rfl⟩,?_,fun b hb=>?_⟩
  ·exact (hf b hb).ch
  ·refine⟨u',by simpa using he2,?_⟩
   exact hst'.1.at fun o q=>(hs2.2 it (Ne.symm hei)).trans q
  ·have hb':=hf b hb
   have:∃o,s.heap.get? b=some o:=by
    rcases List.mem_cons.mp hb with rfl|hb
    ·exact⟨_,he⟩
    ·rw[List.mem_singleton.mp hb]
     obtain⟨o,ho,_⟩:=hit
     exact⟨o,ho⟩
   obtain⟨o,ho⟩:=this
   rw[upd_ne (Nat.ne_of_lt (Heap.lt_size ho))]
   exact hb'.1
 done:=by
  intro X hP hw hK hc i pins s σ H E I hf st hg
  subst hP hw hK
  obtain⟨hi,hq⟩:=hg
  subst hi
  obtain⟨old,he,hit⟩:=st
  obtain⟨its,rv,p,hz⟩:=I.list hq
  have hl:=rv.length
  have pt:s.heap.IsList a its.toArray:=p.isList
  have Dw:=Draws.list (prog:=X.prog) (w:=X.w) (A:=X.A.in1) (I.ok.hd hc) it a hai its.toArray
  obtain⟨f0,f1,f2,f3,f4,f5⟩:=hf it (by simp)
  refine wpAny_pyNext_enum_endD Dw he ⟨by rw[List.size_toArray,<-hl];exact hit,pt⟩ fun h' eb=>⟨rfl,I.turned (t':=s.toks) (fun b o hb e=>eb b o hb e) f0 f1 f3 f4 f5⟩
 self:=fun A i s Q E st h=>by
  obtain⟨old,he,_⟩:=st
  exact wpAny_pyIter_enum he h
def iEnumL (K:PySem.W.Frag)(tl:TE):TI:=fun σ H R=>tl σ H fun x H1=>∃a xs,x=.ref a/\SqL K H1 a xs/\R (Itm K a xs) H1
theorem r_iEnumL {K:PySem.W.Frag}{te:TE}{σ:St}{H:Hp}{Z:It->Hp->Prop}:iEnumL K te σ H Z=te σ H fun x H1=>∃a xs,x=.ref a/\SqL K H1 a xs/\Z (Itm K a xs) H1:=rfl
theorem pi_enumL {X:Cx}{elts:List Expr}{x1}{tpos:Pos}{e:Expr}{te:TE}{p pos:Pos}(hg:Gl X "enumerate")(hm:X.mg "enumerate"=none)(he:PE X e te)(hs:starEach [e] X.env=[(false,eval e X.env)]:=by rfl):PI X (.Tuple elts x1 tpos) (.Call (.Name "enumerate" p) [e] [] pos) (iEnumL X.K te):=by
 intro pins s σ H R I h
 refine Call_ (ld_blt I hg hm boot_enumerate (PyProof.Rows.callWith_type1 (thn (pa_cons he pa_nil hs pos pins s σ H (fun vs H1=>∃a xs,vs=[.ref a]/\SqL X.K H1 a xs/\R (Itm X.K a xs) H1) I ?_) fun us s1 ⟨vs,H1,I1,r1,q1⟩=>?_) hs rfl))
 ·show te σ H _
  have:(fun x H1=>∃a xs,x=V.ref a/\SqL X.K H1 a xs/\R (Itm X.K a xs) H1)=(fun x H1=>tNil σ H1 fun xs H2=>∃a ys,x::xs=[V.ref a]/\SqL X.K H2 a ys/\R (Itm X.K a ys) H2):=by
   funext x H1
   simp[tNil]
  rw[<-this]
  exact h
 ·obtain⟨a,xs,rfl,hq,q⟩:=q1
  cases r1 with
  |cons r rr=>
   cases rr
   cases r
   obtain⟨its,rv,p,hz⟩:=I1.list hq
   have pt:s1.heap.IsList a its.toArray:=p.isList
   obtain⟨oa,hoa,_⟩:=id pt
   have ha:=Heap.lt_size hoa
   refine call_enumerate_list pt fun h' he' hit' hsz hk=>?_
   refine wpAny_pyIter_enum (s:={s1 with heap:=h' }) he' ?_
   have I2:Inv X pins σ H1 {s1 with heap:=h' }:=I1.kept (t':=s1.toks) hk
   refine⟨s1.heap.objs.size+1,[s1.heap.objs.size+1,s1.heap.objs.size],_,_,H1,rfl,I2,turn_enumL a (s1.heap.objs.size+1) s1.heap.objs.size (Nat.succ_ne_self _) (Nat.ne_of_lt ha) (Nat.ne_of_lt (Nat.lt_succ_of_lt ha)) xs,⟨_,he',hit'⟩,fun b hb=>?_,q⟩
   have hle:s1.heap.objs.size<=b:=by
    rcases List.mem_cons.mp hb with rfl|hb
    ·omega
    ·rw[List.mem_singleton.mp hb];exact Nat.le_refl _
   exact I1.fpOk hle (I1.hok.fresh hle)
theorem forM {K:PySem.W.Frag}{a:Addr}{xs:List V}{g:TG}{tb:TS}{D:Ends}{σ:St}{H:Hp}(Pv:Nat->St->Hp->Prop)(h0:Pv 0 σ H)(hl:∀i σ H,i<=xs.length->Pv i σ H->SqL K H a xs)
  (hs:∀i v σ H t,xs[i]?=some v->Pv i σ H->H t=none->g (.ref t) σ (upd H t (.tup [.int i,v])) fun σ2 H2=>tb {D with nx:=Pv (i+1),ct:=Pv (i+1),bk:=D.nx} σ2 H2) (hd:∀σ H,Pv xs.length σ H->D.nx σ H):ForW (Itm K a xs) g tb D σ H:=by
 refine⟨fun i m σ H=>m=xs.length-i/\i<=xs.length/\Pv i σ H,⟨xs.length,by simp,Nat.zero_le _,h0⟩,?_⟩
 rintro i m σ H ⟨rfl,hi,p⟩
 by_cases hlt:i<xs.length
 ·refine .inr ⟨⟨hlt,hl i σ H hi p⟩,Pv (i+1),fun σ' H' p'=>⟨xs.length-(i+1),by omega,rfl,hlt,p'⟩,fun x H' y=>?_⟩
  obtain⟨t,v,hn,hv,rfl,rfl⟩:=y
  exact hs i v σ H t hv p hn
 ·have e:i=xs.length:=by omega
  subst e
  exact .inl ⟨⟨rfl,hl _ σ H hi p⟩,hd σ H p⟩
theorem r_popAt {x:V}{vs:List V}{H:Hp}{Q:VK}:rPopAt x vs H Q=∃l xs i k y,x=.ref l/\vs=[.int i]/\H l=some (.lst xs) /\ -(2 ^ 63)<=i/\i<2 ^ 63/\seqIndex? i xs.length=some k/\xs[k]?=some y/\Q y (upd H l (.lst (xs.eraseIdx k))):=rfl
def rng (i j:Int):List Int:=(List.range (j-i).toNat).map fun k:Nat=>i+(k:Int)
end L2
namespace PySem
open Sem (wp)
def Heap.DEnt (h:Heap)(d:Addr)(es:Array DictEntry)(ep:Nat):Prop:=∃o,h.get? d=some o/\o.ExactDict/\o.data=.dict es ep
section
variable {prog:Program} {w:World} {A:Around} {E:Value->Shared->Prop} {s:Shared} {d it:Addr} {es:Array DictEntry} {i ep:Nat}
theorem Heap.DEnt.typeIs (h:s.heap.DEnt d es ep):s.TypeIs (.ref d) "dict" := let ⟨o,ho,hc,_⟩:=h;⟨o,ho,hc.1⟩
theorem Heap.DEnt.at {h h':Heap}(x:h.DEnt d es ep)(e:∀o,h.get? d=some o->h'.get? d=some o):h'.DEnt d es ep:=let ⟨o,ho,r⟩:=x;⟨o,e _ ho,r⟩
theorem Heap.DEnt.lt_size {h:Heap}(x:h.DEnt d es ep):d<h.objs.size:=let ⟨_,ho,_⟩:=x;Heap.lt_size ho
theorem pyIter_dent {Q:Value->Shared->Prop}(hd:(d==sysModules)=false)(hm:s.heap.DEnt d es ep)
  (hQ:Q (.ref s.heap.objs.size) {s with heap:=s.heap.push {cls:=.type "dict_keyiterator",data:=.fields #[.ref d,.int 0 0,.int es.size 0,.int ep 0]} }):wpAny (model prog w) A (pyIter (.ref d)) Q E s:=by
 have hT:=hm.typeIs
 obtain⟨o,ho,hc,hdat⟩:=id hm
 refine wpAny_pyIter_slot hT F.slot_dict_iter (wpAny_call_entry F.slot_dict_iter hT F.entry_dict_iter (?_:wpAny _ _ (Builtin.«dict.__iter__» _) _ _ s) (F.args_dict_iter_1 _))
 unfold Builtin.«dict.__iter__»;refine wpAny_bind ?_
 unfold Builtin.Dict.dictSlotNone;refine wpAny_bind (wpAny_notOrdered_dict hT ?_)
 show wpAny _ _ (pure (Value.ref d)) _ _ s;refine wpAny_pure ?_
 show wpAny _ _ (Builtin.Dict.showsAll d >>= _) _ _ s;unfold Builtin.Dict.showsAll
 rw[if_neg (fun z=>by rw[hd]at z;cases z)]
 refine wpAny_bind (wpAny_pure (wpAny_bind (wpAny_dictEntries ho hdat (wpAny_bind (wpAny_dictEpoch ho hdat ?_)))))
 refine wpAny_bind (wpAny_newObj_type (wpAny_pure ⟨_,rfl,"dict_keyiterator",_,⟨_,Heap.get?_push_size _ rfl,rfl⟩,F.slot_dict_keyiterator_next.lookup,?_⟩));simpa [rawInt] using hQ
theorem pyNext_dent_item {Q:Option Value->Shared->Prop}(hit:s.heap.IsKeyIter it d i es.size ep)(hm:s.heap.DEnt d es ep)(hlt:i<es.size)
  (hQ:∀h',h'.IsKeyIter it d (i+1) es.size ep->Heap.SameBut it s.heap h'->Q (some es[i].key) {s with heap:=h' }):wpAny (model prog w) A (pyNext (.ref it)) Q E s:=by
 obtain⟨o,ho,hc,hd⟩:=id hit
 obtain⟨od,hod,hcd,hdd⟩:=id hm
 have hown:Builtin.Dict_items.ownsTuple "dict_keyiterator"=false:=by decide
 unfold pyNext
 refine wpAny_bind (wpAny_attempt (wpAny_callSpecial?_slot (name:=Str.ofString "__next__") hit.typeIs F.slot_dict_keyiterator_next (wpAny_call_entry F.slot_dict_keyiterator_next hit.typeIs F.entry_dict_keyiterator_next ?_ (F.args_dict_keyiterator_next_1 _))))
 refine wpAny_bind (wpAny_pure (wpAny_bind (wpAny_bind ?_)))
 first|refine wpAny_bind (wpAny_typeNameOfWhole_keyiter hit.typeIs (wpAny_pure (wpAny_bind (wpAny_fieldsOf ho hd ?_))))|refine wpAny_bind (wpAny_typeNameOf_keyiter hit.typeIs (wpAny_pure (wpAny_bind (wpAny_fieldsOf ho hd ?_))))
 simp only[hown,Bool.false_eq_true,if_false];show wpAny _ _ (if (Value.ref d==Value.none)=true then _ else _) _ _ s
 rw[if_neg (show ¬ ((Value.ref d==Value.none)=true) from fun z=>Bool.false_ne_true z)]
 refine wpAny_bind (wpAny_pure (wpAny_bind (wpAny_dictEntries hod hdd ?_)))
 rw[if_neg (by simp)];refine wpAny_bind (wpAny_pure (wpAny_bind (wpAny_dictEpoch hod hdd ?_)))
 rw[if_neg (by simp)];refine wpAny_pure ?_
 simp only[show ¬ ((i:Int)<0) from by omega,if_false,Int.toNat_natCast,Array.getElem?_eq_getElem hlt];refine wpAny_bind ?_
 first|refine wpAny_bind (wpAny_typeNameOfWhole_keyiter hit.typeIs (wpAny_pure (wpAny_bind (wpAny_isOneOf_keyiter hit.typeIs ?_))))|refine wpAny_bind (wpAny_typeNameOf_keyiter hit.typeIs (wpAny_pure (wpAny_bind (wpAny_isOneOf_keyiter hit.typeIs ?_))))
 show wpAny _ _ (setField (.ref it) 1 (rawInt ((i:Int)+1)) >>= _) _ _ s;refine wpAny_bind (wpAny_setField ho hd (by simp) ?_)
 have hit':(s.heap.update it (Obj.mapFields (·.setIfInBounds 1 (rawInt ((i:Int)+1))))).IsKeyIter it d (i+1) es.size ep:=⟨_,Heap.get?_update_self _ ho (Obj.isFreed_of_fields (Obj.data_mapFields hd _)),(Obj.cls_mapFields ..).trans hc,by rw[Obj.data_mapFields hd];simp[rawInt]⟩
 refine wpAny_bind (wpAny_holding (wpAny_bind (wpAny_isOneOf_keyiter (s:={s with heap:=s.heap.update it (Obj.mapFields (·.setIfInBounds 1 (rawInt ((i:Int)+1))))}) hit'.typeIs ?_)))
 show wpAny _ _ (pure es[i].key) _ _ _;exact wpAny_pure (wpAny_pure ⟨_,rfl,wpAny_pure (hQ _ hit' (Heap.SameBut.update ..))⟩)
theorem pyNext_dent_end {Q:Option Value->Shared->Prop}(hh:A.handled=none)(hit:s.heap.IsKeyIter it d i es.size ep)(hm:s.heap.DEnt d es ep)(hge:es.size<=i)
  (hQ:∀h',Heap.ExtBut it s.heap h'->Q none {s with heap:=h' }):wpAny (model prog w) A (pyNext (.ref it)) Q E s:=by
 obtain⟨o,ho,hc,hd⟩:=id hit
 obtain⟨od,hod,hcd,hdd⟩:=id hm
 have hown:Builtin.Dict_items.ownsTuple "dict_keyiterator"=false:=by decide
 unfold pyNext
 refine wpAny_bind (wpAny_attempt (wpAny_callSpecial?_slot (name:=Str.ofString "__next__") hit.typeIs F.slot_dict_keyiterator_next (wpAny_call_entry F.slot_dict_keyiterator_next hit.typeIs F.entry_dict_keyiterator_next ?_ (F.args_dict_keyiterator_next_1 _))))
 refine wpAny_bind (wpAny_pure (wpAny_bind (wpAny_bind ?_)))
 first|refine wpAny_bind (wpAny_typeNameOfWhole_keyiter hit.typeIs (wpAny_pure (wpAny_bind (wpAny_fieldsOf ho hd ?_))))|refine wpAny_bind (wpAny_typeNameOf_keyiter hit.typeIs (wpAny_pure (wpAny_bind (wpAny_fieldsOf ho hd ?_))))
 simp only[hown,Bool.false_eq_true,if_false];show wpAny _ _ (if (Value.ref d==Value.none)=true then _ else _) _ _ s
 rw[if_neg (show ¬ ((Value.ref d==Value.none)=true) from fun z=>Bool.false_ne_true z)]
 refine wpAny_bind (wpAny_pure (wpAny_bind (wpAny_dictEntries hod hdd ?_)))
 rw[if_neg (by simp)];refine wpAny_bind (wpAny_pure (wpAny_bind (wpAny_dictEpoch hod hdd ?_)))
 rw[if_neg (by simp)];refine wpAny_pure ?_
 simp only[show ¬ ((i:Int)<0) from by omega,if_false,Int.toNat_natCast,Array.getElem?_eq_none hge];refine wpAny_bind ?_
 first|refine wpAny_bind (wpAny_typeNameOfWhole_keyiter hit.typeIs (wpAny_pure ?_))|refine wpAny_bind (wpAny_typeNameOf_keyiter hit.typeIs (wpAny_pure ?_))
 show wpAny _ _ (setField (.ref it) 0 .none >>= _) _ _ s;refine wpAny_bind (wpAny_setField ho hd (by simp) ?_)
 show wpAny _ _ (newExc (.type "StopIteration") [] >>= _) _ _ _;refine wpAny_bind ?_
 simp only[newExc,newTuple];refine wpAny_bind (wpAny_newObj_type ?_ (by size_fits))
 refine wpAny_bind (m:=firstArgMember _ _) (wpAny_of_eq (a:=Value.none) (by first|rfl|(simp only[firstArgMember];rfl)) (wpAny_newObj_type ?_ (by size_fits)))
 simp only[raiseNew];refine wpAny_bind (wpAny_handled ?_)
 rw[show A.in1.handled=none from hh];refine wpAny_bind (wpAny_pure (wpAny_throw ?_))
 refine wpAny_bind (wpAny_isInstance (T := "StopIteration") (b:=true) ⟨_,Heap.get?_push_size _ rfl,rfl⟩ isSubtype_stop (wpAny_pure (hQ _ (((Heap.SameBut.update ..).extBut.push _).push _))))
theorem Walks.dent (hh:A.handled=none)(I:Addr)(hne:d≠I):Walks prog w A I [I,d] [I] es.size (fun i v=>∃e,es[i]?=some e/\v=e.key) (fun i h=>h.IsKeyIter I d i es.size ep/\h.DEnt d es ep) where
 sub:=fun b hb=>by simp at hb;simp[hb]
 frame:=fun _ _ _ st hk=>⟨st.1.at fun o e=>hk I (by simp) o e,st.2.at fun o e=>hk d (by simp) o e⟩
 item:=fun i s Q E hi st hQ=>by
  refine pyNext_dent_item st.1 st.2 hi fun h' hit' hs'=>?_
  exact hQ _ h' s.toks ⟨es[i],by simp[hi],rfl⟩ ⟨hit',st.2.at fun o e=>hs'.extBut d o hne e⟩ fun b o hb e=>hs'.extBut b o (fun z=>hb (by simp[z])) e
 done:=fun s Q E st hQ=>pyNext_dent_end hh st.1 st.2 (Nat.le_refl _) fun h' he'=>hQ h' s.toks fun b o hb e=>he' b o (fun z=>hb (by simp[z])) e
 self:=fun _ _ _ _ st hQ=>wpAny_pyIter_keyiter st.1 hQ
theorem kdl_dent (lo:(d==sysModules)=false):PySem.W.KdlSrc prog w "dict" d d es.size (fun i v=>∃e,es[i]?=some e/\v=e.key) (fun h=>h.DEnt d es ep) where
 type:=fun _ hm=>hm.typeIs
 there:=fun _ hm=>⟨hm.lt_size,hm.lt_size⟩
 keep:=fun _ _ hm hk=>hm.at fun o e=>hk d (.inl rfl) o e
 notList:=by decide
 notTuple:=by decide
 hint:=fun _ _ _ _ hm hq=>PySem.W.kdl_hint_dict hm.typeIs hq
 iter:=fun _ _ hh hm=>⟨_,_,(fun _ _ hq=>pyIter_dent lo hm hq),Walks.dent hh _ (Nat.ne_of_lt hm.lt_size),⟨⟨_,Heap.get?_push_size _ rfl,rfl,rfl⟩,hm.at fun o e=>Heap.get?_push_of_some _ e⟩⟩
end
end PySem
namespace L2
open PySem PySem.Spec PyProof.Rows
theorem paired_get {α β:Type}{F:α->β->Prop}:∀{l:List α} {m:List β} {i:Nat} {a:α},Paired F l m->l[i]?=some a->∃b,m[i]?=some b/\F a b
 |_,_,_,_,.nil,e=>by simp at e
 |_,_,0,_,.cons r _,e=>by simp at e;subst e;exact⟨_,rfl,r⟩
 |_,_,i+1,a,.cons _ t,e=>by
  obtain⟨b,h1,h2⟩:=paired_get (i:=i) (a:=a) t (by simpa using e)
  exact⟨b,by simpa using h1,h2⟩
theorem dent_of {P:Program}{w:World}{H:Hp}{h:Heap}{a:Addr}{kvs:List (List Key×V)}(ok:HOk P w H h)(e:Rd H a (.dT kvs)):
  ∃o es ep,h.get? a=some o/\o.ExactDict/\o.data=.dict es ep/\es.size=kvs.length/\(a==sysModules)=false/\kvs.length<=sizeLine /\
   ∀(i:Nat) (k:List Key) (v:V),kvs[i]?=some (k,v)->∃b en,es[i]?=some en/\en.key=.ref b/\H b=some (.tup (k.map kV)):=by
 obtain⟨z,y,xs,r,o,es,ep,h1,h2,h3,h4,h5⟩:=(show ObjOk P w H h a (.dT kvs) from rd_of ok e)
 have hl:=Paired.length r
 have hs:es.size=kvs.length:=by rw[<-Array.length_toList,h4,List.length_map,hl]
 refine⟨o,es,ep,h1,h2,h3,hs,y,z,fun i k v hk=>?_⟩
 obtain⟨q,hq,e1,e2,_⟩:=paired_get r hk
 refine⟨q.2.1,entryOfKey (tupleKind (mixKind P w)) q,?_,rfl,e2⟩
 rw[<-Array.getElem?_toList,h4,List.getElem?_map,hq];rfl
section
variable {X:Cx} {pins:List (Addr×Obj)} {σ:St} {H:Hp} {s:Shared} {a:Addr}
theorem Inv.freeze {kvs:List (List Key×V)}{o:Obj}(I:Inv X pins σ H s)(e:H a=some (.dT kvs))(ho:s.heap.get? a=some o):Inv X pins σ (upd H a (.frz o (.dT kvs))) s:=by
 refine d_write (h':=s.heap) (t':=s.toks) I (by rw[e];exact True.intro) ⟨rfl,fun _ _=>rfl⟩ ⟨o,ho⟩ ?_
 obtain⟨z,y,xs,r,q⟩:=(show ObjOk X.prog X.w H s.heap a (.dT kvs) from I.hok a _ e)
 refine⟨ho,z,y,xs,Paired.mapP r fun p x hx=>⟨hx.1,?_,hx.2.2⟩,q⟩
 rw[upd_ne (fun z=>by have h1:=hx.2.1;rw[z,e]at h1;cases h1)]
 exact hx.2.1
end
def Itd (o:Obj)(a:Addr)(kvs:List (List Key×V)):It:=⟨fun i H=>i<kvs.length/\H a=some (.frz o (.dT kvs)),fun i H x H'=>H'=H/\∃b k v,kvs[i]?=some (k,v)/\x=.ref b/\H b=some (.tup (k.map kV)),fun i H=>kvs.length<=i/\H a=some (.frz o (.dT kvs))⟩
theorem turn_dictT {P:Program}{w:World}{K:PySem.W.Frag}{tg:Expr}{o:Obj}{a it:Addr}{kvs:List (List Key×V)}{es:Array DictEntry}{ep:Nat}(hai:a≠it)(hc:o.ExactDict)(hd:o.data=.dict es ep)(hs:es.size=kvs.length):
  Turn P w K tg (Itd o a kvs) [it] it (fun i h=>h.IsKeyIter it a i es.size ep) where
 mem:=by simp
 obj:=fun i h st b hb=>by
  have e:b=it:=by simpa using hb
  subst e
  obtain⟨o,e,c,d⟩:=st
  exact⟨o,e,fun v z=>by rw[d]at z;cases z⟩
 keep:=fun i h h' st k=>st.at fun o e=>k it (by simp) o e
 item:=by
  intro X hP hw hK hcm i pins s σ H E I hf st hg
  subst hP hw hK
  obtain⟨hi,hq⟩:=hg
  obtain⟨hko,_⟩:=(show ObjOk X.prog X.w H s.heap a (.frz o (.dT kvs)) from I.hok a _ hq)
  obtain⟨o',es',ep',g1,g2,g3,g4,g5,g6,g7⟩:=dent_of I.hok (.inr ⟨o,hq⟩)
  rw[hko]at g1
  cases g1
  rw[hd]at g3
  cases g3
  obtain⟨kv,hkv⟩:∃kv,kvs[i]?=some kv:=⟨kvs[i],by simp[hi]⟩
  obtain⟨k,v⟩:=kv
  obtain⟨b,en,e1,e2,e3⟩:=g7 i k v hkv
  obtain⟨f0,f1,f2,f3,f4,f5⟩:=hf it (by simp)
  have hlt:i<es.size:=by omega
  have ee:es[i]=en:=by rw[Array.getElem?_eq_getElem hlt]at e1;exact Option.some.inj e1
  refine pyNext_dent_item st ⟨o,hko,hc,hd⟩ hlt fun h' st' sb=>?_
  have I1:Inv X pins σ H {s with heap:=h' }:=I.turned (t':=s.toks) (fun b o hb e=>(sb.2 b hb).trans e) f0 f1 f3 f4 f5
  obtain⟨io,e,c,d⟩:=id st'
  exact⟨_,rfl,go_of (s:={s with heap:=h' }) e c d (by decide) ⟨.ref b,H,I1,(by rw[ee,e2];rfl),⟨rfl,b,k,v,hkv,rfl,e3⟩,st',fun b hb=>(hf b hb).1⟩⟩
 done:=by
  intro X hP hw hK hcm i pins s σ H E I hf st hg
  subst hP hw hK
  obtain⟨hi,hq⟩:=hg
  obtain⟨hko,_⟩:=(show ObjOk X.prog X.w H s.heap a (.frz o (.dT kvs)) from I.hok a _ hq)
  obtain⟨f0,f1,f2,f3,f4,f5⟩:=hf it (by simp)
  exact pyNext_dent_end (I.ok.hd hcm) st ⟨o,hko,hc,hd⟩ (by omega) fun h' eb=>⟨rfl,I.turned (t':=s.toks) (fun b o hb e=>eb b o hb e) f0 f1 f3 f4 f5⟩
 self:=fun _ _ _ _ _ st h=>wpAny_pyIter_keyiter st h
def iDictT (td:TE):TI:=fun σ H R=>td σ H fun x H1=>∃a kvs,x=.ref a/\H1 a=some (.dT kvs)/\∀o,R (Itd o a kvs) (upd H1 a (.frz o (.dT kvs)))
theorem r_iDictT {te:TE}{σ:St}{H:Hp}{Z:It->Hp->Prop}:iDictT te σ H Z=te σ H fun x H1=>∃a kvs,x=.ref a/\H1 a=some (.dT kvs)/\∀o,Z (Itd o a kvs) (upd H1 a (.frz o (.dT kvs))):=rfl
theorem pi_dictT {X:Cx}{tg:Expr}{l:Expr}{tl:TE}(hl:PE X l tl):PI X tg l (iDictT tl):=by
 intro pins s σ H R I h
 refine thn (hl pins s σ H _ I h) fun v s1 ⟨x,H1,I1,r1,q1⟩=>?_
 obtain⟨a,kvs,e,hq,q⟩:=q1
 subst e
 cases r1
 obtain⟨o,es,ep,g1,g2,g3,g4,g5,g6,g7⟩:=dent_of I1.hok (.inl hq)
 have I2:=I1.freeze hq g1
 refine pyIter_dent g5 ⟨o,g1,g2,g3⟩ ?_
 refine⟨s1.heap.objs.size,[s1.heap.objs.size],_,_,_,rfl,I2.kept (t':=s1.toks) fun b o e=>Heap.get?_push_of_some _ e,turn_dictT (o:=o) (kvs:=kvs) (Nat.ne_of_lt (Heap.lt_size g1)) g2 g3 g4,⟨_,Heap.get?_push_size _ rfl,rfl,rfl⟩,fun b hb=>?_,q o⟩
 have e:b=s1.heap.objs.size:=by simpa using hb
 subst e
 exact I2.fpOk (Nat.le_refl _) (I2.hok.fresh (Nat.le_refl _))
theorem forD {o:Obj}{a:Addr}{kvs:List (List Key×V)}{g:TG}{tb:TS}{D:Ends}{σ:St}{H:Hp}(Pv:Nat->St->Hp->Prop)(h0:Pv 0 σ H)(hl:∀i σ H,i<=kvs.length->Pv i σ H->H a=some (.frz o (.dT kvs)))
  (hs:∀i k v b σ H,kvs[i]?=some (k,v)->Pv i σ H->H b=some (.tup (k.map kV))->g (.ref b) σ H fun σ2 H2=>tb {D with nx:=Pv (i+1),ct:=Pv (i+1),bk:=D.nx} σ2 H2) (hd:∀σ H,Pv kvs.length σ H->D.nx σ H):ForW (Itd o a kvs) g tb D σ H:=by
 refine⟨fun i m σ H=>m+i=kvs.length/\Pv i σ H,⟨kvs.length,by omega,h0⟩,fun i m σ H ⟨hm,hp⟩=>?_⟩
 have hq:=hl i σ H (by omega) hp
 by_cases hi:i<kvs.length
 ·refine .inr ⟨⟨hi,hq⟩,Pv (i+1),fun σ' H' h=>⟨m-1,by omega,by omega,h⟩,fun x H' hy=>?_⟩
  obtain⟨rfl,b,k,v,hk,rfl,hb⟩:=hy
  exact hs i k v b σ _ hk hp hb
 ·have e:i=kvs.length:=by omega
  subst e
  exact .inl ⟨⟨Nat.le_refl _,hq⟩,hd σ H hp⟩
theorem call_list_dictT {X:Cx}(hc:X.calm=true):CallR X (.type "list") (fun xs H Q=>∃p kvs,xs=[.ref p]/\Rd H p (.dT kvs)/\∀l rs,H l=none->rs.length=kvs.length ->
  (∀(i:Nat) (k:List Key) (v:V),kvs[i]?=some (k,v)->∃b,rs[i]?=some (V.ref b)/\H b=some (.tup (k.map kV)))->Q (.ref l) (upd H l (.lst rs))):=by
 intro pins s σ H xs us Q I r h
 obtain⟨p,kvs,rfl,hp,q⟩:=h
 obtain⟨u,rfl,rx⟩:=vals1 r
 cases rx
 obtain⟨o,es,ep,g1,g2,g3,g4,g5,g6,g7⟩:=dent_of I.hok hp
 refine PySem.W.kdl_call (kdl_dent (es:=es) (ep:=ep) g5) (I.ok.hd hc) ⟨o,g1,g2,g3⟩ (by omega) fun h' tk acc' c' hk hD hacc=>?_
 let f:DictEntry->V:=fun e=>match e.key with | .ref b=>V.ref b|_=>.non
 have hat:∀(i:Nat) (k:List Key) (v:V),kvs[i]?=some (k,v)->∃b,(es.toList.map f)[i]?=some (V.ref b)/\H b=some (.tup (k.map kV)):=fun i k v hkv=>by
  obtain⟨b,en,e1,e2,e3⟩:=g7 i k v hkv
  refine⟨b,?_,e3⟩
  rw[List.getElem?_map,Array.getElem?_toList,e1]
  show some (f en)=_
  simp only[f,e2]
 have hlen:(es.toList.map f).length=kvs.length:=by rw[List.length_map,Array.length_toList,g4]
 have hv:Vals (es.toList.map f) acc'.toList:=by
  refine Vals.ofIx (by rw[hlen,<-g4];simpa using hacc.1) fun i v hv=>?_
  obtain⟨e,he,rfl⟩:=hacc.2 i v (by simpa using hv)
  have hi:i<kvs.length:=by rw[<-g4];exact (Array.getElem?_eq_some_iff.mp he).1
  obtain⟨b,en,e1,e2,e3⟩:=g7 i kvs[i].1 kvs[i].2 (by simp[hi])
  rw[he]at e1
  cases e1
  refine⟨V.ref b,?_,by rw[e2];rfl⟩
  rw[List.getElem?_map,Array.getElem?_toList,he]
  show some (f e)=_
  simp only[f,e2]
 exact⟨.ref _,_,I.laid (t':=tk) hk (Nat.le_refl _) (show ObjOk X.prog X.w _ h' _ (.lst (es.toList.map f)) from ⟨by rw[hlen];exact g6,acc'.toList,c',hv,by simpa using hD⟩),rfl,q _ _ (I.hok.fresh (Nat.le_refl _)) hlen hat⟩
end L2
namespace GB
open GW
variable {α:Type} [DecidableEq α]
def walkF (step:α->Int->α)(a:α)(ws:List Int):α:=ws.foldl step a
def put (step:α->Int->α)(r:α)(w:List Int)(ents:List (α×List Int))(x:Nat):List (α×List Int):=if step r x∈ents.map (·.1) then ents else ents++[(step r x,w++[(x:Int)])]
structure B (L:Int)(step:α->Int->α)(st:α)(ok:α->Prop)(ents:List (α×List Int))(i:Nat)(top:Int):Prop where
 hd:ents[0]?=some (st,[])
 il:i<=ents.length
 sh:∀(j:Nat) (e:α×List Int),ents[j]?=some e->e.2.length<=j
 nod:(ents.map (·.1)).Nodup
 rng:∀e∈ents,ok e.1
 wd:∀e∈ents,isW L e.2=true/\walkF step st e.2=e.1
 inc:∀(j k:Nat) (a b:α×List Int),j<k->ents[j]?=some a->ents[k]?=some b->place L a.2<place L b.2
 bnd:∀e∈ents,place L e.2<top
 don:∀j,j<i->∀e,ents[j]?=some e->∀x:Int,0<=x->x<L->∃e'∈ents,e'.1=step e.1 x/\place L e'.2<=place L (e.2++[x])
variable {L:Int} {step:α->Int->α} {st:α} {ok:α->Prop} {ents:List (α×List Int)} {i:Nat} {top:Int}
def walkR (ways:List (List Int))(r:Int)(ws:List Int):Int:=ws.foldl (stepW ways) r
theorem walkR_cons (ways:List (List Int))(r x:Int)(ws:List Int):walkR ways r (x::ws)=walkR ways (stepW ways r x) ws:=rfl
theorem walkR_snoc (ways:List (List Int))(r x:Int)(ws:List Int):walkR ways r (ws++[x])=stepW ways (walkR ways r ws) x:=by
 unfold walkR
 rw[List.foldl_append];rfl
theorem walkR_take {ways:List (List Int)}{ws:List Int}{i:Nat}{x r:Int}(h:ws[i]?=some x):walkR ways r (ws.take (i+1))=stepW ways (walkR ways r (ws.take i)) x:=by
 rw[List.take_add_one,h]
 exact walkR_snoc _ _ _ _
theorem walkR_in {L:Int}{marks:List Int}{ways:List (List Int)}(wf:Wf L marks ways):∀(ws:List Int) {r:Int},isW L ws=true->0<=r->r<marks.length->0<=walkR ways r ws/\walkR ways r ws<marks.length
 |[],r,_,h0,h1=>⟨h0,h1⟩
 |x::ws,r,hv,h0,h1=>by
  have hx:=isW_iff.mp hv x List.mem_cons_self
  obtain⟨_,g,_,_,h,g0,g1⟩:=wf.step h0 h1 hx.1 hx.2
  rw[walkR_cons,h]
  exact walkR_in wf ws (isW_iff.mpr fun y hy=>isW_iff.mp hv y (List.mem_cons_of_mem _ hy)) g0 g1
end GB
namespace L2
open PySem PySem.Spec PyProof.Rows GW GB
def TK (H H':Hp):Prop:=∀b xs,H b=some (.tup xs)->H' b=some (.tup xs)
theorem TK.refl (H:Hp):TK H H:=fun _ _ h=>h
theorem TK.of {H H':Hp}(s:Same H H'):TK H H':=fun b xs h=>s b _ h
theorem TK.trans {H H' H'':Hp}(a:TK H H')(b:TK H' H''):TK H H'':=fun c xs h=>b c xs (a c xs h)
theorem TK.new {H:Hp}{p:Addr}{o:HO}(h:H p=none):TK H (upd H p o):=TK.of (Same.new h)
theorem TK.lst {H:Hp}{p:Addr}{o:HO}{xs:List V}(h:H p=some (.lst xs)):TK H (upd H p o):=fun b ys e=>by rw[upd_ne (fun z=>by rw[z,h]at e;cases e)];exact e
theorem TK.dT {H:Hp}{p:Addr}{o:HO}{kvs:List (List Key×V)}(h:H p=some (.dT kvs)):TK H (upd H p o):=fun b ys e=>by rw[upd_ne (fun z=>by rw[z,h]at e;cases e)];exact e
end L2
namespace L2
theorem r_dnewK {σ:St}{H:Hp}{Q:VK}:tDNewK σ H Q=∀p,H p=none->Q (.ref p) (upd H p (.dK [])):=rfl
theorem r_dnewT {σ:St}{H:Hp}{Q:VK}:tDNewT σ H Q=∀p,H p=none->Q (.ref p) (upd H p (.dT [])):=rfl
end L2
namespace GB
open GW
theorem isW_take {L:Int}{w:List Int}(h:isW L w=true)(j:Nat):isW L (w.take j)=true:=isW_iff.mpr fun x hx=>isW_iff.mp h x (List.mem_of_mem_take hx)
end GB
namespace L2
open PySem PySem.Spec PyProof.Rows GW
theorem Same.none {H H':Hp}(s:Same H H'){p:Addr}(h:H' p=none):H p=none:=by
 cases e:H p with
 |none=>rfl
 |some u=>rw[s _ _ e]at h;cases h
def WordsT (K:PySem.W.Frag)(H:Hp)(xs:List V)(ws:List (List Int)):Prop:=xs.length=ws.length/\∀(i:Nat) (w:List Int),ws[i]?=some w->∃t,xs[i]?=some (.ref t)/\H t=some (.tup (w.map V.int))
theorem WordsT.nil {K:PySem.W.Frag}{H:Hp}:WordsT K H [] []:=⟨rfl,fun i w h=>by simp at h⟩
theorem WordsT.mono {K:PySem.W.Frag}{H H':Hp}{xs:List V}{ws:List (List Int)}(h:WordsT K H xs ws)(k:TK H H'):WordsT K H' xs ws:=by
 refine⟨h.1,fun i w hw=>?_⟩
 obtain⟨t,a,b⟩:=h.2 i w hw
 exact⟨t,a,k _ _ b⟩
theorem WordsT.snoc {K:PySem.W.Frag}{H:Hp}{xs:List V}{ws:List (List Int)}(h:WordsT K H xs ws){t:Addr}{w:List Int}(ht:H t=some (.tup (w.map V.int))):WordsT K H (xs++[.ref t]) (ws++[w]):=by
 refine⟨by rw[List.length_append,List.length_append,h.1];rfl,fun i v hi=>?_⟩
 by_cases hil:i<ws.length
 ·rw[List.getElem?_append_left hil]at hi
  rw[List.getElem?_append_left (by rw[h.1];exact hil)]
  exact h.2 i v hi
 ·have:=(List.getElem?_eq_some_iff.mp hi).1
  rw[List.length_append,List.length_singleton]at this
  have ei:i=ws.length:=by omega
  subst ei
  rw[List.getElem?_append_right (Nat.le_refl _),Nat.sub_self]at hi
  simp at hi
  subst hi
  refine⟨t,?_,ht⟩
  rw[List.getElem?_append_right (by rw[h.1];exact Nat.le_refl _),h.1,Nat.sub_self];rfl
theorem WordsT.at {K:PySem.W.Frag}{H:Hp}{xs:List V}{ws:List (List Int)}(h:WordsT K H xs ws){i:Nat}{x:V}(hx:xs[i]?=some x):∃t w,ws[i]?=some w/\x=.ref t/\H t=some (.tup (w.map V.int)):=by
 have hi:i<ws.length:=by rw[<-h.1];exact (List.getElem?_eq_some_iff.mp hx).1
 obtain⟨t,a,b⟩:=h.2 i ws[i] (by simp[hi])
 rw[hx]at a
 exact⟨t,ws[i],by simp[hi],Option.some.inj a,b⟩
theorem WordsT.eq {K:PySem.W.Frag}{H:Hp}{xs ys:List V}{ws:List (List Int)}{a b:Addr}(h:WordsT K H xs ws)(g:WordsT K H ys ws)(ha:SqL K H a xs)(hb:SqL K H b ys)(n:Nat):EqD K H (n+2) (.ref a) (.ref b) true:=by
 refine .inr ⟨a,b,xs,ys,rfl,rfl,.inl ⟨ha,hb⟩,fun _=>true,fun i x y hx hy=>?_,by rw[h.1,g.1];simp⟩
 obtain⟨t,w,e1,rfl,e2⟩:=h.at hx
 obtain⟨u,w',f1,rfl,f2⟩:=g.at hy
 rw[e1]at f1
 cases f1
 have:=EqD.ints (K:=K) (H:=H) (a:=t) (c:=u) (xs:=w) (ys:=w) (.inr ⟨SqT.of e2,SqT.of f2⟩) n
 rw[decide_eq_true rfl]at this
 exact this
def rInW (K:PySem.W.Frag)(neg:Bool):R2:=fun x y H Q=>∃p t xs w ws,y=.ref p/\x=.ref t/\SqL K H p xs/\WordsT K H xs ws/\SqT K H t (w.map V.int)/\Q (.bl (if neg then !decide (w∈ws) else decide (w∈ws))) H
theorem r_inW {K:PySem.W.Frag}{neg:Bool}{x y:V}{H:Hp}{Q:VK}:rInW K neg x y H Q=∃p t xs w ws,y=.ref p/\x=.ref t/\SqL K H p xs/\WordsT K H xs ws/\SqT K H t (w.map V.int)/\Q (.bl (if neg then !decide (w∈ws) else decide (w∈ws))) H:=rfl
theorem inW_core {X:Cx}{pins:List (Addr×Obj)}{σ:St}{H:Hp}{s:Shared}{p t:Addr}{xs:List V}{w:List Int}{ws:List (List Int)}(hu:X.A.units+8<cLine)(I:Inv X pins σ H s)(hp:SqL X.K H p xs)(hw:WordsT X.K H xs ws)(ht:SqT X.K H t (w.map V.int)):
  ∃(its:Array Value) (e:Value->Bool),s.heap.IsList p its/\(∀y,y∈its->SeqAt.EqAt X.A.in1 s y (.ref t) (e y))/\its.any e=decide (w∈ws):=by
 obtain⟨its,r,pl,_⟩:=I.list hp
 have hl:=r.length
 let e:Value->Bool:=fun y => @decide (∃(i:Nat) (a:Addr),y=.ref a/\xs[i]?=some (.ref a)/\ws[i]?=some w) (Classical.propDecidable _)
 have ee:∀(i:Nat) (a:Addr) (v:List Int),xs[i]?=some (.ref a)->ws[i]?=some v->e (.ref a)=decide (v=w):=fun i a v hx hv=>by
  obtain⟨a',a1,a2⟩:=hw.2 i v hv
  rw[hx]at a1
  cases a1
  rw[Bool.eq_iff_iff]
  show @decide _ (Classical.propDecidable _)=true↔_
  rw[@decide_eq_true_iff _ (Classical.propDecidable _),decide_eq_true_eq]
  constructor
  ·rintro⟨j,b,hb,hxj,hwj⟩
   cases hb
   obtain⟨b',b1,b2⟩:=hw.2 j w hwj
   rw[hxj]at b1
   cases b1
   rw[a2]at b2
   have:=Option.some.inj b2
   injection this with this
   exact (List.map_inj_right (fun x y z=>V.int.inj z)).mp this
  ·rintro rfl
   exact⟨i,a,rfl,hx,hv⟩
 refine⟨its.toArray,e,pl.isList,fun y hy=>?_,?_⟩
 ·have hy':y∈its:=by simpa using hy
  obtain⟨i,hi,ei⟩:=List.getElem_of_mem hy'
  have hix:i<xs.length:=by omega
  obtain⟨u,hu',ru⟩:=r.get (i:=i) (x:=xs[i]) (by simp[hix])
  rw[List.getElem?_eq_getElem hi,ei]at hu'
  cases hu'
  obtain⟨a,v,e1,e2,e3⟩:=hw.at (i:=i) (x:=xs[i]) (by simp[hix])
  rw[e2]at ru
  cases ru
  rw[ee i a v (by rw[List.getElem?_eq_getElem hix,e2]) e1]
  exact (EqD.at (x:=V.ref a) (y:=V.ref t) I 2 X.A.in1 (by rw[in1_units];omega) rfl rfl (EqD.ints (xs:=v) (ys:=w) (.inr ⟨SqT.of e3,ht⟩) 1)).1
 ·rw[Bool.eq_iff_iff,decide_eq_true_eq]
  rw[show its.toArray.any e=its.any e by simp,List.any_eq_true]
  constructor
  ·rintro⟨y,hy,hey⟩
   obtain⟨j,b,_,_,hwj⟩:=(@decide_eq_true_iff _ (Classical.propDecidable _)).mp hey
   exact List.mem_of_getElem? hwj
  ·intro hm
   obtain⟨i,hi,ei⟩:=List.getElem_of_mem hm
   obtain⟨a,a1,a2⟩:=hw.2 i w (by rw[List.getElem?_eq_getElem hi,ei])
   obtain⟨u,hu',ru⟩:=r.get a1
   cases ru
   refine⟨.ref a,List.mem_of_getElem? hu',?_⟩
   rw[ee i a w a1 (by rw[List.getElem?_eq_getElem hi,ei])]
   simp
theorem op_notInW {X:Cx}(hu:X.A.units+8<cLine):OpR X (compareOp .NotIn) (rInW X.K true):=by
 intro pins s σ H x y v u Q I rx ry h
 obtain⟨p,t,xs,w,ws,rfl,rfl,hp,hw,ht,q⟩:=h
 cases ry
 cases rx
 obtain⟨its,e,h1,h2,h3⟩:=inW_core hu I hp hw ht
 refine SeqAt.notIn_listAt e h1 h2 ⟨.bl _,H,I,rfl,?_⟩
 rw[h3]
 exact q
theorem rCatT2.ofS {K:PySem.W.Frag}{H:Hp}{Q:VK}{a b:Addr}{xs ys:List V}(ha:H a=some (.tup xs))(hb:H b=some (.tup ys))(hz:xs.length+ys.length<=sizeLine)(h:∀p H',Same H H'->H' p=some (.tup (xs++ys))->Q (.ref p) H'):rCatT2 K (.ref a) (.ref b) H Q:=by
 refine⟨a,b,xs,ys,rfl,rfl,SqT.of ha,SqT.of hb,hz,fun e=>?_,fun _ e=>?_,fun _ _ p hp=>h p _ (Same.new hp) upd_same⟩
 ·subst e;exact h b H (Same.refl _) (by simpa using hb)
 ·subst e;exact h a H (Same.refl _) (by simpa using ha)
end L2
namespace GW
def ins (s:List (List Int))(w:List Int):List (List Int):=if w∈s then s else s++[w]
theorem ins_len (s:List (List Int))(w:List Int):(ins s w).length<=s.length+1:=by
 unfold ins;split
 ·omega
 ·simp
theorem insAll_len:∀(l s:List (List Int)),(l.foldl ins s).length<=s.length+l.length
 |[],s=>by simp
 |w::l,s=>by
  have h1:=insAll_len l (ins s w)
  have h2:=ins_len s w
  rw[List.foldl_cons,List.length_cons];omega
def extW (n:Nat)(w:List Int):List (List Int):=(List.range n).map fun x:Nat=>w++[(x:Int)]
def rowsW (n:Nat)(acc:List (List Int)):List (List Int):=(acc.flatMap (extW n)).foldl ins (acc.foldl ins [])
def cellsW (rows ends:List (List Int)):List (List Int):=(rows.flatMap fun r=>ends.map (r ++ ·)).foldl ins []
end GW
namespace L2
open PySem PySem.Spec PyProof.Rows GW
def wkey (w:List Int):List Key:=w.map Sum.inl
theorem wkey_kV (w:List Int):(wkey w).map kV=w.map V.int:=by unfold wkey;rw[List.map_map];rfl
theorem wkey_inj {v w:List Int}(h:wkey v=wkey w):v=w:=(List.map_inj_right (fun x y z=>Sum.inl.inj z)).mp h
def KeysW (ws:List (List Int))(kvs:List (List Key×V)):Prop:=kvs.map (·.1)=ws.map wkey
theorem KeysW.len {ws:List (List Int)}{kvs:List (List Key×V)}(h:KeysW ws kvs):kvs.length=ws.length:=by
 have:=congrArg List.length h
 simpa using this
theorem KeysW.some_iff {ws:List (List Int)}{kvs:List (List Key×V)}(h:KeysW ws kvs)(w:List Int):(valV kvs (wkey w)).isSome=decide (w∈ws):=by
 rw[<-valV_any,Bool.eq_iff_iff,decide_eq_true_eq,List.any_eq_true]
 constructor
 ·rintro⟨kv,hkv,e⟩
  have e:=of_decide_eq_true e
  have:wkey w∈ws.map wkey:=by rw[<-h,<-e];exact List.mem_map.mpr ⟨kv,hkv,rfl⟩
  obtain⟨q,hq,e2⟩:=List.mem_map.mp this
  exact wkey_inj e2 ▸ hq
 ·intro hw
  have:wkey w∈kvs.map (·.1):=by rw[h];exact List.mem_map.mpr ⟨w,hw,rfl⟩
  obtain⟨kv,hkv,e⟩:=List.mem_map.mp this
  exact⟨kv,hkv,decide_eq_true e⟩
theorem KeysW.put {ws:List (List Int)}{kvs:List (List Key×V)}(h:KeysW ws kvs)(w:List Int)(v:V):KeysW (ins ws w) (putK kvs (wkey w) v):=by
 have hs:=h.some_iff w
 unfold putK ins
 rw[valV_any,hs]
 by_cases hw:w∈ws
 ·rw[if_pos hw,if_pos (show decide (w∈ws)=true from decide_eq_true hw)]
  unfold KeysW
  rw[<-h,List.map_map]
  refine List.map_congr_left fun kv _=>?_
  show (if kv.1=wkey w then (kv.1,v) else kv).1=kv.1
  split<;>rfl
 ·rw[if_neg hw,if_neg (show ¬ decide (w∈ws)=true by simp[hw])]
  unfold KeysW
  rw[List.map_append,List.map_append,h];rfl
theorem KeysW.nil:KeysW [] []:=rfl
theorem KeysW.words {K:PySem.W.Frag}{H:Hp}{ws:List (List Int)}{kvs:List (List Key×V)}{rs:List V}(h:KeysW ws kvs)(hl:rs.length=kvs.length)(hr:∀(i:Nat) (k:List Key) (v:V),kvs[i]?=some (k,v)->∃b,rs[i]?=some (V.ref b)/\H b=some (.tup (k.map kV))):WordsT K H rs ws:=by
 refine⟨by rw[hl,h.len],fun i w hw=>?_⟩
 have hi:i<kvs.length:=by rw[h.len];exact (List.getElem?_eq_some_iff.mp hw).1
 have e:(kvs.map (·.1))[i]?=some (wkey w):=by rw[h,List.getElem?_map,hw];rfl
 rw[List.getElem?_map,List.getElem?_eq_getElem hi]at e
 have e:kvs[i].1=wkey w:=Option.some.inj e
 obtain⟨b,b1,b2⟩:=hr i kvs[i].1 kvs[i].2 (by simp[hi])
 exact⟨b,b1,by rw[b2,e,wkey_kV]⟩
end L2
namespace PySem.W
open PySem PySem.Calls PyProof.Rows PyProof.V PySem.Spec
section
variable {prog:Program} {w:World} {A:Around} {E:Value->Shared->Prop} {s:Shared}
abbrev itO (x:Value)(f:Bool)(d:Addr)(i n ep:Nat)(ok ov:Value):Obj:={cls:=.type "dict_itemiterator",dict:=none,data:=.fields #[x,.bool f,.ref d,.int i 0,.int n 0,.int ep 0,ok,ov],slots := #[]}
abbrev tpO (e:DictEntry):Obj:={cls:=.type "tuple",data:=.seq #[e.key,e.val]}
theorem itm_pair {it d:Addr}{i n ep:Nat}{x:Value}{f:Bool}{ok ov:Value}{e:DictEntry}{Q:Value->Shared->Prop}(g1:s.heap.get? it=some (itO x f d i n ep ok ov))
  (hx:x=.none \/ ∃a:Addr,∃o,x=rawInt a/\s.heap.get? a=some o/\a≠it)
  (hQ:∀h' x' f' ok' ov',h'.get? it=some (itO x' f' d i n ep ok' ov')->(x=.none->x'=rawInt s.heap.objs.size/\f'=false/\ok'=e.key/\ov'=e.val)->(x ≠ .none->x'=x)->h'.get? s.heap.objs.size=some (tpO e)->h'.objs.size=s.heap.objs.size+1->(∀b o,b≠it->s.heap.get? b=some o->h'.get? b=some o) ->
   Q (.ref s.heap.objs.size) {s with heap:=h' }):wpAny (model prog w) A (Builtin.Dict_items.pairFromOwner (.ref it) 6 e.key e.val) Q E s:=by
 have hl:=Heap.lt_size g1
 obtain⟨hp,gs,dr,tk,os⟩:=s
 wp_walk using newT
 ·show 2<=sizeLine;decide
 intro h2 g
 have k2:∀b o,hp.get? b=some o->h2.get? b=some o:=fun b o q=>by rw[<-g];exact Heap.get?_push_of_some _ q
 have g2:=k2 it _ g1
 have g0:h2.get? hp.objs.size=some (tpO e):=by rw[<-g];exact Heap.get?_push_size _ rfl
 have gz:h2.objs.size=hp.objs.size+1:=by rw[<-g];exact Heap.size_push ..
 rcases hx with rfl|⟨a,o,rfl,ha,hne⟩
 ·(wp_walk using wpAny_setField_rec g2;(focus simp);intro _ g3 k3)
  (wp_walk using wpAny_setField_rec g3;(focus simp);intro _ g4 k4)
  (wp_walk using wpAny_setField_rec g4;(focus simp);intro _ g5 k5)
  (wp_walk using wpAny_setField_rec g5;(focus simp);intro _ g6 k6)
  wp_walk
  have kk:=((k3.extBut.trans k4.extBut).trans k5.extBut).trans k6.extBut
  exact hQ _ _ _ _ _ g6 (fun _=>⟨rfl,rfl,rfl,rfl⟩) (fun z=>absurd rfl z) (kk _ _ (Nat.ne_of_gt hl) g0) ((k6.1.trans (k5.1.trans (k4.1.trans k3.1))).trans gz) fun b o n q=>kk b o n (k2 b o q)
 ·have g7:=k2 a o ha
  have e:((a:Int)).toNat=a:=Int.toNat_natCast a
  wp_walk
  refine kdx_alive (a:=(a:Int).toNat) (by rw[e];exact g7) ?_
  cases f
  ·(wp_walk using wpAny_setField_rec g2;(focus simp);intro _ g3 k3)
   wp_walk
   exact hQ _ _ _ _ _ g3 (fun z=>by cases z) (fun _=>rfl) (k3.extBut _ _ (Nat.ne_of_gt hl) g0) (k3.1.trans gz) fun b o n q=>k3.extBut b o n (k2 b o q)
  ·wp_walk
   exact hQ _ _ _ _ _ g2 (fun z=>by cases z) (fun _=>rfl) g0 gz fun b o n q=>k2 b o q
theorem itm {it d:Addr}{i ep:Nat}{es:Array DictEntry}{od:Obj}{x:Value}{f:Bool}{ok ov:Value}{Q:Option Value->Shared->Prop}(hh:A.handled=none)(hit:s.heap.get? it=some (itO x f d i es.size ep ok ov))
  (hod:s.heap.get? d=some od) (hdd:od.data=.dict es ep) (hx:x=.none \/ ∃a:Addr,∃o,x=rawInt a/\s.heap.get? a=some o/\a≠it)
  (hQ:∀e h' x' f' ok' ov',es[i]?=some e->h'.get? it=some (itO x' f' d (i+1) es.size ep ok' ov')->(x=.none->x'=rawInt s.heap.objs.size/\f'=false/\ok'=e.key/\ov'=e.val)->(x ≠ .none->x'=x)->h'.get? s.heap.objs.size=some (tpO e)->h'.objs.size=s.heap.objs.size+1->(∀b o,b≠it->s.heap.get? b=some o->h'.get? b=some o) ->
   Q (some (.ref s.heap.objs.size)) {s with heap:=h' })
  (hN:es[i]?=none->∀h',Heap.ExtBut it s.heap h'->Q none {s with heap:=h' }):wpAny (model prog w) A (pyNext (.ref it)) Q E s:=by
 have hT:s.TypeIs (.ref it) "dict_itemiterator" := ⟨_,hit,rfl⟩
 have e1:=PySem.F.slot_dict_itemiterator_next
 have h1:A.in1.handled=none:=hh
 obtain⟨c,dc,da,sl⟩:=od
 replace hdd:da=_:=hdd
 subst hdd
 unfold pyNext
 refine wpAny_bind (wpAny_attempt (wpAny_callSpecial?_slot hT e1 (wpAny_call_entry e1 hT PySem.F.entry_dict_itemiterator_next ?_ (PySem.F.args_dict_itemiterator_next_1 _))))
 wp_walk using wpAny_typeNameOfWhole_itemiter hT,wpAny_fieldsOf hit rfl
 cases hi:es[i]? with
 |some e=>
  simp only[show ¬ ((i:Int)<0) from by omega,if_false,Int.toNat_natCast,hi]
  wp_walk using wpAny_typeNameOfWhole_itemiter hT,wpAny_isOneOf_itemiter hT,wpAny_setField_rec hit
  ·exact Nat.lt_of_sub_eq_succ rfl
  intro h1 g1 k1
  replace g1:h1.get? it=some (itO x f d (i+1) es.size ep ok ov):=g1
  have hT1:Shared.TypeIs {s with heap:=h1} (.ref it) "dict_itemiterator" := ⟨_,g1,rfl⟩
  have z1:h1.objs.size=s.heap.objs.size:=k1.1
  wp_walk using wpAny_isOneOf_itemiter hT1,itm_pair g1
  ·rcases hx with hx|⟨a,o,hx,ha,n⟩
   ·exact .inl hx
   ·exact .inr ⟨a,o,hx,k1.extBut a o n ha,n⟩
  intro h' x' f' ok' ov' q1 q2 q3 q4 q5 q6
  wp_walk
  simp only[z1]at q2 q4 q5 ⊢
  exact⟨_,rfl,wpAny_pure (hQ e h' x' f' ok' ov' hi q1 q2 q3 q4 q5 fun b o n q=>q6 b o n (k1.extBut b o n q))⟩
 |none=>
  simp only[show ¬ ((i:Int)<0) from by omega,if_false,Int.toNat_natCast,hi]
  wp_walk using wpAny_typeNameOfWhole_itemiter hT,wpAny_setField_rec hit
  ·exact Nat.lt_of_sub_eq_succ rfl
  intro h1 g1 k1
  wp_walk
  exact wpAny_raiseNew_none hh (wpAny_bind (wpAny_isInstance (T := "StopIteration") (b:=true) ⟨_,Heap.get?_push_size _ rfl,rfl⟩ isSubtype_stop (wpAny_pure (hN hi _ ((k1.extBut.push _).push _)))))
def ItS (h:Heap)(it d S:Addr)(i n ep:Nat):Prop:=∃x f ok ov,h.get? it=some (itO x f d i n ep ok ov)/\(x=.none \/ ∃a:Addr,∃o,x=rawInt a/\h.get? a=some o/\a≠it/\a≠S)
theorem ItS.keep {h h':Heap}{it d S:Addr}{i n ep:Nat}(x:ItS h it d S i n ep)(hS:it≠S)(k:∀b o,b≠S->h.get? b=some o->h'.get? b=some o):ItS h' it d S i n ep:=by
 obtain⟨x,f,ok,ov,e,r⟩:=x
 refine⟨x,f,ok,ov,k _ _ hS e,r.imp_right ?_⟩
 rintro⟨a,o,e1,e2,e3,e4⟩
 exact⟨a,o,e1,k _ _ e4 e2,e3,e4⟩
theorem its {it d S:Addr}{i ep:Nat}{es:Array DictEntry}{od:Obj}{Q:Option Value->Shared->Prop}(hh:A.handled=none)(st:ItS s.heap it d S i es.size ep)(hS:S<s.heap.objs.size)(hod:s.heap.get? d=some od)(hdd:od.data=.dict es ep)
  (hQ:∀e h',es[i]?=some e->ItS h' it d S (i+1) es.size ep->h'.get? s.heap.objs.size=some (tpO e)->h'.objs.size=s.heap.objs.size+1->(∀b o,b≠it->s.heap.get? b=some o->h'.get? b=some o)->Q (some (.ref s.heap.objs.size)) {s with heap:=h' })
  (hN:es[i]?=none->∀h',Heap.ExtBut it s.heap h'->Q none {s with heap:=h' }):wpAny (model prog w) A (pyNext (.ref it)) Q E s:=by
 obtain⟨x,f,ok,ov,hit,hx⟩:=st
 refine itm hh hit hod hdd (hx.imp_right fun ⟨a,o,e1,e2,e3,_⟩=>⟨a,o,e1,e2,e3⟩) (fun e h' x' f' ok' ov' q0 q1 q2 q3 q4 q5 q6=>hQ e h' q0 ⟨x',f',ok',ov',q1,?_⟩ q4 q5 q6) hN
 rcases hx with rfl|⟨a,o,rfl,e2,e3,e4⟩
 ·exact .inr ⟨_,_,(q2 rfl).1,q4,Nat.ne_of_gt (Heap.lt_size hit),Nat.ne_of_gt hS⟩
 ·exact .inr ⟨a,o,q3 (fun z=>by cases z),q6 a o e3 e2,e3,e4⟩
def Tps (es:Array DictEntry)(lo:Addr)(h:Heap)(as:List Addr):Prop:=as.Pairwise (· < ·)/\∀(j:Nat) a,as[j]?=some a->lo<a/\∃e,es[j]?=some e/\h.get? a=some (tpO e)
theorem Tps.low {es:Array DictEntry}{lo lo':Addr}{h:Heap}{as:List Addr}(g:Tps es lo h as)(l:lo'<=lo):Tps es lo' h as:=⟨g.1,fun j a e=>⟨Nat.lt_of_le_of_lt l (g.2 j a e).1,(g.2 j a e).2⟩⟩
theorem Tps.keep {es:Array DictEntry}{lo:Addr}{h h':Heap}{as:List Addr}(g:Tps es lo h as)(k:∀b o,lo<b->h.get? b=some o->h'.get? b=some o):Tps es lo h' as:=⟨g.1,fun j a q=>let ⟨l,e,e1,e2⟩:=g.2 j a q;⟨l,e,e1,k a _ l e2⟩⟩
theorem Tps.snoc {es:Array DictEntry}{lo b:Addr}{h:Heap}{as:List Addr}{e:DictEntry}(g:Tps es lo h as)(hl:lo<b)(hb:∀a o,h.get? a=some o->a∈as->a<b)(he:es[as.length]?=some e)(ht:h.get? b=some (tpO e)):Tps es lo h (as++[b]):=by
 refine⟨List.pairwise_append.mpr ⟨g.1,List.pairwise_singleton _ _,fun a ha c hc=>?_⟩,fun j a q=>?_⟩
 ·obtain⟨j,hj⟩:=List.mem_iff_getElem?.mp ha
  obtain⟨_,e,_,e2⟩:=g.2 j a hj
  rw[List.mem_singleton.mp hc]
  exact hb a _ e2 ha
 ·rcases Nat.lt_or_ge j as.length with l|l
  ·rw[List.getElem?_append_left l]at q
   exact g.2 j a q
  ·rw[List.getElem?_append_right l]at q
   obtain⟨z,rfl⟩:j-as.length=0/\a=b:=by
    cases hz:j-as.length with
    |zero=>rw[hz]at q;exact⟨rfl,by simpa using q.symm⟩
    |succ n=>rw[hz]at q;simp at q
   obtain rfl:j=as.length:=by omega
   exact⟨hl,e,he,ht⟩
end
section
variable {prog:Program} {w:World} {A:Around} {E:Value->Shared->Prop} {s:Shared} {r d:Addr} {es:Array DictEntry} {ep:Nat} {od:Obj}
theorem itm_iter {v:Addr}{Q:Value->Shared->Prop}(hv:s.heap.IsItemsView v d)(hod:s.heap.get? d=some od)(hdd:od.data=.dict es ep)
  (h:Q (.ref s.heap.objs.size) {s with heap:=s.heap.push (itO .none false d 0 es.size ep .none .none)}):wpAny (model prog w) A (pyIter (.ref v)) Q E s:=by
 have hT:=hv.typeIs
 obtain⟨⟨c1,d1,a1,s1⟩,hv1,hc,hv2⟩:=hv
 replace hv2:a1=_:=hv2
 obtain⟨c,dc,da,sl⟩:=od
 replace hdd:da=_:=hdd
 subst hdd hv2
 have e1:=PySem.F.slot_dict_items_iter
 refine wpAny_pyIter_slot hT e1 (wpAny_call_entry e1 hT PySem.F.entry_dict_items_iter ?_ (PySem.F.args_dict_items_iter_1 _))
 wp_walk
 exact⟨_,rfl,_,_,⟨_,Heap.get?_push_size _ rfl,rfl⟩,PySem.F.slot_dict_itemiterator_next.lookup,h⟩
theorem itm_gat (hv:s.heap.IsItemsView r d)(hod:s.heap.get? d=some od)(hdd:od.data=.dict es ep)(hn:es.size<=sizeLine):
  Gat prog w s r (s.heap.objs.size+1) "dict_items" es.size (· = s.heap.objs.size+1) (fun i acc h=>∃as,acc=as.map Value.ref/\as.length=i/\Tps es (s.heap.objs.size+1) h as/\ItS h (s.heap.objs.size+1) d s.heap.objs.size i es.size ep/\h.get? d=some od) (fun acc h=>∃as,acc=as.map Value.ref/\as.length=es.size/\Tps es s.heap.objs.size h as) where
 type:=hv.typeIs
 nl:=by decide
 nt:=by decide
 le:=hn
 hint:=fun A t Q E k q=>kdx_hint (let ⟨o,ho,hc,_⟩:=hv;⟨o,k _ o ho,hc⟩) (q false t.toks)
 iter:=fun A h1 Q E k z q=>by
  refine itm_iter (s:={s with heap:=h1}) (let ⟨o,ho,x⟩:=hv;⟨o,k _ o ho,x⟩) (k d od hod) hdd ?_
  show Q (.ref h1.objs.size) _
  rw[z]
  refine q _ ⟨[],rfl,rfl,⟨.nil,fun j a e=>by simp at e⟩,⟨.none,false,.none,.none,?_,.inl rfl⟩,Heap.get?_push_of_some _ (k d od hod)⟩ fun b o e=>Heap.get?_push_of_some _ e
  rw[<-z]
  exact Heap.get?_push_size _ rfl
 next:=fun A i acc t Q E hh j hl hi lt q1 q2=>by
  obtain⟨as,rfl,h2,h3,h4,h5⟩:=j
  have li:s.heap.objs.size+1<t.heap.objs.size:=let ⟨_,_,_,_,e,_⟩:=h4;Heap.lt_size e
  have kp:∀h':Heap,(∀b o,b≠s.heap.objs.size+1->t.heap.get? b=some o->h'.get? b=some o)->h'.get? d=some od:=fun h' k=>k d od (Nat.ne_of_lt (Nat.lt_succ_of_lt (Heap.lt_size hod))) h5
  refine its hh h4 lt h5 hdd (fun e h' e1 st ht hz k=>?_) fun e h' x=>q2 h' t.toks (by have:=Array.getElem?_eq_none_iff.mp e;omega) ⟨as,rfl,by have:=Array.getElem?_eq_none_iff.mp e;omega,(h3.keep fun b o l q=>x b o (Nat.ne_of_gt l) q).low (Nat.le_succ _)⟩ fun b o n q=>x b o n q
  have h3':=h3.keep fun b o l q=>k b o (Nat.ne_of_gt l) q
  refine q1 _ h' t.toks (Array.getElem?_eq_some_iff.mp e1).1 ⟨as++[t.heap.objs.size],by simp,by simp[h2],h3'.snoc li (fun a o _ m=>?_) (by rw[h2];exact e1) ht,st,kp h' k⟩ fun b o n q=>k b o n q
  obtain⟨j,hj⟩:=List.mem_iff_getElem?.mp m
  obtain⟨_,_,_,e2⟩:=h3.2 j a hj
  exact Heap.lt_size e2
 frame:=fun i acc h h' ⟨as,h1,h2,h3,h4,h5⟩ k=>⟨as,h1,h2,h3.keep fun b o l q=>k b o (Nat.ne_of_gt (Nat.lt_trans (Nat.lt_succ_self _) l)) q,h4.keep (Nat.ne_of_gt (Nat.lt_succ_self _)) k,k d od (Nat.ne_of_lt (Heap.lt_size hod)) h5⟩
 nw:=fun z=>absurd z (Nat.ne_of_lt (Nat.lt_succ_self _))
theorem itm_list {Q:Value->Shared->Prop}(hh:A.handled=none)(hv:s.heap.IsItemsView r d)(hod:s.heap.get? d=some od)(hdd:od.data=.dict es ep)(hn:es.size<=sizeLine)
  (hQ:∀h' tk acc c as,(∀b o,s.heap.get? b=some o->h'.get? b=some o)->h'.get? s.heap.objs.size=some (lsO acc c)->as.length=es.size->Tps es s.heap.objs.size h' as->acc.toList=as.map Value.ref->Q (.ref s.heap.objs.size) {s with heap:=h',toks:=tk}):
  wpAny (model prog w) A (call (.type "list") [.ref r]) Q E s:=
 (itm_gat hv hod hdd hn).list hh fun h' tk acc c ⟨as,f1,f2,f3⟩ _ k3 k4=>hQ h' tk acc.toArray c as (fun b o q=>k4 b o (Nat.ne_of_lt (Nat.lt_succ_of_lt (Heap.lt_size q))) q) k3 f2 f3 (by simpa using f1)
end
end PySem.W
namespace L2
open PySem PySem.Spec PyProof.Rows
theorem dent_of2 {P:Program}{w:World}{H:Hp}{h:Heap}{a:Addr}{kvs:List (List Key×V)}(ok:HOk P w H h)(e:Rd H a (.dT kvs)):
  ∃o es ep,h.get? a=some o/\o.ExactDict/\o.data=.dict es ep/\es.size=kvs.length/\(a==sysModules)=false/\kvs.length<=sizeLine /\
   ∀(i:Nat) (k:List Key) (v:V),kvs[i]?=some (k,v)->∃b en,es[i]?=some en/\en.key=.ref b/\H b=some (.tup (k.map kV))/\RelV v en.val:=by
 obtain⟨z,y,xs,r,o,es,ep,h1,h2,h3,h4,h5⟩:=(show ObjOk P w H h a (.dT kvs) from rd_of ok e)
 have hl:=Paired.length r
 have hs:es.size=kvs.length:=by rw[<-Array.length_toList,h4,List.length_map,hl]
 refine⟨o,es,ep,h1,h2,h3,hs,y,z,fun i k v hk=>?_⟩
 obtain⟨q,hq,e1,e2,e3⟩:=paired_get r hk
 refine⟨q.2.1,entryOfKey (tupleKind (mixKind P w)) q,?_,rfl,e2,e3⟩
 rw[<-Array.getElem?_toList,h4,List.getElem?_map,hq];rfl
def viewO (v d:Addr):HO:=.ext (fun h=>h.IsItemsView v d)
def tItems (td:TE):TE:=fun σ H Q=>td σ H fun x H1=>∃d kvs,x=.ref d/\Rd H1 d (.dT kvs)/\∀v,H1 v=none->Q (.ref v) (upd H1 v (viewO v d))
theorem r_items {td:TE}{σ:St}{H:Hp}{Q:VK}:tItems td σ H Q=td σ H fun x H1=>∃d kvs,x=.ref d/\Rd H1 d (.dT kvs)/\∀v,H1 v=none->Q (.ref v) (upd H1 v (viewO v d)):=rfl
theorem pe_items {X:Cx}{o:Expr}{td:TE}{apos cpos:Pos}(ho:PE X o td)(hbase:attributeBase o "items" X.env (eval o X.env)=eval o X.env:=by rfl)(hline:(apos.endLine==cpos.line)=true:=by rfl):PE X (.Call (.Attribute o "items" apos) [] [] cpos) (tItems td):=by
 intro pins s σ H Q I h
 refine wpAny_Call_method0_late hbase hline (thn (ho pins s σ H _ I h) fun v s1 ⟨x,H1,I1,r1,d,kvs,ex,hd,q⟩=>?_)
 subst ex
 obtain rfl:v=Value.ref d:=r1
 obtain⟨od,es,ep,g1,g2,g3,g4,g5,g6,g7⟩:=dent_of2 I1.hok hd
 have hT:s1.TypeIs (.ref d) "dict" := ⟨od,g1,g2.1⟩
 refine⟨"dict","dict.items",PySem.F.plainAttrs_dict,PySem.F.slot_dict_items,PySem.F.type_dict_items,hT,fun b e=>?_,Calls.callWith_builtin rfl (PySem.evalArgs_none ?_)⟩
 ·cases e
  exact⟨od,g1,g2.2.1⟩
 refine wpAny_call_entry PySem.F.slot_dict_items hT PySem.F.entry_dict_items (?_:wpAny _ _ (Builtin.«dict.items» _) _ _ s1) (PySem.F.args_dict_items_1 _)
 unfold Builtin.«dict.items»
 refine wpAny_bind ?_
 unfold Builtin.Dict.noArgs
 refine wpAny_bind (wpAny_notOrdered_dict hT ?_)
 show wpAny _ _ (pure d) _ _ s1
 refine wpAny_pure ?_
 show wpAny _ _ (Builtin.Dict.showsAll d >>= _) _ _ s1
 unfold Builtin.Dict.showsAll
 rw[if_neg (by rw[g5];exact Bool.false_ne_true)]
 refine wpAny_bind (wpAny_pure ?_)
 refine wpAny_bind (wpAny_newObj_type (wpAny_pure ⟨_,rfl,?_⟩))
 have new:ObjOk X.prog X.w (upd H1 s1.heap.objs.size (viewO s1.heap.objs.size d)) (s1.heap.push {cls:=.type "dict_items",data:=.fields #[.ref d]}) s1.heap.objs.size (viewO s1.heap.objs.size d):=
  ⟨⟨_,Heap.get?_push_size _ rfl,rfl,rfl⟩,⟨_,Heap.get?_push_size _ rfl⟩,fun h1 h2 ⟨o,e,r⟩ k=>⟨o,k o e,r⟩⟩
 exact⟨.ref _,_,I1.laid (t':=s1.toks) (fun b u e=>Heap.get?_push_of_some _ e) (Nat.le_refl _) new,rfl,q _ (I1.hok.fresh (Nat.le_refl _))⟩
theorem lay_tups {P:Program}{w:World}{fs:List Addr}{H0:Hp}{h0 h':Heap}:∀(as:List (Addr×List V)),(as.map (·.1)).Nodup ->
  (∀p∈as,h0.objs.size<=p.1/\p.2.length<=sizeLine/\∃its:List Value,Vals p.2 its/\IsTup h' p.1 its.toArray)->∀H,Un fs [] H0 H h0 h'->HOk P w H h'->(∀p∈as,H p.1=none) ->
  ∃H2,Un fs [] H0 H2 h0 h'/\HOk P w H2 h'/\Same H H2/\(∀p∈as,H2 p.1=some (.tup p.2))/\∀b,b∉as.map (·.1)->H2 b=H b
 |[],_,_,H,u,k,_=>⟨H,u,k,Same.refl _,(fun p hp=>by simp at hp),fun b _=>rfl⟩
 |p::r,nd,hp,H,u,k,hn=>by
  rw[List.map_cons,List.nodup_cons]at nd
  obtain⟨h1,h2,its,h3,h4⟩:=hp p List.mem_cons_self
  have hnp:=hn p List.mem_cons_self
  have k2:HOk P w (upd H p.1 (.tup p.2)) h':=k.track hnp ⟨h2,its,h3,h4⟩
  obtain⟨H2,e1,e2,e3,e4,e5⟩:=lay_tups r nd.2 (fun q hq=>hp q (List.mem_cons_of_mem _ hq)) (upd H p.1 (.tup p.2)) (u.track h1 hnp) k2 (fun q hq=>by
   have hne:q.1≠p.1:=fun z=>nd.1 (by rw[<-z];exact List.mem_map_of_mem hq)
   rw[upd_ne hne]
   exact hn q (List.mem_cons_of_mem _ hq))
  refine⟨H2,e1,e2,(Same.new hnp).trans e3,fun q hq=>?_,fun b hb=>?_⟩
  ·rcases List.mem_cons.mp hq with rfl|hq
   ·exact e3 _ _ upd_same
   ·exact e4 q hq
  ·rw[List.map_cons,List.mem_cons,not_or]at hb
   rw[e5 b hb.2,upd_ne hb.1]
theorem Vals.two' {x y:V}{u v:Value}(h1:RelV x u)(h2:RelV y v):Vals [x,y] [u,v]:=.cons h1 (.cons h2 .nil)
theorem valsR:∀as:List Addr,Vals (as.map V.ref) (as.map Value.ref)
 |[]=>.nil
 |_::r=>.cons rfl (valsR r)
theorem lay_pairs {X:Cx}{pins:List (Addr×Obj)}{σ:St}{H:Hp}{s:Shared}{kvs:List (List Key×V)}{es:Array DictEntry}{h':Heap}{as:List Addr}(I:Inv X pins σ H s)(hk:∀b o,s.heap.get? b=some o->h'.get? b=some o)(hal:as.length=kvs.length)(hG:PySem.W.Tps es s.heap.objs.size h' as)
  (g7:∀(i:Nat) (k:List Key) (v:V),kvs[i]?=some (k,v)->∃b en,es[i]?=some en/\en.key=.ref b/\H b=some (.tup (k.map kV))/\RelV v en.val):
  ∃H2,Un X.fs [] H H2 s.heap h'/\HOk X.prog X.w H2 h'/\Same H H2/\(∀b,b<=s.heap.objs.size->H2 b=H b)/\Vals (as.map V.ref) (as.map Value.ref)/\∀(i:Nat) (k:List Key) (x:V),kvs[i]?=some (k,x)->∃t b,(as.map V.ref)[i]?=some (V.ref t)/\H2 t=some (.tup [.ref b,x])/\H b=some (.tup (k.map kV)):=by
 have ex:∀i:Fin kvs.length,∃b:Addr,∃en,es[i.1]?=some en/\en.key=.ref b/\H b=some (.tup (kvs[i.1].1.map kV))/\RelV kvs[i.1].2 en.val:=fun i=>g7 i.1 kvs[i.1].1 kvs[i.1].2 (by simp)
 let cs:List (List V):=List.ofFn fun i:Fin kvs.length=>[V.ref (Classical.choose (ex i)),kvs[i.1].2]
 have hcl:cs.length=kvs.length:=by simp[cs]
 have hci:∀i:Fin kvs.length,cs[i.1]?=some [V.ref (Classical.choose (ex i)),kvs[i.1].2]:=fun i=>by simp[cs]
 have hz:(as.zip cs).map (·.1)=as:=List.map_fst_zip (by rw[hal,hcl];exact Nat.le_refl _)
 have hmem:∀p∈as.zip cs,∃i:Fin kvs.length,as[i.1]?=some p.1/\p.2=[V.ref (Classical.choose (ex i)),kvs[i.1].2]:=fun p hp=>by
  obtain⟨i,hi⟩:=List.mem_iff_getElem?.mp hp
  obtain⟨h1,h2⟩:=List.getElem?_zip_eq_some.mp hi
  have l:i<kvs.length:=by rw[<-hal];exact (List.getElem?_eq_some_iff.mp h1).1
  rw[hci ⟨i,l⟩]at h2
  exact⟨⟨i,l⟩,h1,(Option.some.inj h2).symm⟩
 obtain⟨H2,e1,e2,e3,e4,e5⟩:=lay_tups (as.zip cs) (by rw[hz];exact hG.1.imp fun a=>Nat.ne_of_lt a) (fun p hp=>by
  obtain⟨i,h1,h2⟩:=hmem p hp
  obtain⟨en,a1,a2,a3,a4⟩:=Classical.choose_spec (ex i)
  obtain⟨l,e,b1,b2⟩:=hG.2 i.1 p.1 h1
  rw[a1]at b1
  cases b1
  refine⟨Nat.le_of_lt l,by rw[h2];have:=line1000;simp;omega,[en.key,en.val],?_,⟨_,b2,rfl,0,rfl⟩⟩
  rw[h2,a2]
  exact Vals.two' rfl a4) H (Un.kept hk) (I.hok.kept hk) (fun p hp=>by
  obtain⟨i,h1,h2⟩:=hmem p hp
  exact I.hok.fresh (Nat.le_of_lt (hG.2 i.1 p.1 h1).1))
 refine⟨H2,e1,e2,e3,fun b hb=>e5 b ?_,?_,fun i k x hkx=>?_⟩
 ·rw[hz]
  intro z
  obtain⟨j,hj⟩:=List.mem_iff_getElem?.mp z
  exact absurd (hG.2 j b hj).1 (Nat.not_lt.mpr hb)
 ·exact valsR as
 ·have l:=(List.getElem?_eq_some_iff.mp hkx).1
  obtain⟨en,a1,a2,a3,a4⟩:=Classical.choose_spec (ex ⟨i,l⟩)
  have ek:kvs[i]=(k,x):=(List.getElem?_eq_some_iff.mp hkx).2
  have hai:as[i]?=some (as[i]'(by omega)):=by simp
  refine⟨_,_,by rw[List.getElem?_map,hai];rfl,?_,by simpa [ek] using a3⟩
  have:=e4 (as[i]'(by omega),_) (List.mem_iff_getElem?.mpr ⟨i,List.getElem?_zip_eq_some.mpr ⟨hai,hci ⟨i,l⟩⟩⟩)
  simpa [ek] using this
theorem call_list_items {X:Cx}(hc:X.calm=true):CallR X (.type "list") (fun xs H Q=>∃v d kvs,xs=[.ref v]/\H v=some (viewO v d)/\Rd H d (.dT kvs)/\∀l rs H',Same H H'->H' l=none->rs.length=kvs.length ->
  (∀(i:Nat) (k:List Key) (x:V),kvs[i]?=some (k,x)->∃t b,rs[i]?=some (V.ref t)/\H' t=some (.tup [.ref b,x])/\H b=some (.tup (k.map kV)))->Q (.ref l) (upd H' l (.lst rs))):=by
 intro pins s σ H xs us Q I r h
 obtain⟨p,d,kvs,rfl,hv,hp,q⟩:=h
 obtain⟨u,rfl,rx⟩:=vals1 r
 cases rx
 obtain⟨o,es,ep,g1,g2,g3,g4,g5,g6,g7⟩:=dent_of2 I.hok hp
 obtain⟨hview,_⟩:=(show ObjOk X.prog X.w H s.heap p (viewO p d) from I.hok p _ hv)
 refine PySem.W.itm_list (I.ok.hd hc) hview g1 g3 (by rw[g4];exact g6) fun h' tk acc c as hk hS hl hG hacc=>?_
 have hal:=hl.trans g4
 obtain⟨H2,e1,e2,e3,e5,hv,e4⟩:=lay_pairs I hk hal hG g7
 have hD:H2 s.heap.objs.size=none:=(e5 _ (Nat.le_refl _)).trans (I.hok.fresh (Nat.le_refl _))
 have new:ObjOk X.prog X.w (upd H2 s.heap.objs.size (.lst (as.map V.ref))) h' s.heap.objs.size (.lst (as.map V.ref)):=⟨by rw[List.length_map,hal];exact g6,acc.toList,c,by rw[hacc];exact hv,by simpa using hS⟩
 exact⟨.ref _,_,I.un (t':=tk) (e1.track (Nat.le_refl _) hD) (e2.track hD new),rfl,q _ _ H2 e3 hD (by rw[List.length_map,hal]) e4⟩
theorem pe_gc {X:Cx}{x:Str}{n:Int}{pos:Pos}(hg:Gl X x)(hm:∃t,X.mg x=some (.int n t))(hd:(x==("__debug__" : Str))=false:=by decide):PE X (.Name x pos) (tC (.int n)):=by
 obtain⟨t,hm⟩:=hm
 exact pe_glob hg hm ⟨_,rfl⟩ hd
section
variable {K:PySem.W.Frag} {ta tv td ty tx:TE} {t:TA} {f m:Str} {σ:St} {H:Hp} {Q:VK} {D:Ends} {C:Addr} {sp:Sp} {dvs:List V} {E:XK}
theorem r_fld:tFld K ta f σ H Q=ta σ H fun x H1=>∃a C dx fs v,x=.ref a/\H1 a=some (.ins C dx fs)/\Cls K C/\NoAttr K C f/\fs.lookup f=some v/\Q v H1:=rfl
theorem r_sFld:sFld K ta tv f D σ H=tv σ H fun y H1=>ta σ H1 fun x H2=>∃a C dx fs,x=.ref a/\H2 a=some (.ins C dx fs)/\Cls K C/\NoAttr K C f/\fs.length<1000/\D.nx σ (upd H2 a (.ins C dx (putF f y fs))):=rfl
theorem r_meth:tMeth C m sp dvs E ta t σ H Q=ta σ H fun x H1=>∃a dx fs,x=.ref a/\H1 a=some (.ins C dx fs)/\fs.lookup m=none/\t σ H1 fun vs H2=>sp (x::(vs++dvs)) H2 Q E:=rfl
theorem r_make:tMake C sp dvs E t σ H Q=t σ H fun vs H1=>∀x dx,H1 x=none->H1 dx=none->dx≠x->sp (.ref x::(vs++dvs)) (upd (upd H1 dx (.own x)) x (.ins C dx [])) (fun v H2=>v=.non/\Q (.ref x) H2) E:=rfl
theorem r_dget2:tDGet2 td ty tx σ H Q=td σ H fun x H1=>∃a,x=.ref a/\IsD H1 a/\ty σ H1 fun y H2=>tx σ H2 fun z H3=>∃o,DGet H3 a y o/\Q (o.getD z) H3:=rfl
end
def ents (es:List (List Int×Int)):List (List Key×V):=es.map fun e=>(wkey e.1,V.int e.2)
theorem ents_keys (es:List (List Int×Int)):KeysW (es.map (·.1)) (ents es):=by unfold KeysW ents;rw[List.map_map,List.map_map];rfl
theorem ents_none {es:List (List Int×Int)}{w:List Int}(h:w∉es.map (·.1)):valV (ents es) (wkey w)=none:=by
 have:=(ents_keys es).some_iff w
 rw[decide_eq_false h]at this
 cases q:valV (ents es) (wkey w) with
 |none=>rfl
 |some v=>rw[q]at this;cases this
theorem ents_get:∀{es:List (List Int×Int)} {w:List Int} {m:Int},(es.map (·.1)).Nodup->(w,m)∈es->valV (ents es) (wkey w)=some (.int m)
 |[],_,_,_,h=>by cases h
 |e::r,w,m,nd,h=>by
  rw[List.map_cons,List.nodup_cons]at nd
  unfold valV ents
  rw[List.map_cons,List.find?_cons]
  by_cases hw:e.1=w
  ·have hem:e.2=m:=by
    rcases List.mem_cons.mp h with q|q
    ·rw[<-q]
    ·exact absurd (List.mem_map.mpr ⟨_,q,hw.symm⟩) nd.1
   rw[show decide ((wkey e.1,V.int e.2).1=wkey w)=true from decide_eq_true (by rw[hw]),<-hem];rfl
  ·rw[show decide ((wkey e.1,V.int e.2).1=wkey w)=false from decide_eq_false fun z=>hw (wkey_inj z)]
   rcases List.mem_cons.mp h with q|q
   ·exact absurd (by rw[<-q]) hw
   ·exact ents_get nd.2 q
theorem ents_put {es:List (List Int×Int)}{w:List Int}{m:Int}(h:w∉es.map (·.1)):putK (ents es) (wkey w) (.int m)=ents (es++[(w,m)]):=by
 unfold putK
 rw[valV_any,ents_none h,if_neg (by simp)]
 unfold ents
 rw[List.map_append];rfl
theorem letters_ne:¬ (("letters" : Str) = "marks"):=by decide +kernel
def bflds (L:Int)(d:Addr):List (Str×V):=putF "marks" (.ref d) (putF "letters" (.int L) [])
theorem bflds_letters (L:Int)(d:Addr):(bflds L d).lookup ("letters" : Str)=some (.int L):=by
 unfold bflds
 rw[lookup_putF,if_neg letters_ne,lookup_putF,if_pos rfl]
theorem bflds_marks (L:Int)(d:Addr):(bflds L d).lookup ("marks" : Str)=some (.ref d):=by
 unfold bflds
 rw[lookup_putF,if_pos rfl]
theorem bflds_no (L:Int)(d:Addr){m:Str}(h1:¬ m = "marks")(h2:¬ m = "letters"):(bflds L d).lookup m=none:=by
 unfold bflds
 rw[lookup_putF,if_neg h1,lookup_putF,if_neg h2]
 rfl
structure BookAt (C:Addr)(H:Hp)(p d:Addr)(L:Int)(es:List (List Int×Int)):Prop where
 ob:∃dx,H p=some (.ins C dx (bflds L d))
 dc:H d=some (.dT (ents es))
 nd:(es.map (·.1)).Nodup
theorem BookAt.mono {C:Addr}{H H':Hp}{p d:Addr}{L:Int}{es:List (List Int×Int)}(h:BookAt C H p d L es)(s:Same H H'):BookAt C H' p d L es:=by
 obtain⟨⟨dx,a⟩,b,c⟩:=h
 exact⟨⟨dx,s _ _ a⟩,s _ _ b,c⟩
end L2
namespace L2
open PySem PySem.Spec PyProof.Rows
theorem compD {cp:Caps}{g:TG}{tc:TT}{te:TE}{Q:VK}{σ:St}{H:Hp}{o:Obj}{a:Addr}{kvs:List (List Key×V)}(Pv:Nat->List V->St->Hp->Prop)(h0:Pv 0 [] (cp.st σ) H)(hz:kvs.length<sizeLine)
  (hl:∀i ys σ H,i<=kvs.length->Pv i ys σ H->H a=some (.frz o (.dT kvs))/\ys.length<=i)
  (hs:∀i k v b ys σ H,kvs[i]?=some (k,v)->Pv i ys σ H->H b=some (.tup (k.map kV))->g (.ref b) σ H fun σ2 H2=>tc σ2 H2 fun b H3=>if b=true then te σ2 H3 fun v H4=>Pv (i+1) (ys++[v]) σ2 H4 else Pv (i+1) ys σ2 H3)
  (hd:∀ys σ H,Pv kvs.length ys σ H->∀D,H D=none->Q (.ref D) (upd H D (.lst ys))):CompW (Itd o a kvs) cp g tc te σ H Q:=by
 refine⟨fun i m ys σ H=>m=kvs.length-i/\i<=kvs.length/\Pv i ys σ H,⟨kvs.length,by simp,Nat.zero_le _,h0⟩,?_⟩
 rintro i m ys σ H ⟨rfl,hi,p⟩
 obtain⟨q,ly⟩:=hl i ys σ H hi p
 refine⟨by omega,?_⟩
 by_cases hlt:i<kvs.length
 ·refine .inr ⟨⟨hlt,q⟩,Pv (i+1),fun zs σ' H' p'=>⟨kvs.length-(i+1),by omega,rfl,hlt,p'⟩,fun x H' y=>?_⟩
  obtain⟨rfl,b,k,v,hk,rfl,hb⟩:=y
  exact hs i k v b ys σ H' hk p hb
 ·have e:i=kvs.length:=by omega
  subst e
  exact .inl ⟨⟨Nat.le_refl _,q⟩,hd ys σ H p⟩
theorem call_sum {X:Cx}(hc:X.calm=true):CallR X (.builtin "sum") (fun xs H Q=>∃(p:Addr) (ns:List Int),xs=[.ref p]/\SqL X.K H p (ns.map V.int)/\Q (.int ns.sum) H):=by
 intro pins s σ H xs us Q I r h
 obtain⟨p,ns,rfl,hq,q⟩:=h
 obtain⟨u,rfl,rx⟩:=vals1 r
 cases rx
 obtain⟨its,r',pl,_⟩:=I.list hq
 have i1:IntsAre its ns:=by simpa using intsAre_of r'
 obtain⟨ys,e⟩:=i1.allInts.items
 have e2:=i1.numsOf
 rw[show its=its.toArray.toList from rfl,e,nums_intItems]at e2
 have hl:=pl.isList
 rw[e]at hl
 refine sum_intListG (I.ok.hd hc) hl fun h' tk t' hk=>?_
 rw[preSum_eq,List.take_of_length_le (by simp),e2]
 exact⟨.int ns.sum,H,I.kept hk,⟨_,rfl⟩,q⟩
def rLIndex:V->List V->Hp->VK->Prop:=fun x vs H Q=>∃l xs y j,x=.ref l/\vs=[y]/\H l=some (.lst xs)/\flatV y=true/\xs.all flatV=true/\j<1000000/\(∃z,xs[j]?=some z/\eqV z y=true)/\(∀m z,m<j->xs[m]?=some z->eqV z y=false)/\Q (.int (j:Nat)) H
theorem r_lindex {x:V}{vs:List V}{H:Hp}{Q:VK}:rLIndex x vs H Q=∃l xs y j,x=.ref l/\vs=[y]/\H l=some (.lst xs)/\flatV y=true/\xs.all flatV=true/\j<1000000/\(∃z,xs[j]?=some z/\eqV z y=true)/\(∀m z,m<j->xs[m]?=some z->eqV z y=false)/\Q (.int (j:Nat)) H:=rfl
theorem eqU_rel {x z:V}{u:Value}(r:RelV z u)(f:flatV z=true):eqU x u=eqV z x:=by
 have:=any_eqU (x:=x) (xs:=[z]) (us:=[u]) (.cons r .nil) (by simp[f])
 simpa using this
theorem mt_lindex {X:Cx}:MtM X "list.index" rLIndex:=by
 intro pins s σ H x vs v us Q I rx rv h
 obtain⟨l,xs,y,j,rfl,rfl,hH,fy,fs,hj,⟨z,hz1,hz2⟩,hno,q⟩:=h
 cases rx
 obtain⟨u,rfl,ry⟩:=vals1 rv
 obtain⟨zz,its,n,r,hl,e⟩:=I.lstM hH
 have get:∀(m:Nat) (hm:m<its.toArray.size) (w:V),xs[m]?=some w->flatV w=true->eqU y its.toArray[m]=eqV w y:=fun m hm w hw fw=>by
  obtain⟨w',e1,e2⟩:=r.get hw
  have e3:its.toArray[m]=w':=by
   have:its[m]?=some its.toArray[m]:=by simp at hm;simp[hm]
   rw[e1]at this
   exact (Option.some.inj this).symm
  rw[e3]
  exact eqU_rel e2 fw
 have fl:∀(m:Nat) (w:V),xs[m]?=some w->flatV w=true:=fun m w hw=>List.all_eq_true.mp fs w (List.mem_of_getElem? hw)
 have hjx:=(List.getElem?_eq_some_iff.mp hz1).1
 have hjs:j<its.toArray.size:=by rw[List.size_toArray];omega
 refine call_meets F.slot_list_index ⟨_,e,rfl⟩ F.entry_list_index (F.args_list_index_2 _ _) (SeqAt.list_indexAt l its.toArray n none #[] u (eqU y) j hjs (by omega) ?_ fun m hm hmj=>?_) ⟨e,fun w hw=>mem_eqAt ry fy r fs w (by simpa using hw),?_⟩
 ·rw[get j hjs z hz1 (fl j z hz1)];exact hz2
 ·have hmx:xs[m]?=some xs[m]:=by simp[show m<xs.length by omega]
  rw[get m hm _ hmx (fl m _ hmx)]
  exact hno m _ hmj hmx
 ·exact⟨.int (j:Nat),H,I.tok _,⟨_,rfl⟩,q⟩
def tMethE (C:Addr)(m:Str)(sp:Sp)(dvs:List V)(E:St->XK)(ta:TE)(t:TA):TE:=fun σ H Q=>ta σ H fun x H1=>∃a dx fs,x=.ref a/\H1 a=some (.ins C dx fs)/\fs.lookup m=none/\t σ H1 fun vs H2=>sp (x::(vs++dvs)) H2 Q (E σ)
theorem r_methE {C:Addr}{m:Str}{sp:Sp}{dvs:List V}{E:St->XK}{ta:TE}{t:TA}{σ:St}{H:Hp}{Q:VK}:tMethE C m sp dvs E ta t σ H Q=ta σ H fun x H1=>∃a dx fs,x=.ref a/\H1 a=some (.ins C dx fs)/\fs.lookup m=none/\t σ H1 fun vs H2=>sp (x::(vs++dvs)) H2 Q (E σ):=rfl
theorem pe_methE {X:Cx}{CX:CXT}{k:Nat}{f C:Addr}{fd:FuncData}{ps:List Str}{sp:Sp}{dvs:List V}{ds:List Value}{E:St->XK}{m:Str}{pos apos:Pos}{e o:Expr}{es:List Expr}{ta:TE}{t:TA}{pl:Sem Bool}(he:PE X o ta)(c:Cls X.K C)(hm:Meth X.K C m f)(F:FnOk X.prog X.w X.K X.mg X.base CX k f fd ps sp)(hr:Room k X.A)(hb:Binds X.K fd ps ds)(hd:Vals dvs ds)(hx:∀σ,PassesAt CX X σ (E σ))(ha:PA X (e::es) t)
  (hst:starEach (e::es) X.env=(false,eval e X.env)::starEach es X.env:=by rfl) (hpl:(backTo pos (starEach es X.env)).any (·.1)=false:=by rfl)
  (ht:eval (.Call (.Attribute o m apos) (e::es) [] pos) X.env=(do
   let ov <- eval o X.env
   standAt apos.atName
   let (f,first) <- holding [ov] (getMethod ov m pl)
   callWith pos f first (backTo pos (starEach (e::es) X.env)) (backToKw pos (keywordEach [] X.env))):=by rfl):
  PE X (.Call (.Attribute o m apos) (e::es) [] pos) (tMethE C m sp dvs E ta t):=by
 intro pins s σ H Q I h
 refine PySem.W.methodCall_KW (pl:=pl) (thn (he pins s σ H _ I h) fun u s1 ⟨x,H1,I1,rx,a,dx,fs,ex,ea,l,q⟩=>?_) ht
 subst ex
 obtain rfl:u=Value.ref a:=rx
 refine getmeth_ok I1 ea c hm l ?_
 refine PySem.W.callWith_K (first:=[.ref a]) (h₀:=X.base) I.ok.mod.kin hm.kp (thn (ha pos pins s1 σ H1 _ I1 q) fun us s2 ⟨vs,H2,I2,r,q2⟩=>⟨I2.kIn,?_⟩) hst hpl
 exact run_fnE (us:=.ref a::us) (vs:=.ref a::vs) F hr hb hd (hx σ) I2 (.cons rfl r) q2
end L2
namespace L2
open PySem PySem.W PySem.Spec PySem.Calls PyProof.Rows
theorem Inv.thaw {X:Cx}{pins:List (Addr×Obj)}{σ:St}{H:Hp}{s:Shared}{a:Addr}{o:Obj}{kvs:List (List Key×V)}(I:Inv X pins σ H s)(e:H a=some (.frz o (.dT kvs)))(h0:X.H₀ a=none):Inv X pins σ (upd H a (.dT kvs)) s:=by
 have hO:=(show ObjOk X.prog X.w H s.heap a (.frz o (.dT kvs)) from I.hok a _ e)
 have ok2:HOk X.prog X.w (upd H a (.dT kvs)) s.heap:=fun b u hb=>by
  by_cases hba:b=a
  ·subst hba
   rw[upd_same]at hb
   cases hb
   obtain⟨_,z,y,xs,r,q⟩:=hO
   refine⟨z,y,xs,Paired.mapP r fun p x hx=>⟨hx.1,?_,hx.2.2⟩,q⟩
   rw[upd_ne (fun z=>by have h1:=hx.2.1;rw[z,e]at h1;cases h1)]
   exact hx.2.1
  ·rw[upd_ne hba]at hb
   exact (I.hok b u hb).stay (fun c v _ q=>q) (fun c q=>by rw[upd_ne (fun z=>by rw[z,e]at q;cases q)];exact q) fun c xs q=>by rw[upd_ne (fun z=>by rw[z,e]at q;cases q)];exact q
 have ne:∀b,H b=none->upd H a (.dT kvs) b=none:=fun b hb=>by rw[upd_ne (fun z=>by rw[z,e]at hb;cases hb)];exact hb
 refine⟨I.ok,I.os,I.bare,⟨I.base.keep,I.base.slot,fun b o' q n hx=>ne b (I.base.free b o' q n hx),I.base.there,fun b xs q=>?_,fun b ob xs q=>?_,fun b ps q=>?_⟩,I.loc,I.cell,ne _ I.free,fun x c hc=>ne _ (I.freeC x c hc),fun p hp=>?_,ok2,I.len⟩
 ·have:=I.base.tups b xs q
  rw[upd_ne (fun z=>by rw[z,e]at this;cases this)];exact this
 ·have:=I.base.frzs b ob xs q
  rw[upd_ne (fun z=>by rw[z,h0]at q;cases q)];exact this
 ·obtain⟨more,q'⟩:=I.base.tbls b ps q
  exact⟨more,by rw[upd_ne (fun z=>by rw[z,h0]at q;cases q)];exact q'⟩
 ·obtain⟨q,n,r⟩:=I.pin p hp
  exact⟨q,ne _ n,r⟩
def tThaw (H₀:Hp)(te:TE):TE:=fun σ H Q=>te σ H fun v H1=>Q v H1 \/ ∃a o kvs,H1 a=some (.frz o (.dT kvs))/\H₀ a=none/\Q v (upd H1 a (.dT kvs))
theorem r_thaw {H₀:Hp}{te:TE}{σ:St}{H:Hp}{Q:VK}:tThaw H₀ te σ H Q=te σ H fun v H1=>Q v H1 \/ ∃a o kvs,H1 a=some (.frz o (.dT kvs))/\H₀ a=none/\Q v (upd H1 a (.dT kvs)):=rfl
theorem pe_thaw {X:Cx}{x:Expr}{te:TE}(h:PE X x te):PE X x (tThaw X.H₀ te):=by
 intro pins s σ H Q I hq
 refine wpAny_mono (h pins s σ H _ I hq) (fun v s1 ⟨y,H1,I1,r1,q1⟩=>?_) fun _ _ z=>z
 rcases q1 with q1|⟨a,o,kvs,e,h0,q1⟩
 ·exact⟨y,H1,I1,r1,q1⟩
 ·exact⟨y,_,I1.thaw e h0,r1,q1⟩
end L2
namespace L2
open PySem PySem.Spec PyProof.Rows
def tCallV (i:Nat)(f:Addr)(sp:Sp)(dvs:List V)(E:XK)(t:TA):TE:=fun σ H Q=>tVar i σ H fun v H1=>v=.ref f/\t σ H1 fun vs H2=>sp (vs++dvs) H2 Q E
theorem r_callV {i:Nat}{f:Addr}{sp:Sp}{dvs:List V}{E:XK}{t:TA}{σ:St}{H:Hp}{Q:VK}:tCallV i f sp dvs E t σ H Q=tVar i σ H fun v H1=>v=.ref f/\t σ H1 fun vs H2=>sp (vs++dvs) H2 Q E:=rfl
section
variable {X:Cx} {CX CX':CXT} {k k':Nat} {f f':Addr} {fd fd':FuncData} {ps ps':List Str} {sp sp':Sp} {dvs dvs':List V} {ds ds':List Value} {x:Str} {p pos:Pos} {e:Expr} {es:List Expr} {t:TA}
theorem pe_callV {E:XK}(i:Nat)(F:FnOk X.prog X.w X.K X.mg X.base CX k f fd ps sp)(hr:Room k X.A)(hk:PySem.W.keepIn X.K (.ref f)=true)(hb:Binds X.K fd ps ds)(hd:Vals dvs ds)(hx:Passes CX X E)(ha:PA X (e::es) t)
  (hN:X.N[i]?=some x:=by rfl) (hv:Vis X.env.scope x:=by first|exact Or.inl rfl|exact Or.inr (Or.inl rfl)|exact Or.inr (Or.inr rfl)) (hdb:(x==("__debug__" : Str))=false:=by decide) (hcd:(x==("__classdict__" : Str))=false:=by decide)
  (he:starEach (e::es) X.env=(false,eval e X.env)::starEach es X.env:=by rfl) (hpl:(backTo pos (starEach es X.env)).any (·.1)=false:=by rfl):
  PE X (.Call (.Name x p) (e::es) [] pos) (tCallV i f sp dvs E t):=by
 intro pins s σ H Q I h
 refine wpAny_Call_Name_kw (thn (pv i hN hv hdb hcd pins s σ H _ I h) fun u s1 ⟨v,H1,I1,rv,ev,q⟩=>?_)
 subst ev
 obtain rfl:u=Value.ref f:=rv
 refine PySem.W.callWith_K (h₀:=X.base) I.ok.mod.kin hk (thn (ha pos pins s1 σ H1 _ I1 q) fun us s2 ⟨vs,H2,I2,r,q2⟩=>⟨I2.kIn,?_⟩) he hpl
 exact run_fn F hr hb hd hx I2 r q2
end
end L2
namespace Nest
def sl (row:List Int)(b i:Nat):List Int:=(row.take i).drop b
def outF (p e:Int)(s:List Int×Int)(x:Int):List Int×Int:=if x=e then (s.1,s.2-1) else (if s.2=0 then s.1++[x] else s.1,if p<=x then s.2+1 else s.2)
def outS (p e:Int)(l:List Int):List Int×Int:=l.foldl (outF p e) ([],0)
def outW (p e:Int)(l:List Int):List Int:=(outS p e l).1
def wd (p e:Int)(row:List Int)(i a:Nat):List Int:=outW p e (sl row (a+1) i)
end Nest
namespace L2
open PySem PySem.Spec PyProof.Rows
theorem op_catT2K {X:Cx}{K:PySem.W.Frag}(h:X.K=K):OpR X (binaryOp .Add) (rCatT2 K):=by subst h;exact op_catT2
end L2
namespace L2
open PySem PySem.W PySem.Spec PySem.Calls PyProof.Rows
theorem meets_lenH {prog:Program}{w:World}{κ:Type}[DecidableEq κ](knd:HeapKind prog w κ){d:Addr}(hd:(d==sysModules)=false):
  MeetsIn prog w (Builtin.«dict.__len__» ⟨[.ref d],[]⟩) (fun _ R s=>∃xs,s.heap.DictOfH knd d xs/\R (.ok (.ret (.int (xs.length:Nat) s.toks))) {s with toks:=s.toks+1}):=
 .of_wp fun A R s ⟨xs,⟨o,es,ep,ho,_,hdat,he,_⟩,h⟩=>by
  show wpAny _ _ (dictSize d >>= _) _ _ s
  unfold dictSize
  refine wpAny_bind (wpAny_bind (wpAny_dictEntries ho hdat (wpAny_pure ?_)))
  refine wpAny_bind (wpAny_pendingCount_other hd (wpAny_ret_mkInt ?_))
  rw[Nat.add_zero,size_of_entries he]
  exact h
theorem len_dT {prog:Program}{w:World}{κ:Type}[DecidableEq κ]{knd:HeapKind prog w κ}{A:Around}{E:Value->Shared->Prop}{s:Shared}{d:Addr}{xs:List (κ×Addr×Value)}{Q:Value->Shared->Prop}(hd:(d==sysModules)=false)(hm:s.heap.DictOfH knd d xs)(hfit:(xs.length:Int)<2 ^ 63)
  (h:Q (.int xs.length (s.toks+1)) {s with toks:=s.toks+1+1}):wpAny (model prog w) A (call (.builtin "len") [.ref d]) Q E s:=by
 refine Calls.call_function_entry kind_len plain_len entry_len (args_len1 _) ?_
 unfold Builtin.«len»
 refine wpAny_bind (m:=oneArg "len" _) (wpAny_pure (wpAny_bind (m:=callSpecial? (.ref d) (Str.ofString "__len__")) (wpAny_callSpecial?_slot (name:=Str.ofString "__len__") hm.typeIs F.slot_dict_len (call_meetsIn F.slot_dict_len hm.typeIs F.entry_dict_len (F.args_dict_len_1 _) (meets_lenH knd hd) ⟨xs,hm,?_⟩))))
 show wpAny _ _ _ _ _ {s with toks:=s.toks+1}
 refine wpAny_bind (wpAny_holding (wpAny_pure (wpAny_bind (wpAny_letGo ?_))))
 show wpAny _ _ (if ((xs.length:Nat):Int)<0 then _ else _) _ _ _
 rw[if_neg (by omega)]
 show wpAny _ _ (if ((xs.length:Nat):Int) >= 2 ^ 63 then _ else _) _ _ _
 rw[if_neg (by omega)]
 exact wpAny_bind (wpAny_mkInt (wpAny_pure ⟨_,rfl,h⟩))
theorem call_len_dictT {X:Cx}:CallR X (.builtin "len") (fun xs H Q=>∃p kvs,xs=[.ref p]/\H p=some (.dT kvs)/\Q (.int kvs.length) H):=by
 intro pins s σ H xs us Q I r h
 obtain⟨p,kvs,rfl,e,q⟩:=h
 obtain⟨u,rfl,rx⟩:=vals1 r
 cases rx
 obtain⟨z,hd,xs,rel,dd⟩:=dt_of I.hok e
 have hn:=line63
 have hlen:kvs.length=xs.length:=rel.length
 exact len_dT hd dd (by omega) ⟨.int kvs.length,H,I.tok _,⟨_,by rw[hlen]⟩,q⟩
end L2
set_option maxHeartbeats 1000000
set_option maxHeartbeats 4000000
namespace L2
section
variable {α:Type} [DecidableEq α]
def ins1 (acc:List α)(x:α):List α:=if x∈acc then acc else acc++[x]
def firstsA (acc row:List α):List α:=row.foldl ins1 acc
def firsts (row:List α):List α:=firstsA [] row
def num (row:List α):List Int:=row.map fun x=>((firsts row).idxOf x:Int)
def ncl (row:List α):Nat:=(firsts row).length
end
def rowB (n:Nat)(b:List Int->Nat->Int)(w:List Int):List Int:=(List.range n).map (b w)
abbrev StC:=List (List Int)×List Int
def stepC (n:Nat)(b:List Int->Nat->Int)(w:List Int)(st:StC)(x:Nat):StC:=if ncl st.2<ncl (st.2.zip (rowB n b ((x:Int)::w))) then (st.1++[(x:Int)::w],num (st.2.zip (rowB n b ((x:Int)::w)))) else st
def innerC (n:Nat)(b:List Int->Nat->Int)(w:List Int)(L:Nat)(st:StC):StC:=(List.range L).foldl (stepC n b w) st
def outerC (n:Nat)(b:List Int->Nat->Int)(L:Nat):Nat->Nat->StC->StC
 |0,_,st=>st
 |f+1,k,st=>if k<st.1.length then outerC n b L f (k+1) (innerC n b (st.1.getD k []) L st) else st
section
variable {n L:Nat} {b:List Int->Nat->Int} {w:List Int} {st:StC}
def wcOf (n L:Nat)(b:List Int->Nat->Int):StC:=outerC n b L 41 0 ([[]],num (rowB n b []))
end
end L2
namespace L2
open GW GB
def bW (marks:List Int)(ways:List (List Int))(w:List Int)(r:Nat):Int:=marks.getD (walkR ways (r:Int) w).toNat 0
def cf (c:List Int)(r:Int):Int:=c.getD r.toNat 0
def hm (c R:List Int)(r:Int):Int:=(((firsts (R.map (cf c))).idxOf (cf c r):Nat):Int)
def frstep (c acc:List Int)(r:Int):List Int:=if cf c r∈acc.map (cf c) then acc else acc++[r]
def FR (c R:List Int):List Int:=R.foldl (frstep c) []
def cOf (L:Nat)(marks:List Int)(ways:List (List Int)):List Int:=(wcOf marks.length L (bW marks ways)).2
def rOf (ways:List (List Int)):List Int:=(wordsIn ways).map (·.1)
def sF (L:Nat)(marks:List Int)(ways:List (List Int)):List Int:=FR (cOf L marks ways) (rOf ways)
def hO (L:Nat)(marks:List Int)(ways:List (List Int))(r:Int):Int:=hm (cOf L marks ways) (rOf ways) r
section
variable {L:Nat} {marks:List Int} {ways:List (List Int)}
def wi (ways:List (List Int))(r:Int):List Int:=(((wordsIn ways).find? fun e=>decide (e.1=r)).map (·.2)).getD []
end
end L2
set_option maxHeartbeats 1000000
namespace L2
open PySem PySem.Spec PyProof.Rows
def nt (n:Int):Str:=Str.ofString (toString n)
end L2
set_option maxHeartbeats 4000000
namespace L2
open PySem PySem.Spec PyProof.Rows
def tLater (u:TS)(D:Ends):St->Hp->Prop:=u D
def tLazy (t u:TS):TS:=fun D σ H=>t {D with nx:=tLater u D} σ H
theorem r_lazy {t u:TS}{D:Ends}{σ:St}{H:Hp}:tLazy t u D σ H=t {D with nx:=tLater u D} σ H:=rfl
theorem later_of {u:TS}{D:Ends}{σ:St}{H:Hp}(h:u D σ H):tLater u D σ H:=h
theorem pss_lazy {X:Cx}{st:Stmt}{rest:List Stmt}{t u:TS}(h1:PS X st t)(h2:PSs X rest u):PSs X (st::rest) (tLazy t u):=pss_cons h1 h2
end L2
set_option maxHeartbeats 1000000
set_option maxHeartbeats 4000000
namespace PySem.W
open PySem PySem.Calls PyProof.Rows PyProof.V PySem.Spec
end PySem.W
namespace L2
open PySem PySem.W PySem.Spec PySem.Calls PyProof.Rows
structure CMeth (K:PySem.W.Frag)(C:Addr)(m:Str)(f:Addr):Prop where
 sg:PySem.W.specialIn K (.ref C) "__getattribute__"=some (some (.builtin "type.__getattribute__"))
 rd:PySem.W.readsIn K C (.type "type")=true
 fc:PySem.W.findCls K (.ref C) (.type "type") m=some (.val (.ref f))
 kp:PySem.W.keepIn K (.ref f)=true
section
variable {X:Cx} {CX:CXT} {k:Nat} {f C:Addr} {fd:FuncData} {ps:List Str} {sp:Sp} {dvs:List V} {ds:List Value} {E:XK} {x m:Str} {np apos pos:Pos} {e:Expr} {es:List Expr} {t:TA}
theorem pe_cm {pl:Sem Bool}(hg:Gl X x)(hmx:X.mg x=some (.ref C))(hm:CMeth X.K C m f)(F:FnOk X.prog X.w X.K X.mg X.base CX k f fd ps sp)(hr:Room k X.A)(hb:Binds X.K fd ps ds)(hd:Vals dvs ds)(hx:Passes CX X E)(ha:PA X (e::es) t)
  (hdb:(x==("__debug__" : Str))=false:=by decide) (hst:starEach (e::es) X.env=(false,eval e X.env)::starEach es X.env:=by rfl) (hpl:(backTo pos (starEach es X.env)).any (·.1)=false:=by rfl)
  (ht:eval (.Call (.Attribute (.Name x np) m apos) (e::es) [] pos) X.env=(do
   let ov <- eval (.Name x np) X.env
   standAt apos.atName
   let (f,first) <- holding [ov] (getMethod ov m pl)
   callWith pos f first (backTo pos (starEach (e::es) X.env)) (backToKw pos (keywordEach [] X.env))):=by rfl):
  PE X (.Call (.Attribute (.Name x np) m apos) (e::es) [] pos) (tCall sp dvs E t):=by
 intro pins s σ H Q I h
 refine PySem.W.methodCall_KW (pl:=pl) (ld_glob I hg hmx ?_ hdb) ht
 refine PySem.W.method_cls I.kIn hm.sg (PySem.W.cls_value I.kIn hm.rd hm.fc rfl ?_)
 refine PySem.W.callWith_K (first:=[]) (h₀:=X.base) I.ok.mod.kin hm.kp (thn (ha pos pins _ σ H _ (I.tok _) h) fun us s2 ⟨vs,H2,I2,r,q2⟩=>⟨I2.kIn,?_⟩) hst hpl
 exact run_fn F hr hb hd hx I2 r q2
end
end L2
namespace L2
open PySem PySem.W PySem.Spec PySem.Calls PyProof.Rows
theorem pe_meth0E {X:Cx}{CX:CXT}{k:Nat}{f C:Addr}{fd:FuncData}{ps:List Str}{sp:Sp}{dvs:List V}{ds:List Value}{E:St->XK}{m:Str}{pos apos:Pos}{o:Expr}{ta:TE}{pl:Sem Bool}(he:PE X o ta)(c:Cls X.K C)(hm:Meth X.K C m f)(F:FnOk X.prog X.w X.K X.mg X.base CX k f fd ps sp)(hr:Room k X.A)(hb:Binds X.K fd ps ds)(hd:Vals dvs ds)(hx:∀σ,PassesAt CX X σ (E σ))
  (ht:eval (.Call (.Attribute o m apos) [] [] pos) X.env=(do
   let ov <- eval o X.env
   standAt apos.atName
   let (f,first) <- holding [ov] (getMethod ov m pl)
   callWith pos f first (backTo pos (starEach [] X.env)) (backToKw pos (keywordEach [] X.env))):=by rfl):
  PE X (.Call (.Attribute o m apos) [] [] pos) (tMethE C m sp dvs E ta tNil):=by
 intro pins s σ H Q I h
 refine PySem.W.methodCall_KW (pl:=pl) (thn (he pins s σ H _ I h) fun u s1 ⟨x,H1,I1,rx,a,dx,fs,ex,ea,l,q⟩=>?_) ht
 subst ex
 obtain rfl:u=Value.ref a:=rx
 refine getmeth_ok I1 ea c hm l ?_
 exact PySem.W.callWith_K0 (first:=[.ref a]) I1.kIn hm.kp (run_fnE (us:=[.ref a]) (vs:=[.ref a]) F hr hb hd (hx σ) I1 (.cons rfl .nil) q)
def rDCount (K:PySem.W.Frag):V->List V->Hp->VK->Prop:=fun x vs H Q=>∃(l:Addr) (as:List Addr) (y:Addr) (e:Addr->Bool),x=.ref l/\vs=[.ref y]/\H l=some (.lst (as.map V.ref))/\(∀a∈as,EqD K H 4 (.ref a) (.ref y) (e a))/\Q (.int (as.countP e:Nat)) H
theorem r_dcount {K:PySem.W.Frag}{x:V}{vs:List V}{H:Hp}{Q:VK}:rDCount K x vs H Q=∃(l:Addr) (as:List Addr) (y:Addr) (e:Addr->Bool),x=.ref l/\vs=[.ref y]/\H l=some (.lst (as.map V.ref))/\(∀a∈as,EqD K H 4 (.ref a) (.ref y) (e a))/\Q (.int (as.countP e:Nat)) H:=rfl
def eAt (e:Addr->Bool):Value->Bool
 |.ref a=>e a
 |_=>false
theorem dcount_rel {e:Addr->Bool}:∀{as:List Addr} {its:List Value},Vals (as.map V.ref) its->its.countP (eAt e)=as.countP e
 |[],_,.nil=>rfl
 |x::ys,_,.cons r rs=>by
  cases r
  rw[List.countP_cons,List.countP_cons,dcount_rel rs]
  rfl
theorem vals_ref_mem:∀{as:List Addr} {its:List Value},Vals (as.map V.ref) its->∀u∈its,∃a∈as,u=.ref a
 |[],_,.nil,u,h=>by cases h
 |x::ys,_,.cons r rs,u,h=>by
  cases r
  rcases List.mem_cons.mp h with rfl|h
  ·exact⟨x,List.mem_cons_self ..,rfl⟩
  ·obtain⟨a,ha,e⟩:=vals_ref_mem rs u h
   exact⟨a,List.mem_cons_of_mem _ ha,e⟩
theorem mt_dcount {X:Cx}(hu:X.A.units+8<cLine):MtM X "list.count" (rDCount X.K):=by
 intro pins s σ H x vs v us Q I rx rv h
 obtain⟨l,as,y,ev,rfl,rfl,hH,hE,q⟩:=h
 cases rx
 obtain⟨u,rfl,ry⟩:=vals1 rv
 cases ry
 obtain⟨zz,its,n,r,hl,e⟩:=I.lstM hH
 refine call_meets F.slot_list_count ⟨_,e,rfl⟩ F.entry_list_count (F.args_list_count_2 _ _) (SeqAt.list_countAt l its.toArray n none #[] (.ref y) (eAt ev)) ⟨e,fun w hw=>?_,?_⟩
 ·obtain⟨a,ha,rfl⟩:=vals_ref_mem r w (by simpa using hw)
  exact (EqD.at (x:=V.ref a) (y:=V.ref y) I 4 _ (by rw[in1_units];omega) rfl rfl (hE a ha)).1
 ·refine⟨.int _,H,I.tok _,⟨_,rfl⟩,?_⟩
  rw[List.toList_toArray,dcount_rel r]
  exact q
theorem same_empty {M:Model}{A:Around}{E:Value->Shared->Prop}{s:Shared}{id:String}{a c:Addr}{oa oc:Obj}{es es':Array DictEntry}{ep ep':Nat}{Q:Bool->Shared->Prop}(ga:s.heap.get? a=some oa)(da:oa.data=.dict es ep)(gc:s.heap.get? c=some oc)(dc:oc.data=.dict es' ep')
  (z:es'.size=0) (na:(a==sysModules)=false) (nc:(c==sysModules)=false) (q:Q (decide (es.size=0)) s):wpAny M A (Builtin.Dict.samePairs id a c) Q E s:=by
 unfold Builtin.Dict.samePairs Builtin.Dict.showsAll
 rw[na,nc]
 refine wpAny_bind (wpAny_pure (wpAny_bind (wpAny_pure (wpAny_bind (wpAny_dictEntries ga da (wpAny_bind (wpAny_dictEntries gc dc ?_)))))))
 rw[z]
 rcases Nat.eq_zero_or_pos es.size with y|y
 ·rw[y]at q ⊢
  refine wpAny_bind (wpAny_dictEpoch ga da (wpAny_bind ?_))
  simp only[Std.Legacy.Range.forIn_eq_forIn_range',Std.Legacy.Range.size,Nat.sub_self,Nat.zero_add,Nat.zero_sub,Nat.zero_div,List.range'_zero,List.forIn_nil]
  exact wpAny_pure (wpAny_pure q)
 ·rw[decide_eq_false (Nat.ne_of_gt y)]at q
  rw[if_pos (by simpa using Nat.ne_of_gt y)]
  exact wpAny_bind (wpAny_rule (wpAny_pure q))
def rNeE:R2:=fun x y H Q=>∃a c kvs,x=.ref a/\y=.ref c/\H a=some (.dT kvs)/\H c=some (.dK [])/\Q (.bl (decide (kvs.length≠0))) H
theorem r_neE {x y:V}{H:Hp}{Q:VK}:rNeE x y H Q=∃a c kvs,x=.ref a/\y=.ref c/\H a=some (.dT kvs)/\H c=some (.dK [])/\Q (.bl (decide (kvs.length≠0))) H:=rfl
theorem op_neE {X:Cx}(hu:X.A.units<cLine):OpR X (compareOp .NotEq) rNeE:=by
 rintro pins s σ H x y v u Q I rx ry ⟨a,c,kvs,rfl,rfl,ha,hc,q⟩
 cases rx
 cases ry
 obtain⟨_,na,xs,rel,dd⟩:=dt_of I.hok ha
 obtain⟨_,nc,vs,kv,dc⟩:=dk_of I.hok hc
 have ta:=dd.typeIs
 have tc:=dc.typeIs
 obtain⟨oa,es,ep,ga,_,da,ea,_⟩:=dd
 obtain⟨oc,es',ep',gc,_,dc',_,pb,_⟩:=dc
 have e1:es.size=kvs.length:=(size_of_entries ea).trans rel.length.symm
 have e2:es'.size=0:=by rw[<-Array.length_toList,pb.length,<-kv.length];rfl
 refine wpAny_richCompare_same_room (op:=.NotEq) ta tc PySem.F.slot_dict_ne (wpAny_call_entry PySem.F.slot_dict_ne ta PySem.F.entry_dict_ne ?_ (PySem.F.args_dict_ne_2 _ _)) hu
 wp_walk using wpAny_notOrdered_dict ta,wpAny_isInstance (T := "dict") tc PySem.F.sub_dict_dict,same_empty ga da gc dc' e2 na nc
 have e:(decide (es.size=0)==false)=decide (kvs.length≠0):=by rw[e1];by_cases h:kvs.length=0<;>simp[h]
 rw[e]
 exact⟨_,rfl,nofun,.bl _,H,I,rfl,q⟩
end L2
namespace Mine
open PySem L2 GW GB
local macro_rules | `(tactic| walk_at "rd") => `(tactic| (try dsimp only[↓r_seq,↓r_next,↓r_asg,↓r_gname,↓r_var,↓r_c,↓r_op,↓r_un,↓r_I,↓r_I0,↓r_U,↓r_call,↓r_cons,↓r_nil,↓r_ret,↓r_drop,↓r_if,↓r_B,↓r_test,↓r_and,↓r_or,↓r_not,↓r_chain,↓r_CB,↓r_lst,↓r_tup,↓r_ixL,↓r_ixT,↓r_sl,↓r_part,↓r_nopart,↓r_slL,↓r_slT,↓r_BM,↓r_append,↓r_Eq,↓r_Ne,↓r_iList,↓r_iTup,↓r_iRng1,↓r_true,↓r_comp,↓r_for,↓r_cat,↓r_raise,↓r_try,↓r_unnx,↓r_unrt,↓r_neD,↓r_dcount,↓r_neE,↓r_gTup,↓r_gCons,↓r_gNil,↓r_dget,↓r_din,↓r_dput,↓r_dget1,↓r_popAt,↓r_iEnumL,↓r_lazy,↓r_iDictT,↓r_dnewK,↓r_dnewT,↓r_inW,↓r_fld,↓r_sFld,↓r_meth,↓r_make,↓r_dget2,↓r_items,↓r_lindex,↓r_methE,↓r_thaw,↓r_callV,r_cxK,L2.start,List.map_cons,List.map_nil,List.length_cons,List.length_nil,List.cons_append,List.nil_append,List.replicate,List.getElem?_cons_zero,List.getElem?_cons_succ,List.set_cons_zero,List.set_cons_succ,scal])<;>(try simp only[↓r_seq,↓r_next,↓r_asg,↓r_gname,↓r_var,↓r_c,↓r_op,↓r_un,↓r_I,↓r_I0,↓r_U,↓r_call,↓r_cons,↓r_nil,↓r_ret,↓r_drop,↓r_if,↓r_B,↓r_test,↓r_and,↓r_or,↓r_not,↓r_chain,↓r_CB,↓r_lst,↓r_tup,↓r_ixL,↓r_ixT,↓r_sl,↓r_part,↓r_nopart,↓r_slL,↓r_slT,↓r_BM,↓r_append,↓r_Eq,↓r_Ne,↓r_iList,↓r_iTup,↓r_iRng1,↓r_true,↓r_comp,↓r_for,↓r_cat,↓r_raise,↓r_try,↓r_unnx,↓r_unrt,↓r_neD,↓r_dcount,↓r_neE,↓r_gTup,↓r_gCons,↓r_gNil,↓r_dget,↓r_din,↓r_dput,↓r_dget1,↓r_popAt,↓r_iEnumL,↓r_lazy,↓r_iDictT,↓r_dnewK,↓r_dnewT,↓r_inW,↓r_fld,↓r_sFld,↓r_meth,↓r_make,↓r_dget2,↓r_items,↓r_lindex,↓r_methE,↓r_thaw,↓r_callV,r_cxK,L2.start,List.map_cons,List.map_nil,List.length_cons,List.length_nil,List.cons_append,List.nil_append,List.append_nil,List.replicate,List.getElem?_cons_zero,List.getElem?_cons_succ,List.set_cons_zero,List.set_cons_succ,Option.some.injEq,V.int.injEq,V.str.injEq,V.ref.injEq,V.bl.injEq,List.cons.injEq,and_true,true_and,and_assoc,exists_and_left,exists_eq_left',exists_eq_left,exists_eq_right,exists_eq,if_true,if_false,Bool.false_eq_true,decide_eq_true_eq,scal,Nat.reduceAdd,Nat.reduceSub,reduceCtorEq,Bool.not_true,Bool.not_false]))
def top (i:Nat):Stmt:=PySem.Challenge.pw_guessroom_k39_asker_refuses.main.body.getD i (.Pass ⟨0,0,0,0⟩)
abbrev s_Turns_wants:Stmt:=inClass (top 20) 1
theorem sc_Turns_wants:FnScope ["self"] ["self"] (defScope s_Turns_wants):=⟨rfl,rfl,rfl,by decide +kernel,rfl,by decide +kernel,by decide +kernel⟩
abbrev s_Book_heard:Stmt:=inClass (top 18) 4
theorem sc_Book_heard:FnScope ["self"] ["self"] (defScope s_Book_heard):=⟨rfl,rfl,rfl,by decide +kernel,rfl,by decide +kernel,by decide +kernel⟩
abbrev s_Hunt_heard:Stmt:=inClass (top 21) 6
theorem sc_Hunt_heard:FnScope ["self"] ["self"] (defScope s_Hunt_heard):=⟨rfl,rfl,rfl,by decide +kernel,rfl,by decide +kernel,by decide +kernel⟩
abbrev s_Book_init:Stmt:=inClass (top 18) 0
theorem sc_Book_init:FnScope ["self","letters"] ["self","letters"] (defScope s_Book_init):=⟨rfl,rfl,rfl,by decide +kernel,rfl,by decide +kernel,by decide +kernel⟩
abbrev s_is_word:Stmt:=top 8
theorem sc_is_word:FnScope ["letters","word"] ["letters","word"] (defScope s_is_word):=⟨rfl,rfl,rfl,by decide +kernel,rfl,by decide +kernel,by decide +kernel⟩
abbrev s_check_word:Stmt:=top 9
theorem sc_check_word:FnScope ["letters","word"] ["letters","word"] (defScope s_check_word):=⟨rfl,rfl,rfl,by decide +kernel,rfl,by decide +kernel,by decide +kernel⟩
abbrev s_trail:Stmt:=top 13
theorem sc_trail:FnScope ["house","word","ways","rooms","letter"] ["house","word"] (defScope s_trail):=⟨rfl,rfl,rfl,by decide +kernel,rfl,by decide +kernel,by decide +kernel⟩
abbrev s_Book_told:Stmt:=inClass (top 18) 3
theorem sc_Book_told:FnScope ["self","word"] ["self","word"] (defScope s_Book_told):=⟨rfl,rfl,rfl,by decide +kernel,rfl,by decide +kernel,by decide +kernel⟩
abbrev s_halved:Stmt:=top 33
theorem sc_halved:FnScope ["book","access","guess","word","mark","last","rooms","low","high","middle","asked","told"] ["book","access","guess","word","mark","last"] (defScope s_halved):=⟨rfl,rfl,rfl,by decide +kernel,rfl,by decide +kernel,by decide +kernel⟩
abbrev s_Hunt_ask_for:Stmt:=inClass (top 21) 8
theorem sc_Hunt_ask_for:FnScope ["self","words","left","word"] ["self","words"] (defScope s_Hunt_ask_for):=⟨rfl,rfl,rfl,by decide +kernel,rfl,by decide +kernel,by decide +kernel⟩
abbrev s_rows_of:Stmt:=top 23
theorem sc_rows_of:FnScope ["letters","access","rows","word","letter"] ["letters","access"] (defScope s_rows_of):=⟨rfl,rfl,rfl,by decide +kernel,rfl,by decide +kernel,by decide +kernel⟩
abbrev s_cells:Stmt:=top 24
theorem sc_cells:FnScope ["letters","access","ends","words","row","end"] ["letters","access","ends"] (defScope s_cells):=⟨rfl,rfl,rfl,by decide +kernel,rfl,by decide +kernel,by decide +kernel⟩
abbrev s_Asker_look_for_gaps:Stmt:=inClass (top 34) 3
theorem sc_Asker_look_for_gaps:FnScope ["self"] ["self"] (defScope s_Asker_look_for_gaps):=⟨rfl,rfl,rfl,by decide +kernel,rfl,by decide +kernel,by decide +kernel⟩
abbrev s_room_behind:Stmt:=top 14
theorem sc_room_behind:FnScope ["house","word"] ["house","word"] (defScope s_room_behind):=⟨rfl,rfl,rfl,by decide +kernel,rfl,by decide +kernel,by decide +kernel⟩
abbrev s_mark_behind:Stmt:=top 15
theorem sc_mark_behind:FnScope ["house","word"] ["house","word"] (defScope s_mark_behind):=⟨rfl,rfl,rfl,by decide +kernel,rfl,by decide +kernel,by decide +kernel⟩
abbrev s_Asker_answer:Stmt:=inClass (top 34) 7
theorem sc_Asker_answer:FnScope ["self","house","word"] ["self","house","word"] (defScope s_Asker_answer):=⟨rfl,rfl,rfl,by decide +kernel,rfl,by decide +kernel,by decide +kernel⟩
abbrev s_Asker_halve:Stmt:=inClass (top 34) 4
theorem sc_Asker_halve:FnScope ["self","mark","last","found"] ["self"] (defScope s_Asker_halve):=⟨rfl,rfl,rfl,by decide +kernel,rfl,by decide +kernel,by decide +kernel⟩
abbrev s_marks_of:Stmt:=top 25
theorem sc_marks_of:FnScope ["book","word","ends"] ["book","word","ends"] (defScope s_marks_of):=⟨rfl,rfl,rfl,by decide +kernel,rfl,by decide +kernel,by decide +kernel⟩
abbrev s_marks_by_row:Stmt:=top 26
theorem sc_marks_by_row:FnScope ["book","letters","access","ends","marks","row"] ["book","letters","access","ends"] (defScope s_marks_by_row):=⟨rfl,rfl,rfl,by decide +kernel,rfl,by decide +kernel,by decide +kernel⟩
abbrev s_ways_by_marks:Stmt:=top 28
theorem sc_ways_by_marks:FnScope ["letters","access","marks","rooms","room","word","ways"] ["letters","access","marks"] (defScope s_ways_by_marks):=⟨rfl,rfl,rfl,by decide +kernel,rfl,by decide +kernel,by decide +kernel⟩
abbrev s_guess_of:Stmt:=top 29
theorem sc_guess_of:FnScope ["book","letters","access","ends","marks","room_marks"] ["book","letters","access","ends"] (defScope s_guess_of):=⟨rfl,rfl,rfl,by decide +kernel,rfl,by decide +kernel,by decide +kernel⟩
abbrev s_Asker_make_guess:Stmt:=inClass (top 34) 8
theorem sc_Asker_make_guess:FnScope ["self"] ["self"] (defScope s_Asker_make_guess):=⟨rfl,rfl,rfl,by decide +kernel,rfl,by decide +kernel,by decide +kernel⟩
abbrev s_first_unlike:Stmt:=top 30
theorem sc_first_unlike:FnScope ["heard","answer","house","word","told"] ["heard","answer","house"] (defScope s_first_unlike):=⟨rfl,rfl,rfl,by decide +kernel,rfl,by decide +kernel,by decide +kernel⟩
abbrev s_first_wrong:Stmt:=top 31
theorem sc_first_wrong:FnScope ["book","house"] ["book","house"] (defScope s_first_wrong):=⟨rfl,rfl,rfl,by decide +kernel,rfl,by decide +kernel,by decide +kernel⟩
abbrev s_Asker_wrong_word:Stmt:=inClass (top 34) 9
theorem sc_Asker_wrong_word:FnScope ["self"] ["self"] (defScope s_Asker_wrong_word):=⟨rfl,rfl,rfl,by decide +kernel,rfl,by decide +kernel,by decide +kernel⟩
abbrev s_Hunt_look_at_guess:Stmt:=inClass (top 21) 9
theorem sc_Hunt_look_at_guess:FnScope ["self"] ["self"] (defScope s_Hunt_look_at_guess):=⟨rfl,rfl,rfl,by decide +kernel,rfl,by decide +kernel,by decide +kernel⟩
abbrev s_stranger:Stmt:=top 27
theorem sc_stranger:FnScope ["book","letters","access","ends","marks","known","row"] ["book","letters","access","ends"] (defScope s_stranger):=⟨rfl,rfl,rfl,by decide +kernel,rfl,by decide +kernel,by decide +kernel⟩
abbrev s_Asker_look_at_words:Stmt:=inClass (top 34) 5
theorem sc_Asker_look_at_words:FnScope ["self","row"] ["self"] (defScope s_Asker_look_at_words):=⟨rfl,rfl,rfl,by decide +kernel,rfl,by decide +kernel,by decide +kernel⟩
abbrev s_Hunt_next_wish:Stmt:=inClass (top 21) 7
theorem sc_Hunt_next_wish:FnScope ["self"] ["self"] (defScope s_Hunt_next_wish):=⟨rfl,rfl,rfl,by decide +kernel,rfl,by decide +kernel,by decide +kernel⟩
abbrev s_Turns_go_on:Stmt:=inClass (top 20) 3
theorem sc_Turns_go_on:FnScope ["self"] ["self"] (defScope s_Turns_go_on):=⟨rfl,rfl,rfl,by decide +kernel,rfl,by decide +kernel,by decide +kernel⟩
abbrev s_Turns_init:Stmt:=inClass (top 20) 0
theorem sc_Turns_init:FnScope ["self"] ["self"] (defScope s_Turns_init):=⟨rfl,rfl,rfl,by decide +kernel,rfl,by decide +kernel,by decide +kernel⟩
abbrev s_Hunt_init:Stmt:=inClass (top 21) 0
theorem sc_Hunt_init:FnScope ["self","letters","most","book","ways","ends"] ["self","letters","most","book","ways","ends"] (defScope s_Hunt_init):=⟨rfl,rfl,rfl,by decide +kernel,rfl,by decide +kernel,by decide +kernel⟩
abbrev s_Asker_first_ends:Stmt:=inClass (top 34) 6
theorem sc_Asker_first_ends:FnScope ["self","letters"] ["self","letters"] (defScope s_Asker_first_ends):=⟨rfl,rfl,rfl,by decide +kernel,rfl,by decide +kernel,by decide +kernel⟩
abbrev s_Asker_init:Stmt:=inClass (top 34) 0
theorem sc_Asker_init:FnScope ["self","letters","most"] ["self","letters","most"] (defScope s_Asker_init):=⟨rfl,rfl,rfl,by decide +kernel,rfl,by decide +kernel,by decide +kernel⟩
abbrev s__law_cell_at:Stmt:=top 36
theorem sc__law_cell_at:FnScope ["script","k"] ["script","k"] (defScope s__law_cell_at):=⟨rfl,rfl,rfl,by decide +kernel,rfl,by decide +kernel,by decide +kernel⟩
abbrev s_Turns_check_wants:Stmt:=inClass (top 20) 2
theorem sc_Turns_check_wants:FnScope ["self","deed"] ["self","deed"] (defScope s_Turns_check_wants):=⟨rfl,rfl,rfl,by decide +kernel,rfl,by decide +kernel,by decide +kernel⟩
abbrev s_Hunt_agree:Stmt:=inClass (top 21) 2
theorem sc_Hunt_agree:FnScope ["self"] ["self"] (defScope s_Hunt_agree):=⟨rfl,rfl,rfl,by decide +kernel,rfl,by decide +kernel,by decide +kernel⟩
abbrev s_is_mark:Stmt:=top 12
theorem sc_is_mark:FnScope ["number"] ["number"] (defScope s_is_mark):=⟨rfl,rfl,rfl,by decide +kernel,rfl,by decide +kernel,by decide +kernel⟩
abbrev s_check_mark:Stmt:=top 17
theorem sc_check_mark:FnScope ["mark"] ["mark"] (defScope s_check_mark):=⟨rfl,rfl,rfl,by decide +kernel,rfl,by decide +kernel,by decide +kernel⟩
abbrev s_Book_check:Stmt:=inClass (top 18) 1
theorem sc_Book_check:FnScope ["self","word","mark"] ["self","word","mark"] (defScope s_Book_check):=⟨rfl,rfl,rfl,by decide +kernel,rfl,by decide +kernel,by decide +kernel⟩
abbrev s_Book_put:Stmt:=inClass (top 18) 2
theorem sc_Book_put:FnScope ["self","word","mark"] ["self","word","mark"] (defScope s_Book_put):=⟨rfl,rfl,rfl,by decide +kernel,rfl,by decide +kernel,by decide +kernel⟩
abbrev s_Hunt_keep_answer:Stmt:=inClass (top 21) 1
theorem sc_Hunt_keep_answer:FnScope ["self","number"] ["self","number"] (defScope s_Hunt_keep_answer):=⟨rfl,rfl,rfl,by decide +kernel,rfl,by decide +kernel,by decide +kernel⟩
abbrev s_Asker_hear:Stmt:=inClass (top 34) 1
theorem sc_Asker_hear:FnScope ["self","mark"] ["self","mark"] (defScope s_Asker_hear):=⟨rfl,rfl,rfl,by decide +kernel,rfl,by decide +kernel,by decide +kernel⟩
abbrev s_Hunt_keep_objection:Stmt:=inClass (top 21) 3
theorem sc_Hunt_keep_objection:FnScope ["self","word","number"] ["self","word","number"] (defScope s_Hunt_keep_objection):=⟨rfl,rfl,rfl,by decide +kernel,rfl,by decide +kernel,by decide +kernel⟩
abbrev s_Asker_differ:Stmt:=inClass (top 34) 2
theorem sc_Asker_differ:FnScope ["self","word","mark"] ["self","word","mark"] (defScope s_Asker_differ):=⟨rfl,rfl,rfl,by decide +kernel,rfl,by decide +kernel,by decide +kernel⟩
abbrev s__law_done:Stmt:=top 37
theorem sc__law_done:FnScope ["asker","deed","found","back","e","kinds"] ["asker","deed"] (defScope s__law_done):=⟨rfl,rfl,rfl,by decide +kernel,rfl,by decide +kernel,by decide +kernel⟩
abbrev s__law_mark_by:Stmt:=top 38
theorem sc__law_mark_by:FnScope ["cell","head","pair","far","some"] ["cell","head"] (defScope s__law_mark_by):=⟨rfl,rfl,rfl,by decide +kernel,rfl,by decide +kernel,by decide +kernel⟩
abbrev s__law_word_by:Stmt:=top 39
theorem sc__law_word_by:FnScope ["cell","letters","told","rest","word","k","at","bad"] ["cell","letters","told"] (defScope s__law_word_by):=⟨rfl,rfl,rfl,by decide +kernel,rfl,by decide +kernel,by decide +kernel⟩
abbrev s__law_deed_by:Stmt:=top 41
theorem sc__law_deed_by:FnScope ["want","cell","head","letters","told","mark","hearing","objecting"] ["want","cell","head","letters","told"] (defScope s__law_deed_by):=⟨rfl,rfl,rfl,by decide +kernel,rfl,by decide +kernel,by decide +kernel⟩
abbrev s__law_answer:Stmt:=top 40
theorem sc__law_answer:FnScope ["house","word","room","letter"] ["house","word"] (defScope s__law_answer):=⟨rfl,rfl,rfl,by decide +kernel,rfl,by decide +kernel,by decide +kernel⟩
abbrev s__law_due:Stmt:=top 42
theorem sc__law_due:FnScope ["want","deed","letters","told","word","letter"] ["want","deed","letters","told"] (defScope s__law_due):=⟨rfl,rfl,rfl,by decide +kernel,rfl,by decide +kernel,by decide +kernel⟩
abbrev s_Hunt_access:Stmt:=inClass (top 21) 4
theorem sc_Hunt_access:FnScope ["self"] ["self"] (defScope s_Hunt_access):=⟨rfl,rfl,rfl,by decide +kernel,rfl,by decide +kernel,by decide +kernel⟩
abbrev s_Hunt_tellers:Stmt:=inClass (top 21) 5
theorem sc_Hunt_tellers:FnScope ["self"] ["self"] (defScope s_Hunt_tellers):=⟨rfl,rfl,rfl,by decide +kernel,rfl,by decide +kernel,by decide +kernel⟩
abbrev s__law_all:Stmt:=top 43
theorem sc__law_all:FnScope ["asker"] ["asker"] (defScope s__law_all):=⟨rfl,rfl,rfl,by decide +kernel,rfl,by decide +kernel,by decide +kernel⟩
abbrev s_law:Stmt:=top 44
theorem sc_law:FnScope ["script","head","letters","asker","told","cell","ahead","want","deed","due"] ["script"] (defScope s_law):=⟨rfl,rfl,rfl,by decide +kernel,rfl,by decide +kernel,by decide +kernel⟩
def c_is_word_0:Caps:=[("letter",none),("letters",some 0)]
theorem nd_c_is_word_0:(Caps.names c_is_word_0).Nodup:=by decide +kernel
def c_marks_of_0:Caps:=[("end",none),("book",some 0),("word",some 1)]
theorem nd_c_marks_of_0:(Caps.names c_marks_of_0).Nodup:=by decide +kernel
def c_ways_by_marks_0:Caps:=[("letter",none),("rooms",some 3),("marks",some 2),("word",some 5)]
theorem nd_c_ways_by_marks_0:(Caps.names c_ways_by_marks_0).Nodup:=by decide +kernel
def c_guess_of_0:Caps:=[("word",none),("book",some 0)]
theorem nd_c_guess_of_0:(Caps.names c_guess_of_0).Nodup:=by decide +kernel
def c_stranger_0:Caps:=[("word",none),("marks",some 4)]
theorem nd_c_stranger_0:(Caps.names c_stranger_0).Nodup:=by decide +kernel
def c__law_done_0:Caps:=[("one",none)]
theorem nd_c__law_done_0:(Caps.names c__law_done_0).Nodup:=by decide +kernel
def c_law_0:Caps:=[("word",none),("told",some 4)]
theorem nd_c_law_0:(Caps.names c_law_0).Nodup:=by decide +kernel
structure Txt (mg:Str->Option Value):Prop where
 ValueError:mg "ValueError"=none
 all:mg "all"=none
 enumerate:mg "enumerate"=none
 int:mg "int"=none
 isinstance:mg "isinstance"=none
 len:mg "len"=none
 list:mg "list"=none
 range:mg "range"=none
 sum:mg "sum"=none
 tuple:mg "tuple"=none
structure Own (K:PySem.W.Frag)(mg:Str->Option Value)(C_Book C_Turns C_Hunt C_Asker:Addr):Prop where
 m_Book:mg "Book"=some (.ref C_Book)
 cl_Book:Cls K C_Book
 n_Book_letters:NoAttr K C_Book "letters"
 n_Book_marks:NoAttr K C_Book "marks"
 m_Turns:mg "Turns"=some (.ref C_Turns)
 m_Hunt:mg "Hunt"=some (.ref C_Hunt)
 m_Asker:mg "Asker"=some (.ref C_Asker)
 cl_Asker:Cls K C_Asker
 n_Asker_wish:NoAttr K C_Asker "wish"
 n_Asker_letters:NoAttr K C_Asker "letters"
 n_Asker_most:NoAttr K C_Asker "most"
 n_Asker_book:NoAttr K C_Asker "book"
 n_Asker_ways:NoAttr K C_Asker "ways"
 n_Asker_ends:NoAttr K C_Asker "ends"
 n_Asker_gaps:NoAttr K C_Asker "gaps"
 n_Asker_guess:NoAttr K C_Asker "guess"
 n_Asker_wrong:NoAttr K C_Asker "wrong"
 q_MOST_MARK:∃t,mg "MOST_MARK"=some (.int 1000000000 t)
structure Exs (K:PySem.W.Frag)(mg:Str->Option Value)(C_AskError C_BadWord C_BadMark C_OutOfTurn C_NoDifference C_Contradiction:Addr):Prop where
 m_AskError:mg "AskError"=some (.ref C_AskError)
 m_BadWord:mg "BadWord"=some (.ref C_BadWord)
 m_BadMark:mg "BadMark"=some (.ref C_BadMark)
 m_OutOfTurn:mg "OutOfTurn"=some (.ref C_OutOfTurn)
 m_NoDifference:mg "NoDifference"=some (.ref C_NoDifference)
 m_Contradiction:mg "Contradiction"=some (.ref C_Contradiction)
 x_BadWord:PySem.W.excIn K C_BadWord bmV "ValueError.__new__"=true
 c_BadWord:ExcCls K C_BadWord
 e_BadWord:PySem.W.exmOne K (.ref C_BadWord) (.ref C_AskError)=some true
 v_BadWord:PySem.W.kitOne K (.ref C_BadWord) (.type "ValueError")=some true
 ee_BadWord:PySem.W.exmOne K (.ref C_BadWord) (.ref C_BadWord)=some true
 k_BadWord_AskError:PySem.W.kitOne K (.ref C_BadWord) (.ref C_AskError)=some true
 k_BadWord_BadWord:PySem.W.kitOne K (.ref C_BadWord) (.ref C_BadWord)=some true
 k_BadWord_BadMark:PySem.W.kitOne K (.ref C_BadWord) (.ref C_BadMark)=some false
 k_BadWord_OutOfTurn:PySem.W.kitOne K (.ref C_BadWord) (.ref C_OutOfTurn)=some false
 k_BadWord_NoDifference:PySem.W.kitOne K (.ref C_BadWord) (.ref C_NoDifference)=some false
 k_BadWord_Contradiction:PySem.W.kitOne K (.ref C_BadWord) (.ref C_Contradiction)=some false
 x_BadMark:PySem.W.excIn K C_BadMark bmV "ValueError.__new__"=true
 c_BadMark:ExcCls K C_BadMark
 e_BadMark:PySem.W.exmOne K (.ref C_BadMark) (.ref C_AskError)=some true
 v_BadMark:PySem.W.kitOne K (.ref C_BadMark) (.type "ValueError")=some true
 ee_BadMark:PySem.W.exmOne K (.ref C_BadMark) (.ref C_BadMark)=some true
 k_BadMark_AskError:PySem.W.kitOne K (.ref C_BadMark) (.ref C_AskError)=some true
 k_BadMark_BadWord:PySem.W.kitOne K (.ref C_BadMark) (.ref C_BadWord)=some false
 k_BadMark_BadMark:PySem.W.kitOne K (.ref C_BadMark) (.ref C_BadMark)=some true
 k_BadMark_OutOfTurn:PySem.W.kitOne K (.ref C_BadMark) (.ref C_OutOfTurn)=some false
 k_BadMark_NoDifference:PySem.W.kitOne K (.ref C_BadMark) (.ref C_NoDifference)=some false
 k_BadMark_Contradiction:PySem.W.kitOne K (.ref C_BadMark) (.ref C_Contradiction)=some false
 x_OutOfTurn:PySem.W.excIn K C_OutOfTurn bmV "ValueError.__new__"=true
 c_OutOfTurn:ExcCls K C_OutOfTurn
 e_OutOfTurn:PySem.W.exmOne K (.ref C_OutOfTurn) (.ref C_AskError)=some true
 v_OutOfTurn:PySem.W.kitOne K (.ref C_OutOfTurn) (.type "ValueError")=some true
 ee_OutOfTurn:PySem.W.exmOne K (.ref C_OutOfTurn) (.ref C_OutOfTurn)=some true
 k_OutOfTurn_AskError:PySem.W.kitOne K (.ref C_OutOfTurn) (.ref C_AskError)=some true
 k_OutOfTurn_BadWord:PySem.W.kitOne K (.ref C_OutOfTurn) (.ref C_BadWord)=some false
 k_OutOfTurn_BadMark:PySem.W.kitOne K (.ref C_OutOfTurn) (.ref C_BadMark)=some false
 k_OutOfTurn_OutOfTurn:PySem.W.kitOne K (.ref C_OutOfTurn) (.ref C_OutOfTurn)=some true
 k_OutOfTurn_NoDifference:PySem.W.kitOne K (.ref C_OutOfTurn) (.ref C_NoDifference)=some false
 k_OutOfTurn_Contradiction:PySem.W.kitOne K (.ref C_OutOfTurn) (.ref C_Contradiction)=some false
 x_NoDifference:PySem.W.excIn K C_NoDifference bmV "ValueError.__new__"=true
 c_NoDifference:ExcCls K C_NoDifference
 e_NoDifference:PySem.W.exmOne K (.ref C_NoDifference) (.ref C_AskError)=some true
 v_NoDifference:PySem.W.kitOne K (.ref C_NoDifference) (.type "ValueError")=some true
 ee_NoDifference:PySem.W.exmOne K (.ref C_NoDifference) (.ref C_NoDifference)=some true
 k_NoDifference_AskError:PySem.W.kitOne K (.ref C_NoDifference) (.ref C_AskError)=some true
 k_NoDifference_BadWord:PySem.W.kitOne K (.ref C_NoDifference) (.ref C_BadWord)=some false
 k_NoDifference_BadMark:PySem.W.kitOne K (.ref C_NoDifference) (.ref C_BadMark)=some false
 k_NoDifference_OutOfTurn:PySem.W.kitOne K (.ref C_NoDifference) (.ref C_OutOfTurn)=some false
 k_NoDifference_NoDifference:PySem.W.kitOne K (.ref C_NoDifference) (.ref C_NoDifference)=some true
 k_NoDifference_Contradiction:PySem.W.kitOne K (.ref C_NoDifference) (.ref C_Contradiction)=some false
 x_Contradiction:PySem.W.excIn K C_Contradiction bmV "ValueError.__new__"=true
 c_Contradiction:ExcCls K C_Contradiction
 e_Contradiction:PySem.W.exmOne K (.ref C_Contradiction) (.ref C_AskError)=some true
 v_Contradiction:PySem.W.kitOne K (.ref C_Contradiction) (.type "ValueError")=some true
 ee_Contradiction:PySem.W.exmOne K (.ref C_Contradiction) (.ref C_Contradiction)=some true
 k_Contradiction_AskError:PySem.W.kitOne K (.ref C_Contradiction) (.ref C_AskError)=some true
 k_Contradiction_BadWord:PySem.W.kitOne K (.ref C_Contradiction) (.ref C_BadWord)=some false
 k_Contradiction_BadMark:PySem.W.kitOne K (.ref C_Contradiction) (.ref C_BadMark)=some false
 k_Contradiction_OutOfTurn:PySem.W.kitOne K (.ref C_Contradiction) (.ref C_OutOfTurn)=some false
 k_Contradiction_NoDifference:PySem.W.kitOne K (.ref C_Contradiction) (.ref C_NoDifference)=some false
 k_Contradiction_Contradiction:PySem.W.kitOne K (.ref C_Contradiction) (.ref C_Contradiction)=some true
section
variable {P:Program} {w:World} {K:PySem.W.Frag} {mg:Str->Option Value} {base:Heap}
variable {C_AskError C_BadWord C_BadMark C_OutOfTurn C_NoDifference C_Contradiction C_Book C_Turns C_Hunt C_Asker:Addr}
def sp_is_word (K:PySem.W.Frag):Sp:=fun vs H Q _=>∃(L:Int) (a:Addr) (ws:List Int),vs=[.int L,.ref a]/\SqT K H a (ws.map V.int)/\ws.length<=1000/\∀H',Same H H'->Q (.bl (isW L ws)) H'
theorem ok_is_word {f:Addr}{fd:FuncData}(F:Fun K "is_word" "is_word" s_is_word f fd)(T:Txt mg)
  (W:Own K mg C_Book C_Turns C_Hunt C_Asker)
  (Z:Exs K mg C_AskError C_BadWord C_BadMark C_OutOfTurn C_NoDifference C_Contradiction)
  : FnOk P w K mg base CX0 1 f fd ["letters","word"] (sp_is_word K):=by
 refine F.ok sc_is_word (fun vs H Q E h=>?_) (fun cdv A outer s H vs Q E hr h=>?_)
 ·obtain⟨L,a,ws,rfl,_⟩:=h;rfl
 ·obtain⟨L,a,ws,rfl,hw,hz,k⟩:=h
  have hl:=line1000
  refine⟨_,(pss_one (ps_ret (pe_callB (call_all rfl) rfl T.all PyProof.Rows.boot_all (pa_cons (pe_comp rfl (blk_mk rfl) (cp:=c_is_word_0) ⟨⟨rfl,rfl⟩,True.intro⟩ (pi_tup (pv 1)) (fun _ _ _ _=>(pg_name (i:=0) nd_c_is_word_0 rfl (Or.inl rfl))) (fun _ _ _ _=>pf_nil) (fun _ _ _ _=>(pe_chain op_le op_lt pe_int (pv 0) (pv 1)))) pa_nil)))),?_⟩
  walk_at "rd"
  refine⟨⟨_,hw⟩,compMapT (σ':=[some (.int L)]) (fun x=>match x with | .int n=>.bl (inW L n)|_=>.non) rfl hw (by rw[List.length_map];omega) (fun x hx R hR=>?_) (fun D hD=>?_)⟩
  ·obtain⟨n,_,rfl⟩:=mem_mapI hx
   walk_at "rd"
   by_cases h0:0<=n
   ·simp only[h0,if_true]
    simpa [inW,h0] using hR
   ·simp only[h0,if_false]
    simpa [inW,h0] using hR
  ·refine⟨D,rfl,ws.map (inW L),.inl (.inl ?_),?_⟩
   ·rw[upd_same,List.map_map,List.map_map];rfl
   ·have:=k _ (Same.new hD (o:=.lst ((ws.map V.int).map fun x=>match x with | .int n=>.bl (inW L n)|_=>.non)))
    simpa [isW,List.all_map] using this
def sp_check (K:PySem.W.Frag)(BW:Addr):Sp:=fun vs H Q E=>∃(L:Int) (a:Addr) (ws:List Int),vs=[.int L,.ref a]/\SqT K H a (ws.map V.int)/\ws.length<=1000/\(isW L ws=true->∀H',Same H H'->Q .non H')/\(isW L ws=false->∀H',Same H H'->E (.ref BW) none H')
theorem ok_check_word {f:Addr}{fd:FuncData}(F:Fun K "check_word" "check_word" s_check_word f fd)(T:Txt mg)
  (W:Own K mg C_Book C_Turns C_Hunt C_Asker)
  (Z:Exs K mg C_AskError C_BadWord C_BadMark C_OutOfTurn C_NoDifference C_Contradiction)
  {f_is_word:Addr} {fd_is_word:FuncData} (g_is_word:FnOk P w K mg base CX0 1 f_is_word fd_is_word ["letters","word"] (sp_is_word K)) (F_is_word:Fun K "is_word" "is_word" s_is_word f_is_word fd_is_word) (b_is_word:Binds K fd_is_word ["letters","word"] []) (m_is_word:mg "is_word"=some (.ref f_is_word))
  : FnOk P w K mg base (CXe P w) 2 f fd ["letters","word"] (sp_check K C_BadWord):=by
 refine F.okE sc_check_word (fun vs H Q E h=>?_) (fun cdv A outer s H vs Q E hr h=>?_)
 ·obtain⟨L,a,ws,rfl,_⟩:=h;rfl
 ·obtain⟨L,a,ws,rfl,hw,hz,k,kE⟩:=h
  have hl:=line1000
  refine⟨_,(pss_one (ps_if (pt_not (pt_val (pe_call g_is_word (hr.mono (by decide)) rfl m_is_word F_is_word.kp b_is_word .nil pass0 (pa_cons (pv 0) (pa_cons (pv 1) pa_nil)))))
   (pss_one (ps_raise Z.m_BadWord Z.x_BadWord rfl rfl (pa_cons pe_str pa_nil)))
   pss_nil)),?_⟩
  walk_at "rd"
  refine⟨L,a,ws,rfl,hw,hz,fun H' s'=>?_⟩
  walk_at "rd"
  cases hv:isW L ws with
  |true=>
   simp only[Bool.not_true,Bool.false_eq_true,if_false]
   exact k hv H' s'
  |false=>
   simp only[Bool.not_false,if_true]
   exact⟨by omega,kE hv H' s'⟩
def sp_is_mark:Sp:=fun vs H Q _=>∃n:Int,vs=[.int n]/\Q (.bl (decide (0<=n)&&decide (n<=1000000000))) H
theorem ok_is_mark {f:Addr}{fd:FuncData}(F:Fun K "is_mark" "is_mark" s_is_mark f fd)(T:Txt mg)
  (W:Own K mg C_Book C_Turns C_Hunt C_Asker)
  (Z:Exs K mg C_AskError C_BadWord C_BadMark C_OutOfTurn C_NoDifference C_Contradiction)
  : FnOk P w K mg base CX0 1 f fd ["number"] (sp_is_mark):=by
 refine F.ok sc_is_mark (fun vs H Q E h=>?_) (fun cdv A outer s H vs Q E hr h=>?_)
 ·obtain⟨n,rfl,_⟩:=h;rfl
 ·obtain⟨n,rfl,k⟩:=h
  refine⟨_,(pss_one (ps_ret (pe_chain op_le op_le pe_int (pv 0) (pe_gc rfl W.q_MOST_MARK)))),?_⟩
  walk_at "rd"
  by_cases h0:0<=n
  ·simp only[h0,if_true]
   simpa [h0] using k
  ·simp only[h0,if_false]
   simpa [h0] using k
def sp_check_markE (BM:Addr):Sp:=fun vs H Q E=>∃n:Int,vs=[.int n]/\(0<=n->n<=1000000000->Q .non H)/\(¬ (0<=n/\n<=1000000000)->E (.ref BM) none H)
theorem ok_check_mark {f:Addr}{fd:FuncData}(F:Fun K "check_mark" "check_mark" s_check_mark f fd)(T:Txt mg)
  (W:Own K mg C_Book C_Turns C_Hunt C_Asker)
  (Z:Exs K mg C_AskError C_BadWord C_BadMark C_OutOfTurn C_NoDifference C_Contradiction)
  {f_is_mark:Addr} {fd_is_mark:FuncData} (g_is_mark:FnOk P w K mg base CX0 1 f_is_mark fd_is_mark ["number"] (sp_is_mark)) (F_is_mark:Fun K "is_mark" "is_mark" s_is_mark f_is_mark fd_is_mark) (b_is_mark:Binds K fd_is_mark ["number"] []) (m_is_mark:mg "is_mark"=some (.ref f_is_mark))
  : FnOk P w K mg base (CXe P w) 2 f fd ["mark"] (sp_check_markE C_BadMark):=by
 refine F.okE sc_check_mark (fun vs H Q E h=>?_) (fun cdv A outer s H vs Q E hr h=>?_)
 ·obtain⟨n,rfl,_⟩:=h;rfl
 ·obtain⟨n,rfl,k,kE⟩:=h
  refine⟨_,(pss_one (ps_if (pt_not (pt_val (pe_call g_is_mark (hr.mono (by decide)) rfl m_is_mark F_is_mark.kp b_is_mark .nil pass0 (pa_cons (pv 0) pa_nil))))
   (pss_one (ps_raise Z.m_BadMark Z.x_BadMark rfl rfl (pa_cons pe_str pa_nil)))
   pss_nil)),?_⟩
  walk_at "rd"
  refine⟨n,rfl,?_⟩
  walk_at "rd"
  by_cases h0:0<=n/\n<=1000000000
  ·rw[if_neg (by simp[h0.1,h0.2])]
   exact k h0.1 h0.2
  ·rw[if_pos (by simp only[Bool.not_eq_true',Bool.and_eq_false_iff,decide_eq_false_iff_not];omega)]
   exact⟨by have:=line1000;omega,kE h0⟩
def sp_trail (K:PySem.W.Frag)(BW:Addr):Sp:=fun vs H Q E=>∃(h a:Addr) (L:Int) (marks:List Int) (ways:List (List Int)) (ws:List Int),vs=[.ref h,.ref a]/\House K H h L marks ways/\Wf L marks ways/\SqT K H a (ws.map V.int)/\ws.length<=600/\(isW L ws=true->∀p H',Same H H'->H p=none->H' p=some (.lst ((trailW ways ws).map V.int))->Q (.ref p) H')/\(isW L ws=false->∀H',Same H H'->E (.ref BW) none H')
theorem ok_trail {f:Addr}{fd:FuncData}(F:Fun K "trail" "trail" s_trail f fd)(T:Txt mg)
  (W:Own K mg C_Book C_Turns C_Hunt C_Asker)
  (Z:Exs K mg C_AskError C_BadWord C_BadMark C_OutOfTurn C_NoDifference C_Contradiction)
  {f_check_word:Addr} {fd_check_word:FuncData} (g_check_word:FnOk P w K mg base (CXe P w) 2 f_check_word fd_check_word ["letters","word"] (sp_check K C_BadWord)) (F_check_word:Fun K "check_word" "check_word" s_check_word f_check_word fd_check_word) (b_check_word:Binds K fd_check_word ["letters","word"] []) (m_check_word:mg "check_word"=some (.ref f_check_word))
  : FnOk P w K mg base (CXe P w) 3 f fd ["house","word"] (sp_trail K C_BadWord):=by
 refine F.okE sc_trail (fun vs H Q E h=>?_) (fun cdv A outer s H vs Q E hr h=>?_)
 ·obtain⟨h,a,L,marks,ways,ws,rfl,_⟩:=h;rfl
 ·obtain⟨h,a,L,marks,ways,ws,rfl,hh,wf,hw,hz,k,kE⟩:=h
  have hl:=line1000
  refine⟨_,(pss_cons (ps_expr (pe_call g_check_word (hr.mono (by decide)) rfl m_check_word F_check_word.kp b_check_word .nil (passE fun _ _ _ h=>h) (pa_cons (pe_ix ix_tup (pv 0) pe_int (fun _ _=>rfl)) (pa_cons (pv 1) pa_nil))))
   (PSs.nox (pss_cons (ps_set (i:=2) sc_trail.nd rfl (Or.inl rfl) (pe_ix ix_tup (pv 0) pe_int (fun _ _=>rfl)))
   (pss_cons (ps_set (i:=3) sc_trail.nd rfl (Or.inl rfl) (pe_lst (pa_cons pe_int pa_nil)))
   (pss_cons (ps_for PassesOwn.never rfl (pi_tup (pv 1)) (pg_name (i:=4) sc_trail.nd rfl (Or.inl rfl))
   (pss_one (ps_expr (pe_bm PySem.F.plainAttrs_list PySem.F.slot_list_append PySem.F.type_list_append mt_append (pv 3) (pa_cons (pe_ix ix_tup (pe_ix ix_tup (pv 2) (pe_ix ix_list (pv 3) (pe_un un_neg pe_int) (fun _ _=>rfl)) (fun _ _=>rfl)) (pv 4) (fun _ _=>rfl)) pa_nil)))))
   (pss_one (ps_ret (pv 3)))))))),?_⟩
  walk_at "rd"
  obtain⟨m,wv,h1,h2,h3⟩:=hh
  refine⟨_,h1,_,rfl,L,a,ws,rfl,hw,by omega,fun hv H1 s1=>?_,kE⟩
  walk_at "rd"
  have hw1:=s1.seqT hw
  have h3':=h3.mono s1
  refine⟨_,s1.seqT h1,_,rfl,by omega,fun p hp=>?_⟩
  have s2:=Same.new hp (o:=.lst [V.int 0])
  refine⟨⟨_,s2.seqT hw1⟩,forT (xs:=ws.map V.int) (fun i σ2 H2=>Same H1 H2/\H2 p=some (.lst (((List.range (i+1)).map fun j=>walkW ways (ws.take j)).map V.int))/\∃o,σ2=[some (.ref h),some (.ref a),some (.ref wv),some (.ref p),o]) ⟨s2,by rw[upd_same];simp[walkW],none,rfl⟩ (fun i σ2 H2 _ h=>h.1.seqT hw1) (fun i x σ2 H2 hx h=>?_) (fun σ2 H2 h=>?_)⟩
  ·obtain⟨s3,hp3,o,rfl⟩:=h
   obtain⟨n,hn,rfl⟩:=get_mapI hx
   have hi:=(List.getElem?_eq_some_iff.mp hn).1
   have hx:=isW_iff.mp hv n (List.mem_of_getElem? hn)
   have hwk:=wf.walk hv i
   obtain⟨row,g,r1,r2,r3,r4,r5⟩:=wf.step hwk.1 hwk.2 hx.1 hx.2
   obtain⟨xs,t,q1,q2,q3⟩:=(h3'.mono s3).atZ hwk.1 r1
   walk_at "rd"
   refine⟨.inl ⟨rfl,_,SqL.of hp3⟩,_,SqL.of hp3,_,atI_end (v:=V.int (walkW ways (ws.take i))) (by simp),?_⟩
   walk_at "rd"
   refine⟨_,q1,_,q2,?_⟩
   walk_at "rd"
   refine⟨_,q3,_,atI_int hx.1 r2,_,hp3,by simp;omega,s3.over hp,?_,_,rfl⟩
   rw[upd_same,show List.range (i+1+1)=List.range (i+1)++[i+1] from List.range_succ,List.map_append,List.map_append,<-r3,<-walkW_take hn]
   rfl
  ·obtain⟨s3,hp3,o,rfl⟩:=h
   walk_at "rd"
   rw[List.length_map]at hp3
   exact k hv p H2 (s1.trans s3) (s1.free hp) hp3
def sp_room (K:PySem.W.Frag)(BW:Addr):Sp:=fun vs H Q E=>∃(h a:Addr) (L:Int) (marks:List Int) (ways:List (List Int)) (ws:List Int),vs=[.ref h,.ref a]/\House K H h L marks ways/\Wf L marks ways/\SqT K H a (ws.map V.int)/\ws.length<=600/\(isW L ws=true->∀H',Same H H'->Q (.int (walkW ways ws)) H')/\(isW L ws=false->∀H',Same H H'->E (.ref BW) none H')
theorem ok_room_behind {f:Addr}{fd:FuncData}(F:Fun K "room_behind" "room_behind" s_room_behind f fd)(T:Txt mg)
  (W:Own K mg C_Book C_Turns C_Hunt C_Asker)
  (Z:Exs K mg C_AskError C_BadWord C_BadMark C_OutOfTurn C_NoDifference C_Contradiction)
  {f_trail:Addr} {fd_trail:FuncData} (g_trail:FnOk P w K mg base (CXe P w) 3 f_trail fd_trail ["house","word"] (sp_trail K C_BadWord)) (F_trail:Fun K "trail" "trail" s_trail f_trail fd_trail) (b_trail:Binds K fd_trail ["house","word"] []) (m_trail:mg "trail"=some (.ref f_trail))
  : FnOk P w K mg base (CXe P w) 4 f fd ["house","word"] (sp_room K C_BadWord):=by
 refine F.okE sc_room_behind (fun vs H Q E h=>?_) (fun cdv A outer s H vs Q E hr h=>?_)
 ·obtain⟨h,a,L,marks,ways,ws,rfl,_⟩:=h;rfl
 ·obtain⟨h,a,L,marks,ways,ws,rfl,hh,wf,hw,hz,k,kE⟩:=h
  have hl:=line1000
  refine⟨_,(pss_one (ps_ret (pe_ix ix_list (pe_call g_trail (hr.mono (by decide)) rfl m_trail F_trail.kp b_trail .nil (passE fun _ _ _ h=>h) (pa_cons (pv 0) (pa_cons (pv 1) pa_nil))) (pe_un un_neg pe_int) (fun _ _=>rfl)))),?_⟩
  walk_at "rd"
  refine⟨h,a,L,marks,ways,ws,rfl,hh,wf,hw,hz,fun hv p H1 s1 _ hp=>?_,kE⟩
  walk_at "rd"
  refine⟨_,SqL.of hp,_,atI_end (v:=V.int (walkW ways ws)) ?_,k hv H1 s1⟩
  rw[List.getElem?_map,List.length_map,trailW_length,show ws.length+1-1=ws.length by omega,trailW_last];rfl
def markW (marks:List Int)(r:Int):Int:=marks.getD r.toNat 0
theorem markW_at {marks:List Int}{r:Int}(h0:0<=r)(h1:r<marks.length):atI (marks.map V.int) r=some (V.int (markW marks r)):=by
 have hlt:r.toNat<marks.length:=by omega
 refine atI_int h0 ?_
 unfold markW
 rw[List.getD_eq_getElem?_getD]
 simp[hlt]
def sp_mark (K:PySem.W.Frag)(BW:Addr):Sp:=fun vs H Q E=>∃(h a:Addr) (L:Int) (marks:List Int) (ways:List (List Int)) (ws:List Int),vs=[.ref h,.ref a]/\House K H h L marks ways/\Wf L marks ways/\SqT K H a (ws.map V.int)/\ws.length<=600/\(isW L ws=true->∀H',Same H H'->Q (.int (markW marks (walkW ways ws))) H')/\(isW L ws=false->∀H',Same H H'->E (.ref BW) none H')
theorem ok_mark_behind {f:Addr}{fd:FuncData}(F:Fun K "mark_behind" "mark_behind" s_mark_behind f fd)(T:Txt mg)
  (W:Own K mg C_Book C_Turns C_Hunt C_Asker)
  (Z:Exs K mg C_AskError C_BadWord C_BadMark C_OutOfTurn C_NoDifference C_Contradiction)
  {f_room_behind:Addr} {fd_room_behind:FuncData} (g_room_behind:FnOk P w K mg base (CXe P w) 4 f_room_behind fd_room_behind ["house","word"] (sp_room K C_BadWord)) (F_room_behind:Fun K "room_behind" "room_behind" s_room_behind f_room_behind fd_room_behind) (b_room_behind:Binds K fd_room_behind ["house","word"] []) (m_room_behind:mg "room_behind"=some (.ref f_room_behind))
  : FnOk P w K mg base (CXe P w) 5 f fd ["house","word"] (sp_mark K C_BadWord):=by
 refine F.okE sc_mark_behind (fun vs H Q E h=>?_) (fun cdv A outer s H vs Q E hr h=>?_)
 ·obtain⟨h,a,L,marks,ways,ws,rfl,_⟩:=h;rfl
 ·obtain⟨h,a,L,marks,ways,ws,rfl,hh,wf,hw,hz,k,kE⟩:=h
  have hl:=line1000
  refine⟨_,(pss_one (ps_ret (pe_ix ix_tup (pe_ix ix_tup (pv 0) pe_int (fun _ _=>rfl)) (pe_call g_room_behind (hr.mono (by decide)) rfl m_room_behind F_room_behind.kp b_room_behind .nil (passE fun _ _ _ h=>h) (pa_cons (pv 0) (pa_cons (pv 1) pa_nil))) (fun _ _=>rfl)))),?_⟩
  walk_at "rd"
  have hh':=hh
  obtain⟨m,wv,h1,h2,h3⟩:=hh
  refine⟨_,h1,_,rfl,?_⟩
  walk_at "rd"
  refine⟨h,a,L,marks,ways,ws,rfl,hh',wf,hw,hz,fun hv H1 s1=>?_,kE⟩
  walk_at "rd"
  have hwk:=wf.walk hv ws.length
  rw[List.take_length]at hwk
  exact⟨_,s1.seqT h2,_,markW_at hwk.1 hwk.2,k hv H1 s1⟩
def sp_book_init (C:Addr):Sp:=fun vs H Q _=>∃(p dx:Addr) (L:Int),vs=[.ref p,.int L]/\H p=some (.ins C dx [])/\∀(d:Addr) (H':Hp),H d=none->BookAt C H' p d L []->(∀b o,H b=some o->b≠p->H' b=some o)->Q .non H'
theorem ok_Book_init {f:Addr}{fd:FuncData}(F:Fun K "__init__" "Book.__init__" s_Book_init f fd)(T:Txt mg)
  (W:Own K mg C_Book C_Turns C_Hunt C_Asker)
  (Z:Exs K mg C_AskError C_BadWord C_BadMark C_OutOfTurn C_NoDifference C_Contradiction)
  : FnOk P w K mg base CX0 1 f fd ["self","letters"] (sp_book_init C_Book):=by
 refine F.ok sc_Book_init (fun vs H Q E h=>?_) (fun cdv A outer s H vs Q E hr h=>?_)
 ·obtain⟨p,dx,L,rfl,_⟩:=h;rfl
 ·obtain⟨p,dx,L,rfl,hp,k⟩:=h
  refine⟨_,(pss_cons (ps_fld (pv 0) (pv 1) rfl)
   (pss_one (ps_fld (pv 0) pe_dnewT rfl))),?_⟩
  walk_at "rd"
  refine⟨_,_,_,hp,W.cl_Book,W.n_Book_letters,by decide,fun d hd=>?_⟩
  have hdp:d≠p:=fun z=>by rw[z,upd_same]at hd;cases hd
  rw[upd_ne hdp]at hd
  refine⟨_,_,_,by rw[upd_ne (Ne.symm hdp)];exact upd_same,W.cl_Book,W.n_Book_marks,by simp[putF],?_⟩
  refine k d _ hd ⟨⟨_,upd_same⟩,by rw[upd_ne hdp];exact upd_same,by simp⟩ fun b o hb hbp=>?_
  rw[upd_ne hbp,upd_ne (ne_of_none hb hd),upd_ne hbp]
  exact hb
def sp_book_checkE (C BW BM:Addr):Sp:=fun vs H Q E=>∃(p d t:Addr) (L m:Int) (w:List Int) (es:List (List Int×Int)),vs=[.ref p,.ref t,.int m]/\BookAt C H p d L es/\H t=some (.tup (w.map V.int))/\w.length<=900 /\
 (isW L w=false->∀H',Same H H'->E (.ref BW) none H') /\
 (isW L w=true->¬ (0<=m/\m<=1000000000)->∀H',Same H H'->E (.ref BM) none H') /\
 (isW L w=true->0<=m->m<=1000000000->∀H',Same H H'->Q .non H')
theorem ok_Book_check {f:Addr}{fd:FuncData}(F:Fun K "check" "Book.check" s_Book_check f fd)(T:Txt mg)
  (W:Own K mg C_Book C_Turns C_Hunt C_Asker)
  (Z:Exs K mg C_AskError C_BadWord C_BadMark C_OutOfTurn C_NoDifference C_Contradiction)
  {f_check_word:Addr} {fd_check_word:FuncData} (g_check_word:FnOk P w K mg base (CXe P w) 2 f_check_word fd_check_word ["letters","word"] (sp_check K C_BadWord)) (F_check_word:Fun K "check_word" "check_word" s_check_word f_check_word fd_check_word) (b_check_word:Binds K fd_check_word ["letters","word"] []) (m_check_word:mg "check_word"=some (.ref f_check_word))
  {f_check_mark:Addr} {fd_check_mark:FuncData} (g_check_mark:FnOk P w K mg base (CXe P w) 2 f_check_mark fd_check_mark ["mark"] (sp_check_markE C_BadMark)) (F_check_mark:Fun K "check_mark" "check_mark" s_check_mark f_check_mark fd_check_mark) (b_check_mark:Binds K fd_check_mark ["mark"] []) (m_check_mark:mg "check_mark"=some (.ref f_check_mark))
  : FnOk P w K mg base (CXe P w) 3 f fd ["self","word","mark"] (sp_book_checkE C_Book C_BadWord C_BadMark):=by
 refine F.okE sc_Book_check (fun vs H Q E h=>?_) (fun cdv A outer s H vs Q E hr h=>?_)
 ·obtain⟨p,d,t,L,m,wd,es,rfl,_⟩:=h;rfl
 ·obtain⟨p,d,t,L,m,wd,es,rfl,B,ht,hwl,kW,kM,k⟩:=h
  have hln:=line1000
  refine⟨_,(pss_cons (ps_expr (pe_call g_check_word (hr.mono (by decide)) rfl m_check_word F_check_word.kp b_check_word .nil (passE fun _ _ _ h=>h) (pa_cons (pe_fld (pv 0) rfl) (pa_cons (pv 1) pa_nil))))
   (pss_one (ps_expr (pe_call g_check_mark (hr.mono (by decide)) rfl m_check_mark F_check_mark.kp b_check_mark .nil (passE fun _ _ _ h=>h) (pa_cons (pv 2) pa_nil))))),?_⟩
  obtain⟨⟨dx,hp⟩,hd,nd⟩:=id B
  walk_at "rd"
  refine⟨_,_,_,hp,W.cl_Book,W.n_Book_letters,_,bflds_letters _ _,?_⟩
  refine⟨L,t,wd,rfl,SqT.of ht,by omega,fun hw H1 s1=>?_,fun hw H1 s1=>kW hw H1 s1⟩
  walk_at "rd"
  exact⟨m,rfl,fun h0 h1=>k hw h0 h1 _ s1,fun hm=>kM hw hm H1 s1⟩
def putE (es:List (List Int×Int))(v:List Int)(m:Int):List (List Int×Int):=if v∈es.map (·.1) then es else es++[(v,m)]
theorem ents_again {es:List (List Int×Int)}{v:List Int}{m:Int}(nd:(es.map (·.1)).Nodup)(h:(v,m)∈es):putK (ents es) (wkey v) (.int m)=ents es:=by
 unfold putK
 rw[valV_any,ents_get nd h,if_pos (by simp)]
 unfold ents
 rw[List.map_map]
 refine List.map_congr_left fun e he=>?_
 show (if wkey e.1=wkey v then (wkey e.1,V.int m) else (wkey e.1,V.int e.2))=(wkey e.1,V.int e.2)
 split
 ·rename_i z
  have e1:e.1=v:=wkey_inj z
  have h1:=ents_get nd (show (e.1,e.2)∈es from he)
  rw[e1,ents_get nd h]at h1
  rw[Option.some.inj h1]
 ·rfl
def sp_book_putE (C BW BM CO:Addr):Sp:=fun vs H Q E=>∃(p d t:Addr) (L m:Int) (w:List Int) (es:List (List Int×Int)),vs=[.ref p,.ref t,.int m]/\BookAt C H p d L es/\H t=some (.tup (w.map V.int))/\w.length<=900/\es.length<=100000 /\
 (isW L w=false->∀H',Same H H'->E (.ref BW) none H') /\
 (isW L w=true->¬ (0<=m/\m<=1000000000)->∀H',Same H H'->E (.ref BM) none H') /\
 (isW L w=true->0<=m->m<=1000000000->∀n,(w,n)∈es->n≠m->∀H',Same H H'->E (.ref CO) none H') /\
 (isW L w=true->0<=m->m<=1000000000->(∀n,(w,n)∈es->n=m)->∀H',BookAt C H' p d L (putE es w m)->(∀b o,H b=some o->b≠d->H' b=some o)->Q .non H')
theorem ok_Book_put {f:Addr}{fd:FuncData}(F:Fun K "put" "Book.put" s_Book_put f fd)(T:Txt mg)
  (W:Own K mg C_Book C_Turns C_Hunt C_Asker)
  (Z:Exs K mg C_AskError C_BadWord C_BadMark C_OutOfTurn C_NoDifference C_Contradiction)
  {f_Book_check:Addr} {fd_Book_check:FuncData} (g_Book_check:FnOk P w K mg base (CXe P w) 3 f_Book_check fd_Book_check ["self","word","mark"] (sp_book_checkE C_Book C_BadWord C_BadMark)) (F_Book_check:Fun K "check" "Book.check" s_Book_check f_Book_check fd_Book_check) (b_Book_check:Binds K fd_Book_check ["self","word","mark"] []) (m_Book_check:Meth K C_Book "check" f_Book_check)
  : FnOk P w K mg base (CXe P w) 4 f fd ["self","word","mark"] (sp_book_putE C_Book C_BadWord C_BadMark C_Contradiction):=by
 refine F.okE sc_Book_put (fun vs H Q E h=>?_) (fun cdv A outer s H vs Q E hr h=>?_)
 ·obtain⟨p,d,t,L,m,w,es,rfl,_⟩:=h;rfl
 ·obtain⟨p,d,t,L,m,wd,es,rfl,B,ht,hwl,hl,kW,kM,kC,k⟩:=h
  have hln:=line1000
  refine⟨_,(pss_cons (ps_expr (pe_meth (pv 0) W.cl_Book m_Book_check g_Book_check (hr.mono (by decide)) b_Book_check .nil (passE fun _ _ _ h=>h) (pa_cons (pv 1) (pa_cons (pv 2) pa_nil))))
   (pss_cons (ps_if (pt_cmpR op_ne (pe_dget2 (hu_of hr) (pe_fld (pv 0) rfl) (pv 1) (pv 2) ⟨by rfl,by rfl,by rfl,by rfl⟩) (pv 2) (nomark _))
   (pss_one (ps_raise Z.m_Contradiction Z.x_Contradiction rfl rfl (pa_cons pe_str pa_nil)))
   pss_nil)
   (pss_one (ps_dput (hu_of hr) (pe_fld (pv 0) rfl) (pv 1) (pv 2) rfl)))),?_⟩
  obtain⟨⟨dx,hp⟩,hd,nd⟩:=id B
  walk_at "rd"
  refine⟨_,_,hp,bflds_no _ _ (by decide +kernel) (by decide +kernel),p,d,t,L,m,wd,es,rfl,B,ht,hwl,fun hw H1 s1=>kW hw H1 s1,fun hw hm H1 s1=>kM hw hm H1 s1,fun hw h0 h1 H1 s1=>?_⟩
  have hp1:=s1 _ _ hp
  have hd1:=s1 _ _ hd
  have ht1:H1 t=some (.tup ((wkey wd).map kV)):=by rw[wkey_kV];exact s1 _ _ ht
  have hel:(ents es).length=es.length:=by unfold ents;rw[List.length_map]
  have hpd:p≠d:=fun z=>by rw[z,hd1]at hp1;cases hp1
  have hg:=DGet.t hd1 ht1
  walk_at "rd"
  by_cases hn:wd∈es.map (·.1)
  ·obtain⟨e,he,rfl⟩:=List.mem_map.mp hn
   have hv:=ents_get nd (show (e.1,e.2)∈es from he)
   rw[hv]at hg
   refine⟨_,_,_,hp1,W.cl_Book,W.n_Book_marks,_,bflds_marks _ _,d,rfl,.inr ⟨_,.inl hd1⟩,_,hg,rfl,?_⟩
   by_cases hm:e.2=m
   ·rw[if_neg (by simp[hm])]
    refine⟨_,_,_,hp1,W.cl_Book,W.n_Book_marks,_,bflds_marks _ _,d,rfl,_,DPut.t hd1 ht1 (by omega),?_⟩
    rw[ents_again nd (show (e.1,m)∈es from hm ▸ he)]
    refine k hw h0 h1 (fun n hn'=>?_) _ ⟨⟨dx,by rw[upd_ne hpd];exact hp1⟩,by unfold putE;rw[if_pos hn];exact upd_same,by unfold putE;rw[if_pos hn];exact nd⟩ fun b o hb hbd=>by rw[upd_ne hbd];exact s1 _ _ hb
    have h2:=ents_get nd hn'
    rw[hv]at h2
    have h3:=Option.some.inj h2
    simp at h3
    omega
   ·rw[if_pos (by simp[hm])]
    exact⟨by omega,kC hw h0 h1 e.2 he hm H1 s1⟩
  ·rw[ents_none hn]at hg
   refine⟨_,_,_,hp1,W.cl_Book,W.n_Book_marks,_,bflds_marks _ _,d,rfl,.inr ⟨_,.inl hd1⟩,_,hg,rfl,?_⟩
   rw[if_neg (by simp)]
   refine⟨_,_,_,hp1,W.cl_Book,W.n_Book_marks,_,bflds_marks _ _,d,rfl,_,DPut.t hd1 ht1 (by omega),?_⟩
   rw[ents_put hn]
   refine k hw h0 h1 (fun n hn'=>absurd (List.mem_map.mpr ⟨_,hn',rfl⟩) hn) _ ⟨⟨dx,by rw[upd_ne hpd];exact hp1⟩,by unfold putE;rw[if_neg hn];exact upd_same,?_⟩ fun b o hb hbd=>by rw[upd_ne hbd];exact s1 _ _ hb
   unfold putE
   rw[if_neg hn,List.map_append,List.nodup_append]
   refine⟨nd,by simp,fun a ha b hb z=>?_⟩
   rw[List.map_singleton,List.mem_singleton]at hb
   exact hn (by have e:a=wd:=z.trans hb;rw[<-e];exact ha)
def sp_book_told (C:Addr):Sp:=fun vs H Q _=>∃(p d t:Addr) (L:Int) (w:List Int) (es:List (List Int×Int)),vs=[.ref p,.ref t]/\BookAt C H p d L es/\H t=some (.tup (w.map V.int))/\(w∉es.map (·.1)->Q .non H)/\∀m,(w,m)∈es->Q (.int m) H
theorem ok_Book_told {f:Addr}{fd:FuncData}(F:Fun K "told" "Book.told" s_Book_told f fd)(T:Txt mg)
  (W:Own K mg C_Book C_Turns C_Hunt C_Asker)
  (Z:Exs K mg C_AskError C_BadWord C_BadMark C_OutOfTurn C_NoDifference C_Contradiction)
  : FnOk P w K mg base CX0 1 f fd ["self","word"] (sp_book_told C_Book):=by
 refine F.ok sc_Book_told (fun vs H Q E h=>?_) (fun cdv A outer s H vs Q E hr h=>?_)
 ·obtain⟨p,d,t,L,wd,es,rfl,_⟩:=h;rfl
 ·obtain⟨p,d,t,L,wd,es,rfl,B,ht,kn,ks⟩:=h
  refine⟨_,(pss_one (ps_ret (pe_dget1 (hu_of hr) (pe_fld (pv 0) rfl) (pv 1) ⟨by rfl,by rfl,by rfl,by rfl⟩))),?_⟩
  obtain⟨⟨dx,hp⟩,hd,nd⟩:=id B
  have ht1:H t=some (.tup ((wkey wd).map kV)):=by rw[wkey_kV];exact ht
  walk_at "rd"
  refine⟨_,_,_,hp,W.cl_Book,W.n_Book_marks,_,bflds_marks _ _,d,rfl,.inr ⟨_,.inl hd⟩,_,DGet.t hd ht1,?_⟩
  by_cases hm:wd∈es.map (·.1)
  ·obtain⟨e,he,rfl⟩:=List.mem_map.mp hm
   rw[ents_get nd (show (e.1,e.2)∈es from he)]
   exact ks e.2 he
  ·rw[ents_none hm]
   exact kn hm
def TrialsS (H:Hp)(rs:List V)(es:List (List Int×Int)):Prop:=rs.length=es.length/\∀(i:Nat) (tr:List Int×Int),es[i]?=some tr->∃t b,rs[i]?=some (V.ref t)/\H t=some (.tup [.ref b,.int tr.2])/\H b=some (.tup (tr.1.map V.int))
theorem TrialsS.mono {H H':Hp}{rs:List V}{es:List (List Int×Int)}(h:TrialsS H rs es)(k:∀b xs,H b=some (.tup xs)->H' b=some (.tup xs)):TrialsS H' rs es:=⟨h.1,fun i tr hi=>by
 obtain⟨t,b,e1,e2,e3⟩:=h.2 i tr hi
 exact⟨t,b,e1,k _ _ e2,k _ _ e3⟩⟩
def sp_book_heard (K:PySem.W.Frag)(C:Addr):Sp:=fun vs H Q _=>∃(p d:Addr) (L:Int) (es:List (List Int×Int)),vs=[.ref p]/\BookAt C H p d L es/\∀l rs H',Same H H'->H l=none->H' l=some (.lst rs)->TrialsS H' rs es->Q (.ref l) H'
theorem ok_Book_heard {f:Addr}{fd:FuncData}(F:Fun K "heard" "Book.heard" s_Book_heard f fd)(T:Txt mg)
  (W:Own K mg C_Book C_Turns C_Hunt C_Asker)
  (Z:Exs K mg C_AskError C_BadWord C_BadMark C_OutOfTurn C_NoDifference C_Contradiction)
  : FnOk P w K mg base CX0 1 f fd ["self"] (sp_book_heard K C_Book):=by
 refine F.ok sc_Book_heard (fun vs H Q E h=>?_) (fun cdv A outer s H vs Q E hr h=>?_)
 ·obtain⟨p,d,L,es,rfl,_⟩:=h;rfl
 ·obtain⟨p,d,L,es,rfl,B,k⟩:=h
  refine⟨_,(pss_one (ps_ret (pe_callTy (call_list_items rfl) rfl T.list PyProof.Rows.boot_list (pa_cons (pe_items (pe_fld (pv 0) rfl)) pa_nil)))),?_⟩
  obtain⟨⟨dx,hp⟩,hd,nd⟩:=id B
  walk_at "rd"
  refine⟨_,_,_,hp,W.cl_Book,W.n_Book_marks,_,bflds_marks _ _,d,rfl,_,.inl hd,fun v hv=>?_⟩
  have sv:=Same.new (o:=viewO v d) hv
  refine⟨d,upd_same,_,.inl (sv _ _ hd),fun l rs H2 s2 hl2 hlen hr=>?_⟩
  have s3:=sv.trans (s2.newT (o:=.lst rs) hl2)
  refine k l rs _ s3 (Same.none (sv.trans s2) hl2) upd_same ⟨by rw[hlen];unfold ents;rw[List.length_map],fun i tr hi=>?_⟩
  obtain⟨t,e1,b,e2,e3⟩:=hr i (wkey tr.1) (.int tr.2) (by unfold ents;rw[List.getElem?_map,hi];rfl)
  rw[wkey_kV]at e3
  exact⟨t,b,e1,(Same.new hl2) _ _ e2,(s2.newT hl2) _ _ e3⟩
def sp_rowsof (K:PySem.W.Frag):Sp:=fun vs H Q _=>∃(L:Nat) (a:Addr) (xs:List V) (acc:List (List Int)),vs=[.int L,.ref a]/\L<=6/\SqL K H a xs/\WordsT K H xs acc/\acc.length<=100/\(∀w∈acc,w.length<=100)/\∀l rs H',Same H H'->H l=none->H' l=some (.lst rs)->WordsT K H' rs (rowsW L acc)->Q (.ref l) H'
theorem ok_rows_of {f:Addr}{fd:FuncData}(F:Fun K "rows_of" "rows_of" s_rows_of f fd)(T:Txt mg)
  (W:Own K mg C_Book C_Turns C_Hunt C_Asker)
  (Z:Exs K mg C_AskError C_BadWord C_BadMark C_OutOfTurn C_NoDifference C_Contradiction)
  : FnOk P w K mg base CX0 1 f fd ["letters","access"] (sp_rowsof K):=by
 refine F.ok sc_rows_of (fun vs H Q E h=>?_) (fun cdv A outer s H vs Q E hr h=>?_)
 ·obtain⟨L,a,xs,acc,rfl,_⟩:=h;rfl
 ·obtain⟨L,a,xs,acc,rfl,hL,ha,hw,hal,hwl,k⟩:=h
  have hl:=line1000
  refine⟨_,(pss_cons (ps_set (i:=2) sc_rows_of.nd rfl (Or.inl rfl) pe_dnewT)
   (pss_cons (ps_for PassesOwn.never rfl (pi_list (pv 1)) (pg_name (i:=3) sc_rows_of.nd rfl (Or.inl rfl))
   (pss_one (ps_dput (hu_of hr) (pv 2) (pv 3) pe_bl rfl)))
   (pss_cons (ps_for PassesOwn.never rfl (pi_list (pv 1)) (pg_name (i:=3) sc_rows_of.nd rfl (Or.inl rfl))
   (pss_one (ps_for PassesOwn.never rfl (pi_range1 rfl T.range (pa_cons (pv 0) pa_nil)) (pg_name (i:=4) sc_rows_of.nd rfl (Or.inl rfl))
   (pss_one (ps_dput (hu_of hr) (pv 2) (pe_op op_catT2 (pv 3) (pe_tup (pa_cons (pv 4) pa_nil))) pe_bl rfl)))))
   (pss_one (ps_ret (pe_callTy (call_list_dictT rfl) rfl T.list PyProof.Rows.boot_list (pa_cons (pv 2) pa_nil))))))),?_⟩
  walk_at "rd"
  intro p hp
  have sp:=Same.new (o:=.dT []) hp
  refine⟨⟨_,sp.seq ha⟩,?_⟩
  obtain⟨Pv,hPv⟩:∃Pv:Nat->St->Hp->Prop,∀i σ' H',Pv i σ' H'↔(∃(kvs:List (List Key×V)) (o:Option V),Same H H'/\H' p=some (.dT kvs)/\KeysW ((acc.take i).foldl ins []) kvs/\σ'=[some (.int L),some (.ref a),some (.ref p),o,none]):=⟨_,fun _ _ _=>Iff.rfl⟩
  refine forL (xs:=xs) Pv ((hPv _ _ _).mpr ⟨[],none,sp,upd_same,by rw[List.take_zero];exact KeysW.nil,rfl⟩) (fun i σ' H' _ h'=>by obtain⟨_,_,s',_⟩:=(hPv _ _ _).mp h';exact s'.seq ha) (fun i x σ' H' hx h'=>?_) (fun σ' H' h'=>?_)
  ·obtain⟨kvs,o,s',hd,hk,rfl⟩:=(hPv _ _ _).mp h'
   obtain⟨t,w,hwi,rfl,ht⟩:=hw.at hx
   have hlen:kvs.length<=100:=by
    have:=insAll_len (acc.take i) []
    rw[hk.len];simp at this ⊢;omega
   walk_at "rd"
   refine⟨_,DPut.t (k:=wkey w) hd (by rw[wkey_kV];exact s' _ _ ht) (by omega),(hPv _ _ _).mpr ⟨_,_,s'.over hp,upd_same,?_,rfl⟩⟩
   rw[List.take_add_one,hwi,Option.toList_some,List.foldl_append]
   exact hk.put w _
  ·obtain⟨kvs,o,s',hd,hk,rfl⟩:=(hPv _ _ _).mp h'
   rw[hw.1,List.take_length]at hk
   walk_at "rd"
   refine⟨⟨_,s'.seq ha⟩,?_⟩
   obtain⟨Pw,hPw⟩:∃Pv:Nat->St->Hp->Prop,∀i σ' H',Pv i σ' H'↔(∃(kvs:List (List Key×V)) (o o':Option V),Same H H'/\H' p=some (.dT kvs)/\KeysW (((acc.take i).flatMap (extW L)).foldl ins (acc.foldl ins [])) kvs/\σ'=[some (.int L),some (.ref a),some (.ref p),o,o']):=⟨_,fun _ _ _=>Iff.rfl⟩
   refine forL (xs:=xs) Pw ((hPw _ _ _).mpr ⟨kvs,_,_,s',hd,by rw[List.take_zero];exact hk,rfl⟩) (fun i σ' H' _ h'=>by obtain⟨_,_,_,s',_⟩:=(hPw _ _ _).mp h';exact s'.seq ha) (fun i x σ2 H2 hx h2=>?_) (fun σ2 H2 h2=>?_)
   ·obtain⟨kvs,o,o',s2,hd,hk,rfl⟩:=(hPw _ _ _).mp h2
    obtain⟨t,w,hwi,rfl,ht⟩:=hw.at hx
    have hwlen:=hwl w (List.mem_of_getElem? hwi)
    have ht2:=s2 _ _ ht
    walk_at "rd"
    refine⟨by omega,by omega,?_⟩
    rw[Int.toNat_natCast]
    obtain⟨Py,hPy⟩:∃Pv:Nat->St->Hp->Prop,∀j σ' H',Pv j σ' H'↔(∃(kvs:List (List Key×V)) (o':Option V),Same H H'/\H' p=some (.dT kvs)/\KeysW (((List.range j).map fun x:Nat=>w++[(x:Int)]).foldl ins (((acc.take i).flatMap (extW L)).foldl ins (acc.foldl ins []))) kvs/\σ'=[some (.int L),some (.ref a),some (.ref p),some (.ref t),o']):=⟨_,fun _ _ _=>Iff.rfl⟩
    refine forR Py ((hPy _ _ _).mpr ⟨kvs,_,s2,hd,hk,rfl⟩) (fun j σ3 H3 hj h3=>?_) (fun σ3 H3 h3=>?_)
    ·obtain⟨kvs,o',s3,hd,hk,rfl⟩:=(hPy _ _ _).mp h3
     have ej:(0:Int)+(j:Nat)=(j:Int):=by omega
     rw[ej]
     have ht3:=s3 _ _ ht
     have hlen:kvs.length<=10000:=by
      have h1:=insAll_len ((List.range j).map fun x:Nat=>w++[(x:Int)]) (((acc.take i).flatMap (extW L)).foldl ins (acc.foldl ins []))
      have h2:=insAll_len ((acc.take i).flatMap (extW L)) (acc.foldl ins [])
      have h3:=insAll_len acc []
      have h4:((acc.take i).flatMap (extW L)).length<=600:=by
       rw[List.length_flatMap]
       have:(acc.take i).map (fun a=>(extW L a).length)=(acc.take i).map (fun _=>L):=List.map_congr_left fun a _=>by simp[extW]
       rw[this,List.map_const',List.sum_replicate_nat]
       have:(acc.take i).length<=100:=by rw[List.length_take];omega
       exact Nat.le_trans (Nat.mul_le_mul this hL) (by omega)
      rw[hk.len]
      simp at h1 h3
      omega
     walk_at "rd"
     refine⟨by omega,fun p1 hp1=>?_⟩
     refine rCatT2.ofS (Same.new hp1 _ _ ht3) upd_same (by simp;omega) fun q H4 s4 hq=>?_
     have s34:=(Same.new (o:=.tup [V.int (j:Int)]) hp1).trans s4
     have hq':H4 q=some (.tup ((wkey (w++[(j:Int)])).map kV)):=by rw[wkey_kV,hq];simp
     refine⟨_,DPut.t (k:=wkey (w++[(j:Int)])) (s34 _ _ hd) hq' (by omega),(hPy _ _ _).mpr ⟨_,_,(s3.trans s34).over hp,upd_same,?_,rfl⟩⟩
     rw[List.range_succ,List.map_append,List.foldl_append]
     exact hk.put _ _
    ·obtain⟨kvs,o',s3,hd,hk,rfl⟩:=(hPy _ _ _).mp h3
     refine (hPw _ _ _).mpr ⟨kvs,_,_,s3,hd,?_,rfl⟩
     rw[List.take_add_one,hwi,Option.toList_some,List.flatMap_append,List.foldl_append]
     simpa [extW] using hk
   ·obtain⟨kvs,o,o',s2,hd,hk,rfl⟩:=(hPw _ _ _).mp h2
    rw[hw.1,List.take_length]at hk
    walk_at "rd"
    refine⟨kvs,.inl hd,fun l rs hln hrl hrs=>?_⟩
    exact k l rs _ (s2.newT hln) (Same.none s2 hln) upd_same ((hk.words (K:=K) hrl hrs).mono (TK.new hln))
def sp_cells (K:PySem.W.Frag):Sp:=fun vs H Q _=>∃(L:Nat) (a e:Addr) (xs ys:List V) (acc ends:List (List Int)),vs=[.int L,.ref a,.ref e]/\L<=6/\SqL K H a xs/\WordsT K H xs acc/\acc.length<=100/\(∀w∈acc,w.length<=100)/\SqL K H e ys/\WordsT K H ys ends/\ends.length<=100/\(∀w∈ends,w.length<=500)/\∀l rs H',Same H H'->H l=none->H' l=some (.lst rs)->WordsT K H' rs (cellsW (rowsW L acc) ends)->Q (.ref l) H'
theorem rowsW_words {L:Nat}{acc:List (List Int)}(hL:L<=6)(hal:acc.length<=100)(hwl:∀w∈acc,w.length<=100):(rowsW L acc).length<=700/\∀w∈rowsW L acc,w.length<=101:=by
 have mem:∀(l s:List (List Int)) (w:List Int),w∈l.foldl ins s->w∈s\/w∈l:=by
  intro l
  induction l with
  |nil=>intro s w h;exact .inl h
  |cons v l ih=>
   intro s w h
   rw[List.foldl_cons]at h
   rcases ih _ _ h with h|h
   ·unfold ins at h
    split at h
    ·exact .inl h
    ·rcases List.mem_append.mp h with h|h
     ·exact .inl h
     ·rw[List.mem_singleton.mp h];exact .inr List.mem_cons_self
   ·exact .inr (List.mem_cons_of_mem _ h)
 refine⟨?_,fun w hw=>?_⟩
 ·have h2:=insAll_len (acc.flatMap (extW L)) (acc.foldl ins [])
  have h3:=insAll_len acc []
  have h4:(acc.flatMap (extW L)).length<=600:=by
   rw[List.length_flatMap]
   have:acc.map (fun a=>(extW L a).length)=acc.map (fun _=>L):=List.map_congr_left fun a _=>by simp[extW]
   rw[this,List.map_const',List.sum_replicate_nat]
   exact Nat.le_trans (Nat.mul_le_mul hal hL) (by omega)
  unfold rowsW
  simp at h3
  omega
 ·unfold rowsW at hw
  rcases mem _ _ _ hw with h|h
  ·rcases mem _ _ _ h with h|h
   ·simp at h
   ·have:=hwl w h;omega
  ·obtain⟨v,hv,h⟩:=List.mem_flatMap.mp h
   obtain⟨x,_,rfl⟩:=List.mem_map.mp h
   have:=hwl v hv
   simp;omega
theorem ok_cells {f:Addr}{fd:FuncData}(F:Fun K "cells" "cells" s_cells f fd)(T:Txt mg)
  (W:Own K mg C_Book C_Turns C_Hunt C_Asker)
  (Z:Exs K mg C_AskError C_BadWord C_BadMark C_OutOfTurn C_NoDifference C_Contradiction)
  {f_rows_of:Addr} {fd_rows_of:FuncData} (g_rows_of:FnOk P w K mg base CX0 1 f_rows_of fd_rows_of ["letters","access"] (sp_rowsof K)) (F_rows_of:Fun K "rows_of" "rows_of" s_rows_of f_rows_of fd_rows_of) (b_rows_of:Binds K fd_rows_of ["letters","access"] []) (m_rows_of:mg "rows_of"=some (.ref f_rows_of))
  : FnOk P w K mg base CX0 2 f fd ["letters","access","ends"] (sp_cells K):=by
 refine F.ok sc_cells (fun vs H Q E h=>?_) (fun cdv A outer s H vs Q E hr h=>?_)
 ·obtain⟨L,a,e,xs,ys,acc,ends,rfl,_⟩:=h;rfl
 ·obtain⟨L,a,e,xs,ys,acc,ends,rfl,hL,ha,hw,hal,hwl,he,hwe,hel,hewl,k⟩:=h
  have hl:=line1000
  obtain⟨hrl,hrw⟩:=rowsW_words hL hal hwl
  refine⟨_,(pss_cons (ps_set (i:=3) sc_cells.nd rfl (Or.inl rfl) pe_dnewT)
   (pss_cons (ps_for PassesOwn.never rfl (pi_list (pe_call g_rows_of (hr.mono (by decide)) rfl m_rows_of F_rows_of.kp b_rows_of .nil pass0 (pa_cons (pv 0) (pa_cons (pv 1) pa_nil)))) (pg_name (i:=4) sc_cells.nd rfl (Or.inl rfl))
   (pss_one (ps_for PassesOwn.never rfl (pi_list (pv 2)) (pg_name (i:=5) sc_cells.nd rfl (Or.inl rfl))
   (pss_one (ps_dput (hu_of hr) (pv 3) (pe_op op_catT2 (pv 4) (pv 5)) pe_bl rfl)))))
   (pss_one (ps_ret (pe_callTy (call_list_dictT rfl) rfl T.list PyProof.Rows.boot_list (pa_cons (pv 3) pa_nil)))))),?_⟩
  walk_at "rd"
  intro p hp
  have sp:=Same.new (o:=.dT []) hp
  refine⟨L,a,xs,acc,rfl,hL,sp.seq ha,hw.mono (TK.of sp),hal,hwl,fun r rs H1 s1 hrn hr hrs=>?_⟩
  generalize rowsW L acc=rows at hrl hrw hrs k
  have s01:=sp.trans s1
  have hrH:H r=none:=Same.none sp hrn
  have hp1:=s1 _ _ (upd_same (H:=H) (a:=p) (o:=.dT []))
  walk_at "rd"
  refine⟨⟨_,SqL.of hr⟩,?_⟩
  have hpr:r≠p:=(none_of_upd hrn).2
  obtain⟨Pw,hPw⟩:∃Pv:Nat->St->Hp->Prop,∀i σ' H',Pv i σ' H'↔(∃(kvs:List (List Key×V)) (o o':Option V),Same H H'/\H' r=some (.lst rs)/\WordsT K H' rs rows/\H' p=some (.dT kvs)/\KeysW (((rows.take i).flatMap fun r=>ends.map (r ++ ·)).foldl ins []) kvs/\σ'=[some (.int L),some (.ref a),some (.ref e),some (.ref p),o,o']):=⟨_,fun _ _ _=>Iff.rfl⟩
  refine forL (xs:=rs) Pw ((hPw _ _ _).mpr ⟨[],_,_,s01,hr,hrs,hp1,by rw[List.take_zero];exact KeysW.nil,rfl⟩) (fun i σ' H' _ h'=>by obtain⟨_,_,_,_,q,_⟩:=(hPw _ _ _).mp h';exact SqL.of q) (fun i x σ2 H2 hx h2=>?_) (fun σ2 H2 h2=>?_)
  ·obtain⟨kvs,o,o',s2,hr2,hrs2,hd,hk,rfl⟩:=(hPw _ _ _).mp h2
   obtain⟨t,w,hwi,rfl,ht⟩:=hrs2.at hx
   have hwlen:=hrw w (List.mem_of_getElem? hwi)
   walk_at "rd"
   refine⟨⟨_,s2.seq he⟩,?_⟩
   obtain⟨Py,hPy⟩:∃Pv:Nat->St->Hp->Prop,∀j σ' H',Pv j σ' H'↔(∃(kvs:List (List Key×V)) (o':Option V),Same H H'/\H' r=some (.lst rs)/\WordsT K H' rs rows/\H' t=some (.tup (w.map V.int))/\H' p=some (.dT kvs)/\KeysW (((ends.take j).map (w ++ ·)).foldl ins (((rows.take i).flatMap fun r=>ends.map (r ++ ·)).foldl ins [])) kvs/\σ'=[some (.int L),some (.ref a),some (.ref e),some (.ref p),some (.ref t),o']):=⟨_,fun _ _ _=>Iff.rfl⟩
   refine forL (xs:=ys) Py ((hPy _ _ _).mpr ⟨kvs,_,s2,hr2,hrs2,ht,hd,by rw[List.take_zero];exact hk,rfl⟩) (fun j σ' H' _ h'=>by obtain⟨_,_,s',_⟩:=(hPy _ _ _).mp h';exact s'.seq he) (fun j y σ3 H3 hy h3=>?_) (fun σ3 H3 h3=>?_)
   ·obtain⟨kvs,o',s3,hr3,hrs3,ht3,hd,hk,rfl⟩:=(hPy _ _ _).mp h3
    obtain⟨u,v,hvi,rfl,hu⟩:=hwe.at hy
    have hvlen:=hewl v (List.mem_of_getElem? hvi)
    have hlen:kvs.length<=100000:=by
     have h1:=insAll_len ((ends.take j).map (w ++ ·)) (((rows.take i).flatMap fun r=>ends.map (r ++ ·)).foldl ins [])
     have h2:=insAll_len ((rows.take i).flatMap fun r=>ends.map (r ++ ·)) []
     have h4:((rows.take i).flatMap fun r=>ends.map (r ++ ·)).length<=70000:=by
      rw[List.length_flatMap]
      have:(rows.take i).map (fun a=>(ends.map (a ++ ·)).length)=(rows.take i).map (fun _=>ends.length):=List.map_congr_left fun a _=>by simp
      rw[this,List.map_const',List.sum_replicate_nat]
      have:(rows.take i).length<=700:=by rw[List.length_take];omega
      exact Nat.le_trans (Nat.mul_le_mul this hel) (by omega)
     rw[hk.len]
     rw[List.length_map,List.length_take]at h1
     rw[List.length_nil,Nat.zero_add]at h2
     omega
    walk_at "rd"
    refine rCatT2.ofS ht3 (s3 _ _ hu) (by simp;omega) fun q H4 s4 hq=>?_
    have hq':H4 q=some (.tup ((wkey (w++v)).map kV)):=by rw[wkey_kV,hq];simp
    have hd4:=s4 _ _ hd
    have kD:TK H4 (upd H4 p (.dT (putK kvs (wkey (w++v)) (V.bl true)))):=TK.dT hd4
    refine⟨_,DPut.t (k:=wkey (w++v)) hd4 hq' (by omega),(hPy _ _ _).mpr ⟨_,_,(s3.trans s4).over hp,by rw[upd_ne hpr];exact s4 _ _ hr3,(hrs3.mono (TK.of s4)).mono kD,kD _ _ (s4 _ _ ht3),upd_same,?_,rfl⟩⟩
    rw[List.take_add_one,hvi,Option.toList_some,List.map_append,List.foldl_append]
    exact hk.put _ _
   ·obtain⟨kvs,o',s3,hr3,hrs3,ht3,hd,hk,rfl⟩:=(hPy _ _ _).mp h3
    rw[hwe.1,List.take_length]at hk
    refine (hPw _ _ _).mpr ⟨kvs,_,_,s3,hr3,hrs3,hd,?_,rfl⟩
    rw[List.take_add_one,hwi,Option.toList_some,List.flatMap_append,List.foldl_append]
    simpa using hk
  ·obtain⟨kvs,o,o',s2,hr2,hrs2,hd,hk,rfl⟩:=(hPw _ _ _).mp h2
   rw[hrs.1,List.take_length]at hk
   walk_at "rd"
   refine⟨kvs,.inl hd,fun l rs' hln hrl' hrs'=>?_⟩
   exact k l rs' _ (s2.newT hln) (Same.none s2 hln) upd_same ((hk.words (K:=K) hrl' hrs').mono (TK.new hln))
def mkO (es:List (List Int×Int))(w:List Int):Option Int:=(es.find? fun e=>decide (e.1=w)).map (·.2)
def oV:Option Int->V
 |some m=>.int m
 |none=>.non
theorem mkO_some:∀{es:List (List Int×Int)} {w:List Int} {m:Int},(es.map (·.1)).Nodup->(w,m)∈es->mkO es w=some m
 |[],_,_,_,h=>by cases h
 |e::es,w,m,nd,h=>by
  rw[List.map_cons,List.nodup_cons]at nd
  unfold mkO
  rw[List.find?_cons]
  rcases List.mem_cons.mp h with h|h
  ·subst h
   simp
  ·have hne:e.1≠w:=fun z=>nd.1 (by rw[z];exact List.mem_map_of_mem (f:=(·.1)) h)
   rw[decide_eq_false hne]
   exact mkO_some nd.2 h
theorem mkO_none {es:List (List Int×Int)}{w:List Int}(h:w∉es.map (·.1)):mkO es w=none:=by
 unfold mkO
 rw[List.find?_eq_none.mpr fun e he z=>h (by have:=of_decide_eq_true z;rw[<-this];exact List.mem_map_of_mem (f:=(·.1)) he)]
 rfl
def sp_marksof (K:PySem.W.Frag)(C:Addr):Sp:=fun vs H Q _=>∃(p d t a:Addr) (L:Int) (w:List Int) (es:List (List Int×Int)) (xs:List V) (ends:List (List Int)),vs=[.ref p,.ref t,.ref a]/\BookAt C H p d L es/\H t=some (.tup (w.map V.int))/\w.length<=100/\SqL K H a xs/\WordsT K H xs ends/\ends.length<=100/\(∀e∈ends,e.length<=500)/\∀l H',Same H H'->H' l=some (.lst (ends.map fun e=>oV (mkO es (w++e))))->Q (.ref l) H'
theorem ok_marks_of {f:Addr}{fd:FuncData}(F:Fun K "marks_of" "marks_of" s_marks_of f fd)(T:Txt mg)
  (W:Own K mg C_Book C_Turns C_Hunt C_Asker)
  (Z:Exs K mg C_AskError C_BadWord C_BadMark C_OutOfTurn C_NoDifference C_Contradiction)
  {f_Book_told:Addr} {fd_Book_told:FuncData} (g_Book_told:FnOk P w K mg base CX0 1 f_Book_told fd_Book_told ["self","word"] (sp_book_told C_Book)) (F_Book_told:Fun K "told" "Book.told" s_Book_told f_Book_told fd_Book_told) (b_Book_told:Binds K fd_Book_told ["self","word"] []) (m_Book_told:Meth K C_Book "told" f_Book_told)
  : FnOk P w K mg base CX0 2 f fd ["book","word","ends"] (sp_marksof K C_Book):=by
 refine F.ok sc_marks_of (fun vs H Q E h=>?_) (fun cdv A outer s H vs Q E hr h=>?_)
 ·obtain⟨p,d,t,a,L,wd,es,xs,ends,rfl,_⟩:=h;rfl
 ·obtain⟨p,d,t,a,L,wd,es,xs,ends,rfl,B,ht,hwl,ha,hE,hel,hew,k⟩:=h
  have hl:=line1000
  refine⟨_,(pss_one (ps_ret (pe_comp rfl (blk_mk rfl) (cp:=c_marks_of_0) ⟨⟨rfl,rfl⟩,⟨⟨rfl,rfl⟩,True.intro⟩⟩ (pi_list (pv 2)) (fun _ _ _ _=>(pg_name (i:=0) nd_c_marks_of_0 rfl (Or.inl rfl))) (fun _ _ _ _=>pf_nil) (fun _ _ _ _=>(pe_meth (pv 1) W.cl_Book m_Book_told g_Book_told (hr.mono (by decide)) b_Book_told .nil pass0 (pa_cons (pe_op (op_catT2K (K:=K) rfl) (pv 2) (pv 0)) pa_nil)))))),?_⟩
  walk_at "rd"
  obtain⟨⟨dx,hp⟩,hd,nd⟩:=id B
  refine⟨⟨_,ha⟩,compL (xs:=xs) (fun i ys σ' H'=>Same H H'/\ys=(ends.take i).map (fun e=>oV (mkO es (wd++e)))/\∃o,σ'=[o,some (.ref p),some (.ref t)]) ⟨Same.refl _,rfl,none,rfl⟩ (by rw[hE.1];omega) (fun i ys σ' H' hi h'=>⟨h'.1.seq ha,by rw[h'.2.1,List.length_map,List.length_take];omega⟩) (fun i x ys σ' H' hx h'=>?_) (fun ys σ' H' h' D hD=>?_)⟩
  ·obtain⟨s1,rfl,o,rfl⟩:=h'
   obtain⟨te,e,hei,rfl,hte⟩:=hE.at hx
   have hel':=hew e (List.mem_of_getElem? hei)
   have et:ends.take (i+1)=ends.take i++[e]:=by rw[List.take_add_one,hei];rfl
   walk_at "rd"
   refine⟨_,_,s1 _ _ hp,bflds_no _ _ (by decide +kernel) (by decide +kernel),rCatT2.ofS (s1 _ _ ht) (s1 _ _ hte) (by simp;omega) fun q H2 s2 hq=>?_⟩
   have s12:=s1.trans s2
   refine⟨p,d,q,L,wd++e,es,rfl,B.mono s12,by rw[List.map_append];exact hq,fun hm=>⟨s12,?_,_,rfl⟩,fun m hm=>⟨s12,?_,_,rfl⟩⟩
   ·rw[et,List.map_append,List.map_singleton,mkO_none hm];rfl
   ·rw[et,List.map_append,List.map_singleton,mkO_some nd hm];rfl
  ·obtain⟨s1,rfl,o,rfl⟩:=h'
   rw[hE.1,List.take_length]
   exact k D _ (s1.newT hD) upd_same
def MarksD (H:Hp)(f:List Int->List V)(ks:List (List Int))(kvs:List (List Key×V)):Prop:=kvs.length=ks.length/\∀(i:Nat) (w:List Int),ks[i]?=some w->∃t,kvs[i]?=some (wkey w,.ref t)/\H t=some (.tup (f w))
theorem MarksD.nil {H:Hp}{f:List Int->List V}:MarksD H f [] []:=⟨rfl,fun i w h=>by simp at h⟩
theorem MarksD.mono {H H':Hp}{f:List Int->List V}{ks:List (List Int)}{kvs:List (List Key×V)}(h:MarksD H f ks kvs)(s:∀t ys,H t=some (.tup ys)->H' t=some (.tup ys)):MarksD H' f ks kvs:=⟨h.1,fun i w hi=>by
 obtain⟨t,a,b⟩:=h.2 i w hi
 exact⟨t,a,s _ _ b⟩⟩
theorem MarksD.snoc {H:Hp}{f:List Int->List V}{ks:List (List Int)}{kvs:List (List Key×V)}{w:List Int}{t:Addr}(h:MarksD H f ks kvs)(ht:H t=some (.tup (f w))):MarksD H f (ks++[w]) (kvs++[(wkey w,.ref t)]):=by
 refine⟨by simp[h.1],fun i r hi=>?_⟩
 by_cases hl:i<ks.length
 ·rw[List.getElem?_append_left hl]at hi
  rw[List.getElem?_append_left (by rw[h.1];exact hl)]
  exact h.2 i r hi
 ·have:=(List.getElem?_eq_some_iff.mp hi).1
  rw[List.length_append,List.length_singleton]at this
  have e:i=ks.length:=by omega
  subst e
  rw[List.getElem?_append_right (Nat.le_refl _),Nat.sub_self]at hi
  simp at hi
  subst hi
  exact⟨t,by rw[<-h.1];simp,ht⟩
theorem MarksD.keys {H:Hp}{f:List Int->List V}{ks:List (List Int)}{kvs:List (List Key×V)}(h:MarksD H f ks kvs):KeysW ks kvs:=by
 refine List.ext_getElem? fun i=>?_
 rw[List.getElem?_map,List.getElem?_map]
 cases e:ks[i]? with
 |none=>
  have:kvs[i]?=none:=List.getElem?_eq_none (by rw[h.1];exact List.getElem?_eq_none_iff.mp e)
  rw[this];rfl
 |some w=>
  obtain⟨t,a,_⟩:=h.2 i w e
  rw[a];rfl
theorem ins_nodup {s:List (List Int)}{w:List Int}(h:s.Nodup):(ins s w).Nodup:=by
 unfold ins
 split
 ·exact h
 ·rename_i hw
  rw[List.nodup_append]
  refine⟨h,by simp,fun a ha b hb z=>?_⟩
  rw[List.mem_singleton.mp hb]at z
  exact hw (z ▸ ha)
theorem insAll_nodup:∀{l s:List (List Int)},s.Nodup->(l.foldl ins s).Nodup
 |[],_,h=>h
 |w::l,s,h=>by rw[List.foldl_cons];exact insAll_nodup (ins_nodup h)
theorem rowsW_nodup (n:Nat)(acc:List (List Int)):(rowsW n acc).Nodup:=insAll_nodup (insAll_nodup List.nodup_nil)
theorem ext_len (n:Nat):∀(acc:List (List Int)),(acc.flatMap (extW n)).length<=acc.length*n
 |[]=>by simp
 |w::acc=>by
  rw[List.flatMap_cons,List.length_append,List.length_cons,Nat.succ_mul]
  have h1:=ext_len n acc
  have h2:(extW n w).length=n:=by unfold extW;simp
  omega
theorem rowsW_len (n:Nat)(acc:List (List Int)):(rowsW n acc).length<=acc.length+acc.length*n:=by
 unfold rowsW
 have h1:=insAll_len (acc.flatMap (extW n)) (acc.foldl ins [])
 have h2:=insAll_len acc []
 have h3:=ext_len n acc
 simp at h2
 omega
theorem ins_wlen {s:List (List Int)}{w:List Int}{m:Nat}(h:∀v∈s,v.length<=m)(hw:w.length<=m):∀v∈ins s w,v.length<=m:=fun v hv=>by
 unfold ins at hv
 split at hv
 ·exact h v hv
 ·rcases List.mem_append.mp hv with hv|hv
  ·exact h v hv
  ·rw[List.mem_singleton.mp hv];exact hw
theorem insAll_wlen {m:Nat}:∀{l s:List (List Int)},(∀v∈s,v.length<=m)->(∀v∈l,v.length<=m)->∀v∈l.foldl ins s,v.length<=m
 |[],_,h,_=>h
 |w::l,s,h,hl=>by rw[List.foldl_cons];exact insAll_wlen (ins_wlen h (hl w (by simp))) (fun v hv=>hl v (by simp[hv]))
theorem rowsW_wlen {n m:Nat}{acc:List (List Int)}(h:∀w∈acc,w.length<=m):∀w∈rowsW n acc,w.length<=m+1:=by
 unfold rowsW
 refine insAll_wlen (insAll_wlen (by simp) fun v hv=>by have:=h v hv;omega) fun v hv=>?_
 obtain⟨u,hu,hv⟩:=List.mem_flatMap.mp hv
 unfold extW at hv
 obtain⟨x,_,rfl⟩:=List.mem_map.mp hv
 have:=h u hu
 rw[List.length_append,List.length_singleton]
 omega
def sp_mbr (K:PySem.W.Frag)(C:Addr):Sp:=fun vs H Q _=>∃(p d a b:Addr) (L:Int) (N:Nat) (es:List (List Int×Int)) (xs ys:List V) (acc ends:List (List Int)),vs=[.ref p,.int N,.ref a,.ref b]/\BookAt C H p d L es/\N<=6/\SqL K H a xs/\WordsT K H xs acc/\acc.length<=64/\(∀w∈acc,w.length<=64)/\SqL K H b ys/\WordsT K H ys ends/\ends.length<=50/\(∀e∈ends,e.length<=500)/\∀l kvs H',Same H H'->H l=none->H' l=some (.dT kvs)->MarksD H' (fun w=>ends.map fun e=>oV (mkO es (w++e))) (rowsW N acc) kvs->Q (.ref l) H'
theorem ok_marks_by_row {f:Addr}{fd:FuncData}(F:Fun K "marks_by_row" "marks_by_row" s_marks_by_row f fd)(T:Txt mg)
  (W:Own K mg C_Book C_Turns C_Hunt C_Asker)
  (Z:Exs K mg C_AskError C_BadWord C_BadMark C_OutOfTurn C_NoDifference C_Contradiction)
  {f_rows_of:Addr} {fd_rows_of:FuncData} (g_rows_of:FnOk P w K mg base CX0 1 f_rows_of fd_rows_of ["letters","access"] (sp_rowsof K)) (F_rows_of:Fun K "rows_of" "rows_of" s_rows_of f_rows_of fd_rows_of) (b_rows_of:Binds K fd_rows_of ["letters","access"] []) (m_rows_of:mg "rows_of"=some (.ref f_rows_of))
  {f_marks_of:Addr} {fd_marks_of:FuncData} (g_marks_of:FnOk P w K mg base CX0 2 f_marks_of fd_marks_of ["book","word","ends"] (sp_marksof K C_Book)) (F_marks_of:Fun K "marks_of" "marks_of" s_marks_of f_marks_of fd_marks_of) (b_marks_of:Binds K fd_marks_of ["book","word","ends"] []) (m_marks_of:mg "marks_of"=some (.ref f_marks_of))
  : FnOk P w K mg base CX0 3 f fd ["book","letters","access","ends"] (sp_mbr K C_Book):=by
 refine F.ok sc_marks_by_row (fun vs H Q E h=>?_) (fun cdv A outer s H vs Q E hr h=>?_)
 ·obtain⟨p,d,a,b,L,N,es,xs,ys,acc,ends,rfl,_⟩:=h;rfl
 ·obtain⟨p,d,a,b,L,N,es,xs,ys,acc,ends,rfl,B,hN,ha,hA,hal,haw,hb,hE,hel,hew,k⟩:=h
  have hl:=line1000
  refine⟨_,(pss_cons (ps_set (i:=4) sc_marks_by_row.nd rfl (Or.inl rfl) pe_dnewT)
   (pss_cons (ps_for PassesOwn.never rfl (pi_list (pe_call g_rows_of (hr.mono (by decide)) rfl m_rows_of F_rows_of.kp b_rows_of .nil pass0 (pa_cons (pv 1) (pa_cons (pv 2) pa_nil)))) (pg_name (i:=5) sc_marks_by_row.nd rfl (Or.inl rfl))
   (pss_one (ps_dput (hu_of hr) (pv 4) (pv 5) (pe_callTy call_tuple_of rfl T.tuple PyProof.Rows.boot_tuple (pa_cons (pe_call g_marks_of (hr.mono (by decide)) rfl m_marks_of F_marks_of.kp b_marks_of .nil pass0 (pa_cons (pv 0) (pa_cons (pv 5) (pa_cons (pv 3) pa_nil)))) pa_nil)) rfl)))
   (pss_one (ps_ret (pv 4))))),?_⟩
  walk_at "rd"
  intro m hm
  have s0:=Same.new hm (o:=.dT [])
  refine⟨N,a,xs,acc,rfl,hN,s0.seq ha,hA.mono (fun _ _ z=>s0 _ _ z),by omega,fun w hw=>by have:=haw w hw;omega,fun r rs H1 s1 hr0 hr1 hW=>⟨r,rfl,⟨_,SqL.of hr1⟩,?_⟩⟩
  have hm1:=s1 _ _ (show upd H m (.dT []) m=some (.dT []) from upd_same)
  have s01:=s0.trans s1
  have hrlen:=rowsW_len N acc
  have hrw:=rowsW_wlen (n:=N) haw
  have hnd:=rowsW_nodup N acc
  have hrl:(rowsW N acc).length<=500:=by
   have:acc.length*N<=64*6:=Nat.mul_le_mul hal hN
   omega
  have kk:=k
  generalize rowsW N acc=rw' at hW hrl hrw hnd kk
  clear k hrlen
  obtain⟨Pv,hPv⟩:∃Pv:Nat->St->Hp->Prop,∀i σ' H',Pv i σ' H'↔(∃(kvs:List (List Key×V)) (o:Option V),Same H H'/\H' r=some (.lst rs)/\TK H1 H'/\H' m=some (.dT kvs)/\MarksD H' (fun w=>ends.map fun e=>oV (mkO es (w++e))) (rw'.take i) kvs/\σ'=[some (.ref p),some (.int N),some (.ref a),some (.ref b),some (.ref m),o]):=⟨_,fun _ _ _=>Iff.rfl⟩
  refine forL (xs:=rs) Pv ((hPv _ _ _).mpr ⟨[],none,s01,hr1,TK.refl _,hm1,by rw[List.take_zero];exact MarksD.nil,rfl⟩) (fun i σ' H' _ h'=>by obtain⟨_,_,_,h2,_⟩:=(hPv _ _ _).mp h';exact SqL.of h2) (fun i x σ' H' hx h'=>?_) (fun σ' H' h'=>?_)
  ·obtain⟨kvs,o,s',hr',tk,hm',hM,rfl⟩:=(hPv _ _ _).mp h'
   obtain⟨t,w,hwi,rfl,ht⟩:=hW.at hx
   have hi:=(List.getElem?_eq_some_iff.mp hwi).1
   have hwl:=hrw w (List.mem_of_getElem? hwi)
   have et:rw'.take (i+1)=rw'.take i++[w]:=by rw[List.take_add_one,hwi];rfl
   have hno:w∉rw'.take i:=fun z=>by
    obtain⟨j,hj,ej⟩:=List.getElem_of_mem z
    rw[List.length_take]at hj
    rw[List.getElem_take]at ej
    have:=(List.getElem_inj (h₀:=(show j<rw'.length by omega)) (h₁:=hi) hnd).mp (by rw[ej];exact ((List.getElem?_eq_some_iff.mp hwi).2).symm)
    omega
   have hv:valV kvs (wkey w)=none:=by
    have:=hM.keys.some_iff w
    rw[decide_eq_false hno]at this
    cases e:valV kvs (wkey w) with
    |none=>rfl
    |some v=>rw[e]at this;cases this
   have hkl:kvs.length<=500:=by rw[hM.1,List.length_take];omega
   walk_at "rd"
   refine⟨p,d,t,b,L,w,es,ys,ends,rfl,B.mono s',tk _ _ ht,by omega,s'.seq hb,hE.mono (fun _ _ z=>s' _ _ z),by omega,fun e he=>by have:=hew e he;omega,fun l H2 s2 hl2=>⟨l,rfl,_,.inl ⟨SqL.of hl2,fun t2 ht2=>?_⟩⟩⟩
   have s3:=s2.newT ht2 (o:=.tup (ends.map fun e=>oV (mkO es (w++e))))
   refine⟨_,DPut.t (k:=wkey w) (s3 _ _ hm') (by rw[wkey_kV];exact s3 _ _ (tk _ _ ht)) (by omega),(hPv _ _ _).mpr ⟨_,_,(s'.trans s3).over hm,?_,fun c zs z=>?_,upd_same,?_,rfl⟩⟩
   ·rw[upd_ne (fun z=>by rw[z,hm']at hr';cases hr')];exact s3 _ _ hr'
   ·rw[upd_ne (fun e=>by have:=tk _ _ z;rw[e,hm']at this;cases this)];exact s3 _ _ (tk _ _ z)
   ·rw[putK_new _ hv,et]
    exact ((hM.mono fun c zs z=>s3 _ _ z).snoc (t:=t2) upd_same).mono fun c zs z=>by
     rw[upd_ne (fun e=>by rw[e,s3 _ _ hm']at z;cases z)];exact z
  ·obtain⟨kvs,o,s',hr',tk,hm',hM,rfl⟩:=(hPv _ _ _).mp h'
   rw[hW.1,List.take_length]at hM
   walk_at "rd"
   exact kk m kvs _ s' hm hm' hM
theorem MarksD.get {H:Hp}{f:List Int->List V}{ks:List (List Int)}{kvs:List (List Key×V)}(h:MarksD H f ks kvs){w:List Int}(hw:w∈ks):∃t,valV kvs (wkey w)=some (.ref t)/\H t=some (.tup (f w)):=by
 have hs:=h.keys.some_iff w
 rw[decide_eq_true hw]at hs
 unfold valV at hs ⊢
 cases e:kvs.find? (fun kv=>decide (kv.1=wkey w)) with
 |none=>rw[e]at hs;cases hs
 |some kv=>
  have h1:kv.1=wkey w:=by have:=List.find?_some e;simpa using this
  obtain⟨i,hi,ei⟩:=List.getElem_of_mem (List.mem_of_find?_eq_some e)
  have hi':i<ks.length:=by rw[<-h.1];exact hi
  obtain⟨t,a,b⟩:=h.2 i ks[i] (by simp[hi'])
  rw[List.getElem?_eq_getElem hi,ei]at a
  have ea:=Option.some.inj a
  rw[ea]at h1
  have:ks[i]=w:=wkey_inj h1
  rw[this]at b
  exact⟨t,by rw[ea];rfl,b⟩
theorem mem_insW {s:List (List Int)}{w v:List Int}:v∈ins s w↔v∈s\/v=w:=by
 unfold ins
 split
 ·rename_i h
  exact⟨.inl,fun z=>z.elim id fun e=>e ▸ h⟩
 ·simp
theorem mem_insAllW:∀{l s:List (List Int)} {v:List Int},v∈l.foldl ins s↔v∈s\/v∈l
 |[],s,v=>by simp
 |w::l,s,v=>by
  rw[List.foldl_cons,mem_insAllW,mem_insW,List.mem_cons,or_assoc]
theorem acc_in_rows {n:Nat}{acc:List (List Int)}{w:List Int}(h:w∈acc):w∈rowsW n acc:=by
 unfold rowsW
 exact mem_insAllW.mpr (.inl (mem_insAllW.mpr (.inr h)))
def sp_strange (K:PySem.W.Frag)(C:Addr):Sp:=fun vs H Q _=>∃(p d a b:Addr) (L:Int) (N:Nat) (es:List (List Int×Int)) (xs ys:List V) (acc ends:List (List Int)) (g:List Int->List Int),vs=[.ref p,.int N,.ref a,.ref b]/\BookAt C H p d L es/\N<=6/\SqL K H a xs/\WordsT K H xs acc/\acc.length<=64/\(∀w∈acc,w.length<=64)/\SqL K H b ys/\WordsT K H ys ends/\ends.length<=50/\(∀e∈ends,e.length<=500)/\(∀w∈rowsW N acc,(ends.map fun e=>oV (mkO es (w++e)))=(g w).map V.int)/\(∀w t H',(rowsW N acc).find? (fun w=>decide (g w∉acc.map g))=some w->Same H H'->H' t=some (.tup (w.map V.int))->Q (.ref t) H')/\∀H',(rowsW N acc).find? (fun w=>decide (g w∉acc.map g))=none->Same H H'->Q .non H'
theorem ok_stranger {f:Addr}{fd:FuncData}(F:Fun K "stranger" "stranger" s_stranger f fd)(T:Txt mg)
  (W:Own K mg C_Book C_Turns C_Hunt C_Asker)
  (Z:Exs K mg C_AskError C_BadWord C_BadMark C_OutOfTurn C_NoDifference C_Contradiction)
  {f_marks_by_row:Addr} {fd_marks_by_row:FuncData} (g_marks_by_row:FnOk P w K mg base CX0 3 f_marks_by_row fd_marks_by_row ["book","letters","access","ends"] (sp_mbr K C_Book)) (F_marks_by_row:Fun K "marks_by_row" "marks_by_row" s_marks_by_row f_marks_by_row fd_marks_by_row) (b_marks_by_row:Binds K fd_marks_by_row ["book","letters","access","ends"] []) (m_marks_by_row:mg "marks_by_row"=some (.ref f_marks_by_row))
  : FnOk P w K mg base CX0 4 f fd ["book","letters","access","ends"] (sp_strange K C_Book):=by
 refine F.ok sc_stranger (fun vs H Q E h=>?_) (fun cdv A outer s H vs Q E hr h=>?_)
 ·obtain⟨p,d,a,b,L,N,es,xs,ys,acc,ends,g,rfl,_⟩:=h;rfl
 ·obtain⟨p,d,a,b,L,N,es,xs,ys,acc,ends,g,rfl,B,hN,ha,hA,hal,haw,hb,hE,hel,hew,hg,k,kn⟩:=h
  have hl:=line1000
  refine⟨_,(pss_cons (ps_set (i:=4) sc_stranger.nd rfl (Or.inr rfl) (pe_call g_marks_by_row (hr.mono (by decide)) rfl m_marks_by_row F_marks_by_row.kp b_marks_by_row .nil pass0 (pa_cons (pv 0) (pa_cons (pv 1) (pa_cons (pv 2) (pa_cons (pv 3) pa_nil))))))
   (pss_cons (ps_setC (i:=5) sc_stranger.nd rfl rfl rfl (blk_mk rfl) (cp:=c_stranger_0) ⟨⟨rfl,rfl⟩,True.intro⟩ (pi_list (pv 2)) (fun _ _ _ _=>(pg_name (i:=0) nd_c_stranger_0 rfl (Or.inl rfl))) (fun _ _ _ _=>pf_nil) (fun _ _ _ _=>(pe_dget (hu_of hr) (pv 1) (pv 0) (fun _ _=>rfl))))
   (pss_cons (ps_for PassesOwn.never rfl (pi_dictT (pv 4)) (pg_name (i:=6) sc_stranger.nd rfl (Or.inl rfl))
   (pss_one (ps_if (pt_cmpR (op_notInW (hu9 hr)) (pe_dget (hu_of hr) (pv 4) (pv 6) (fun _ _=>rfl)) (pv 5) rfl)
   (pss_one (ps_ret (pv 6)))
   pss_nil)))
   (pss_one (ps_ret pe_non))))),?_⟩
  walk_at "rd"
  refine⟨p,d,a,b,L,N,es,xs,ys,acc,ends,rfl,B,hN,ha,hA,hal,haw,hb,hE,hel,hew,fun m kvs H1 s1 hm0 hm hM=>?_⟩
  walk_at "rd"
  have kk:=k
  have kkn:=kn
  have hin:∀w∈acc,w∈rowsW N acc:=fun w h=>acc_in_rows h
  generalize rowsW N acc=rw' at hM hg kk kkn hin
  clear k kn
  have ha1:=s1.seq ha
  have hA1:WordsT K H1 xs acc:=hA.mono (TK.of s1)
  refine⟨⟨_,ha1⟩,compL (xs:=xs) (fun i ys σ' H'=>H'=H1/\WordsT K H1 ys ((acc.take i).map g)/\∃o,σ'=[o,some (.ref m)]) ⟨rfl,WordsT.nil,none,rfl⟩ (by rw[hA.1];omega) (fun i ys σ' H' hi h'=>⟨by rw[h'.1];exact ha1,by rw[h'.2.1.1,List.length_map,List.length_take];omega⟩) (fun i x ys σ' H' hx h'=>?_) (fun ys σ' H' h' D hD=>?_)⟩
  ·obtain⟨rfl,hY,o,rfl⟩:=h'
   obtain⟨t,w,hwi,rfl,ht⟩:=hA1.at hx
   have hwm:=List.mem_of_getElem? hwi
   obtain⟨u,hu1,hu2⟩:=hM.get (hin w hwm)
   have et:acc.take (i+1)=acc.take i++[w]:=by rw[List.take_add_one,hwi];rfl
   rw[hg w (hin w hwm)]at hu2
   walk_at "rd"
   have hdg:DGet H' m (.ref t) (some (.ref u)):=by rw[<-hu1];exact DGet.t (k:=wkey w) hm (by rw[wkey_kV];exact ht)
   refine⟨_,hdg,?_,_,rfl⟩
   rw[et,List.map_append]
   exact hY.snoc hu2
  ·obtain⟨rfl,hY,o,rfl⟩:=h'
   rw[hA.1,List.take_length]at hY
   have sD:=Same.new hD (o:=.lst ys)
   have hm2:=sD _ _ hm
   refine⟨kvs,hm2,fun oo=>?_⟩
   have hDm:D≠m:=fun z=>by rw[z,hm]at hD;cases hD
   obtain⟨HF,hHF⟩:∃HF:Hp,HF=upd (upd H' D (.lst ys)) m (.frz oo (.dT kvs)):=⟨_,rfl⟩
   rw[<-hHF]
   have hmF:HF m=some (.frz oo (.dT kvs)):=by rw[hHF];exact upd_same
   have tkF:TK H' HF:=fun c zs z=>by rw[hHF,upd_ne (fun e=>by rw[e,hm]at z;cases z)];exact sD _ _ z
   have hDF:HF D=some (.lst ys):=by rw[hHF,upd_ne hDm];exact upd_same
   have sF:Same H HF:=by rw[hHF];exact (s1.trans sD).over hm0
   obtain⟨Pv,hPv⟩:∃Pv:Nat->St->Hp->Prop,∀i σ' H',Pv i σ' H'↔(H'=HF/\(∀w∈rw'.take i,g w∈acc.map g)/\∃o,σ'=[some (.ref p),some (.int N),some (.ref a),some (.ref b),some (.ref m),some (.ref D),o]):=⟨_,fun _ _ _=>Iff.rfl⟩
   refine forD Pv ((hPv _ _ _).mpr ⟨rfl,(fun w hw=>by rw[List.take_zero]at hw;cases hw),none,rfl⟩) (fun i σ2 H2 _ h2=>by rw[((hPv _ _ _).mp h2).1];exact hmF) (fun i k0 v0 bb σ2 H2 hkv h2 hbb=>?_) (fun σ2 H2 h2=>?_)
   ·obtain⟨rfl,hall,o2,rfl⟩:=(hPv _ _ _).mp h2
    have hi:i<rw'.length:=by rw[<-hM.1];exact (List.getElem?_eq_some_iff.mp hkv).1
    have hwi:rw'[i]?=some rw'[i]:=by simp[hi]
    obtain⟨t,e1,e2⟩:=hM.2 i _ hwi
    have hwm:=List.mem_of_getElem? hwi
    rw[hkv]at e1
    cases e1
    replace e2:H' t=some (.tup ((g rw'[i]).map V.int)):=by rw[<-hg _ hwm];exact e2
    rw[wkey_kV]at hbb
    have et:rw'.take (i+1)=rw'.take i++[rw'[i]]:=by rw[List.take_add_one,hwi];rfl
    walk_at "rd"
    obtain⟨t',hv1,hv2⟩:=hM.get hwm
    replace hv2:H' t'=some (.tup ((g rw'[i]).map V.int)):=by rw[<-hg _ hwm];exact hv2
    refine⟨V.ref t',.inr ⟨kvs,wkey rw'[i],bb,.inr ⟨oo,hmF⟩,rfl,by rw[wkey_kV];exact hbb,hv1.symm⟩,t',rfl,_,SqL.of hDF,g rw'[i],acc.map g,hY.mono tkF,SqT.of (tkF _ _ hv2),?_⟩
    by_cases hmem:g rw'[i]∈acc.map g
    ·rw[if_neg (by rw[decide_eq_true hmem];decide)]
     refine (hPv _ _ _).mpr ⟨rfl,fun w hw=>?_,_,rfl⟩
     rw[et]at hw
     rcases List.mem_append.mp hw with hw|hw
     ·exact hall w hw
     ·rw[List.mem_singleton.mp hw];exact hmem
    ·rw[if_pos (by rw[decide_eq_false hmem];rfl)]
     refine kk rw'[i] bb _ (List.find?_eq_some_iff_getElem.mpr ⟨decide_eq_true hmem,i,hi,rfl,fun j hj=>?_⟩) sF hbb
     have:=hall rw'[j] (List.mem_iff_getElem?.mpr ⟨j,by rw[List.getElem?_take,if_pos hj];simp[show j<rw'.length by omega]⟩)
     rw[decide_eq_false (not_not_intro this)]
     rfl
   ·obtain⟨rfl,hall,o2,rfl⟩:=(hPv _ _ _).mp h2
    rw[hM.1,List.take_length]at hall
    walk_at "rd"
    refine kkn _ (List.find?_eq_none.mpr fun w hw=>?_) sF
    simp[hall w hw]
def eI (g:List Int->List Int)(acc:List (List Int))(i:Nat):List (List Int×Int):=(List.range i).map fun j=>(g (acc.getD j []),(j:Int))
theorem eI_succ (g:List Int->List Int)(acc:List (List Int))(i:Nat):eI g acc (i+1)=eI g acc i++[(g (acc.getD i []),(i:Int))]:=by unfold eI;rw[List.range_succ,List.map_append];rfl
theorem eI_keys (g:List Int->List Int)(acc:List (List Int)){i:Nat}(hi:i<=acc.length):(eI g acc i).map (·.1)=(acc.map g).take i:=by
 refine List.ext_getElem? fun j=>?_
 unfold eI
 rw[List.map_map,List.getElem?_map,List.getElem?_take,List.getElem?_map]
 by_cases hj:j<i
 ·rw[if_pos hj,List.getElem?_range hj]
  have hj':j<acc.length:=by omega
  simp[List.getD_eq_getElem?_getD,hj']
 ·rw[if_neg hj,List.getElem?_eq_none (by simp;omega)];rfl
theorem eI_mem {g:List Int->List Int}{acc:List (List Int)}{x:List Int}(hx:x∈acc.map g):(x,(((acc.map g).idxOf x:Nat):Int))∈eI g acc acc.length:=by
 unfold eI
 have hlt:(acc.map g).idxOf x<(acc.map g).length:=List.idxOf_lt_length_of_mem hx
 rw[List.length_map]at hlt
 refine List.mem_map.mpr ⟨(acc.map g).idxOf x,List.mem_range.mpr hlt,?_⟩
 have h1:(acc.map g)[(acc.map g).idxOf x]'(by rw[List.length_map];exact hlt)=x:=List.getElem_idxOf _
 rw[List.getElem_map]at h1
 rw[List.getD_eq_getElem?_getD,List.getElem?_eq_getElem hlt]
 show (g _,_)=_
 rw[Option.getD_some,h1]
theorem ext_in_rows {n:Nat}{acc:List (List Int)}{w:List Int}{x:Nat}(h:w∈acc)(hx:x<n):w++[(x:Int)]∈rowsW n acc:=by
 unfold rowsW
 refine mem_insAllW.mpr (.inr (List.mem_flatMap.mpr ⟨w,h,?_⟩))
 unfold extW
 exact List.mem_map.mpr ⟨x,List.mem_range.mpr hx,rfl⟩
theorem nodup_take37 {l:List (List Int)}{i:Nat}(hi:i<l.length)(nd:l.Nodup):l[i]∉l.take i:=fun z=>by
 obtain⟨j,hj,ej⟩:=List.getElem_of_mem z
 rw[List.length_take]at hj
 rw[List.getElem_take]at ej
 have:=(List.getElem_inj (h₀:=(show j<l.length by omega)) (h₁:=hi) nd).mp ej
 omega
def sp_waysm (K:PySem.W.Frag):Sp:=fun vs H Q _=>∃(N:Nat) (a m:Addr) (xs:List V) (acc:List (List Int)) (kvs:List (List Key×V)) (g:List Int->List Int),vs=[.int N,.ref a,.ref m]/\N<=6/\SqL K H a xs/\WordsT K H xs acc/\acc.length<=64/\(∀w∈acc,w.length<=64)/\H m=some (.dT kvs)/\MarksD H (fun w=>(g w).map V.int) (rowsW N acc) kvs/\(acc.map g).Nodup/\(∀w∈acc,∀x:Nat,x<N->g (w++[(x:Int)])∈acc.map g)/\∀t ys H',Same H H'->H' t=some (.tup ys)->WordsT K H' ys (acc.map fun w=>(List.range N).map fun x:Nat=>(((acc.map g).idxOf (g (w++[(x:Int)])):Nat):Int))->Q (.ref t) H'
theorem ok_ways_by_marks {f:Addr}{fd:FuncData}(F:Fun K "ways_by_marks" "ways_by_marks" s_ways_by_marks f fd)(T:Txt mg)
  (W:Own K mg C_Book C_Turns C_Hunt C_Asker)
  (Z:Exs K mg C_AskError C_BadWord C_BadMark C_OutOfTurn C_NoDifference C_Contradiction)
  : FnOk P w K mg base CX0 1 f fd ["letters","access","marks"] (sp_waysm K):=by
 refine F.ok sc_ways_by_marks (fun vs H Q E h=>?_) (fun cdv A outer s H vs Q E hr h=>?_)
 ·obtain⟨N,a,m,xs,acc,kvs,g,rfl,_⟩:=h;rfl
 ·obtain⟨N,a,m,xs,acc,kvs,g,rfl,hN,ha,hA,hal,haw,hm,hM,hnd,hin,k⟩:=h
  have hl:=line1000
  refine⟨_,(pss_cons (ps_set (i:=3) sc_ways_by_marks.nd rfl (Or.inr rfl) pe_dnewT)
   (pss_cons (ps_for PassesOwn.never rfl (pi_enumL rfl T.enumerate (pv 1)) (pg_tup rfl (pgs_cons (pg_name (i:=4) sc_ways_by_marks.nd rfl (Or.inl rfl)) (pgs_cons (pg_name (i:=5) sc_ways_by_marks.nd rfl (Or.inr rfl)) pgs_nil)))
   (pss_one (ps_dput (hu_of hr) (pv 3) (pe_dget (hu_of hr) (pv 2) (pv 5) (fun _ _=>rfl)) (pv 4) rfl)))
   (pss_cons (ps_set (i:=6) sc_ways_by_marks.nd rfl (Or.inl rfl) (pe_lst pa_nil))
   (pss_cons (ps_for PassesOwn.never rfl (pi_list (pv 1)) (pg_name (i:=5) sc_ways_by_marks.nd rfl (Or.inr rfl))
   (pss_one (ps_expr (pe_bm PySem.F.plainAttrs_list PySem.F.slot_list_append PySem.F.type_list_append mt_append (pv 6) (pa_cons (pe_callTy call_tuple_of rfl T.tuple PyProof.Rows.boot_tuple (pa_cons (pe_comp rfl (blk_mk rfl) (cp:=c_ways_by_marks_0) ⟨⟨rfl,rfl⟩,⟨⟨rfl,rfl⟩,⟨⟨rfl,rfl⟩,True.intro⟩⟩⟩ (pi_range1 rfl T.range (pa_cons (pv 0) pa_nil)) (fun _ _ _ _=>(pg_name (i:=0) nd_c_ways_by_marks_0 rfl (Or.inl rfl))) (fun _ _ _ _=>pf_nil) (fun _ _ _ _=>(pe_dget1 (hu_of hr) (pv 1) (pe_dget (hu_of hr) (pv 2) (pe_op (op_catT2K (K:=K) rfl) (pv 3) (pe_tup (pa_cons (pv 0) pa_nil))) (fun _ _=>rfl)) ⟨by rfl,by rfl,by rfl,by rfl⟩))) pa_nil)) pa_nil)))))
   (pss_one (ps_ret (pe_callTy call_tuple_of rfl T.tuple PyProof.Rows.boot_tuple (pa_cons (pv 6) pa_nil)))))))),?_⟩
  walk_at "rd"
  intro p hp
  have s0:=Same.new hp (o:=.dT [])
  have hkn:∀i,i<=acc.length->((eI g acc i).map (·.1)).Nodup:=fun i hi=>by rw[eI_keys g acc hi];exact hnd.sublist (List.take_sublist _ _)
  refine⟨_,s0.seq ha,?_⟩
  obtain⟨Pv,hPv⟩:∃Pv:Nat->St->Hp->Prop,∀i σ' H',Pv i σ' H'↔(∃o1 o2:Option V,Same H H'/\H' p=some (.dT (ents (eI g acc i)))/\σ'=[some (.int N),some (.ref a),some (.ref m),some (.ref p),o1,o2,none]):=⟨_,fun _ _ _=>Iff.rfl⟩
  have hpm:p≠m:=fun z=>by rw[z,hm]at hp;cases hp
  refine forM Pv ((hPv _ _ _).mpr ⟨none,none,s0,upd_same,rfl⟩) (fun i σ' H' _ h'=>by obtain⟨_,_,s',_⟩:=(hPv _ _ _).mp h';exact s'.seq ha) (fun i v σ' H' t hv h' ht=>?_) (fun σ' H' h'=>?_)
  ·obtain⟨o1,o2,s',hp',rfl⟩:=(hPv _ _ _).mp h'
   obtain⟨tw,w,hwi,rfl,htw⟩:=hA.at hv
   have hwm:=List.mem_of_getElem? hwi
   have hi:=(List.getElem?_eq_some_iff.mp hwi).1
   have sT:=s'.newT ht (o:=.tup [.int i,.ref tw])
   obtain⟨u,hu1,hu2⟩:=hM.get (acc_in_rows (n:=N) hwm)
   have hgd:acc.getD i []=w:=by rw[List.getD_eq_getElem?_getD,hwi];rfl
   have hno:g w∉(eI g acc i).map (·.1):=by
    rw[eI_keys g acc (by omega)]
    have:=nodup_take37 (l:=acc.map g) (i:=i) (by rw[List.length_map];exact hi) hnd
    rw[List.getElem_map,(List.getElem?_eq_some_iff.mp hwi).2]at this
    exact this
   walk_at "rd"
   have hdg:DGet (upd H' t (.tup [V.int i,V.ref tw])) m (.ref tw) (some (.ref u)):=by rw[<-hu1];exact DGet.t (k:=wkey w) (sT _ _ hm) (by rw[wkey_kV];exact sT _ _ htw)
   have hle:(ents (eI g acc i)).length=i:=by unfold ents eI;rw[List.length_map,List.length_map,List.length_range]
   refine⟨_,SqT.of upd_same,rfl,V.int i,_,rfl,V.ref tw,_,rfl,rfl,V.ref u,hdg,_,DPut.t (k:=wkey (g w)) (Same.new ht _ _ hp') (by rw[wkey_kV];exact sT _ _ hu2) (by omega),(hPv _ _ _).mpr ⟨_,_,sT.over hp,by rw[upd_same,ents_put hno,eI_succ,hgd],rfl⟩⟩
  ·obtain⟨o1,o2,s',hp',rfl⟩:=(hPv _ _ _).mp h'
   rw[hA.1]at hp'
   walk_at "rd"
   refine⟨by omega,fun q hq=>⟨⟨_,(s'.newT hq).seq ha⟩,?_⟩⟩
   have sq:=s'.newT hq (o:=.lst [])
   have hqH:H q=none:=s'.none hq
   have hpq:p≠q:=fun z=>by rw[z,hq]at hp';cases hp'
   obtain⟨Pw,hPw⟩:∃Pv:Nat->St->Hp->Prop,∀i σ2 H2,Pv i σ2 H2↔(∃(ys:List V) (o:Option V),Same H H2/\H2 p=some (.dT (ents (eI g acc acc.length)))/\H2 q=some (.lst ys)/\WordsT K H2 ys ((acc.take i).map fun w=>(List.range N).map fun x:Nat=>(((acc.map g).idxOf (g (w++[(x:Int)])):Nat):Int))/\σ2=[some (.int N),some (.ref a),some (.ref m),some (.ref p),o1,o,some (.ref q)]):=⟨_,fun _ _ _=>Iff.rfl⟩
   refine forL (xs:=xs) Pw ((hPw _ _ _).mpr ⟨[],_,sq,Same.new hq _ _ hp',upd_same,WordsT.nil,rfl⟩) (fun i σ2 H2 _ h2=>by obtain⟨_,_,s2,_⟩:=(hPw _ _ _).mp h2;exact s2.seq ha) (fun i x σ2 H2 hx h2=>?_) (fun σ2 H2 h2=>?_)
   ·obtain⟨ys,o,s2,hp2,hq2,hY,rfl⟩:=(hPw _ _ _).mp h2
    obtain⟨tw,w,hwi,rfl,htw⟩:=hA.at hx
    have hwm:=List.mem_of_getElem? hwi
    have hwl:=haw w hwm
    have et:acc.take (i+1)=acc.take i++[w]:=by rw[List.take_add_one,hwi];rfl
    have hyl:ys.length<=64:=by rw[hY.1,List.length_map,List.length_take];omega
    walk_at "rd"
    refine⟨.inl ⟨rfl,_,SqL.of hq2⟩,by omega,by omega,?_⟩
    rw[Int.toNat_natCast]
    obtain⟨Pc,hPc⟩:∃Pc:Nat->List V->St->Hp->Prop,∀j us σ4 H4,Pc j us σ4 H4↔(Same H2 H4/\us=((List.range j).map fun x:Nat=>(((acc.map g).idxOf (g (w++[(x:Int)])):Nat):Int)).map V.int/\∃o,σ4=[o,some (.ref p),some (.ref m),some (.ref tw)]):=⟨_,fun _ _ _ _=>Iff.rfl⟩
    refine compR Pc ((hPc _ _ _ _).mpr ⟨Same.refl _,rfl,none,rfl⟩) (by omega) (fun j us σ4 H4 _ h4=>?_) (fun j us σ4 H4 hj h4=>?_) (fun us σ4 H4 h4 D hD=>?_)
    ·obtain⟨_,rfl,_⟩:=(hPc _ _ _ _).mp h4
     rw[List.length_map,List.length_map,List.length_range];omega
    ·obtain⟨s4,rfl,o4,rfl⟩:=(hPc _ _ _ _).mp h4
     rw[Int.zero_add]
     have s24:=s2.trans s4
     obtain⟨u,hu1,hu2⟩:=hM.get (ext_in_rows (n:=N) hwm hj)
     have hmem:=eI_mem (hin w hwm j hj)
     walk_at "rd"
     refine⟨.inr ⟨_,.inl (s4 _ _ hp2)⟩,by omega,fun p1 hp1=>rCatT2.ofS (Same.new hp1 _ _ (s24 _ _ htw)) upd_same (by simp;omega) fun q3 H5 s5 hq5=>?_⟩
     have s45:=(Same.new hp1 (o:=.tup [V.int j])).trans s5
     have s25:=s24.trans s45
     have hdg:DGet H5 m (.ref q3) (some (.ref u)):=by rw[<-hu1];exact DGet.t (k:=wkey (w++[(j:Int)])) (s25 _ _ hm) (by rw[wkey_kV,List.map_append];exact hq5)
     refine⟨_,hdg,_,DGet.t (k:=wkey (g (w++[(j:Int)]))) ((s4.trans s45) _ _ hp2) (by rw[wkey_kV];exact s25 _ _ hu2),(hPc _ _ _ _).mpr ⟨s4.trans s45,?_,_,rfl⟩⟩
     rw[ents_get (hkn _ (Nat.le_refl _)) hmem,List.range_succ,List.map_append,List.map_append]
     rfl
    ·obtain⟨s4,rfl,o4,rfl⟩:=(hPc _ _ _ _).mp h4
     refine⟨D,rfl,_,.inl ⟨SqL.of upd_same,fun t ht=>?_⟩⟩
     have sDt:=(s4.newT hD).newT ht (o:=.tup (((List.range N).map fun x:Nat=>(((acc.map g).idxOf (g (w++[(x:Int)])):Nat):Int)).map V.int))
     have hq5:=sDt _ _ hq2
     refine⟨_,hq5,by omega,(hPw _ _ _).mpr ⟨ys++[.ref t],_,(s2.trans sDt).over hqH,by rw[upd_ne hpq];exact sDt _ _ hp2,upd_same,?_,rfl⟩⟩
     rw[et,List.map_append]
     exact ((hY.mono (TK.of sDt)).snoc upd_same).mono (TK.lst hq5)
   ·obtain⟨ys,o,s2,hp2,hq2,hY,rfl⟩:=(hPw _ _ _).mp h2
    rw[hA.1,List.take_length]at hY
    walk_at "rd"
    exact⟨_,.inl ⟨SqL.of hq2,fun t ht=>k t ys _ (s2.newT ht) upd_same (hY.mono (TK.of (Same.new ht)))⟩⟩
def sp_guess (K:PySem.W.Frag)(C:Addr):Sp:=fun vs H Q _=>∃(p d a b:Addr) (L:Int) (N:Nat) (es:List (List Int×Int)) (xs ys:List V) (acc ends:List (List Int)) (g:List Int->List Int) (f:List Int->Int),vs=[.ref p,.int N,.ref a,.ref b]/\BookAt C H p d L es/\N<=6/\SqL K H a xs/\WordsT K H xs acc/\acc.length<=64/\(∀w∈acc,w.length<=64)/\SqL K H b ys/\WordsT K H ys ends/\ends.length<=50/\(∀e∈ends,e.length<=500)/\(∀w∈rowsW N acc,(ends.map fun e=>oV (mkO es (w++e)))=(g w).map V.int)/\(acc.map g).Nodup/\(∀w∈acc,∀x:Nat,x<N->g (w++[(x:Int)])∈acc.map g)/\(∀w∈acc,mkO es w=some (f w))/\∀h tm tw zs H',Same H H'->H' h=some (.tup [.int N,.ref tm,.ref tw])->H' tm=some (.tup ((acc.map f).map V.int))->H' tw=some (.tup zs)->WordsT K H' zs (acc.map fun w=>(List.range N).map fun x:Nat=>(((acc.map g).idxOf (g (w++[(x:Int)])):Nat):Int))->Q (.ref h) H'
theorem ok_guess_of {f:Addr}{fd:FuncData}(F:Fun K "guess_of" "guess_of" s_guess_of f fd)(T:Txt mg)
  (W:Own K mg C_Book C_Turns C_Hunt C_Asker)
  (Z:Exs K mg C_AskError C_BadWord C_BadMark C_OutOfTurn C_NoDifference C_Contradiction)
  {f_Book_told:Addr} {fd_Book_told:FuncData} (g_Book_told:FnOk P w K mg base CX0 1 f_Book_told fd_Book_told ["self","word"] (sp_book_told C_Book)) (F_Book_told:Fun K "told" "Book.told" s_Book_told f_Book_told fd_Book_told) (b_Book_told:Binds K fd_Book_told ["self","word"] []) (m_Book_told:Meth K C_Book "told" f_Book_told)
  {f_marks_by_row:Addr} {fd_marks_by_row:FuncData} (g_marks_by_row:FnOk P w K mg base CX0 3 f_marks_by_row fd_marks_by_row ["book","letters","access","ends"] (sp_mbr K C_Book)) (F_marks_by_row:Fun K "marks_by_row" "marks_by_row" s_marks_by_row f_marks_by_row fd_marks_by_row) (b_marks_by_row:Binds K fd_marks_by_row ["book","letters","access","ends"] []) (m_marks_by_row:mg "marks_by_row"=some (.ref f_marks_by_row))
  {f_ways_by_marks:Addr} {fd_ways_by_marks:FuncData} (g_ways_by_marks:FnOk P w K mg base CX0 1 f_ways_by_marks fd_ways_by_marks ["letters","access","marks"] (sp_waysm K)) (F_ways_by_marks:Fun K "ways_by_marks" "ways_by_marks" s_ways_by_marks f_ways_by_marks fd_ways_by_marks) (b_ways_by_marks:Binds K fd_ways_by_marks ["letters","access","marks"] []) (m_ways_by_marks:mg "ways_by_marks"=some (.ref f_ways_by_marks))
  : FnOk P w K mg base CX0 4 f fd ["book","letters","access","ends"] (sp_guess K C_Book):=by
 refine F.ok sc_guess_of (fun vs H Q E h=>?_) (fun cdv A outer s H vs Q E hr h=>?_)
 ·obtain⟨p,d,a,b,L,N,es,xs,ys,acc,ends,g,f,rfl,_⟩:=h;rfl
 ·obtain⟨p,d,a,b,L,N,es,xs,ys,acc,ends,g,f,rfl,B,hN,ha,hA,hal,haw,hb,hE,hel,hew,hg,hnd,hin,hf,k⟩:=h
  have hl:=line1000
  refine⟨_,(pss_cons (ps_set (i:=4) sc_guess_of.nd rfl (Or.inl rfl) (pe_call g_marks_by_row (hr.mono (by decide)) rfl m_marks_by_row F_marks_by_row.kp b_marks_by_row .nil pass0 (pa_cons (pv 0) (pa_cons (pv 1) (pa_cons (pv 2) (pa_cons (pv 3) pa_nil))))))
   (pss_cons (ps_set (i:=5) sc_guess_of.nd rfl (Or.inl rfl) (pe_callTy call_tuple_of rfl T.tuple PyProof.Rows.boot_tuple (pa_cons (pe_comp rfl (blk_mk rfl) (cp:=c_guess_of_0) ⟨⟨rfl,rfl⟩,True.intro⟩ (pi_list (pv 2)) (fun _ _ _ _=>(pg_name (i:=0) nd_c_guess_of_0 rfl (Or.inl rfl))) (fun _ _ _ _=>pf_nil) (fun _ _ _ _=>(pe_meth (pv 1) W.cl_Book m_Book_told g_Book_told (hr.mono (by decide)) b_Book_told .nil pass0 (pa_cons (pv 0) pa_nil)))) pa_nil)))
   (pss_one (ps_ret (pe_tup (pa_cons (pv 1) (pa_cons (pv 5) (pa_cons (pe_call g_ways_by_marks (hr.mono (by decide)) rfl m_ways_by_marks F_ways_by_marks.kp b_ways_by_marks .nil pass0 (pa_cons (pv 1) (pa_cons (pv 2) (pa_cons (pv 4) pa_nil)))) pa_nil)))))))),?_⟩
  walk_at "rd"
  refine⟨p,d,a,b,L,N,es,xs,ys,acc,ends,rfl,B,hN,ha,hA,hal,haw,hb,hE,hel,hew,fun m kvs H1 s1 hm0 hm hM=>?_⟩
  have hA1:WordsT K H1 xs acc:=hA.mono (TK.of s1)
  have B1:=B.mono s1
  obtain⟨⟨dx,hob⟩,hdc,nd⟩:=id B1
  refine⟨⟨_,s1.seq ha⟩,compL (xs:=xs) (fun i us σ' H'=>H'=H1/\us=((acc.take i).map f).map V.int/\∃o,σ'=[o,some (.ref p)]) ⟨rfl,rfl,none,rfl⟩ (by rw[hA.1];omega) (fun i us σ' H' hi h'=>⟨by rw[h'.1];exact s1.seq ha,by rw[h'.2.1,List.length_map,List.length_map,List.length_take];omega⟩) (fun i x us σ' H' hx h'=>?_) (fun us σ' H' h' D hD=>?_)⟩
  ·obtain⟨rfl,rfl,o,rfl⟩:=h'
   obtain⟨t,w,hwi,rfl,ht⟩:=hA1.at hx
   have hfw:=hf w (List.mem_of_getElem? hwi)
   have et:acc.take (i+1)=acc.take i++[w]:=by rw[List.take_add_one,hwi];rfl
   walk_at "rd"
   refine⟨_,_,hob,bflds_no _ _ (by decide +kernel) (by decide +kernel),p,d,t,L,w,es,rfl,B1,ht,fun hn=>?_,fun v hv=>?_⟩
   ·rw[mkO_none hn]at hfw;cases hfw
   ·rw[mkO_some nd hv]at hfw
    cases hfw
    refine⟨rfl,?_,_,rfl⟩
    rw[et,List.map_append,List.map_append]
    rfl
  ·obtain⟨rfl,rfl,o,rfl⟩:=h'
   rw[hA.1,List.take_length]
   refine⟨D,rfl,_,.inl ⟨SqL.of upd_same,fun tm htm=>?_⟩⟩
   have sD:=(Same.new hD (o:=.lst ((acc.map f).map V.int))).newT htm (o:=.tup ((acc.map f).map V.int))
   have s2:=s1.trans sD
   refine⟨N,a,m,xs,acc,kvs,g,rfl,hN,s2.seq ha,hA.mono (TK.of s2),hal,haw,sD _ _ hm,⟨hM.1,fun i w hi=>?_⟩,hnd,hin,fun tw zs H3 s3 htw hz=>⟨by omega,fun h hh=>?_⟩⟩
   ·obtain⟨t,e1,e2⟩:=hM.2 i w hi
    refine⟨t,e1,?_⟩
    have:=sD _ _ e2
    show _=some (HO.tup ((g w).map V.int))
    rw[<-hg w (List.mem_of_getElem? hi)]
    exact this
   ·have sh:=Same.new hh (o:=.tup [.int N,.ref tm,.ref tw])
    exact k h tm tw zs _ (s2.trans (s3.trans sh)) upd_same ((s3.trans sh) _ _ upd_same) (sh _ _ htw) (hz.mono (TK.of sh))
def wrongT (marks:List Int)(ways:List (List Int))(tr:List Int×Int):Bool:=decide (markW marks (walkW ways tr.1)≠tr.2)
def sp_first_unlike (K:PySem.W.Frag)(fm:Addr):Sp:=fun vs H Q _=>∃(l h:Addr) (L:Int) (marks:List Int) (ways:List (List Int)) (rs:List V) (es:List (List Int×Int)),vs=[.ref l,.ref fm,.ref h]/\SqL K H l rs/\TrialsS H rs es/\House K H h L marks ways/\Wf L marks ways/\(∀e∈es,isW L e.1=true/\e.1.length<=600) /\
 ∀H',Same H H'->((∀e∈es,wrongT marks ways e=false)->Q .non H')/\∀(i:Nat) (e:List Int×Int) (t:Addr),(∀j,j<i->∀e',es[j]?=some e'->wrongT marks ways e'=false)->es[i]?=some e->wrongT marks ways e=true->H' t=some (.tup (e.1.map V.int))->Q (.ref t) H'
theorem ok_first_unlike {f:Addr}{fd:FuncData}(F:Fun K "first_unlike" "first_unlike" s_first_unlike f fd)(T:Txt mg)
  (W:Own K mg C_Book C_Turns C_Hunt C_Asker)
  (Z:Exs K mg C_AskError C_BadWord C_BadMark C_OutOfTurn C_NoDifference C_Contradiction)
  {f_mark_behind:Addr} {fd_mark_behind:FuncData} (g_mark_behind:FnOk P w K mg base (CXe P w) 5 f_mark_behind fd_mark_behind ["house","word"] (sp_mark K C_BadWord)) (F_mark_behind:Fun K "mark_behind" "mark_behind" s_mark_behind f_mark_behind fd_mark_behind) (b_mark_behind:Binds K fd_mark_behind ["house","word"] []) (m_mark_behind:mg "mark_behind"=some (.ref f_mark_behind))
  : FnOk P w K mg base CX0 6 f fd ["heard","answer","house"] (sp_first_unlike K f_mark_behind):=by
 refine F.ok sc_first_unlike (fun vs H Q E h=>?_) (fun cdv A outer s H vs Q E hr h=>?_)
 ·obtain⟨l,h,L,marks,ways,rs,es,rfl,_⟩:=h;rfl
 ·obtain⟨l,h,L,marks,ways,rs,es,rfl,hl1,ht,hh,wf,hes,k⟩:=h
  refine⟨_,(pss_cons (ps_for PassesOwn.never rfl (pi_list (pv 0)) (pg_tup rfl (pgs_cons (pg_name (i:=3) sc_first_unlike.nd rfl (Or.inl rfl)) (pgs_cons (pg_name (i:=4) sc_first_unlike.nd rfl (Or.inl rfl)) pgs_nil)))
   (pss_one (ps_if (pt_cmpR op_ne (pe_callV 1 g_mark_behind (hr.mono (by decide)) F_mark_behind.kp b_mark_behind .nil (passNev (P:=P) (w:=w)) (pa_cons (pv 2) (pa_cons (pv 3) pa_nil))) (pv 4) (nomark _))
   (pss_one (ps_ret (pv 3)))
   pss_nil)))
   (pss_one (ps_ret pe_non))),?_⟩
  walk_at "rd"
  refine⟨⟨_,hl1⟩,?_⟩
  obtain⟨Pv,hPv⟩:∃Pv:Nat->St->Hp->Prop,∀i σ' H',Pv i σ' H'↔(Same H H'/\(∀j,j<i->∀e,es[j]?=some e->wrongT marks ways e=false)/\∃o o',σ'=[some (.ref l),some (.ref f_mark_behind),some (.ref h),o,o']):=⟨_,fun _ _ _=>Iff.rfl⟩
  refine forL (xs:=rs) Pv ((hPv _ _ _).mpr ⟨Same.refl _,fun j hj=>absurd hj (Nat.not_lt_zero _),none,none,rfl⟩) (fun i σ2 H2 _ h2=>((hPv _ _ _).mp h2).1.seq hl1) (fun i x σ2 H2 hx h2=>?_) (fun σ2 H2 h2=>?_)
  ·obtain⟨s2,hall,o,o',rfl⟩:=(hPv _ _ _).mp h2
   have hi:i<es.length:=by rw[<-ht.1];exact (List.getElem?_eq_some_iff.mp hx).1
   have hei:es[i]?=some es[i]:=by simp[hi]
   obtain⟨t,wt,e1,e2,e3⟩:=ht.2 i _ hei
   rw[hx]at e1
   cases e1
   have hok:=hes _ (List.mem_of_getElem? hei)
   generalize es[i]=e at hei e2 e3 hok
   walk_at "rd"
   refine⟨_,SqT.of (s2 _ _ e2),rfl,_,_,rfl,_,_,rfl,rfl,h,wt,L,marks,ways,e.1,rfl,hh.mono s2,wf,SqT.of (s2 _ _ e3),hok.2,fun _ H3 s3=>⟨rfl,?_⟩,fun z=>by rw[hok.1]at z;cases z⟩
   by_cases hw:markW marks (walkW ways e.1)=e.2
   ·rw[if_neg (by rw[hw];simp)]
    refine (hPv _ _ _).mpr ⟨s2.trans s3,fun j hj e' hj'=>?_,_,_,rfl⟩
    by_cases hji:j<i
    ·exact hall j hji e' hj'
    ·have ej:j=i:=by omega
     subst ej
     rw[hei]at hj'
     cases hj'
     exact decide_eq_false fun z=>z hw
   ·rw[if_pos (by simp[hw])]
    exact (k _ (s2.trans s3)).2 i e wt hall hei (decide_eq_true hw) ((s2.trans s3) _ _ e3)
  ·obtain⟨s2,hall,o,o',rfl⟩:=(hPv _ _ _).mp h2
   walk_at "rd"
   refine (k _ s2).1 fun e he=>?_
   obtain⟨j,hj,ej⟩:=List.getElem_of_mem he
   exact hall j (by rw[ht.1];exact hj) e (by rw[List.getElem?_eq_getElem hj,ej])
def sp_first_wrong (K:PySem.W.Frag)(C:Addr):Sp:=fun vs H Q _=>∃(p d h:Addr) (L:Int) (marks:List Int) (ways:List (List Int)) (es:List (List Int×Int)),vs=[.ref p,.ref h]/\House K H h L marks ways/\Wf L marks ways/\BookAt C H p d L es/\(∀e∈es,isW L e.1=true/\e.1.length<=600) /\
 ∀H',Same H H'->((∀e∈es,wrongT marks ways e=false)->Q .non H')/\∀(i:Nat) (e:List Int×Int) (t:Addr),(∀j,j<i->∀e',es[j]?=some e'->wrongT marks ways e'=false)->es[i]?=some e->wrongT marks ways e=true->H' t=some (.tup (e.1.map V.int))->Q (.ref t) H'
theorem ok_first_wrong {f:Addr}{fd:FuncData}(F:Fun K "first_wrong" "first_wrong" s_first_wrong f fd)(T:Txt mg)
  (W:Own K mg C_Book C_Turns C_Hunt C_Asker)
  (Z:Exs K mg C_AskError C_BadWord C_BadMark C_OutOfTurn C_NoDifference C_Contradiction)
  {f_Book_heard:Addr} {fd_Book_heard:FuncData} (g_Book_heard:FnOk P w K mg base CX0 1 f_Book_heard fd_Book_heard ["self"] (sp_book_heard K C_Book)) (F_Book_heard:Fun K "heard" "Book.heard" s_Book_heard f_Book_heard fd_Book_heard) (b_Book_heard:Binds K fd_Book_heard ["self"] []) (m_Book_heard:Meth K C_Book "heard" f_Book_heard)
  {f_mark_behind:Addr} {fd_mark_behind:FuncData} (g_mark_behind:FnOk P w K mg base (CXe P w) 5 f_mark_behind fd_mark_behind ["house","word"] (sp_mark K C_BadWord)) (F_mark_behind:Fun K "mark_behind" "mark_behind" s_mark_behind f_mark_behind fd_mark_behind) (b_mark_behind:Binds K fd_mark_behind ["house","word"] []) (m_mark_behind:mg "mark_behind"=some (.ref f_mark_behind))
  {f_first_unlike:Addr} {fd_first_unlike:FuncData} (g_first_unlike:FnOk P w K mg base CX0 6 f_first_unlike fd_first_unlike ["heard","answer","house"] (sp_first_unlike K f_mark_behind)) (F_first_unlike:Fun K "first_unlike" "first_unlike" s_first_unlike f_first_unlike fd_first_unlike) (b_first_unlike:Binds K fd_first_unlike ["heard","answer","house"] []) (m_first_unlike:mg "first_unlike"=some (.ref f_first_unlike))
  : FnOk P w K mg base CX0 7 f fd ["book","house"] (sp_first_wrong K C_Book):=by
 refine F.ok sc_first_wrong (fun vs H Q E h=>?_) (fun cdv A outer s H vs Q E hr h=>?_)
 ·obtain⟨p,d,h,L,marks,ways,es,rfl,_⟩:=h;rfl
 ·obtain⟨p,d,h,L,marks,ways,es,rfl,hh,wf,B,hes,k⟩:=h
  refine⟨_,(pss_one (ps_ret (pe_call g_first_unlike (hr.mono (by decide)) rfl m_first_unlike F_first_unlike.kp b_first_unlike .nil pass0 (pa_cons (pe_meth0 (pv 0) W.cl_Book m_Book_heard g_Book_heard (hr.mono (by decide)) b_Book_heard .nil pass0) (pa_cons (pe_glob (v:=.ref f_mark_behind) rfl m_mark_behind rfl) (pa_cons (pv 1) pa_nil)))))),?_⟩
  obtain⟨⟨dx,hp⟩,hd,nd⟩:=id B
  walk_at "rd"
  refine⟨_,_,hp,bflds_no _ _ (by decide +kernel) (by decide +kernel),p,d,L,es,rfl,B,fun l rs H1 s1 hl hl1 ht=>?_⟩
  exact⟨l,h,L,marks,ways,rs,es,rfl,SqL.of hl1,ht,hh.mono s1,wf,hes,fun H2 s2=>k _ (s1.trans s2)⟩
theorem mem_fins (l:List (List Int)):∀(s:List (List Int)) (v:List Int),v∈l.foldl ins s↔v∈s\/v∈l:=by
 induction l with
 |nil=>intro s v;simp
 |cons a l ih=>
  intro s v
  rw[List.foldl_cons,ih]
  unfold ins
  split
  ·rename_i h
   constructor
   ·rintro (h1|h1)
    ·exact .inl h1
    ·exact .inr (List.mem_cons_of_mem _ h1)
   ·rintro (h1|h1)
    ·exact .inl h1
    ·rcases List.mem_cons.mp h1 with rfl|h1
     ·exact .inl h
     ·exact .inr h1
  ·constructor
   ·rintro (h1|h1)
    ·rcases List.mem_append.mp h1 with h1|h1
     ·exact .inl h1
     ·rw[List.mem_singleton.mp h1];exact .inr (List.mem_cons_self ..)
    ·exact .inr (List.mem_cons_of_mem _ h1)
   ·rintro (h1|h1)
    ·exact .inl (List.mem_append_left _ h1)
    ·rcases List.mem_cons.mp h1 with rfl|h1
     ·exact .inl (by simp)
     ·exact .inr h1
theorem mem_rows39 {L:Nat}{W:List (List Int)}{v:List Int}:v∈rowsW L W↔v∈W \/ ∃a∈W,∃x:Nat,x<L/\v=a++[(x:Int)]:=by
 unfold rowsW
 rw[mem_fins,mem_fins]
 simp only[List.not_mem_nil,false_or,List.mem_flatMap,extW,List.mem_map,List.mem_range]
 constructor
 ·rintro (h|⟨a,ha,x,hx,rfl⟩)
  ·exact .inl h
  ·exact .inr ⟨a,ha,x,hx,rfl⟩
 ·rintro (h|⟨a,ha,x,hx,rfl⟩)
  ·exact .inl h
  ·exact .inr ⟨a,ha,x,hx,rfl⟩
theorem mem_cells39 {R E:List (List Int)}{c:List Int}:c∈cellsW R E ↔ ∃r∈R,∃e∈E,c=r++e:=by
 unfold cellsW
 rw[mem_fins]
 simp only[List.not_mem_nil,false_or,List.mem_flatMap,List.mem_map]
 constructor
 ·rintro⟨r,hr,e,he,rfl⟩;exact⟨r,hr,e,he,rfl⟩
 ·rintro⟨r,hr,e,he,rfl⟩;exact⟨r,hr,e,he,rfl⟩
abbrev Bk:=List (List Int×Int)
def Grow (es es':Bk):Prop:=∀v m,mkO es v=some m->mkO es' v=some m
theorem Grow.refl (es:Bk):Grow es es:=fun _ _ h=>h
theorem Grow.snoc (es:Bk)(v:List Int)(m:Int):Grow es (es++[(v,m)]):=fun u n h=>by
 unfold mkO at h ⊢
 rw[List.find?_append]
 cases hf:es.find? (fun e=>decide (e.1=u)) with
 |none=>rw[hf]at h;cases h
 |some e=>rw[hf]at h;exact h
theorem mkO_mem {es:Bk}{v:List Int}{m:Int}(h:mkO es v=some m):(v,m)∈es:=by
 unfold mkO at h
 cases hf:es.find? (fun e=>decide (e.1=v)) with
 |none=>rw[hf]at h;cases h
 |some e=>
  rw[hf]at h
  have h1:=List.mem_of_find?_eq_some hf
  have h2:=List.find?_some hf
  simp at h h2
  subst h h2
  exact h1
theorem mkO_key {es:Bk}{v:List Int}:v∈es.map (·.1) ↔ ∃m,mkO es v=some m:=by
 constructor
 ·intro h
  cases hm:mkO es v with
  |some m=>exact⟨m,rfl⟩
  |none=>
   obtain⟨e,he,rfl⟩:=List.mem_map.mp h
   unfold mkO at hm
   rw[Option.map_eq_none_iff,List.find?_eq_none]at hm
   exact absurd (decide_eq_true rfl) (hm e he)
 ·rintro⟨m,hm⟩
  exact List.mem_map.mpr ⟨_,mkO_mem hm,rfl⟩
def Apart (E:List (List Int))(es:Bk)(v u:List Int):Prop:=∃e∈E,∃m n,mkO es (v++e)=some m/\mkO es (u++e)=some n/\m≠n
theorem Apart.symm {E:List (List Int)}{es:Bk}{v u:List Int}(h:Apart E es v u):Apart E es u v:=by
 obtain⟨e,he,m,n,a,b,c⟩:=h
 exact⟨e,he,n,m,b,a,Ne.symm c⟩
theorem Apart.mono {E E':List (List Int)}{es es':Bk}{v u:List Int}(h:Apart E es v u)(hE:∀e∈E,e∈E')(g:Grow es es'):Apart E' es' v u:=by
 obtain⟨e,he,m,n,a,b,c⟩:=h
 exact⟨e,hE e he,m,n,g _ _ a,g _ _ b,c⟩
def Pend (L:Nat)(W E:List (List Int))(es:Bk):Prop:=∃a∈W,∃x:Nat,x<L/\∀u∈W,Apart E es (a++[(x:Int)]) u
theorem Pend.mono {L:Nat}{W E:List (List Int)}{es es':Bk}(h:Pend L W E es)(g:Grow es es'):Pend L W E es':=by
 obtain⟨a,ha,x,hx,k⟩:=h
 exact⟨a,ha,x,hx,fun u hu=>(k u hu).mono (fun _ z=>z) g⟩
structure Tb (L most:Nat)(W E:List (List Int))(es:Bk):Prop where
 l1:1<=L
 l6:L<=6
 m12:most<=12
 w0:W[0]?=some []
 wW:∀v∈W,isW L v=true/\v.length<W.length
 wn:W.length<=most
 e0:E[0]?=some []
 eW:∀e∈E,isW L e=true
 nd:(es.map (·.1)).Nodup
 bW:∀p∈es,isW L p.1=true/\0<=p.2/\p.2<=1000000000
 dist:∀(i j:Nat) (v u:List Int),W[i]?=some v->W[j]?=some u->i≠j->Apart E es v u
 jj:E.length<=W.length\/(E.length=W.length+1/\Pend L W E es)
theorem Tb.en {L most:Nat}{W E:List (List Int)}{es:Bk}(t:Tb L most W E es):E.length<=most+1:=by
 have:=t.wn
 rcases t.jj with h|h
 ·omega
 ·omega
theorem Tb.put {L most:Nat}{W E:List (List Int)}{es:Bk}(t:Tb L most W E es){v:List Int}{m:Int}(hn:v∉es.map (·.1))(hv:isW L v=true)(h0:0<=m)(h9:m<=1000000000):Tb L most W E (es++[(v,m)]) where
 l1:=t.l1
 l6:=t.l6
 m12:=t.m12
 w0:=t.w0
 wW:=t.wW
 wn:=t.wn
 e0:=t.e0
 eW:=t.eW
 nd:=by
  rw[List.map_append,List.nodup_append]
  exact⟨t.nd,by simp,fun a ha b hb=>by rw[List.mem_singleton.mp hb];intro z;subst z;exact hn ha⟩
 bW:=fun p hp=>by
  rcases List.mem_append.mp hp with hp|hp
  ·exact t.bW p hp
  ·rw[List.mem_singleton.mp hp];exact⟨hv,h0,h9⟩
 dist:=fun i j v' u h1 h2 h3=>(t.dist i j v' u h1 h2 h3).mono (fun _ z=>z) (Grow.snoc es v m)
 jj:=by
  rcases t.jj with h|h
  ·exact .inl h
  ·exact .inr ⟨h.1,h.2.mono (Grow.snoc es v m)⟩
def Full (L:Nat)(W E:List (List Int))(es:Bk):Prop:=∀c∈cellsW (rowsW L W) E,∃m,mkO es c=some m
def gOf (E:List (List Int))(es:Bk)(v:List Int):List Int:=E.map fun e=>(mkO es (v++e)).getD 0
theorem gOf_is {L:Nat}{W E:List (List Int)}{es:Bk}(f:Full L W E es){v:List Int}(hv:v∈rowsW L W):(E.map fun e=>oV (mkO es (v++e)))=(gOf E es v).map V.int:=by
 unfold gOf
 rw[List.map_map]
 refine List.map_congr_left fun e he=>?_
 obtain⟨m,hm⟩:=f (v++e) (mem_cells39.mpr ⟨v,hv,e,he,rfl⟩)
 show oV (mkO es (v++e))=V.int ((mkO es (v++e)).getD 0)
 rw[hm];rfl
theorem gOf_apart {L:Nat}{W E:List (List Int)}{es:Bk}(f:Full L W E es){v u:List Int}(hv:v∈rowsW L W)(hu:u∈rowsW L W):gOf E es v≠gOf E es u↔Apart E es v u:=by
 constructor
 ·intro h
  refine Classical.byContradiction fun hno=>h ?_
  unfold gOf
  refine List.map_congr_left fun e he=>?_
  obtain⟨m,hm⟩:=f (v++e) (mem_cells39.mpr ⟨v,hv,e,he,rfl⟩)
  obtain⟨n,hn⟩:=f (u++e) (mem_cells39.mpr ⟨u,hu,e,he,rfl⟩)
  rw[hm,hn]
  exact Classical.byContradiction fun hne=>hno ⟨e,he,m,n,hm,hn,hne⟩
 ·rintro⟨e,he,m,n,hm,hn,hne⟩ heq
  unfold gOf at heq
  have:=List.map_inj_left.mp heq e he
  rw[hm,hn]at this
  exact hne this
theorem Tb.nodup {L most:Nat}{W E:List (List Int)}{es:Bk}(t:Tb L most W E es)(f:Full L W E es):(W.map (gOf E es)).Nodup:=by
 rw[List.nodup_iff_pairwise_ne,List.pairwise_map,List.pairwise_iff_getElem]
 intro i j hi hj hij
 exact (gOf_apart f (mem_rows39.mpr (.inl (List.getElem_mem hi))) (mem_rows39.mpr (.inl (List.getElem_mem hj)))).mpr (t.dist i j _ _ (List.getElem?_eq_getElem hi) (List.getElem?_eq_getElem hj) (by omega))
theorem Tb.more {L most:Nat}{W E:List (List Int)}{es:Bk}(t:Tb L most W E es)(f:Full L W E es){v:List Int}(h:(rowsW L W).find? (fun v=>decide (gOf E es v∉W.map (gOf E es)))=some v):(v∈rowsW L W/\v∉W/\isW L v=true/\v.length<=W.length)/\(W.length<most->Tb L most (W++[v]) E es):=by
 have h1:=List.mem_of_find?_eq_some h
 have h2:=List.find?_some h
 have h2:gOf E es v∉W.map (gOf E es):=of_decide_eq_true h2
 have hnW:v∉W:=fun z=>h2 (List.mem_map_of_mem z)
 have hap:∀u∈W,Apart E es v u:=fun u hu=>(gOf_apart f h1 (mem_rows39.mpr (.inl hu))).mp fun z=>h2 (by rw[z];exact List.mem_map_of_mem hu)
 have hv:isW L v=true/\v.length<=W.length:=by
  rcases mem_rows39.mp h1 with h|⟨a,ha,x,hx,rfl⟩
  ·exact absurd h hnW
  ·have:=t.wW a ha
   exact⟨isW_iff.mpr fun y hy=>by
    rcases List.mem_append.mp hy with hy|hy
    ·exact isW_iff.mp this.1 y hy
    ·rw[List.mem_singleton.mp hy];omega,by rw[List.length_append,List.length_singleton];omega⟩
 refine⟨⟨h1,hnW,hv.1,hv.2⟩,fun hm=>⟨t.l1,t.l6,t.m12,?_,fun u hu=>?_,by simp;omega,t.e0,t.eW,t.nd,t.bW,fun i j a b hi hj hij=>?_,?_⟩⟩
 ·have:=(List.getElem?_eq_some_iff.mp t.w0).1
  rw[List.getElem?_append_left this];exact t.w0
 ·rw[List.length_append,List.length_singleton]
  rcases List.mem_append.mp hu with hu|hu
  ·have:=t.wW u hu;exact⟨this.1,by omega⟩
  ·rw[List.mem_singleton.mp hu];exact⟨hv.1,by omega⟩
 ·have hi':=(List.getElem?_eq_some_iff.mp hi).1
  have hj':=(List.getElem?_eq_some_iff.mp hj).1
  rw[List.length_append,List.length_singleton]at hi' hj'
  by_cases hil:i<W.length
  ·rw[List.getElem?_append_left hil]at hi
   by_cases hjl:j<W.length
   ·rw[List.getElem?_append_left hjl]at hj
    exact t.dist i j a b hi hj hij
   ·rw[List.getElem?_append_right (by omega),show j-W.length=0 by omega]at hj
    cases hj
    exact (hap a (List.mem_of_getElem? hi)).symm
  ·rw[List.getElem?_append_right (by omega),show i-W.length=0 by omega]at hi
   cases hi
   rw[List.getElem?_append_left (by omega)]at hj
   exact hap b (List.mem_of_getElem? hj)
 ·rw[List.length_append,List.length_singleton]
  rcases t.jj with h|h
  ·exact .inl (by omega)
  ·exact .inl (by omega)
theorem Tb.none {L most:Nat}{W E:List (List Int)}{es:Bk}(t:Tb L most W E es)(f:Full L W E es)(h:(rowsW L W).find? (fun v=>decide (gOf E es v∉W.map (gOf E es)))=none):¬ Pend L W E es/\(∀a∈W,∀x:Nat,x<L->gOf E es (a++[(x:Int)])∈W.map (gOf E es)):=by
 have hall:∀v∈rowsW L W,gOf E es v∈W.map (gOf E es):=fun v hv=>by
  have:=List.find?_eq_none.mp h v hv
  simpa using this
 refine⟨fun ⟨a,ha,x,hx,k⟩=>?_,fun a ha x hx=>hall _ (mem_rows39.mpr (.inr ⟨a,ha,x,hx,rfl⟩))⟩
 have hr:=mem_rows39.mpr (.inr ⟨a,ha,x,hx,rfl⟩)
 obtain⟨u,hu,e⟩:=List.mem_map.mp (hall _ hr)
 exact (gOf_apart f hr (mem_rows39.mpr (.inl hu))).mpr (k u hu) e.symm
structure GuessOk (L:Nat)(W E:List (List Int))(es:Bk)(marks:List Int)(ways:List (List Int)):Prop where
 ml:marks.length=W.length
 m:∀(i:Nat) (v:List Int),W[i]?=some v->∃y,marks[i]?=some y/\mkO es v=some y
 wl:ways.length=W.length
 rl:∀row∈ways,row.length=L
 go:∀(i:Nat) (v:List Int) (x:Nat),W[i]?=some v->x<L->∃(row:List Int) (k:Nat) (u:List Int),ways[i]?=some row/\row[x]?=some (k:Int)/\W[k]?=some u/\∀e∈E,∃y,mkO es (v++[(x:Int)]++e)=some y/\mkO es (u++e)=some y
theorem GuessOk.mono {L:Nat}{W E:List (List Int)}{es es':Bk}{marks:List Int}{ways:List (List Int)}(g:GuessOk L W E es marks ways)(h:Grow es es'):GuessOk L W E es' marks ways:=by
 refine⟨g.ml,fun i v hv=>?_,g.wl,g.rl,fun i v x hv hx=>?_⟩
 ·obtain⟨y,a,b⟩:=g.m i v hv
  exact⟨y,a,h _ _ b⟩
 ·obtain⟨row,k,u,a,b,c,d⟩:=g.go i v x hv hx
  refine⟨row,k,u,a,b,c,fun e he=>?_⟩
  obtain⟨y,y1,y2⟩:=d e he
  exact⟨y,h _ _ y1,h _ _ y2⟩
theorem idx_of {α:Type}[BEq α][LawfulBEq α]{l:List α}{a:α}(h:a∈l):l[l.idxOf a]?=some a/\l.idxOf a<l.length:=by
 have h1:=List.idxOf_lt_length_iff.mpr h
 exact⟨by rw[List.getElem?_eq_getElem h1,List.getElem_idxOf],h1⟩
theorem Tb.guess {L most:Nat}{W E:List (List Int)}{es:Bk}(t:Tb L most W E es)(f:Full L W E es)(h:∀a∈W,∀x:Nat,x<L->gOf E es (a++[(x:Int)])∈W.map (gOf E es)):GuessOk L W E es (W.map fun v=>(mkO es v).getD 0) (W.map fun v=>(List.range L).map fun x:Nat=>(((W.map (gOf E es)).idxOf (gOf E es (v++[(x:Int)])):Nat):Int)):=by
 have he0:([]:List Int)∈E:=List.mem_of_getElem? t.e0
 refine⟨by rw[List.length_map],fun i v hv=>?_,by rw[List.length_map],fun row hr=>?_,fun i v x hv hx=>?_⟩
 ·obtain⟨m,hm⟩:=f v (mem_cells39.mpr ⟨v,mem_rows39.mpr (.inl (List.mem_of_getElem? hv)),[],he0,by simp⟩)
  exact⟨m,by rw[List.getElem?_map,hv];show some ((mkO es v).getD 0)=_;rw[hm];rfl,hm⟩
 ·obtain⟨v,_,rfl⟩:=List.mem_map.mp hr
  rw[List.length_map,List.length_range]
 ·have hvW:=List.mem_of_getElem? hv
  have hg:=h v hvW x hx
  obtain⟨q1,q2⟩:=idx_of hg
  obtain⟨k,hk⟩:∃k,k=(W.map (gOf E es)).idxOf (gOf E es (v++[(x:Int)])):=⟨_,rfl⟩
  rw[<-hk]at q1 q2
  rw[List.length_map]at q2
  rw[List.getElem?_map,List.getElem?_eq_getElem q2]at q1
  have q3:gOf E es W[k]=gOf E es (v++[(x:Int)]):=Option.some.inj q1
  refine⟨_,k,W[k],by rw[List.getElem?_map,hv];rfl,by rw[List.getElem?_map,List.getElem?_range hx,hk];rfl,List.getElem?_eq_getElem q2,fun e he=>?_⟩
  obtain⟨y,hy⟩:=f (v++[(x:Int)]++e) (mem_cells39.mpr ⟨_,mem_rows39.mpr (.inr ⟨v,hvW,x,hx,rfl⟩),e,he,rfl⟩)
  obtain⟨z,hz⟩:=f (W[k]++e) (mem_cells39.mpr ⟨_,mem_rows39.mpr (.inl (List.getElem_mem q2)),e,he,rfl⟩)
  have:=List.map_inj_left.mp q3 e he
  rw[hy,hz]at this
  have e2:z=y:=this
  exact⟨y,hy,by rw[hz,e2]⟩
theorem Tb.wf {L most:Nat}{W E:List (List Int)}{es:Bk}(t:Tb L most W E es){marks:List Int}{ways:List (List Int)}(g:GuessOk L W E es marks ways):Wf L marks ways:=by
 have h0:=(List.getElem?_eq_some_iff.mp t.w0).1
 have:=t.wn
 have:=t.m12
 have:=t.l1
 have:=t.l6
 refine⟨by omega,by omega,by rw[g.ml];omega,by rw[g.ml];omega,by rw[g.wl,g.ml],fun row hr=>?_,fun m hm=>?_⟩
 ·refine⟨by rw[g.rl row hr],fun y hy=>?_⟩
  obtain⟨i,hi⟩:=List.mem_iff_getElem?.mp hr
  have hil:=(List.getElem?_eq_some_iff.mp hi).1
  rw[g.wl]at hil
  obtain⟨x,hx⟩:=List.mem_iff_getElem?.mp hy
  have hxl:=(List.getElem?_eq_some_iff.mp hx).1
  rw[g.rl row hr]at hxl
  obtain⟨row',k,u,a,b,c,_⟩:=g.go i _ x (List.getElem?_eq_getElem hil) hxl
  rw[hi]at a
  cases a
  rw[hx]at b
  cases b
  have:=(List.getElem?_eq_some_iff.mp c).1
  rw[g.ml];omega
 ·obtain⟨i,hi⟩:=List.mem_iff_getElem?.mp hm
  have hil:=(List.getElem?_eq_some_iff.mp hi).1
  rw[g.ml]at hil
  obtain⟨y,a,b⟩:=g.m i _ (List.getElem?_eq_getElem hil)
  rw[hi]at a
  cases a
  exact (t.bW _ (mkO_mem b)).2
theorem GuessOk.room {L most:Nat}{W E:List (List Int)}{es:Bk}(t:Tb L most W E es){marks:List Int}{ways:List (List Int)}(g:GuessOk L W E es marks ways){v:List Int}(hv:isW L v=true):∀i:Nat,∃(k:Nat) (u:List Int),walkW ways (v.take i)=(k:Int)/\W[k]?=some u:=fun i=>by
 have wf:=t.wf g
 obtain⟨h0,h1⟩:=wf.walk hv i
 rw[g.ml]at h1
 obtain⟨k,hk⟩:=Int.eq_ofNat_of_zero_le h0
 rw[hk]at h1
 exact⟨k,W[k]'(by omega),hk,List.getElem?_eq_getElem (by omega)⟩
theorem GuessOk.step {L most:Nat}{W E:List (List Int)}{es:Bk}(t:Tb L most W E es){marks:List Int}{ways:List (List Int)}(g:GuessOk L W E es marks ways){v:List Int}(hv:isW L v=true){i k:Nat}{a:List Int}{y:Int}(hy:v[i]?=some y)(hk:walkW ways (v.take i)=(k:Int))(ha:W[k]?=some a):∃(x k':Nat) (u:List Int),y=(x:Int)/\x<L/\walkW ways (v.take (i+1))=(k':Int)/\W[k']?=some u/\∀e∈E,∃m,mkO es (a++[(x:Int)]++e)=some m/\mkO es (u++e)=some m:=by
 have hb:=isW_iff.mp hv y (List.mem_of_getElem? hy)
 obtain⟨x,rfl⟩:=Int.eq_ofNat_of_zero_le hb.1
 obtain⟨row,k',u,q1,q2,q3,q4⟩:=g.go k a x ha (by omega)
 refine⟨x,k',u,rfl,by omega,?_,q3,q4⟩
 rw[walkW_take hy,hk]
 exact stepW_of (by rw[show ((k:Int)).toNat=k by omega];exact q1) (by rw[show ((x:Int)).toNat=x by omega];exact q2)
theorem Tb.halved {L most:Nat}{W E:List (List Int)}{es:Bk}(t:Tb L most W E es)(hE:E.length<=W.length){marks:List Int}{ways:List (List Int)}(g:GuessOk L W E es marks ways){v:List Int}(hv:isW L v=true){i k k':Nat}(hi:i<v.length){a u:List Int}{mk b:Int}(hk:walkW ways (v.take i)=(k:Int))(ha:W[k]?=some a)(h1:mkO es (a++v.drop i)=some b)(hne:b≠mk)(hk':walkW ways (v.take (i+1))=(k':Int))(hu:W[k']?=some u)(h2:mkO es (u++v.drop (i+1))=some mk):Tb L most W (E++[v.drop (i+1)]) es/\Pend L W (E++[v.drop (i+1)]) es:=by
 obtain⟨y,hy⟩:∃y,v[i]?=some y:=⟨v[i],by simp⟩
 obtain⟨x,k2,u2,rfl,hx,q1,q2,q3⟩:=g.step t hv hy hk ha
 have ek:k2=k':=by rw[hk']at q1;exact (Int.ofNat.inj q1).symm
 subst ek
 rw[hu]at q2
 cases q2
 have hdr:v.drop i=(x:Int)::v.drop (i+1):=by
  have:=(List.getElem?_eq_some_iff.mp hy)
  rw[List.drop_eq_getElem_cons hi,this.2]
 have hpend:Pend L W (E++[v.drop (i+1)]) es:=by
  refine⟨a,List.mem_of_getElem? ha,x,hx,fun w' hw'=>?_⟩
  obtain⟨j,hj⟩:=List.mem_iff_getElem?.mp hw'
  by_cases hjk:j=k2
  ·subst hjk
   rw[hu]at hj
   cases hj
   refine⟨v.drop (i+1),by simp,b,mk,?_,h2,hne⟩
   rw[hdr]at h1
   rw[List.append_assoc];exact h1
  ·obtain⟨e,he,m,n,z1,z2,z3⟩:=t.dist j k2 _ _ hj hu hjk
   obtain⟨y2,y3,y4⟩:=q3 e he
   rw[z2]at y4
   cases y4
   exact⟨e,List.mem_append_left _ he,n,m,y3,z1,Ne.symm z3⟩
 refine⟨⟨t.l1,t.l6,t.m12,t.w0,t.wW,t.wn,?_,fun e he=>?_,t.nd,t.bW,fun i j v u h1 h2 h3=>(t.dist i j v u h1 h2 h3).mono (fun e he=>List.mem_append_left _ he) (Grow.refl _),?_⟩,hpend⟩
 ·have:=(List.getElem?_eq_some_iff.mp t.e0).1
  rw[List.getElem?_append_left this];exact t.e0
 ·rcases List.mem_append.mp he with he|he
  ·exact t.eW e he
  ·rw[List.mem_singleton.mp he]
   exact isW_iff.mpr fun y hy=>isW_iff.mp hv y (List.mem_of_mem_drop hy)
 ·rw[List.length_append,List.length_singleton]
  by_cases hlt:E.length<W.length
  ·exact .inl (by omega)
  ·exact .inr ⟨by omega,hpend⟩
structure AS where
 L:Nat
 most:Nat
 W:List (List Int)
 E:List (List Int)
 G:List (List Int)
 gs:Option (List Int×List (List Int))
 wr:Option (List Int)
 es:Bk
inductive Wish where
 | ask (c:List Int)
 | shown (m:List Int) (ws:List (List Int))
 | done (m:List Int) (ws:List (List Int))
 | spent (c:List Int)
inductive HR where
 | ask (c:List Int)
 | fin (hi:Nat)
def gapsOf (L:Nat)(W E:List (List Int))(es:Bk):List (List Int):=(cellsW (rowsW L W) E).filter fun c=>(mkO es c).isNone
def gMarks (W:List (List Int))(es:Bk):List Int:=W.map fun v=>(mkO es v).getD 0
def gWays (L:Nat)(W E:List (List Int))(es:Bk):List (List Int):=W.map fun v=>(List.range L).map fun x:Nat=>(((W.map (gOf E es)).idxOf (gOf E es (v++[(x:Int)])):Nat):Int)
def firstWrong (es:Bk)(m:List Int)(ws:List (List Int)):Option (List Int):=(es.find? fun e=>decide (markW m (walkW ws e.1)≠e.2)).map (·.1)
def accAt (W ws:List (List Int))(v:List Int)(i:Nat):List Int:=W.getD (walkW ws (v.take i)).toNat []
def halfF (es:Bk)(W ws:List (List Int))(v:List Int)(mk:Int):Nat->Nat->Nat->HR
 |0,_,hi=>.fin hi
 |f+1,lo,hi=>if hi-lo > 1 then (match mkO es (accAt W ws v ((lo+hi) / 2)++v.drop ((lo+hi) / 2)) with
   |none=>.ask (accAt W ws v ((lo+hi) / 2)++v.drop ((lo+hi) / 2))
   |some t=>if t=mk then halfF es W ws v mk f lo ((lo+hi) / 2) else halfF es W ws v mk f ((lo+hi) / 2) hi) else .fin hi
def stranger (L:Nat)(W E:List (List Int))(es:Bk):Option (List Int):=(rowsW L W).find? fun v=>decide (gOf E es v∉W.map (gOf E es))
def lookW (s:AS):AS×Option Wish:=match stranger s.L s.W s.E s.es with
 |some r=>if s.W.length=s.most then (s,some (.spent r)) else ({s with W:=s.W++[r],G:=gapsOf s.L (s.W++[r]) s.E s.es},none)
 |none=>match firstWrong s.es (gMarks s.W s.es) (gWays s.L s.W s.E s.es) with
  |none=>({s with gs:=some (gMarks s.W s.es,gWays s.L s.W s.E s.es),wr:=none},some (.shown (gMarks s.W s.es) (gWays s.L s.W s.E s.es)))
  |some v=>({s with gs:=some (gMarks s.W s.es,gWays s.L s.W s.E s.es),wr:=some v},none)
def halveW (s:AS)(v m:List Int)(ws:List (List Int)):AS×Option Wish:=match halfF s.es s.W ws v (markW m (walkW ws v)) v.length 0 v.length with
 |.ask c=>(s,some (.ask c))
 |.fin hi=>({s with wr:=none,E:=s.E++[v.drop hi],G:=gapsOf s.L s.W (s.E++[v.drop hi]) s.es},none)
def nextW (s:AS):AS×Option Wish:=match s.G with
 |c::r=>({s with G:=r},some (.ask c))
 |[]=>match s.wr with
  |some v=>match s.gs with
   |some (m,ws)=>halveW s v m ws
   |none=>(s,none)
  |none=>lookW s
structure OkX (x:Option (List Int))(B:Nat)(s:AS):Prop where
 tb:Tb s.L s.most s.W s.E s.es
 cov:∀c∈cellsW (rowsW s.L s.W) s.E,(∃m,mkO s.es c=some m)\/c∈s.G\/x=some c
 gn:s.G.Nodup
 gW:∀c∈s.G,isW s.L c=true/\mkO s.es c=none/\c.length<=B+(s.most+1)*s.E.length
 le:∀e∈s.E,e.length+(s.most+1)<=B+(s.most+1)*s.E.length
 lb:∀p∈s.es,p.1.length<=B+(s.most+1)*s.E.length+(if s.wr.isSome then s.most else 0)
 wr:∀v,s.wr=some v->s.G=[]/\s.E.length<=s.W.length/\isW s.L v=true/\v.length<=B+(s.most+1)*s.E.length/\∃m ws t,s.gs=some (m,ws)/\GuessOk s.L s.W s.E s.es m ws/\mkO s.es v=some t/\t≠markW m (walkW ws v)
theorem OkX.full {B:Nat}{s:AS}(o:OkX none B s)(h:s.G=[]):Full s.L s.W s.E s.es:=fun c hc=>by
 rcases o.cov c hc with z|z|z
 ·exact z
 ·rw[h]at z;cases z
 ·cases z
theorem OkX.lens {x:Option (List Int)}{B:Nat}{s:AS}(o:OkX x B s):(s.most+1)*s.E.length<=(s.most+1)*(s.most+1):=Nat.mul_le_mul_left _ o.tb.en
theorem OkX.cell {x:Option (List Int)}{B:Nat}{s:AS}{W:List (List Int)}{E:List (List Int)}(hW:∀v∈W,isW s.L v=true/\v.length<W.length)(hn:W.length<=s.most)(hE:∀e∈E,isW s.L e=true/\e.length+(s.most+1)<=B+(s.most+1)*E.length){c:List Int}(hc:c∈cellsW (rowsW s.L W) E):isW s.L c=true/\c.length<=B+(s.most+1)*E.length:=by
 obtain⟨r,hr,e,he,rfl⟩:=mem_cells39.mp hc
 have h2:=hE e he
 have h1:isW s.L r=true/\r.length<=W.length:=by
  rcases mem_rows39.mp hr with h|⟨a,ha,y,hy,rfl⟩
  ·have:=hW r h;exact⟨this.1,by omega⟩
  ·have:=hW a ha
   exact⟨isW_iff.mpr fun z hz=>by
    rcases List.mem_append.mp hz with hz|hz
    ·exact isW_iff.mp this.1 z hz
    ·rw[List.mem_singleton.mp hz];omega,by rw[List.length_append,List.length_singleton];omega⟩
 refine⟨isW_iff.mpr fun z hz=>?_,by rw[List.length_append];omega⟩
 rcases List.mem_append.mp hz with hz|hz
 ·exact isW_iff.mp h1.1 z hz
 ·exact isW_iff.mp h2.1 z hz
theorem cells_nodup (R E:List (List Int)):(cellsW R E).Nodup:=insAll_nodup List.nodup_nil
theorem gaps_ok {B:Nat}{s:AS}{W E:List (List Int)}(hW:∀v∈W,isW s.L v=true/\v.length<W.length)(hn:W.length<=s.most)(hE:∀e∈E,isW s.L e=true/\e.length+(s.most+1)<=B+(s.most+1)*E.length):(∀c∈cellsW (rowsW s.L W) E,(∃m,mkO s.es c=some m)\/c∈gapsOf s.L W E s.es\/(none:Option (List Int))=some c)/\(gapsOf s.L W E s.es).Nodup/\∀c∈gapsOf s.L W E s.es,isW s.L c=true/\mkO s.es c=none/\c.length<=B+(s.most+1)*E.length:=by
 refine⟨fun c hc=>?_,(cells_nodup _ _).filter _,fun c hc=>?_⟩
 ·cases hm:mkO s.es c with
  |some m=>exact .inl ⟨m,rfl⟩
  |none=>exact .inr (.inl (List.mem_filter.mpr ⟨hc,by rw[hm];rfl⟩))
 ·obtain⟨h1,h2⟩:=List.mem_filter.mp hc
  have:=OkX.cell (x:=none) (s:=s) hW hn hE h1
  exact⟨this.1,by simpa using h2,this.2⟩
theorem half_ok {L most:Nat}{W E:List (List Int)}{es:Bk}(t:Tb L most W E es){m:List Int}{ws:List (List Int)}(g:GuessOk L W E es m ws){v:List Int}(hv:isW L v=true){mk:Int}:∀(f lo hi:Nat),hi-lo<=f+1->lo<hi->hi<=v.length->(∃b,mkO es (accAt W ws v lo++v.drop lo)=some b/\b≠mk)->mkO es (accAt W ws v hi++v.drop hi)=some mk->match halfF es W ws v mk f lo hi with
   |.ask c=>mkO es c=none/\∃i,i<v.length/\c=accAt W ws v i++v.drop i
   |.fin h=>0<h/\h<=v.length/\(∃b,mkO es (accAt W ws v (h-1)++v.drop (h-1))=some b/\b≠mk)/\mkO es (accAt W ws v h++v.drop h)=some mk
 |0,lo,hi,h1,h2,h3,h4,h5=>by
  have:lo=hi-1:=by omega
  subst this
  exact⟨by omega,h3,h4,h5⟩
 |f+1,lo,hi,h1,h2,h3,h4,h5=>by
  unfold halfF
  by_cases hg:hi-lo > 1
  ·rw[if_pos hg]
   cases hm:mkO es (accAt W ws v ((lo+hi) / 2)++v.drop ((lo+hi) / 2)) with
   |none=>exact⟨hm,(lo+hi) / 2,by omega,rfl⟩
   |some b=>
    dsimp only
    by_cases hb:b=mk
    ·rw[if_pos hb]
     subst hb
     exact half_ok t g hv f lo ((lo+hi) / 2) (by omega) (by omega) (by omega) h4 hm
    ·rw[if_neg hb]
     exact half_ok t g hv f ((lo+hi) / 2) hi (by omega) (by omega) h3 ⟨b,hm,hb⟩ h5
  ·rw[if_neg hg]
   have:lo=hi-1:=by omega
   subst this
   exact⟨by omega,h3,h4,h5⟩
theorem acc_at {L most:Nat}{W E:List (List Int)}{es:Bk}(t:Tb L most W E es){m:List Int}{ws:List (List Int)}(g:GuessOk L W E es m ws){v:List Int}(hv:isW L v=true)(i:Nat):∃k:Nat,walkW ws (v.take i)=(k:Int)/\W[k]?=some (accAt W ws v i):=by
 obtain⟨k,u,h1,h2⟩:=g.room t hv i
 refine⟨k,h1,?_⟩
 unfold accAt
 rw[h1,show ((k:Int)).toNat=k by omega,List.getD_eq_getElem?_getD,h2];rfl
open Classical in
noncomputable def mu (s:AS):Nat:=4*(s.most-s.W.length)+(if s.wr.isSome then 2 else if Pend s.L s.W s.E s.es then 1 else 3)
def WOk (B:Nat)(s:AS):Wish->Prop
 |.ask c=>OkX (some c) B s/\mkO s.es c=none/\isW s.L c=true/\c.length<=B+(s.most+1)*s.E.length+(if s.wr.isSome then s.most else 0)/\c∉s.G
 |.shown m ws=>OkX none B s/\s.G=[]/\s.wr=none/\s.gs=some (m,ws)/\GuessOk s.L s.W s.E s.es m ws/\∀p∈s.es,markW m (walkW ws p.1)=p.2
 |.done m ws=>OkX none B s/\s.G=[]/\s.wr=none/\s.gs=some (m,ws)/\GuessOk s.L s.W s.E s.es m ws/\∀p∈s.es,markW m (walkW ws p.1)=p.2
 |.spent r=>OkX none B s/\s.G=[]/\s.wr=none/\s.W.length=s.most/\r∈rowsW s.L s.W/\r∉s.W/\isW s.L r=true/\r.length<=s.W.length/\∀u∈s.W,Apart s.E s.es r u
structure Kept (s s':AS):Prop where
 l:s'.L=s.L
 m:s'.most=s.most
 e:s'.es=s.es
theorem halve_ok {B:Nat}{s:AS}(o:OkX none B s){v m:List Int}{ws:List (List Int)}(hv:s.wr=some v)(hg:s.gs=some (m,ws)):(∀s',halveW s v m ws=(s',none)->OkX none B s'/\Kept s s'/\mu s'<mu s)/\∀s' x,halveW s v m ws=(s',some x)->WOk B s' x/\Kept s s':=by
 obtain⟨hG,hE,hvW,hvl,m',ws',t,e1,g,ht,hne⟩:=o.wr v hv
 rw[hg]at e1
 cases e1
 have tb:=o.tb
 have hw0:=tb.w0
 have hv0:0<v.length:=by
  refine Nat.pos_of_ne_zero fun z=>hne ?_
  have:v=[]:=List.length_eq_zero_iff.mp z
  subst this
  obtain⟨y,y1,y2⟩:=g.m 0 [] hw0
  rw[ht]at y2
  cases y2
  show t=m.getD 0 0
  rw[List.getD_eq_getElem?_getD,y1];rfl
 have a0:accAt s.W ws v 0=[]:=by
  obtain⟨k,k1,k2⟩:=acc_at tb g hvW 0
  have:(k:Int)=0:=by rw[<-k1];rfl
  have:k=0:=by omega
  subst this
  rw[hw0]at k2
  exact (Option.some.inj k2).symm
 have aL:mkO s.es (accAt s.W ws v v.length++v.drop v.length)=some (markW m (walkW ws v)):=by
  obtain⟨k,k1,k2⟩:=acc_at tb g hvW v.length
  rw[List.take_length]at k1
  obtain⟨y,y1,y2⟩:=g.m k _ k2
  rw[List.drop_length,List.append_nil,y2,k1]
  show some y=some (m.getD ((k:Int)).toNat 0)
  rw[show ((k:Int)).toNat=k by omega,List.getD_eq_getElem?_getD,y1];rfl
 have key:=half_ok tb g hvW (mk:=markW m (walkW ws v)) v.length 0 v.length (by omega) hv0 (Nat.le_refl _) ⟨t,by rw[a0];exact ht,hne⟩ aL
 unfold halveW
 cases hh:halfF s.es s.W ws v (markW m (walkW ws v)) v.length 0 v.length with
 |ask c=>
  rw[hh]at key
  obtain⟨k1,i,hi,rfl⟩:=key
  refine⟨fun s' z=>(by cases z),fun s' x z=>?_⟩
  cases z
  obtain⟨k,q1,q2⟩:=acc_at tb g hvW i
  have q3:=tb.wW _ (List.mem_of_getElem? q2)
  have q4:=tb.wn
  refine⟨⟨⟨tb,fun c hc=>?_,o.gn,o.gW,o.le,o.lb,o.wr⟩,k1,isW_iff.mpr fun y hy=>?_,?_,by rw[hG];simp⟩,⟨rfl,rfl,rfl⟩⟩
  ·rcases o.cov c hc with z|z|z
   ·exact .inl z
   ·exact .inr (.inl z)
   ·cases z
  ·rcases List.mem_append.mp hy with hy|hy
   ·exact isW_iff.mp q3.1 y hy
   ·exact isW_iff.mp hvW y (List.mem_of_mem_drop hy)
  ·rw[hv,List.length_append,List.length_drop]
   simp only[Option.isSome_some,if_true]
   omega
 |fin hi=>
  rw[hh]at key
  obtain⟨h0,h1,⟨b,b1,b2⟩,h3⟩:=key
  refine⟨fun s' z=>?_,fun s' x z=>(by cases z)⟩
  cases z
  obtain⟨k,q1,q2⟩:=acc_at tb g hvW (hi-1)
  obtain⟨k',q1',q2'⟩:=acc_at tb g hvW hi
  have e1:hi-1+1=hi:=by omega
  obtain⟨tb',pend⟩:=tb.halved hE g hvW (i:=hi-1) (by omega) q1 q2 b1 b2 (by rw[e1];exact q1') q2' (by rw[e1];exact h3)
  rw[e1]at tb' pend
  have hle:∀e∈s.E++[v.drop hi],isW s.L e=true/\e.length+(s.most+1)<=B+(s.most+1)*(s.E++[v.drop hi]).length:=fun e he=>by
   rw[List.length_append,List.length_singleton,Nat.mul_succ]
   rcases List.mem_append.mp he with he|he
   ·have:=o.le e he;exact⟨tb.eW e he,by omega⟩
   ·rw[List.mem_singleton.mp he,List.length_drop]
    exact⟨isW_iff.mpr fun y hy=>isW_iff.mp hvW y (List.mem_of_mem_drop hy),by omega⟩
  obtain⟨c1,c2,c3⟩:=gaps_ok (B:=B) (s:=s) (W:=s.W) (E:=s.E++[v.drop hi]) tb.wW tb.wn hle
  refine⟨⟨tb',c1,c2,c3,fun e he=>(hle e he).2,fun p hp=>?_,fun v' z=>(by cases z)⟩,⟨rfl,rfl,rfl⟩,?_⟩
  ·have:=o.lb p hp
   rw[hv]at this
   simp only[Option.isSome_some,if_true]at this
   show p.1.length<=B+(s.most+1)*(s.E++[v.drop hi]).length+0
   rw[List.length_append,List.length_singleton,Nat.mul_succ]
   omega
  ·unfold mu
   rw[hv]
   simp only[Option.isSome_some,if_true,Option.isSome_none,Bool.false_eq_true,if_false]
   rw[if_pos pend]
   omega
theorem look_ok {B:Nat}{s:AS}(o:OkX none B s)(hG:s.G=[])(hw:s.wr=none):(∀s',lookW s=(s',none)->OkX none B s'/\Kept s s'/\mu s'<mu s)/\∀s' x,lookW s=(s',some x)->WOk B s' x/\Kept s s':=by
 have tb:=o.tb
 have full:=o.full hG
 have hlb:∀p∈s.es,p.1.length<=B+(s.most+1)*s.E.length:=fun p hp=>by
  have:=o.lb p hp
  rw[hw]at this
  exact this
 unfold lookW
 cases hst:stranger s.L s.W s.E s.es with
 |some r=>
  obtain⟨⟨r1,r2,r3,r4⟩,more⟩:=tb.more full hst
  have rap:∀u∈s.W,Apart s.E s.es r u:=fun u hu=>by
   have h2:=List.find?_some hst
   have h2:gOf s.E s.es r∉s.W.map (gOf s.E s.es):=of_decide_eq_true h2
   exact (gOf_apart full r1 (mem_rows39.mpr (.inl hu))).mp fun z=>h2 (by rw[z];exact List.mem_map_of_mem hu)
  dsimp only
  by_cases hm:s.W.length=s.most
  ·rw[if_pos hm]
   refine⟨fun s' z=>(by cases z),fun s' x z=>?_⟩
   cases z
   exact⟨⟨o,hG,hw,hm,r1,r2,r3,r4,rap⟩,⟨rfl,rfl,rfl⟩⟩
  ·rw[if_neg hm]
   refine⟨fun s' z=>?_,fun s' x z=>(by cases z)⟩
   cases z
   have hlt:s.W.length<s.most:=by have:=tb.wn;omega
   have tb':=more hlt
   obtain⟨c1,c2,c3⟩:=gaps_ok (B:=B) (s:=s) (W:=s.W++[r]) (E:=s.E) tb'.wW tb'.wn (fun e he=>⟨tb.eW e he,o.le e he⟩)
   refine⟨⟨tb',c1,c2,c3,o.le,o.lb,fun v z=>?_⟩,⟨rfl,rfl,rfl⟩,?_⟩
   ·rw[show s.wr=some v from z]at hw;cases hw
   ·unfold mu
    show 4*(s.most-(s.W++[r]).length)+(if s.wr.isSome then 2 else _)<_
    rw[List.length_append,List.length_singleton,hw]
    simp only[Option.isSome_none,Bool.false_eq_true,if_false]
    split<;>split<;>omega
 |none=>
  obtain⟨np,cl⟩:=tb.none full hst
  have g:GuessOk s.L s.W s.E s.es (gMarks s.W s.es) (gWays s.L s.W s.E s.es):=tb.guess full cl
  have hEW:s.E.length<=s.W.length:=by
   rcases tb.jj with h|h
   ·exact h
   ·exact absurd h.2 np
  dsimp only
  cases hf:firstWrong s.es (gMarks s.W s.es) (gWays s.L s.W s.E s.es) with
  |none=>
   refine⟨fun s' z=>(by cases z),fun s' x z=>?_⟩
   cases z
   refine⟨⟨⟨tb,o.cov,o.gn,o.gW,o.le,fun p hp=>by have:=hlb p hp;exact this,fun v z=>(by cases z)⟩,hG,rfl,rfl,g,fun p hp=>?_⟩,⟨rfl,rfl,rfl⟩⟩
   unfold firstWrong at hf
   rw[Option.map_eq_none_iff,List.find?_eq_none]at hf
   have:=hf p hp
   simpa using this
  |some v=>
   refine⟨fun s' z=>?_,fun s' x z=>(by cases z)⟩
   cases z
   unfold firstWrong at hf
   cases hfd:s.es.find? (fun e=>decide (markW (gMarks s.W s.es) (walkW (gWays s.L s.W s.E s.es) e.1)≠e.2)) with
   |none=>rw[hfd]at hf;cases hf
   |some e=>
    rw[hfd]at hf
    cases hf
    have h1:=List.mem_of_find?_eq_some hfd
    have h2:=List.find?_some hfd
    have h2:markW (gMarks s.W s.es) (walkW (gWays s.L s.W s.E s.es) e.1)≠e.2:=of_decide_eq_true h2
    refine⟨⟨tb,o.cov,o.gn,o.gW,o.le,fun p hp=>by have:=hlb p hp;show p.1.length<=B+(s.most+1)*s.E.length+s.most;omega,fun v z=>?_⟩,⟨rfl,rfl,rfl⟩,?_⟩
    ·cases z
     exact⟨hG,hEW,(tb.bW e h1).1,hlb e h1,_,_,e.2,rfl,g,mkO_some tb.nd h1,Ne.symm h2⟩
    ·unfold mu
     rw[hw]
     simp only[Option.isSome_some,if_true,Option.isSome_none,Bool.false_eq_true,if_false]
     rw[if_neg np]
     omega
theorem next_ok {B:Nat}{s:AS}(o:OkX none B s):(∀s',nextW s=(s',none)->OkX none B s'/\Kept s s'/\mu s'<mu s)/\∀s' x,nextW s=(s',some x)->WOk B s' x/\Kept s s':=by
 unfold nextW
 cases hG:s.G with
 |cons c r=>
  refine⟨fun s' z=>(by cases z),fun s' x z=>?_⟩
  cases z
  have hwr:s.wr=none:=by
   cases h:s.wr with
   |none=>rfl
   |some v=>have:=(o.wr v h).1;rw[hG]at this;cases this
  have gn:=o.gn
  rw[hG,List.nodup_cons]at gn
  have hc:=o.gW c (by rw[hG];exact List.mem_cons_self ..)
  refine⟨⟨⟨o.tb,fun b hb=>?_,gn.2,fun b hb=>o.gW b (by rw[hG];exact List.mem_cons_of_mem _ hb),o.le,o.lb,fun v z=>?_⟩,hc.2.1,hc.1,by have:=hc.2.2;show c.length<=B+(s.most+1)*s.E.length+(if s.wr.isSome=true then s.most else 0);omega,gn.1⟩,⟨rfl,rfl,rfl⟩⟩
  ·rcases o.cov b hb with z|z|z
   ·exact .inl z
   ·rw[hG]at z
    rcases List.mem_cons.mp z with rfl|z
    ·exact .inr (.inr rfl)
    ·exact .inr (.inl z)
   ·cases z
  ·rw[show s.wr=some v from z]at hwr;cases hwr
 |nil=>
  cases hw:s.wr with
  |none=>exact look_ok o hG hw
  |some v=>
   obtain⟨_,_,_,_,m,ws,t,e1,_⟩:=o.wr v hw
   rw[e1]
   exact halve_ok o hw e1
def afl (wv:V)(L most:Int)(b pw pe pg:Addr)(gv rv:V):List (Str×V):=[("wish",wv),("letters",.int L),("most",.int most),("book",.ref b),("ways",.ref pw),("ends",.ref pe),("gaps",.ref pg),("guess",gv),("wrong",rv)]
section
variable (wv:V) (L most:Int) (b pw pe pg:Addr) (gv rv y:V)
theorem af_wish:(afl wv L most b pw pe pg gv rv).lookup ("wish" : Str)=some wv:=by kernel_rfl
theorem af_letters:(afl wv L most b pw pe pg gv rv).lookup ("letters" : Str)=some (.int L):=by kernel_rfl
theorem af_most:(afl wv L most b pw pe pg gv rv).lookup ("most" : Str)=some (.int most):=by kernel_rfl
theorem af_book:(afl wv L most b pw pe pg gv rv).lookup ("book" : Str)=some (.ref b):=by kernel_rfl
theorem af_ways:(afl wv L most b pw pe pg gv rv).lookup ("ways" : Str)=some (.ref pw):=by kernel_rfl
theorem af_ends:(afl wv L most b pw pe pg gv rv).lookup ("ends" : Str)=some (.ref pe):=by kernel_rfl
theorem af_gaps:(afl wv L most b pw pe pg gv rv).lookup ("gaps" : Str)=some (.ref pg):=by kernel_rfl
theorem af_guess:(afl wv L most b pw pe pg gv rv).lookup ("guess" : Str)=some gv:=by kernel_rfl
theorem af_wrong:(afl wv L most b pw pe pg gv rv).lookup ("wrong" : Str)=some rv:=by kernel_rfl
theorem afp_wish:putF "wish" y (afl wv L most b pw pe pg gv rv)=afl y L most b pw pe pg gv rv:=by kernel_rfl
theorem afp_gaps (q:Addr):putF "gaps" (.ref q) (afl wv L most b pw pe pg gv rv)=afl wv L most b pw pe q gv rv:=by kernel_rfl
theorem afp_guess:putF "guess" y (afl wv L most b pw pe pg gv rv)=afl wv L most b pw pe pg y rv:=by kernel_rfl
theorem afp_wrong:putF "wrong" y (afl wv L most b pw pe pg gv rv)=afl wv L most b pw pe pg gv y:=by kernel_rfl
theorem afp_init:putF "wrong" .non (putF "guess" .non (putF "gaps" (.ref pg) (putF "ends" (.ref pe) (putF "ways" (.ref pw) (putF "book" (.ref b) (putF "most" (.int most) (putF "letters" (.int L) (putF "wish" .non []))))))))=afl .non L most b pw pe pg .non .non:=by kernel_rfl
end
structure AD where
 dx:Addr
 b:Addr
 d:Addr
 pw:Addr
 pe:Addr
 pg:Addr
def HouT (K:PySem.W.Frag)(H:Hp)(h:Addr)(L:Int)(m:List Int)(ws:List (List Int)):Prop:=∃tm tw zs,H h=some (.tup [.int L,.ref tm,.ref tw])/\H tm=some (.tup (m.map V.int))/\H tw=some (.tup zs)/\WordsT K H zs ws
theorem HouT.mono {K:PySem.W.Frag}{H H':Hp}{h:Addr}{L:Int}{m:List Int}{ws:List (List Int)}(x:HouT K H h L m ws)(k:TK H H'):HouT K H' h L m ws:=by
 obtain⟨tm,tw,zs,a,b,c,d⟩:=x
 exact⟨tm,tw,zs,k _ _ a,k _ _ b,k _ _ c,d.mono k⟩
theorem WordsT.rows39 {K:PySem.W.Frag}{H:Hp}{t:Addr}{zs:List V}{ws:List (List Int)}(h:WordsT K H zs ws)(hw:SqT K H t zs):Rows K H t ws:=by
 refine⟨zs.map (fun v=>match v with | .ref t=>t|_=>0),?_,by rw[List.length_map];exact h.1,fun i t r hi hr=>?_⟩
 ·have e:(zs.map (fun v=>match v with | .ref t=>t|_=>0)).map V.ref=zs:=by
   rw[List.map_map]
   refine List.ext_getElem? fun i=>?_
   rw[List.getElem?_map]
   by_cases hi:i<ws.length
   ·obtain⟨t,a,_⟩:=h.2 i ws[i] (by simp[hi])
    rw[a];rfl
   ·rw[List.getElem?_eq_none (by rw[h.1];omega)];rfl
  rw[e];exact hw
 ·obtain⟨t',a,b⟩:=h.2 i r hr
  rw[List.getElem?_map,a]at hi
  cases hi
  exact SqT.of b
theorem HouT.house {K:PySem.W.Frag}{H:Hp}{h:Addr}{L:Int}{m:List Int}{ws:List (List Int)}(x:HouT K H h L m ws):House K H h L m ws:=by
 obtain⟨tm,tw,zs,a,b,c,d⟩:=x
 exact⟨tm,tw,SqT.of a,SqT.of b,WordsT.rows39 d (SqT.of c)⟩
def GV (K:PySem.W.Frag)(H:Hp)(L:Int)(gv:V):Option (List Int×List (List Int))->Prop
 |none=>gv=.non
 |some (m,ws)=>∃h,gv=.ref h/\HouT K H h L m ws
def RV (H:Hp)(rv:V):Option (List Int)->Prop
 |none=>rv=.non
 |some v=>∃t,rv=.ref t/\H t=some (.tup (v.map V.int))
theorem GV.mono {K:PySem.W.Frag}{H H':Hp}{L:Int}{gv:V}{o:Option (List Int×List (List Int))}(x:GV K H L gv o)(k:TK H H'):GV K H' L gv o:=by
 match o,x with
 |none,x=>exact x
 |some (m,ws),⟨h,a,b⟩=>exact⟨h,a,b.mono k⟩
theorem RV.mono {H H':Hp}{rv:V}{o:Option (List Int)}(x:RV H rv o)(k:TK H H'):RV H' rv o:=by
 match o,x with
 |none,x=>exact x
 |some v,⟨t,a,b⟩=>exact⟨t,a,k _ _ b⟩
def Wish.tag:Wish->Str
 |.ask _ => "ask"
 |.shown _ _ => "show"
 |.done _ _ => "done"
 |.spent _ => "spent"
def WBody (K:PySem.W.Frag)(H:Hp)(L:Int)(u:Addr):Wish->Prop
 |.ask c=>H u=some (.tup (c.map V.int))
 |.shown m ws=>HouT K H u L m ws
 |.done m ws=>HouT K H u L m ws
 |.spent c=>H u=some (.tup (c.map V.int))
def WishAt (K:PySem.W.Frag)(H:Hp)(L:Int)(wv:V)(x:Wish):Prop:=∃t u,wv=.ref t/\H t=some (.tup [.str x.tag,.ref u])/\WBody K H L u x
theorem WishAt.mono {K:PySem.W.Frag}{H H':Hp}{L:Int}{wv:V}{x:Wish}(h:WishAt K H L wv x)(k:TK H H'):WishAt K H' L wv x:=by
 obtain⟨t,u,a,b,c⟩:=h
 refine⟨t,u,a,k _ _ b,?_⟩
 cases x with
 |ask c'=>exact k _ _ c
 |spent c'=>exact k _ _ c
 |shown m ws=>exact HouT.mono c k
 |done m ws=>exact HouT.mono c k
structure AskAt (K:PySem.W.Frag)(CA CB:Addr)(H:Hp)(a:Addr)(ad:AD)(s:AS)(wv gv rv:V)(zs ys us:List V):Prop where
 ob:H a=some (.ins CA ad.dx (afl wv s.L s.most ad.b ad.pw ad.pe ad.pg gv rv))
 bk:BookAt CB H ad.b ad.d s.L s.es
 w:H ad.pw=some (.lst zs)
 wW:WordsT K H zs s.W
 e:H ad.pe=some (.lst ys)
 eW:WordsT K H ys s.E
 g:H ad.pg=some (.lst us)
 gW:WordsT K H us s.G
 we:ad.pw≠ad.pe
 wg:ad.pw≠ad.pg
 eg:ad.pe≠ad.pg
 gv:GV K H s.L gv s.gs
 rv:RV H rv s.wr
def Asks (K:PySem.W.Frag)(CA CB:Addr)(H:Hp)(a:Addr)(ad:AD)(s:AS)(wv:V):Prop:=∃gv rv zs ys us,AskAt K CA CB H a ad s wv gv rv zs ys us
theorem BookAt.tk {C:Addr}{H H':Hp}{p d:Addr}{L:Int}{es:List (List Int×Int)}(h:BookAt C H p d L es)(hp:∀o,H p=some o->H' p=some o)(hd:∀o,H d=some o->H' d=some o):BookAt C H' p d L es:=by
 obtain⟨⟨dx,a⟩,b,c⟩:=h
 exact⟨⟨dx,hp _ a⟩,hd _ b,c⟩
def Frm (H H':Hp)(a:Addr)(ad:AD):Prop:=(∀x o,H x=some o->x≠a->x≠ad.d->x≠ad.pw->x≠ad.pe->x≠ad.pg->H' x=some o)/\∀x,H' x=none->H x=none
def AdOk (H:Hp)(ad ad':AD):Prop:=ad'.dx=ad.dx/\ad'.b=ad.b/\ad'.d=ad.d/\ad'.pw=ad.pw/\ad'.pe=ad.pe/\(ad'.pg=ad.pg\/H ad'.pg=none)
theorem AdOk.refl (H:Hp)(ad:AD):AdOk H ad ad:=⟨rfl,rfl,rfl,rfl,rfl,.inl rfl⟩
theorem Frm.of {H H':Hp}(s:Same H H')(a:Addr)(ad:AD):Frm H H' a ad:=⟨fun x o h _ _ _ _ _=>s _ _ h,fun x h=>s.none h⟩
theorem Frm.trans {H H1 H2:Hp}{a:Addr}{ad ad1:AD}(f:Frm H H1 a ad)(k:AdOk H ad ad1)(g:Frm H1 H2 a ad1):Frm H H2 a ad:=by
 obtain⟨k1,k2,k3,k4,k5,k6⟩:=k
 refine⟨fun x o h n1 n2 n3 n4 n5=>g.1 x o (f.1 x o h n1 n2 n3 n4 n5) n1 (by rw[k3];exact n2) (by rw[k4];exact n3) (by rw[k5];exact n4) (fun z=>?_),fun x h=>f.2 x (g.2 x h)⟩
 rcases k6 with k6|k6
 ·exact n5 (z.trans k6)
 ·rw[z,k6]at h;cases h
theorem AdOk.trans {H H1:Hp}{a:Addr}{ad ad1 ad2:AD}(f:Frm H H1 a ad)(k:AdOk H ad ad1)(g:AdOk H1 ad1 ad2):AdOk H ad ad2:=by
 obtain⟨k1,k2,k3,k4,k5,k6⟩:=k
 obtain⟨g1,g2,g3,g4,g5,g6⟩:=g
 refine⟨g1.trans k1,g2.trans k2,g3.trans k3,g4.trans k4,g5.trans k5,?_⟩
 rcases g6 with g6|g6
 ·rw[g6];exact k6
 ·exact .inr (f.2 _ g6)
section
variable {K:PySem.W.Frag} {CA CB:Addr} {H H':Hp} {a:Addr} {ad:AD} {s:AS} {wv gv rv:V} {zs ys us:List V}
theorem AskAt.tk (x:AskAt K CA CB H a ad s wv gv rv zs ys us)(f:Frm H H' a ad):TK H H':=fun t ts h=>f.1 t _ h (fun z=>by rw[z,x.ob]at h;cases h) (fun z=>by rw[z,x.bk.dc]at h;cases h) (fun z=>by rw[z,x.w]at h;cases h) (fun z=>by rw[z,x.e]at h;cases h) (fun z=>by rw[z,x.g]at h;cases h)
theorem AskAt.same (x:AskAt K CA CB H a ad s wv gv rv zs ys us)(k:Same H H'):AskAt K CA CB H' a ad s wv gv rv zs ys us:=
 ⟨k _ _ x.ob,x.bk.mono k,k _ _ x.w,x.wW.mono (TK.of k),k _ _ x.e,x.eW.mono (TK.of k),k _ _ x.g,x.gW.mono (TK.of k),x.we,x.wg,x.eg,x.gv.mono (TK.of k),x.rv.mono (TK.of k)⟩
theorem AskAt.tkob (x:AskAt K CA CB H a ad s wv gv rv zs ys us)(o:HO):TK H (upd H a o):=fun t ts h=>by rw[upd_ne (fun z=>by rw[z,x.ob]at h;cases h)];exact h
theorem AskAt.na (x:AskAt K CA CB H a ad s wv gv rv zs ys us):ad.pw≠a/\ad.pe≠a/\ad.pg≠a/\ad.d≠a/\ad.b≠ad.d/\ad.pw≠ad.d/\ad.pe≠ad.d/\ad.pg≠ad.d/\ad.b≠ad.pw/\ad.b≠ad.pe/\ad.b≠ad.pg:=by
 obtain⟨dx,hb⟩:=x.bk.ob
 refine⟨fun z=>?_,fun z=>?_,fun z=>?_,fun z=>?_,fun z=>?_,fun z=>?_,fun z=>?_,fun z=>?_,fun z=>?_,fun z=>?_,fun z=>?_⟩
 ·have:=x.w;rw[z,x.ob]at this;cases this
 ·have:=x.e;rw[z,x.ob]at this;cases this
 ·have:=x.g;rw[z,x.ob]at this;cases this
 ·have:=x.bk.dc;rw[z,x.ob]at this;cases this
 ·rw[z,x.bk.dc]at hb;cases hb
 ·have:=x.w;rw[z,x.bk.dc]at this;cases this
 ·have:=x.e;rw[z,x.bk.dc]at this;cases this
 ·have:=x.g;rw[z,x.bk.dc]at this;cases this
 ·rw[z,x.w]at hb;cases hb
 ·rw[z,x.e]at hb;cases hb
 ·rw[z,x.g]at hb;cases hb
theorem AskAt.nb (x:AskAt K CA CB H a ad s wv gv rv zs ys us):ad.b≠a:=fun z=>by
 obtain⟨dx,hb⟩:=x.bk.ob
 rw[z,x.ob]at hb
 injection hb with hb
 injection hb with _ _ hb
 have h1:=congrArg (fun l=>List.lookup ("wish" : Str) l) hb
 rw[af_wish,bflds_no _ _ (by decide +kernel) (by decide +kernel)]at h1
 cases h1
theorem AskAt.put (x:AskAt K CA CB H a ad s wv gv rv zs ys us){wv' gv' rv':V}{s':AS}(hL:s'.L=s.L)(hm:s'.most=s.most)(hW:s'.W=s.W)(hE:s'.E=s.E)(hG:s'.G=s.G)(hes:s'.es=s.es)(g':GV K H s'.L gv' s'.gs)(r':RV H rv' s'.wr):AskAt K CA CB (upd H a (.ins CA ad.dx (afl wv' s.L s.most ad.b ad.pw ad.pe ad.pg gv' rv'))) a ad s' wv' gv' rv' zs ys us:=by
 obtain⟨n1,n2,n3,n4,n5,n6,n7,n8,n9,n10,n11⟩:=x.na
 have tk:=x.tkob (.ins CA ad.dx (afl wv' s.L s.most ad.b ad.pw ad.pe ad.pg gv' rv'))
 exact⟨by rw[upd_same,hL,hm],by rw[hL,hes];exact BookAt.tk x.bk (fun o h=>by rw[upd_ne x.nb];exact h) (fun o h=>by rw[upd_ne n4];exact h),by rw[upd_ne n1];exact x.w,by rw[hW];exact x.wW.mono tk,by rw[upd_ne n2];exact x.e,by rw[hE];exact x.eW.mono tk,by rw[upd_ne n3];exact x.g,by rw[hG];exact x.gW.mono tk,x.we,x.wg,x.eg,g'.mono tk,r'.mono tk⟩
theorem AskAt.putF (x:AskAt K CA CB H a ad s wv gv rv zs ys us)(o:HO):Frm H (upd H a o) a ad:=⟨fun y o' h n _ _ _ _=>by rw[upd_ne n];exact h,fun y h=>by
 by_cases z:y=a
 ·rw[z,upd_same]at h;cases h
 ·rwa [upd_ne z]at h⟩
end
inductive Goes:AS->AS->Wish->Prop where
 | stop {s s':AS} {x:Wish}:nextW s=(s',some x)->Goes s s' x
 | more {s s1 s':AS} {x:Wish}:nextW s=(s1,none)->Goes s1 s' x->Goes s s' x
theorem Goes.ok {B:Nat}{s s':AS}{x:Wish}(g:Goes s s' x)(o:OkX none B s):WOk B s' x/\Kept s s':=by
 induction g with
 |stop h=>exact (next_ok o).2 _ _ h
 |more h _ ih=>
  obtain⟨o1,k1,_⟩:=(next_ok o).1 _ h
  obtain⟨o2,k2⟩:=ih o1
  exact⟨o2,⟨k2.l.trans k1.l,k2.m.trans k1.m,k2.e.trans k1.e⟩⟩
structure Sz (s:AS):Prop where
 l6:s.L<=6
 w:s.W.length<=13/\∀v∈s.W,v.length<=50
 e:s.E.length<=14/\∀v∈s.E,v.length<=500
 b:∀p∈s.es,p.1.length<=600
theorem cut_drop39 (ys:List Int)(m:Nat):cutV (ys.map V.int) (some (m:Int)) none=(ys.drop m).map V.int:=by
 rw[cut_ints]
 unfold cutI
 rw[HT.sIx_nat,HT.sIx_none]
 congr 1
 by_cases h:m<=ys.length
 ·rw[Nat.min_eq_left h,List.take_of_length_le (by rw[List.length_drop];omega)]
 ·rw[Nat.min_eq_right (by omega),List.drop_length,List.drop_of_length_le (by omega),List.take_nil]
theorem trailW_at (ws:List (List Int))(v:List Int){i:Nat}(hi:i<=v.length):((trailW ws v).map V.int)[i]?=some (V.int (walkW ws (v.take i))):=by
 unfold trailW
 rw[List.getElem?_map,List.getElem?_map,List.getElem?_range (by omega)];rfl
theorem Frm.seq {H H1 H2:Hp}{a:Addr}{ad:AD}(f:Frm H H1 a ad)(g:Frm H1 H2 a ad):Frm H H2 a ad:=f.trans (AdOk.refl H ad) g
def Bd (B:Nat)(s:AS):Prop:=B+(s.most+1)*(s.most+1)+s.most<=500
theorem OkX.sz {y:Option (List Int)}{B:Nat}{s:AS}(o:OkX y B s)(h:Bd B s):Sz s:=by
 have tb:=o.tb
 have h1:=tb.wn
 have h2:=tb.m12
 have h3:=tb.en
 have h4:=o.lens
 unfold Bd at h
 refine⟨tb.l6,⟨by omega,fun v hv=>by have:=(tb.wW v hv).2;omega⟩,⟨by omega,fun v hv=>by have:=o.le v hv;omega⟩,fun p hp=>?_⟩
 have:=o.lb p hp
 split at this<;>omega
theorem afl_len (wv:V)(L most:Int)(b pw pe pg:Addr)(gv rv:V):(afl wv L most b pw pe pg gv rv).length<1000:=by unfold afl;simp
section
variable {K:PySem.W.Frag} {CA CB:Addr} {H H':Hp} {a:Addr} {ad:AD} {s:AS} {wv gv rv:V} {zs ys us:List V}
theorem AskAt.putW (x:AskAt K CA CB H a ad s wv gv rv zs ys us){zs':List V}{W':List (List Int)}(h:WordsT K H zs' W'):AskAt K CA CB (upd H ad.pw (.lst zs')) a ad {s with W:=W' } wv gv rv zs' ys us:=by
 obtain⟨n1,n2,n3,n4,n5,n6,n7,n8,n9,n10,n11⟩:=x.na
 have tk:=TK.lst x.w (o:=.lst zs')
 exact⟨by rw[upd_ne (Ne.symm n1)];exact x.ob,BookAt.tk x.bk (fun o h=>by rw[upd_ne n9];exact h) (fun o h=>by rw[upd_ne (Ne.symm n6)];exact h),upd_same,h.mono tk,by rw[upd_ne (Ne.symm x.we)];exact x.e,x.eW.mono tk,by rw[upd_ne (Ne.symm x.wg)];exact x.g,x.gW.mono tk,x.we,x.wg,x.eg,x.gv.mono tk,x.rv.mono tk⟩
theorem AskAt.putE (x:AskAt K CA CB H a ad s wv gv rv zs ys us){ys':List V}{E':List (List Int)}(h:WordsT K H ys' E'):AskAt K CA CB (upd H ad.pe (.lst ys')) a ad {s with E:=E' } wv gv rv zs ys' us:=by
 obtain⟨n1,n2,n3,n4,n5,n6,n7,n8,n9,n10,n11⟩:=x.na
 have tk:=TK.lst x.e (o:=.lst ys')
 exact⟨by rw[upd_ne (Ne.symm n2)];exact x.ob,BookAt.tk x.bk (fun o h=>by rw[upd_ne n10];exact h) (fun o h=>by rw[upd_ne (Ne.symm n7)];exact h),by rw[upd_ne x.we];exact x.w,x.wW.mono tk,upd_same,h.mono tk,by rw[upd_ne (Ne.symm x.eg)];exact x.g,x.gW.mono tk,x.we,x.wg,x.eg,x.gv.mono tk,x.rv.mono tk⟩
theorem AskAt.putG (x:AskAt K CA CB H a ad s wv gv rv zs ys us){us':List V}{G':List (List Int)}(h:WordsT K H us' G'):AskAt K CA CB (upd H ad.pg (.lst us')) a ad {s with G:=G' } wv gv rv zs ys us':=by
 obtain⟨n1,n2,n3,n4,n5,n6,n7,n8,n9,n10,n11⟩:=x.na
 have tk:=TK.lst x.g (o:=.lst us')
 exact⟨by rw[upd_ne (Ne.symm n3)];exact x.ob,BookAt.tk x.bk (fun o h=>by rw[upd_ne n11];exact h) (fun o h=>by rw[upd_ne (Ne.symm n8)];exact h),by rw[upd_ne x.wg];exact x.w,x.wW.mono tk,by rw[upd_ne x.eg];exact x.e,x.eW.mono tk,upd_same,h.mono tk,x.we,x.wg,x.eg,x.gv.mono tk,x.rv.mono tk⟩
theorem Frm.put {q:Addr}{o:HO}(h:q=ad.pw\/q=ad.pe\/q=ad.pg\/q=ad.d)(hq:∃o,H q=some o):Frm H (upd H q o) a ad:=by
 refine⟨fun y o' hy n1 n2 n3 n4 n5=>?_,fun y hy=>?_⟩
 ·rw[upd_ne (fun z=>by rcases h with h|h|h|h<;>subst h<;>contradiction)];exact hy
 ·by_cases z:y=q
  ·rw[z,upd_same]at hy;cases hy
  ·rwa [upd_ne z]at hy
end
theorem seqI39 {i n:Nat}(h:i<n):seqIndex? (i:Int) n=some i:=by
 unfold seqIndex?
 simp[show ¬ (i:Int)<0 by omega,h]
theorem WordsT.tail39 {K:PySem.W.Frag}{H:Hp}{us:List V}{c:List Int}{r:List (List Int)}(h:WordsT K H us (c::r)):WordsT K H (us.eraseIdx 0) r:=by
 cases us with
 |nil=>have:=h.1;cases this
 |cons u us=>
  refine⟨?_,fun i w hi=>?_⟩
  ·have:=h.1
   simpa using this
  ·exact h.2 (i+1) w (by simpa using hi)
theorem mkO_snoc39 {es:Bk}{c b:List Int}{m:Int}(h:mkO es b=none)(hb:b≠c):mkO (es++[(c,m)]) b=none:=by
 refine mkO_none fun z=>?_
 rw[List.map_append]at z
 rcases List.mem_append.mp z with z|z
 ·obtain⟨n,hn⟩:=mkO_key.mp z
  rw[h]at hn;cases hn
 ·exact hb (List.mem_singleton.mp z)
theorem OkX.told {y:Option (List Int)}{B:Nat}{s:AS}(o:OkX y B s){c:List Int}{m:Int}(hy:∀b,y=some b->b=c)(hn:c∉s.es.map (·.1))(hc:isW s.L c=true)(h0:0<=m)(h9:m<=1000000000)(hl:c.length<=B+(s.most+1)*s.E.length+(if s.wr.isSome then s.most else 0))(hg:c∉s.G):OkX none B {s with es:=s.es++[(c,m)]}:=by
 have gr:=Grow.snoc s.es c m
 refine⟨o.tb.put hn hc h0 h9,fun b hb=>?_,o.gn,fun b hb=>?_,o.le,fun p hp=>?_,fun v hv=>?_⟩
 ·rcases o.cov b hb with ⟨z,hz⟩|z|z
  ·exact .inl ⟨z,gr _ _ hz⟩
  ·exact .inr (.inl z)
  ·have:=hy b z
   subst this
   exact .inl ⟨m,mkO_some (o.tb.put hn hc h0 h9).nd (by simp)⟩
 ·obtain⟨h1,h2,h3⟩:=o.gW b hb
  exact⟨h1,mkO_snoc39 h2 (fun z=>hg (z ▸ hb)),h3⟩
 ·rcases List.mem_append.mp hp with hp|hp
  ·exact o.lb p hp
  ·rw[List.mem_singleton.mp hp];exact hl
 ·obtain⟨h1,h2,h3,h4,mm,ws,t,h5,h6,h7,h8⟩:=o.wr v hv
  exact⟨h1,h2,h3,h4,mm,ws,t,h5,h6.mono gr,gr _ _ h7,h8⟩
section
variable {K:PySem.W.Frag} {CA CB:Addr} {H H':Hp} {a:Addr} {ad:AD} {s:AS} {wv gv rv:V} {zs ys us:List V}
theorem AskAt.putB (x:AskAt K CA CB H a ad s wv gv rv zs ys us){es':Bk}(hb:BookAt CB H' ad.b ad.d s.L es')(hf:∀b o,H b=some o->b≠ad.d->H' b=some o):AskAt K CA CB H' a ad {s with es:=es' } wv gv rv zs ys us/\Frm H H' a ad/\TK H H':=by
 obtain⟨n1,n2,n3,n4,n5,n6,n7,n8,n9,n10,n11⟩:=x.na
 have tk:TK H H':=fun t ts h=>hf t _ h (fun z=>by rw[z,x.bk.dc]at h;cases h)
 refine⟨⟨hf _ _ x.ob (Ne.symm n4),hb,hf _ _ x.w n6,x.wW.mono tk,hf _ _ x.e n7,x.eW.mono tk,hf _ _ x.g n8,x.gW.mono tk,x.we,x.wg,x.eg,x.gv.mono tk,x.rv.mono tk⟩,⟨fun y o h _ n _ _ _=>hf _ _ h n,fun y h=>?_⟩,tk⟩
 cases hy:H y with
 |none=>rfl
 |some o=>
  by_cases z:y=ad.d
  ·rw[z,hb.dc]at h;cases h
  ·rw[hf _ _ hy z]at h;cases h
end
def s039 (L most:Nat):AS:={L:=L,most:=most,W:=[[]],E:=[[]],G:=gapsOf L [[]] [[]] [],gs:=none,wr:=none,es:=[]}
theorem s039_ok {L most:Nat}(B:Nat)(l1:1<=L)(l6:L<=6)(m1:1<=most)(m12:most<=12):OkX none B (s039 L most):=by
 have hw:∀v ∈ [([]:List Int)],isW (L:Int) v=true/\v.length < [([]:List Int)].length:=fun v hv=>by
  rw[List.mem_singleton.mp hv];exact⟨isW_iff.mpr fun x hx=>(by cases hx),by simp⟩
 have hE:∀e ∈ [([]:List Int)],isW (L:Int) e=true/\e.length+(most+1)<=B+(most+1) * [([]:List Int)].length:=fun v hv=>by
  rw[List.mem_singleton.mp hv];exact⟨isW_iff.mpr fun x hx=>(by cases hx),by simp⟩
 obtain⟨c1,c2,c3⟩:=gaps_ok (B:=B) (s:=s039 L most) (W:=[[]]) (E:=[[]]) hw (by show 1<=most;omega) hE
 refine⟨⟨l1,l6,m12,rfl,hw,by show 1<=most;omega,rfl,fun e he=>(hE e he).1,List.nodup_nil,fun p hp=>(by cases hp),fun i j v u h1 h2 h3=>?_,.inl (Nat.le_refl _)⟩,c1,c2,c3,fun e he=>(hE e he).2,fun p hp=>(by cases hp),fun v hv=>(by cases hv)⟩
 have h1:=(List.getElem?_eq_some_iff.mp h1).1
 have h2:=(List.getElem?_eq_some_iff.mp h2).1
 have h1:i<1:=h1
 have h2:j<1:=h2
 omega
theorem putF_len (f:Str)(v:V):∀fs:List (Str×V),(putF f v fs).length<=fs.length+1
 |[]=>by simp[putF]
 | (g,x)::r=>by
  unfold putF
  split
  ·simp
  ·have:=putF_len f v r
   rw[List.length_cons,List.length_cons];omega
theorem cells_len {L:Nat}{W E:List (List Int)}(hW:W.length<=100)(hL:L<=6)(hE:E.length<=100):(cellsW (rowsW L W) E).length<=100000:=by
 unfold cellsW
 have h1:=insAll_len ((rowsW L W).flatMap fun r=>E.map (r ++ ·)) []
 have h2:((rowsW L W).flatMap fun r=>E.map (r ++ ·)).length=(rowsW L W).length*E.length:=by
  rw[List.length_flatMap]
  generalize rowsW L W=l
  induction l with
  |nil=>simp
  |cons a l ih=>rw[List.map_cons,List.sum_cons,ih,List.length_map,List.length_cons,Nat.succ_mul];omega
 have h3:=rowsW_len L W
 have h4:W.length*L<=100*6:=Nat.mul_le_mul hW hL
 have h5:(rowsW L W).length*E.length<=700*100:=Nat.mul_le_mul (by omega) hE
 rw[h2,List.length_nil]at h1
 omega
def sp_tinit (CA:Addr):Sp:=fun vs H Q _=>∃(a dx:Addr) (fs:List (Str×V)),vs=[.ref a]/\H a=some (.ins CA dx fs)/\fs.length<1000/\Q .non (upd H a (.ins CA dx (putF "wish" .non fs)))
theorem ok_Turns_init {f:Addr}{fd:FuncData}(F:Fun K "__init__" "Turns.__init__" s_Turns_init f fd)(T:Txt mg)
  (W:Own K mg C_Book C_Turns C_Hunt C_Asker)
  (Z:Exs K mg C_AskError C_BadWord C_BadMark C_OutOfTurn C_NoDifference C_Contradiction)
  : FnOk P w K mg base CX0 1 f fd ["self"] (sp_tinit C_Asker):=by
 refine F.ok sc_Turns_init (fun vs H Q E h=>?_) (fun cdv A outer s H vs Q E hr h=>?_)
 ·obtain⟨a,dx,fs,rfl,_⟩:=h;rfl
 ·obtain⟨a,dx,fs,rfl,ha,hz,k⟩:=h
  refine⟨_,(pss_one (ps_fld (pv 0) pe_non rfl)),?_⟩
  walk_at "rd"
  exact⟨_,_,_,ha,W.cl_Asker,W.n_Asker_wish,hz,k⟩
def sp_hinit (CA:Addr):Sp:=fun vs H Q _=>∃(a dx b pw pe:Addr) (L most:Int),vs=[.ref a,.int L,.int most,.ref b,.ref pw,.ref pe]/\H a=some (.ins CA dx [])/\∀(pg:Addr) (H':Hp),H pg=none->H' a=some (.ins CA dx (afl .non L most b pw pe pg .non .non))->H' pg=some (.lst [])->(∀x o,H x=some o->x≠a->H' x=some o)->(∀x,H' x=none->H x=none)->Q .non H'
theorem ok_Hunt_init {f:Addr}{fd:FuncData}(F:Fun K "__init__" "Hunt.__init__" s_Hunt_init f fd)(T:Txt mg)
  (W:Own K mg C_Book C_Turns C_Hunt C_Asker)
  (Z:Exs K mg C_AskError C_BadWord C_BadMark C_OutOfTurn C_NoDifference C_Contradiction)
  {f_Turns_init:Addr} {fd_Turns_init:FuncData} (g_Turns_init:FnOk P w K mg base CX0 1 f_Turns_init fd_Turns_init ["self"] (sp_tinit C_Asker)) (F_Turns_init:Fun K "__init__" "Turns.__init__" s_Turns_init f_Turns_init fd_Turns_init) (b_Turns_init:Binds K fd_Turns_init ["self"] []) (m_Turns_init:CMeth K C_Turns "__init__" f_Turns_init)
  : FnOk P w K mg base CX0 3 f fd ["self","letters","most","book","ways","ends"] (sp_hinit C_Asker):=by
 refine F.ok sc_Hunt_init (fun vs H Q E h=>?_) (fun cdv A outer s H vs Q E hr h=>?_)
 ·obtain⟨a,dx,b,pw,pe,L,most,rfl,_⟩:=h;rfl
 ·obtain⟨a,dx,b,pw,pe,L,most,rfl,ha,k⟩:=h
  have hl:=line1000
  refine⟨_,(pss_cons (ps_expr (pe_cm rfl W.m_Turns m_Turns_init g_Turns_init (hr.mono (by decide)) b_Turns_init .nil pass0 (pa_cons (pv 0) pa_nil)))
   (pss_cons (ps_fld (pv 0) (pv 1) rfl)
   (pss_cons (ps_fld (pv 0) (pv 2) rfl)
   (pss_cons (ps_fld (pv 0) (pv 3) rfl)
   (pss_cons (ps_fld (pv 0) (pv 4) rfl)
   (pss_cons (ps_fld (pv 0) (pv 5) rfl)
   (pss_cons (ps_fld (pv 0) (pe_lst pa_nil) rfl)
   (pss_cons (ps_fld (pv 0) pe_non rfl)
   (pss_one (ps_fld (pv 0) pe_non rfl)))))))))),?_⟩
  walk_at "rd"
  have pl:∀(f:Str) (v:V) (fs:List (Str×V)) (n:Nat),fs.length<n->(putF f v fs).length<n+1:=fun f v fs n h=>by have:=putF_len f v fs;omega
  have z1:=pl "wish" .non [] 1 (by simp)
  have z2:=pl "letters" (.int L) _ _ z1
  have z3:=pl "most" (.int most) _ _ z2
  have z4:=pl "book" (.ref b) _ _ z3
  have z5:=pl "ways" (.ref pw) _ _ z4
  have z6:=pl "ends" (.ref pe) _ _ z5
  refine⟨a,dx,[],rfl,ha,by simp,_,_,_,upd_same,W.cl_Asker,W.n_Asker_letters,by omega,_,_,_,upd_same,W.cl_Asker,W.n_Asker_most,by omega,_,_,_,upd_same,W.cl_Asker,W.n_Asker_book,by omega,_,_,_,upd_same,W.cl_Asker,W.n_Asker_ways,by omega,_,_,_,upd_same,W.cl_Asker,W.n_Asker_ends,by omega,by omega,fun pg hpg=>?_⟩
  have hga:pg≠a:=fun z=>by rw[z,upd_same]at hpg;cases hpg
  have z7:=pl "gaps" (.ref pg) _ _ z6
  have z8:=pl "guess" .non _ _ z7
  refine⟨_,_,_,by rw[upd_ne (Ne.symm hga)];exact upd_same,W.cl_Asker,W.n_Asker_gaps,by omega,_,_,_,upd_same,W.cl_Asker,W.n_Asker_guess,by omega,_,_,_,upd_same,W.cl_Asker,W.n_Asker_wrong,by omega,?_⟩
  have hpgH:H pg=none:=by
   simp only[upd_ne hga]at hpg
   exact hpg
  refine k pg _ hpgH (by rw[upd_same,afp_init]) (by simp only[upd_ne hga];exact upd_same) (fun y o hy hya=>?_) (fun y hy=>?_)
  ·have hyg:y≠pg:=fun z=>by rw[z,hpgH]at hy;cases hy
   simp only[upd_ne hya,upd_ne hyg]
   exact hy
  ·by_cases hya:y=a
   ·rw[hya,upd_same]at hy;cases hy
   ·by_cases hyg:y=pg
    ·rw[hyg];exact hpgH
    ·simp only[upd_ne hya,upd_ne hyg]at hy
     exact hy
def sp_wants (K:PySem.W.Frag)(CA CB:Addr):Sp:=fun vs H Q _=>∃(a:Addr) (ad:AD) (s:AS) (wv:V),vs=[.ref a]/\Asks K CA CB H a ad s wv/\Q wv H
theorem ok_Turns_wants {f:Addr}{fd:FuncData}(F:Fun K "wants" "Turns.wants" s_Turns_wants f fd)(T:Txt mg)
  (W:Own K mg C_Book C_Turns C_Hunt C_Asker)
  (Z:Exs K mg C_AskError C_BadWord C_BadMark C_OutOfTurn C_NoDifference C_Contradiction)
  : FnOk P w K mg base CX0 1 f fd ["self"] (sp_wants K C_Asker C_Book):=by
 refine F.ok sc_Turns_wants (fun vs H Q E h=>?_) (fun cdv A outer s H vs Q E hr h=>?_)
 ·obtain⟨a,ad,s,wv,rfl,_⟩:=h;rfl
 ·obtain⟨a,ad,s,wv,rfl,⟨gv,rv,zs,ys,us,x⟩,k⟩:=h
  refine⟨_,(pss_one (ps_ret (pe_fld (pv 0) rfl))),?_⟩
  walk_at "rd"
  exact⟨_,_,_,x.ob,W.cl_Asker,W.n_Asker_wish,_,af_wish ..,k⟩
def sp_cwants (K:PySem.W.Frag)(CA CB OT:Addr):Sp:=fun vs H Q E=>∃(a:Addr) (ad:AD) (s:AS) (wv:V) (x:Wish) (d:Str),vs=[.ref a,.str d]/\Asks K CA CB H a ad s wv/\WishAt K H s.L wv x/\(x.tag=d->Q .non H)/\(x.tag≠d->E (.ref OT) none H)
theorem ok_Turns_check_wants {f:Addr}{fd:FuncData}(F:Fun K "check_wants" "Turns.check_wants" s_Turns_check_wants f fd)(T:Txt mg)
  (W:Own K mg C_Book C_Turns C_Hunt C_Asker)
  (Z:Exs K mg C_AskError C_BadWord C_BadMark C_OutOfTurn C_NoDifference C_Contradiction)
  : FnOk P w K mg base (CXe P w) 1 f fd ["self","deed"] (sp_cwants K C_Asker C_Book C_OutOfTurn):=by
 refine F.okE sc_Turns_check_wants (fun vs H Q E h=>?_) (fun cdv A outer s H vs Q E hr h=>?_)
 ·obtain⟨a,ad,s,wv,x,d,rfl,_⟩:=h;rfl
 ·obtain⟨a,ad,s,wv,x,d,rfl,⟨gv,rv,zs,ys,us,A'⟩,hw,k,kE⟩:=h
  have hl:=line1000
  refine⟨_,(pss_one (ps_if (pt_cmpR op_ne (pe_ix ix_tup (pe_fld (pv 0) rfl) pe_int (fun _ _=>rfl)) (pv 1) (nomark _))
   (pss_one (ps_raise Z.m_OutOfTurn Z.x_OutOfTurn rfl rfl (pa_cons pe_str pa_nil)))
   pss_nil)),?_⟩
  walk_at "rd"
  obtain⟨t,u,rfl,ht,_⟩:=hw
  refine⟨_,_,_,A'.ob,W.cl_Asker,W.n_Asker_wish,_,af_wish ..,t,rfl,_,SqT.of ht,V.str x.tag,rfl,rfl,?_⟩
  by_cases hd:x.tag=d
  ·rw[if_neg (by simp[hd])];exact k hd
  ·rw[if_pos (by simp[hd])];exact⟨by omega,kE hd⟩
def sp_list39 (K:PySem.W.Frag)(CA CB:Addr)(f:AS->List (List Int)):Sp:=fun vs H Q _=>∃(a:Addr) (ad:AD) (s:AS) (wv:V),vs=[.ref a]/\Asks K CA CB H a ad s wv/\∀l ts H',Same H H'->H l=none->H' l=some (.lst ts)->WordsT K H' ts (f s)->Q (.ref l) H'
theorem ok_Hunt_access {f:Addr}{fd:FuncData}(F:Fun K "access" "Hunt.access" s_Hunt_access f fd)(T:Txt mg)
  (W:Own K mg C_Book C_Turns C_Hunt C_Asker)
  (Z:Exs K mg C_AskError C_BadWord C_BadMark C_OutOfTurn C_NoDifference C_Contradiction)
  : FnOk P w K mg base CX0 1 f fd ["self"] (sp_list39 K C_Asker C_Book AS.W):=by
 refine F.ok sc_Hunt_access (fun vs H Q E h=>?_) (fun cdv A outer s H vs Q E hr h=>?_)
 ·obtain⟨a,ad,s,wv,rfl,_⟩:=h;rfl
 ·obtain⟨a,ad,s,wv,rfl,⟨gv,rv,zs,ys,us,x⟩,k⟩:=h
  refine⟨_,(pss_one (ps_ret (pe_callTy call_list_of rfl T.list PyProof.Rows.boot_list (pa_cons (pe_fld (pv 0) rfl) pa_nil)))),?_⟩
  walk_at "rd"
  exact⟨_,_,_,x.ob,W.cl_Asker,W.n_Asker_ways,_,af_ways ..,ad.pw,rfl,zs,.inl (SqL.of x.w),fun l hl=>k l zs _ (Same.new hl) hl upd_same (x.wW.mono (TK.new hl))⟩
theorem ok_Hunt_tellers {f:Addr}{fd:FuncData}(F:Fun K "tellers" "Hunt.tellers" s_Hunt_tellers f fd)(T:Txt mg)
  (W:Own K mg C_Book C_Turns C_Hunt C_Asker)
  (Z:Exs K mg C_AskError C_BadWord C_BadMark C_OutOfTurn C_NoDifference C_Contradiction)
  : FnOk P w K mg base CX0 1 f fd ["self"] (sp_list39 K C_Asker C_Book AS.E):=by
 refine F.ok sc_Hunt_tellers (fun vs H Q E h=>?_) (fun cdv A outer s H vs Q E hr h=>?_)
 ·obtain⟨a,ad,s,wv,rfl,_⟩:=h;rfl
 ·obtain⟨a,ad,s,wv,rfl,⟨gv,rv,zs,ys,us,x⟩,k⟩:=h
  refine⟨_,(pss_one (ps_ret (pe_callTy call_list_of rfl T.list PyProof.Rows.boot_list (pa_cons (pe_fld (pv 0) rfl) pa_nil)))),?_⟩
  walk_at "rd"
  exact⟨_,_,_,x.ob,W.cl_Asker,W.n_Asker_ends,_,af_ends ..,ad.pe,rfl,ys,.inl (SqL.of x.e),fun l hl=>k l ys _ (Same.new hl) hl upd_same (x.eW.mono (TK.new hl))⟩
def sp_heard39 (K:PySem.W.Frag)(CA CB:Addr):Sp:=fun vs H Q _=>∃(a:Addr) (ad:AD) (s:AS) (wv:V),vs=[.ref a]/\Asks K CA CB H a ad s wv/\∀l rs H',Same H H'->H l=none->H' l=some (.lst rs)->TrialsS H' rs s.es->Q (.ref l) H'
theorem ok_Hunt_heard {f:Addr}{fd:FuncData}(F:Fun K "heard" "Hunt.heard" s_Hunt_heard f fd)(T:Txt mg)
  (W:Own K mg C_Book C_Turns C_Hunt C_Asker)
  (Z:Exs K mg C_AskError C_BadWord C_BadMark C_OutOfTurn C_NoDifference C_Contradiction)
  {f_Book_heard:Addr} {fd_Book_heard:FuncData} (g_Book_heard:FnOk P w K mg base CX0 1 f_Book_heard fd_Book_heard ["self"] (sp_book_heard K C_Book)) (F_Book_heard:Fun K "heard" "Book.heard" s_Book_heard f_Book_heard fd_Book_heard) (b_Book_heard:Binds K fd_Book_heard ["self"] []) (m_Book_heard:Meth K C_Book "heard" f_Book_heard)
  : FnOk P w K mg base CX0 2 f fd ["self"] (sp_heard39 K C_Asker C_Book):=by
 refine F.ok sc_Hunt_heard (fun vs H Q E h=>?_) (fun cdv A outer s H vs Q E hr h=>?_)
 ·obtain⟨a,ad,s,wv,rfl,_⟩:=h;rfl
 ·obtain⟨a,ad,s,wv,rfl,⟨gv,rv,zs,ys,us,x⟩,k⟩:=h
  refine⟨_,(pss_one (ps_ret (pe_meth0 (pe_fld (pv 0) rfl) W.cl_Book m_Book_heard g_Book_heard (hr.mono (by decide)) b_Book_heard .nil pass0))),?_⟩
  walk_at "rd"
  obtain⟨dxb,hb⟩:=x.bk.ob
  exact⟨_,_,_,x.ob,W.cl_Asker,W.n_Asker_book,_,af_book ..,ad.b,rfl,_,_,hb,bflds_no _ _ (by decide +kernel) (by decide +kernel),ad.b,ad.d,_,s.es,rfl,x.bk,k⟩
def sp_askfor (K:PySem.W.Frag)(CA CB:Addr):Sp:=fun vs H Q _=>∃(a l:Addr) (ad:AD) (s:AS) (wv:V) (ts:List V) (ws:List (List Int)),vs=[.ref a,.ref l]/\Asks K CA CB H a ad s wv/\SqL K H l ts/\WordsT K H ts ws/\ws.Nodup/\ws.length<=100000/\∀ad' H',Asks K CA CB H' a ad' {s with G:=ws.filter fun c=>(mkO s.es c).isNone} wv->Frm H H' a ad->AdOk H ad ad'->Q .non H'
theorem ok_Hunt_ask_for {f:Addr}{fd:FuncData}(F:Fun K "ask_for" "Hunt.ask_for" s_Hunt_ask_for f fd)(T:Txt mg)
  (W:Own K mg C_Book C_Turns C_Hunt C_Asker)
  (Z:Exs K mg C_AskError C_BadWord C_BadMark C_OutOfTurn C_NoDifference C_Contradiction)
  {f_Book_told:Addr} {fd_Book_told:FuncData} (g_Book_told:FnOk P w K mg base CX0 1 f_Book_told fd_Book_told ["self","word"] (sp_book_told C_Book)) (F_Book_told:Fun K "told" "Book.told" s_Book_told f_Book_told fd_Book_told) (b_Book_told:Binds K fd_Book_told ["self","word"] []) (m_Book_told:Meth K C_Book "told" f_Book_told)
  : FnOk P w K mg base CX0 2 f fd ["self","words"] (sp_askfor K C_Asker C_Book):=by
 refine F.ok sc_Hunt_ask_for (fun vs H Q E h=>?_) (fun cdv A outer s H vs Q E hr h=>?_)
 ·obtain⟨a,l,ad,s,wv,ts,ws,rfl,_⟩:=h;rfl
 ·obtain⟨a,l,ad,s,wv,ts,ws,rfl,⟨gv,rv,zs,ys,us,x⟩,hl',hW,nd,hz,k⟩:=h
  have hl:=line1000
  refine⟨_,(pss_cons (ps_set (i:=2) sc_Hunt_ask_for.nd rfl (Or.inl rfl) pe_dnewT)
   (pss_cons (ps_for PassesOwn.never rfl (pi_list (pv 1)) (pg_name (i:=3) sc_Hunt_ask_for.nd rfl (Or.inl rfl))
   (pss_one (ps_if (pt_cmpR op_isN (pe_meth (pe_fld (pv 0) rfl) W.cl_Book m_Book_told g_Book_told (hr.mono (by decide)) b_Book_told .nil pass0 (pa_cons (pv 3) pa_nil)) pe_non (nomark _))
   (pss_one (ps_dput (hu_of hr) (pv 2) (pv 3) pe_bl rfl))
   pss_nil)))
   (pss_one (ps_fld (pv 0) (pe_callTy (call_list_dictT rfl) rfl T.list PyProof.Rows.boot_list (pa_cons (pv 2) pa_nil)) rfl)))),?_⟩
  walk_at "rd"
  intro p hp
  have sp:=Same.new (o:=.dT []) hp
  obtain⟨dxb,hb⟩:=x.bk.ob
  obtain⟨Pv,hPv⟩:∃Pv:Nat->St->Hp->Prop,∀i σ' H',Pv i σ' H'↔(∃(kvs:List (List Key×V)) (o:Option V),Same H H'/\H' p=some (.dT kvs)/\KeysW ((ws.take i).filter fun c=>(mkO s.es c).isNone) kvs/\σ'=[some (.ref a),some (.ref l),some (.ref p),o]):=⟨_,fun _ _ _=>Iff.rfl⟩
  refine⟨⟨_,sp.seq hl'⟩,forL (xs:=ts) Pv ((hPv _ _ _).mpr ⟨[],none,sp,upd_same,by rw[List.take_zero];exact KeysW.nil,rfl⟩) (fun i σ' H' _ h'=>by obtain⟨_,_,s',_⟩:=(hPv _ _ _).mp h';exact s'.seq hl') (fun i y σ' H' hy h'=>?_) (fun σ' H' h'=>?_)⟩
  ·obtain⟨kvs,o,s',hd,hk,rfl⟩:=(hPv _ _ _).mp h'
   obtain⟨t,c,hci,rfl,ht⟩:=hW.at hy
   have hil:i<ws.length:=(List.getElem?_eq_some_iff.mp hci).1
   have hlen:kvs.length<=100000:=by
    rw[hk.len]
    have h1:=List.length_filter_le (fun c=>(mkO s.es c).isNone) (ws.take i)
    rw[List.length_take]at h1
    omega
   have ht':=s' _ _ ht
   have hnot:c∉ws.take i:=fun z=>by
    obtain⟨j,hj⟩:=List.mem_iff_getElem?.mp z
    rw[List.getElem?_take]at hj
    split at hj
    ·rename_i hji
     have h1:=List.getElem?_eq_some_iff.mp hj
     have h2:=List.getElem?_eq_some_iff.mp hci
     have:=(List.pairwise_iff_getElem.mp (List.nodup_iff_pairwise_ne.mp nd)) j i h1.1 h2.1 hji
     exact this (h1.2.trans h2.2.symm)
    ·cases hj
   have etk:(ws.take (i+1)).filter (fun c=>(mkO s.es c).isNone)=(ws.take i).filter (fun c=>(mkO s.es c).isNone)++(if (mkO s.es c).isNone then [c] else []):=by
    rw[List.take_add_one,hci,List.filter_append]
    congr 1
    show List.filter _ [c]=_
    rw[List.filter_cons]
    rfl
   walk_at "rd"
   refine⟨_,_,_,s' _ _ x.ob,W.cl_Asker,W.n_Asker_book,_,af_book ..,ad.b,rfl,_,_,s' _ _ hb,bflds_no _ _ (by decide +kernel) (by decide +kernel),ad.b,ad.d,t,_,c,s.es,rfl,x.bk.mono s',ht',fun hn=>?_,fun m hm=>?_⟩
   ·dsimp only
    rw[if_pos rfl]
    have hno:(mkO s.es c).isNone=true:=by rw[mkO_none hn];rfl
    refine⟨_,DPut.t (k:=wkey c) hd (by rw[wkey_kV];exact ht') (by omega),(hPv _ _ _).mpr ⟨_,_,s'.over hp,upd_same,?_,rfl⟩⟩
    rw[etk,if_pos hno]
    have:=hk.put c (.bl true)
    unfold ins at this
    rw[if_neg (fun z=>hnot (List.mem_filter.mp z).1)]at this
    exact this
   ·dsimp only
    rw[if_neg (by simp)]
    have hso:(mkO s.es c).isNone=false:=by rw[mkO_some x.bk.nd hm];rfl
    refine (hPv _ _ _).mpr ⟨kvs,_,s',hd,?_,rfl⟩
    rw[etk,hso]
    simpa using hk
  ·obtain⟨kvs,o,s',hd,hk,rfl⟩:=(hPv _ _ _).mp h'
   rw[hW.1,List.take_length]at hk
   walk_at "rd"
   refine⟨kvs,.inl hd,fun q rs hq hrl hrs=>?_⟩
   have x1:=x.same (s'.newT hq (o:=.lst rs))
   have uq:upd H' q (.lst rs) q=some (.lst rs):=upd_same
   have hwd:=(hk.words (K:=K) hrl hrs).mono (TK.new hq (o:=.lst rs))
   have s1:=s'.newT hq (o:=.lst rs)
   have hqH:H q=none:=s'.none hq
   generalize upd H' q (.lst rs)=H1 at x1 uq hwd s1 ⊢
   obtain⟨n1,n2,n3,n4,n5,n6,n7,n8,n9,n10,n11⟩:=x1.na
   have hqa:q≠a:=fun z=>by rw[z,x1.ob]at uq;cases uq
   refine⟨_,_,_,x1.ob,W.cl_Asker,W.n_Asker_gaps,by unfold afl;simp,?_⟩
   rw[afp_gaps]
   refine k {ad with pg:=q} _ ⟨gv,rv,zs,ys,rs,?_⟩ ⟨fun y o hy m1 m2 m3 m4 m5=>by rw[upd_ne m1];exact s1 _ _ hy,fun y hy=>?_⟩ ⟨rfl,rfl,rfl,rfl,rfl,.inr hqH⟩
   ·have tk:=x1.tkob (.ins C_Asker ad.dx (afl wv s.L s.most ad.b ad.pw ad.pe q gv rv))
    refine⟨upd_same,BookAt.tk x1.bk (fun o h=>by rw[upd_ne x1.nb];exact h) (fun o h=>by rw[upd_ne n4];exact h),by rw[upd_ne n1];exact x1.w,x1.wW.mono tk,by rw[upd_ne n2];exact x1.e,x1.eW.mono tk,by rw[upd_ne hqa];exact uq,hwd.mono tk,x.we,fun z=>?_,fun z=>?_,x1.gv.mono tk,x1.rv.mono tk⟩
    ·rw[show q=ad.pw from z.symm,x.w]at hqH;cases hqH
    ·rw[show q=ad.pe from z.symm,x.e]at hqH;cases hqH
   ·by_cases hya:y=a
    ·rw[hya,upd_same]at hy;cases hy
    ·rw[upd_ne hya]at hy;exact s1.none hy
def sp_lgaps (K:PySem.W.Frag)(CA CB:Addr):Sp:=fun vs H Q _=>∃(a:Addr) (ad:AD) (s:AS) (wv:V),vs=[.ref a]/\Asks K CA CB H a ad s wv/\Sz s/\∀ad' H',Asks K CA CB H' a ad' {s with G:=gapsOf s.L s.W s.E s.es} wv->Frm H H' a ad->AdOk H ad ad'->Q .non H'
theorem ok_Asker_look_for_gaps {f:Addr}{fd:FuncData}(F:Fun K "look_for_gaps" "Asker.look_for_gaps" s_Asker_look_for_gaps f fd)(T:Txt mg)
  (W:Own K mg C_Book C_Turns C_Hunt C_Asker)
  (Z:Exs K mg C_AskError C_BadWord C_BadMark C_OutOfTurn C_NoDifference C_Contradiction)
  {f_Hunt_ask_for:Addr} {fd_Hunt_ask_for:FuncData} (g_Hunt_ask_for:FnOk P w K mg base CX0 2 f_Hunt_ask_for fd_Hunt_ask_for ["self","words"] (sp_askfor K C_Asker C_Book)) (F_Hunt_ask_for:Fun K "ask_for" "Hunt.ask_for" s_Hunt_ask_for f_Hunt_ask_for fd_Hunt_ask_for) (b_Hunt_ask_for:Binds K fd_Hunt_ask_for ["self","words"] []) (m_Hunt_ask_for:Meth K C_Asker "ask_for" f_Hunt_ask_for)
  {f_cells:Addr} {fd_cells:FuncData} (g_cells:FnOk P w K mg base CX0 2 f_cells fd_cells ["letters","access","ends"] (sp_cells K)) (F_cells:Fun K "cells" "cells" s_cells f_cells fd_cells) (b_cells:Binds K fd_cells ["letters","access","ends"] []) (m_cells:mg "cells"=some (.ref f_cells))
  : FnOk P w K mg base CX0 3 f fd ["self"] (sp_lgaps K C_Asker C_Book):=by
 refine F.ok sc_Asker_look_for_gaps (fun vs H Q E h=>?_) (fun cdv A outer s H vs Q E hr h=>?_)
 ·obtain⟨a,ad,s,wv,rfl,_⟩:=h;rfl
 ·obtain⟨a,ad,s,wv,rfl,⟨gv,rv,zs,ys,us,x⟩,sz,k⟩:=h
  have hl:=line1000
  refine⟨_,(pss_one (ps_expr (pe_meth (pv 0) W.cl_Asker m_Hunt_ask_for g_Hunt_ask_for (hr.mono (by decide)) b_Hunt_ask_for .nil pass0 (pa_cons (pe_call g_cells (hr.mono (by decide)) rfl m_cells F_cells.kp b_cells .nil pass0 (pa_cons (pe_fld (pv 0) rfl) (pa_cons (pe_fld (pv 0) rfl) (pa_cons (pe_fld (pv 0) rfl) pa_nil)))) pa_nil)))),?_⟩
  walk_at "rd"
  have w1:=sz.w.1
  have e1:=sz.e.1
  refine⟨_,_,x.ob,by kernel_rfl,_,_,_,x.ob,W.cl_Asker,W.n_Asker_letters,_,af_letters ..,_,_,_,x.ob,W.cl_Asker,W.n_Asker_ways,_,af_ways ..,_,_,_,x.ob,W.cl_Asker,W.n_Asker_ends,_,af_ends ..,s.L,ad.pw,ad.pe,zs,ys,s.W,s.E,rfl,sz.l6,SqL.of x.w,x.wW,by omega,fun v hv=>by have:=sz.w.2 v hv;omega,SqL.of x.e,x.eW,by omega,sz.e.2,fun l rs H1 s1 hlN hl1 hw=>?_⟩
  have hcl:(cellsW (rowsW s.L s.W) s.E).length<=100000:=cells_len (by omega) sz.l6 (by omega)
  exact⟨a,l,ad,s,wv,rs,_,rfl,⟨_,_,_,_,_,x.same s1⟩,SqL.of hl1,hw,cells_nodup _ _,hcl,fun ad' H2 x2 f2 k2=>k ad' H2 x2 ((Frm.of s1 a ad).trans (AdOk.refl H ad) f2) (AdOk.trans (Frm.of s1 a ad) (AdOk.refl H ad) k2)⟩
def sp_fends (K:PySem.W.Frag):Sp:=fun vs H Q _=>∃(a:Addr) (L:Int),vs=[.ref a,.int L]/\∀l t H',Same H H'->H l=none->H' l=some (.lst [.ref t])->H' t=some (.tup [])->Q (.ref l) H'
theorem ok_Asker_first_ends {f:Addr}{fd:FuncData}(F:Fun K "first_ends" "Asker.first_ends" s_Asker_first_ends f fd)(T:Txt mg)
  (W:Own K mg C_Book C_Turns C_Hunt C_Asker)
  (Z:Exs K mg C_AskError C_BadWord C_BadMark C_OutOfTurn C_NoDifference C_Contradiction)
  : FnOk P w K mg base CX0 1 f fd ["self","letters"] (sp_fends K):=by
 refine F.ok sc_Asker_first_ends (fun vs H Q E h=>?_) (fun cdv A outer s H vs Q E hr h=>?_)
 ·obtain⟨a,L,rfl,_⟩:=h;rfl
 ·obtain⟨a,L,rfl,k⟩:=h
  have hl:=line1000
  refine⟨_,(pss_one (ps_ret (pe_lst (pa_cons (pe_tup pa_nil) pa_nil)))),?_⟩
  walk_at "rd"
  refine⟨by omega,fun t ht=>⟨by omega,fun l hl'=>?_⟩⟩
  exact k l t _ ((Same.new ht).newT hl') ((Same.new ht).none hl') upd_same (Same.new hl' _ _ upd_same)
def sp_answer39 (K:PySem.W.Frag):Sp:=fun vs H Q _=>∃(a h t:Addr) (L:Int) (m:List Int) (ws:List (List Int)) (v:List Int),vs=[.ref a,.ref h,.ref t]/\House K H h L m ws/\Wf L m ws/\SqT K H t (v.map V.int)/\v.length<=600/\isW L v=true/\∀H',Same H H'->Q (.int (markW m (walkW ws v))) H'
theorem ok_Asker_answer {f:Addr}{fd:FuncData}(F:Fun K "answer" "Asker.answer" s_Asker_answer f fd)(T:Txt mg)
  (W:Own K mg C_Book C_Turns C_Hunt C_Asker)
  (Z:Exs K mg C_AskError C_BadWord C_BadMark C_OutOfTurn C_NoDifference C_Contradiction)
  {f_mark_behind:Addr} {fd_mark_behind:FuncData} (g_mark_behind:FnOk P w K mg base (CXe P w) 5 f_mark_behind fd_mark_behind ["house","word"] (sp_mark K C_BadWord)) (F_mark_behind:Fun K "mark_behind" "mark_behind" s_mark_behind f_mark_behind fd_mark_behind) (b_mark_behind:Binds K fd_mark_behind ["house","word"] []) (m_mark_behind:mg "mark_behind"=some (.ref f_mark_behind))
  : FnOk P w K mg base CX0 6 f fd ["self","house","word"] (sp_answer39 K):=by
 refine F.ok sc_Asker_answer (fun vs H Q E h=>?_) (fun cdv A outer s H vs Q E hr h=>?_)
 ·obtain⟨a,h,t,L,m,ws,v,rfl,_⟩:=h;rfl
 ·obtain⟨a,h,t,L,m,ws,v,rfl,hh,wf,ht,hz,hv,k⟩:=h
  refine⟨_,(pss_one (ps_ret (pe_call g_mark_behind (hr.mono (by decide)) rfl m_mark_behind F_mark_behind.kp b_mark_behind .nil (passNev (P:=P) (w:=w)) (pa_cons (pv 1) (pa_cons (pv 2) pa_nil))))),?_⟩
  walk_at "rd"
  exact⟨h,t,L,m,ws,v,rfl,hh,wf,ht,hz,fun _ H' s'=>k H' s',fun z=>by rw[hv]at z;cases z⟩
def sp_mkg (K:PySem.W.Frag)(CA CB:Addr):Sp:=fun vs H Q _=>∃(a:Addr) (ad:AD) (s:AS) (wv:V),vs=[.ref a]/\Asks K CA CB H a ad s wv/\Sz s/\Tb s.L s.most s.W s.E s.es/\Full s.L s.W s.E s.es/\stranger s.L s.W s.E s.es=none/\∀h H',Same H H'->HouT K H' h s.L (gMarks s.W s.es) (gWays s.L s.W s.E s.es)->Q (.ref h) H'
theorem ok_Asker_make_guess {f:Addr}{fd:FuncData}(F:Fun K "make_guess" "Asker.make_guess" s_Asker_make_guess f fd)(T:Txt mg)
  (W:Own K mg C_Book C_Turns C_Hunt C_Asker)
  (Z:Exs K mg C_AskError C_BadWord C_BadMark C_OutOfTurn C_NoDifference C_Contradiction)
  {f_guess_of:Addr} {fd_guess_of:FuncData} (g_guess_of:FnOk P w K mg base CX0 4 f_guess_of fd_guess_of ["book","letters","access","ends"] (sp_guess K C_Book)) (F_guess_of:Fun K "guess_of" "guess_of" s_guess_of f_guess_of fd_guess_of) (b_guess_of:Binds K fd_guess_of ["book","letters","access","ends"] []) (m_guess_of:mg "guess_of"=some (.ref f_guess_of))
  : FnOk P w K mg base CX0 5 f fd ["self"] (sp_mkg K C_Asker C_Book):=by
 refine F.ok sc_Asker_make_guess (fun vs H Q E h=>?_) (fun cdv A outer s H vs Q E hr h=>?_)
 ·obtain⟨a,ad,s,wv,rfl,_⟩:=h;rfl
 ·obtain⟨a,ad,s,wv,rfl,⟨gv,rv,zs,ys,us,x⟩,sz,tb,fu,hs,k⟩:=h
  refine⟨_,(pss_one (ps_ret (pe_call g_guess_of (hr.mono (by decide)) rfl m_guess_of F_guess_of.kp b_guess_of .nil pass0 (pa_cons (pe_fld (pv 0) rfl) (pa_cons (pe_fld (pv 0) rfl) (pa_cons (pe_fld (pv 0) rfl) (pa_cons (pe_fld (pv 0) rfl) pa_nil))))))),?_⟩
  walk_at "rd"
  have w1:=sz.w.1
  have e1:=sz.e.1
  obtain⟨np,cl⟩:=tb.none fu hs
  have he0:([]:List Int)∈s.E:=List.mem_of_getElem? tb.e0
  refine⟨_,_,_,x.ob,W.cl_Asker,W.n_Asker_book,_,af_book ..,_,_,_,x.ob,W.cl_Asker,W.n_Asker_letters,_,af_letters ..,_,_,_,x.ob,W.cl_Asker,W.n_Asker_ways,_,af_ways ..,_,_,_,x.ob,W.cl_Asker,W.n_Asker_ends,_,af_ends ..,ad.b,ad.d,ad.pw,ad.pe,s.L,s.L,s.es,zs,ys,s.W,s.E,gOf s.E s.es,fun v=>(mkO s.es v).getD 0,rfl,x.bk,sz.l6,SqL.of x.w,x.wW,by omega,fun v hv=>by have:=sz.w.2 v hv;omega,SqL.of x.e,x.eW,by omega,sz.e.2,fun v hv=>gOf_is fu hv,tb.nodup fu,cl,fun v hv=>?_,fun h tm tw zs' H' s' h1 h2 h3 h4=>k h H' s' ⟨tm,tw,zs',h1,h2,h3,h4⟩⟩
  obtain⟨m,hm⟩:=fu v (mem_cells39.mpr ⟨v,mem_rows39.mpr (.inl hv),[],he0,by simp⟩)
  show mkO s.es v=some ((mkO s.es v).getD 0)
  rw[hm];rfl
def sp_wrw (K:PySem.W.Frag)(CA CB:Addr):Sp:=fun vs H Q _=>∃(a:Addr) (ad:AD) (s:AS) (wv:V) (m:List Int) (ws:List (List Int)),vs=[.ref a]/\Asks K CA CB H a ad s wv/\s.gs=some (m,ws)/\Wf s.L m ws/\(∀e∈s.es,isW s.L e.1=true/\e.1.length<=600)/\∀H',Same H H'->(firstWrong s.es m ws=none->Q .non H')/\∀v t,firstWrong s.es m ws=some v->H' t=some (.tup (v.map V.int))->Q (.ref t) H'
theorem ok_Asker_wrong_word {f:Addr}{fd:FuncData}(F:Fun K "wrong_word" "Asker.wrong_word" s_Asker_wrong_word f fd)(T:Txt mg)
  (W:Own K mg C_Book C_Turns C_Hunt C_Asker)
  (Z:Exs K mg C_AskError C_BadWord C_BadMark C_OutOfTurn C_NoDifference C_Contradiction)
  {f_first_wrong:Addr} {fd_first_wrong:FuncData} (g_first_wrong:FnOk P w K mg base CX0 7 f_first_wrong fd_first_wrong ["book","house"] (sp_first_wrong K C_Book)) (F_first_wrong:Fun K "first_wrong" "first_wrong" s_first_wrong f_first_wrong fd_first_wrong) (b_first_wrong:Binds K fd_first_wrong ["book","house"] []) (m_first_wrong:mg "first_wrong"=some (.ref f_first_wrong))
  : FnOk P w K mg base CX0 8 f fd ["self"] (sp_wrw K C_Asker C_Book):=by
 refine F.ok sc_Asker_wrong_word (fun vs H Q E h=>?_) (fun cdv A outer s H vs Q E hr h=>?_)
 ·obtain⟨a,ad,s,wv,m,ws,rfl,_⟩:=h;rfl
 ·obtain⟨a,ad,s,wv,m,ws,rfl,⟨gv,rv,zs,ys,us,x⟩,hg,wf,hb,k⟩:=h
  refine⟨_,(pss_one (ps_ret (pe_call g_first_wrong (hr.mono (by decide)) rfl m_first_wrong F_first_wrong.kp b_first_wrong .nil pass0 (pa_cons (pe_fld (pv 0) rfl) (pa_cons (pe_fld (pv 0) rfl) pa_nil))))),?_⟩
  walk_at "rd"
  have hgv:=x.gv
  rw[hg]at hgv
  obtain⟨h,rfl,hh⟩:=hgv
  refine⟨_,_,_,x.ob,W.cl_Asker,W.n_Asker_book,_,af_book ..,_,_,_,x.ob,W.cl_Asker,W.n_Asker_guess,_,af_guess ..,ad.b,ad.d,h,s.L,m,ws,s.es,rfl,hh.house,wf,x.bk,hb,fun H' s'=>⟨fun hno=>(k H' s').1 ?_,fun i e t hno hi hw' ht=>?_⟩⟩
  ·unfold firstWrong
   rw[Option.map_eq_none_iff,List.find?_eq_none]
   intro e he
   have:=hno e he
   unfold wrongT at this
   rw[this];simp
  ·refine (k H' s').2 e.1 t ?_ ht
   ·unfold firstWrong
    have hil:=(List.getElem?_eq_some_iff.mp hi).1
    have e':s.es=s.es.take i++(e::s.es.drop (i+1)):=by
     have h1:=(List.take_append_drop (i+1) s.es).symm
     rw[List.take_add_one,hi,List.append_assoc]at h1
     exact h1
    rw[e',List.find?_append,List.find?_eq_none.mpr fun p hp=>?_,List.find?_cons]
    ·unfold wrongT at hw'
     rw[hw'];rfl
    ·obtain⟨j,hj⟩:=List.mem_iff_getElem?.mp hp
     rw[List.getElem?_take]at hj
     split at hj
     ·rename_i hji
      have:=hno j hji p hj
      unfold wrongT at this
      rw[this];simp
     ·cases hj
def sp_halved (K:PySem.W.Frag)(CB:Addr):Sp:=fun vs H Q _=>∃(b d pw h t:Addr) (L:Nat) (es:Bk) (zs:List V) (W:List (List Int)) (m:List Int) (ws:List (List Int)) (v:List Int) (mk:Int),vs=[.ref b,.ref pw,.ref h,.ref t,.int mk,.int v.length]/\BookAt CB H b d L es/\H pw=some (.lst zs)/\WordsT K H zs W/\House K H h L m ws/\Wf L m ws/\H t=some (.tup (v.map V.int))/\isW L v=true/\0<v.length/\v.length<=600/\(∀u∈W,u.length<=50)/\(∀i,i<=v.length->∃k:Nat,walkW ws (v.take i)=(k:Int)/\W[k]?=some (accAt W ws v i))/\∀H',Same H H'->(∀c u t',halfF es W ws v mk v.length 0 v.length=.ask c->H' u=some (.tup (c.map V.int))->H' t'=some (.tup [.str "ask",.ref u])->Q (.ref t') H')/\(∀hi u t',halfF es W ws v mk v.length 0 v.length=.fin hi->H' u=some (.tup ((v.drop hi).map V.int))->H' t'=some (.tup [.str "end",.ref u])->Q (.ref t') H')
theorem ok_halved {f:Addr}{fd:FuncData}(F:Fun K "halved" "halved" s_halved f fd)(T:Txt mg)
  (W:Own K mg C_Book C_Turns C_Hunt C_Asker)
  (Z:Exs K mg C_AskError C_BadWord C_BadMark C_OutOfTurn C_NoDifference C_Contradiction)
  {f_trail:Addr} {fd_trail:FuncData} (g_trail:FnOk P w K mg base (CXe P w) 3 f_trail fd_trail ["house","word"] (sp_trail K C_BadWord)) (F_trail:Fun K "trail" "trail" s_trail f_trail fd_trail) (b_trail:Binds K fd_trail ["house","word"] []) (m_trail:mg "trail"=some (.ref f_trail))
  {f_Book_told:Addr} {fd_Book_told:FuncData} (g_Book_told:FnOk P w K mg base CX0 1 f_Book_told fd_Book_told ["self","word"] (sp_book_told C_Book)) (F_Book_told:Fun K "told" "Book.told" s_Book_told f_Book_told fd_Book_told) (b_Book_told:Binds K fd_Book_told ["self","word"] []) (m_Book_told:Meth K C_Book "told" f_Book_told)
  : FnOk P w K mg base CX0 4 f fd ["book","access","guess","word","mark","last"] (sp_halved K C_Book):=by
 refine F.ok sc_halved (fun vs H Q E h=>?_) (fun cdv A outer s H vs Q E hr h=>?_)
 ·obtain⟨b,d,pw,h,t,L,es,zs,W',m,ws,v,mk,rfl,_⟩:=h;rfl
 ·obtain⟨b,d,pw,h,t,L,es,zs,W',m,ws,v,mk,rfl,bk,hpw,hW,hh,wf,ht,hv,hv0,hz,hz2,hacc,k⟩:=h
  have hl:=line1000
  refine⟨_,(pss_cons (ps_set (i:=6) sc_halved.nd rfl (Or.inl rfl) (pe_call g_trail (hr.mono (by decide)) rfl m_trail F_trail.kp b_trail .nil (passNev (P:=P) (w:=w)) (pa_cons (pv 2) (pa_cons (pv 3) pa_nil))))
   (pss_cons (ps_set (i:=7) sc_halved.nd rfl (Or.inl rfl) pe_int)
   (pss_cons (ps_set (i:=8) sc_halved.nd rfl (Or.inl rfl) (pv 5))
   (pss_cons (ps_while PassesOwn.never (pt_cmpR op_gt (pe_op op_sub (pv 8) (pv 7)) pe_int (nomark _))
   (pss_cons (ps_set (i:=9) sc_halved.nd rfl (Or.inl rfl) (pe_op op_fdiv (pe_op op_add (pv 7) (pv 8)) pe_int))
   (pss_cons (ps_set (i:=10) sc_halved.nd rfl (Or.inl rfl) (pe_op op_catT2 (pe_ix ix_list (pv 1) (pe_ix ix_list (pv 6) (pv 9) (fun _ _=>rfl)) (fun _ _=>rfl)) (pe_slice sl_tup (pv 3) (po_some (pv 9)) po_none)))
   (pss_cons (ps_set (i:=11) sc_halved.nd rfl (Or.inl rfl) (pe_meth (pv 0) W.cl_Book m_Book_told g_Book_told (hr.mono (by decide)) b_Book_told .nil pass0 (pa_cons (pv 10) pa_nil)))
   (pss_cons (ps_if (pt_cmpR op_isN (pv 11) pe_non (nomark _))
   (pss_one (ps_ret (pe_tup (pa_cons pe_str (pa_cons (pv 10) pa_nil)))))
   pss_nil)
   (pss_one (ps_if (pt_cmpR op_eq (pv 11) (pv 4) (nomark _))
   (pss_one (ps_set (i:=8) sc_halved.nd rfl (Or.inl rfl) (pv 9)))
   (pss_one (ps_set (i:=7) sc_halved.nd rfl (Or.inl rfl) (pv 9))))))))))
   (pss_one (ps_ret (pe_tup (pa_cons pe_str (pa_cons (pe_slice sl_tup (pv 3) (po_some (pv 8)) po_none) pa_nil))))))))),?_⟩
  obtain⟨⟨dxb,hb⟩,hd,nd⟩:=id bk
  walk_at "rd"
  refine⟨h,t,L,m,ws,v,rfl,hh,wf,SqT.of ht,hz,fun _ p H1 s1 hpN hp=>?_,fun z=>by rw[hv]at z;cases z⟩
  obtain⟨Pv,hPv⟩:∃Pv:Nat->St->Hp->Prop,∀n σ' H',Pv n σ' H'↔(∃(lo hi:Nat) (f:Nat) (o1 o2 o3:Option V),Same H1 H'/\n=hi-lo/\hi-lo<=f+1/\lo<hi/\hi<=v.length/\halfF es W' ws v mk v.length 0 v.length=halfF es W' ws v mk f lo hi/\σ'=[some (.ref b),some (.ref pw),some (.ref h),some (.ref t),some (.int mk),some (.int v.length),some (.ref p),some (.int lo),some (.int hi),o1,o2,o3]):=⟨_,fun _ _ _=>Iff.rfl⟩
  refine whileW Pv ⟨v.length,(hPv _ _ _).mpr ⟨0,v.length,v.length,none,none,none,Same.refl _,by omega,by omega,by omega,by omega,rfl,rfl⟩⟩ fun n σ' H' h'=>?_
  obtain⟨lo,hi,f,o1,o2,o3,s',hn,hf,hlo,hhi,e,rfl⟩:=(hPv _ _ _).mp h'
  walk_at "rd"
  by_cases hg:hi-lo > 1
  ·rw[if_pos (by omega)]
   refine⟨fun σ2 H2=>∃m',m'<n/\Pv m' σ2 H2,fun _ _ z=>z,?_⟩
   have em:((lo:Int)+(hi:Int)) / 2=(((lo+hi) / 2:Nat):Int):=by omega
   simp only[em]
   have hmid:(lo+hi) / 2<=v.length:=by omega
   obtain⟨kk,k1,k2⟩:=hacc _ hmid
   obtain⟨ta,a1,a2⟩:=(hW.mono (TK.of (s1.trans s'))).2 kk _ k2
   have ht':=(s1.trans s') _ _ ht
   refine⟨by show CDiv _ _;unfold CDiv;omega,_,SqL.of (s' _ _ hp),_,atI_nat (trailW_at ws v hmid),zs,_,rfl,SqL.of ((s1.trans s') _ _ hpw),_,(by rw[k1];exact atI_nat a1),_,SqT.of ht',?_,fun q hq=>?_⟩
   ·rw[HT.sIx_nat,HT.sIx_none,List.length_map];omega
   rw[cut_drop39]
   have sq:=Same.new (o:=.tup ((v.drop ((lo+hi) / 2)).map V.int)) hq
   have hlen:=hz2 _ (List.mem_of_getElem? k2)
   refine rCatT2.ofS (sq _ _ a2) upd_same (by rw[List.length_map,List.length_map,List.length_drop];omega) fun u H2 s2 hu=>?_
   rw[<-List.map_append]at hu
   have s3:=(s1.trans s').trans (sq.trans s2)
   have s4:=s'.trans (sq.trans s2)
   refine⟨_,_,s3 _ _ hb,bflds_no _ _ (by decide +kernel) (by decide +kernel),b,d,u,L,_,es,rfl,bk.mono s3,hu,fun hn2=>?_,fun t' hm=>?_⟩
   ·dsimp only
    rw[if_pos rfl]
    refine⟨by omega,fun x hx=>?_⟩
    obtain⟨f',rfl⟩:∃f',f=f'+1:=⟨f-1,by omega⟩
    refine (k _ (s3.newT hx)).1 _ u x ?_ (Same.new hx _ _ hu) upd_same
    rw[e]
    unfold halfF
    rw[if_pos hg,mkO_none hn2]
   ·dsimp only
    rw[if_neg (by simp)]
    obtain⟨f',rfl⟩:∃f',f=f'+1:=⟨f-1,by omega⟩
    have e2:halfF es W' ws v mk (f'+1) lo hi=if t'=mk then halfF es W' ws v mk f' lo ((lo+hi) / 2) else halfF es W' ws v mk f' ((lo+hi) / 2) hi:=by
     conv=>lhs;unfold halfF
     rw[if_pos hg,mkO_some nd hm]
    rw[e2]at e
    refine⟨rfl,?_⟩
    by_cases htm:t'=mk
    ·rw[if_pos (by rw[htm])]
     rw[if_pos htm]at e
     exact⟨_,by omega,(hPv _ _ _).mpr ⟨lo,(lo+hi) / 2,f',_,_,_,s4,rfl,by omega,by omega,by omega,e,rfl⟩⟩
    ·rw[if_neg (fun z=>htm (V.int.inj z))]
     rw[if_neg htm]at e
     exact⟨_,by omega,(hPv _ _ _).mpr ⟨(lo+hi) / 2,hi,f',_,_,_,s4,rfl,by omega,by omega,by omega,e,rfl⟩⟩
  ·rw[if_neg (by omega)]
   have ht':=(s1.trans s') _ _ ht
   refine⟨_,SqT.of ht',?_,fun q hq=>⟨by omega,fun x hx=>?_⟩⟩
   ·rw[HT.sIx_nat,HT.sIx_none,List.length_map];omega
   rw[cut_drop39]at hx ⊢
   have sq:=Same.new (o:=.tup ((v.drop hi).map V.int)) hq
   refine (k _ (((s1.trans s').trans sq).newT hx)).2 hi q x ?_ (Same.new hx _ _ upd_same) upd_same
   rw[e]
   cases f with
   |zero=>rfl
   |succ f=>unfold halfF;rw[if_neg hg]
def sp_lguess (K:PySem.W.Frag)(CA CB:Addr):Sp:=fun vs H Q _=>∃(a:Addr) (ad:AD) (s:AS) (wv:V) (B:Nat),vs=[.ref a]/\Asks K CA CB H a ad s wv/\OkX none B s/\s.G=[]/\Bd B s/\stranger s.L s.W s.E s.es=none/\∀H' r,Asks K CA CB H' a ad (lookW s).1 wv->Frm H H' a ad->((lookW s).2=none->r=.non)->(∀x,(lookW s).2=some x->WishAt K H' s.L r x)->Q r H'
theorem ok_Hunt_look_at_guess {f:Addr}{fd:FuncData}(F:Fun K "look_at_guess" "Hunt.look_at_guess" s_Hunt_look_at_guess f fd)(T:Txt mg)
  (W:Own K mg C_Book C_Turns C_Hunt C_Asker)
  (Z:Exs K mg C_AskError C_BadWord C_BadMark C_OutOfTurn C_NoDifference C_Contradiction)
  {f_Asker_make_guess:Addr} {fd_Asker_make_guess:FuncData} (g_Asker_make_guess:FnOk P w K mg base CX0 5 f_Asker_make_guess fd_Asker_make_guess ["self"] (sp_mkg K C_Asker C_Book)) (F_Asker_make_guess:Fun K "make_guess" "Asker.make_guess" s_Asker_make_guess f_Asker_make_guess fd_Asker_make_guess) (b_Asker_make_guess:Binds K fd_Asker_make_guess ["self"] []) (m_Asker_make_guess:Meth K C_Asker "make_guess" f_Asker_make_guess)
  {f_Asker_wrong_word:Addr} {fd_Asker_wrong_word:FuncData} (g_Asker_wrong_word:FnOk P w K mg base CX0 8 f_Asker_wrong_word fd_Asker_wrong_word ["self"] (sp_wrw K C_Asker C_Book)) (F_Asker_wrong_word:Fun K "wrong_word" "Asker.wrong_word" s_Asker_wrong_word f_Asker_wrong_word fd_Asker_wrong_word) (b_Asker_wrong_word:Binds K fd_Asker_wrong_word ["self"] []) (m_Asker_wrong_word:Meth K C_Asker "wrong_word" f_Asker_wrong_word)
  : FnOk P w K mg base CX0 9 f fd ["self"] (sp_lguess K C_Asker C_Book):=by
 refine F.ok sc_Hunt_look_at_guess (fun vs H Q E h=>?_) (fun cdv A outer s H vs Q E hr h=>?_)
 ·obtain⟨a,ad,s,wv,B,rfl,_⟩:=h;rfl
 ·obtain⟨a,ad,s,wv,B,rfl,⟨gv,rv,zs,ys,us,x⟩,ok,hG,bd,hst,k⟩:=h
  have hl:=line1000
  have sz:=ok.sz bd
  have tb:=ok.tb
  obtain⟨np,cl⟩:=tb.none (ok.full hG) hst
  have g:GuessOk s.L s.W s.E s.es (gMarks s.W s.es) (gWays s.L s.W s.E s.es):=tb.guess (ok.full hG) cl
  have wf:=tb.wf g
  refine⟨_,(pss_cons (ps_fld (pv 0) (pe_meth0 (pv 0) W.cl_Asker m_Asker_make_guess g_Asker_make_guess (hr.mono (by decide)) b_Asker_make_guess .nil pass0) rfl)
   (pss_cons (ps_fld (pv 0) (pe_meth0 (pv 0) W.cl_Asker m_Asker_wrong_word g_Asker_wrong_word (hr.mono (by decide)) b_Asker_wrong_word .nil pass0) rfl)
   (pss_cons (ps_if (pt_cmpR op_isN (pe_fld (pv 0) rfl) pe_non (nomark _))
   (pss_one (ps_ret (pe_tup (pa_cons pe_str (pa_cons (pe_fld (pv 0) rfl) pa_nil)))))
   pss_nil)
   (pss_one (ps_ret pe_non))))),?_⟩
  walk_at "rd"
  refine⟨_,_,x.ob,by kernel_rfl,a,ad,s,wv,rfl,⟨_,_,_,_,_,x⟩,sz,tb,ok.full hG,hst,fun h H1 s1 hh=>?_⟩
  have x1:=x.same s1
  refine⟨_,_,_,x1.ob,W.cl_Asker,W.n_Asker_guess,afl_len ..,?_⟩
  rw[afp_guess]
  have x2:=x1.put (wv':=wv) (gv':=.ref h) (rv':=rv) (s':={s with gs:=some (gMarks s.W s.es,gWays s.L s.W s.E s.es)}) rfl rfl rfl rfl rfl rfl ⟨h,rfl,hh⟩ x1.rv
  have f2:=(Frm.of s1 a ad).seq (x1.putF (.ins C_Asker ad.dx (afl wv s.L s.most ad.b ad.pw ad.pe ad.pg (.ref h) rv)))
  refine⟨_,_,x2.ob,by kernel_rfl,a,ad,_,wv,_,_,rfl,⟨_,_,_,_,_,x2⟩,rfl,wf,fun e he=>⟨(tb.bW e he).1,sz.b e he⟩,fun H3 s3=>⟨fun hno=>?_,fun v t hv ht=>?_⟩⟩
  ·have el:lookW s=({s with gs:=some (gMarks s.W s.es,gWays s.L s.W s.E s.es),wr:=none},some (.shown (gMarks s.W s.es) (gWays s.L s.W s.E s.es))):=by
    unfold lookW
    rw[hst]
    dsimp only
    rw[hno]
   have x3:=x2.same s3
   refine⟨_,_,_,x3.ob,W.cl_Asker,W.n_Asker_wrong,afl_len ..,?_⟩
   rw[afp_wrong]
   have x4:=x3.put (wv':=wv) (gv':=.ref h) (rv':=.non) (s':={s with gs:=some (gMarks s.W s.es,gWays s.L s.W s.E s.es),wr:=none}) rfl rfl rfl rfl rfl rfl x3.gv rfl
   have f4:=(f2.seq (Frm.of s3 a ad)).seq (x3.putF (.ins C_Asker ad.dx (afl wv s.L s.most ad.b ad.pw ad.pe ad.pg (.ref h) .non)))
   refine⟨_,_,_,x4.ob,W.cl_Asker,W.n_Asker_wrong,_,af_wrong ..,?_⟩
   rw[if_pos rfl]
   refine⟨_,_,_,x4.ob,W.cl_Asker,W.n_Asker_guess,_,af_guess ..,by omega,fun p hp=>?_⟩
   refine k _ _ ?_ (f4.seq (Frm.of (Same.new hp) a ad)) ?_ ?_
   ·rw[el];exact⟨_,_,_,_,_,x4.same (Same.new hp)⟩
   ·rw[el];exact fun z=>by cases z
   ·rw[el]
    intro y z
    cases z
    refine⟨p,h,rfl,upd_same,?_⟩
    obtain⟨h',e',hh'⟩:=(x4.same (Same.new hp)).gv
    cases e'
    exact hh'
  ·have el:lookW s=({s with gs:=some (gMarks s.W s.es,gWays s.L s.W s.E s.es),wr:=some v},none):=by
    unfold lookW
    rw[hst]
    dsimp only
    rw[hv]
   have x3:=x2.same s3
   refine⟨_,_,_,x3.ob,W.cl_Asker,W.n_Asker_wrong,afl_len ..,?_⟩
   rw[afp_wrong]
   have x4:=x3.put (wv':=wv) (gv':=.ref h) (rv':=.ref t) (s':={s with gs:=some (gMarks s.W s.es,gWays s.L s.W s.E s.es),wr:=some v}) rfl rfl rfl rfl rfl rfl x3.gv ⟨t,rfl,ht⟩
   have f4:=(f2.seq (Frm.of s3 a ad)).seq (x3.putF (.ins C_Asker ad.dx (afl wv s.L s.most ad.b ad.pw ad.pe ad.pg (.ref h) (.ref t))))
   refine⟨_,_,_,x4.ob,W.cl_Asker,W.n_Asker_wrong,_,af_wrong ..,?_⟩
   rw[if_neg (by simp)]
   refine k _ _ ?_ f4 ?_ ?_
   ·rw[el];exact⟨_,_,_,_,_,x4⟩
   ·rw[el];exact fun _=>rfl
   ·rw[el];exact fun y z=>by cases z
def sp_step (K:PySem.W.Frag)(CA CB:Addr)(pre:AS->Prop)(f:AS->AS×Option Wish):Sp:=fun vs H Q _=>∃(a:Addr) (ad:AD) (s:AS) (wv:V) (B:Nat),vs=[.ref a]/\Asks K CA CB H a ad s wv/\OkX none B s/\Bd B s/\pre s/\∀ad' H' r,Asks K CA CB H' a ad' (f s).1 wv->Frm H H' a ad->AdOk H ad ad'->((f s).2=none->r=.non)->(∀x,(f s).2=some x->WishAt K H' s.L r x)->Q r H'
theorem ok_Asker_look_at_words {f:Addr}{fd:FuncData}(F:Fun K "look_at_words" "Asker.look_at_words" s_Asker_look_at_words f fd)(T:Txt mg)
  (W:Own K mg C_Book C_Turns C_Hunt C_Asker)
  (Z:Exs K mg C_AskError C_BadWord C_BadMark C_OutOfTurn C_NoDifference C_Contradiction)
  {f_Asker_look_for_gaps:Addr} {fd_Asker_look_for_gaps:FuncData} (g_Asker_look_for_gaps:FnOk P w K mg base CX0 3 f_Asker_look_for_gaps fd_Asker_look_for_gaps ["self"] (sp_lgaps K C_Asker C_Book)) (F_Asker_look_for_gaps:Fun K "look_for_gaps" "Asker.look_for_gaps" s_Asker_look_for_gaps f_Asker_look_for_gaps fd_Asker_look_for_gaps) (b_Asker_look_for_gaps:Binds K fd_Asker_look_for_gaps ["self"] []) (m_Asker_look_for_gaps:Meth K C_Asker "look_for_gaps" f_Asker_look_for_gaps)
  {f_Hunt_look_at_guess:Addr} {fd_Hunt_look_at_guess:FuncData} (g_Hunt_look_at_guess:FnOk P w K mg base CX0 9 f_Hunt_look_at_guess fd_Hunt_look_at_guess ["self"] (sp_lguess K C_Asker C_Book)) (F_Hunt_look_at_guess:Fun K "look_at_guess" "Hunt.look_at_guess" s_Hunt_look_at_guess f_Hunt_look_at_guess fd_Hunt_look_at_guess) (b_Hunt_look_at_guess:Binds K fd_Hunt_look_at_guess ["self"] []) (m_Hunt_look_at_guess:Meth K C_Asker "look_at_guess" f_Hunt_look_at_guess)
  {f_stranger:Addr} {fd_stranger:FuncData} (g_stranger:FnOk P w K mg base CX0 4 f_stranger fd_stranger ["book","letters","access","ends"] (sp_strange K C_Book)) (F_stranger:Fun K "stranger" "stranger" s_stranger f_stranger fd_stranger) (b_stranger:Binds K fd_stranger ["book","letters","access","ends"] []) (m_stranger:mg "stranger"=some (.ref f_stranger))
  : FnOk P w K mg base CX0 10 f fd ["self"] (sp_step K C_Asker C_Book (fun s=>s.G=[]/\s.wr=none) lookW):=by
 refine F.ok sc_Asker_look_at_words (fun vs H Q E h=>?_) (fun cdv A outer s H vs Q E hr h=>?_)
 ·obtain⟨a,ad,s,wv,B,rfl,_⟩:=h;rfl
 ·obtain⟨a,ad,s,wv,B,rfl,⟨gv,rv,zs,ys,us,x⟩,ok,bd,⟨hG,hwr⟩,k⟩:=h
  have hl:=line1000
  have sz:=ok.sz bd
  have tb:=ok.tb
  have w1:=sz.w.1
  have e1:=sz.e.1
  refine⟨_,(pss_cons (ps_set (i:=1) sc_Asker_look_at_words.nd rfl (Or.inl rfl) (pe_call g_stranger (hr.mono (by decide)) rfl m_stranger F_stranger.kp b_stranger .nil pass0 (pa_cons (pe_fld (pv 0) rfl) (pa_cons (pe_fld (pv 0) rfl) (pa_cons (pe_fld (pv 0) rfl) (pa_cons (pe_fld (pv 0) rfl) pa_nil))))))
   (pss_cons (ps_if (pt_cmpR op_isN (pv 1) pe_non (nomark _))
   (pss_one (ps_ret (pe_meth0 (pv 0) W.cl_Asker m_Hunt_look_at_guess g_Hunt_look_at_guess (hr.mono (by decide)) b_Hunt_look_at_guess .nil pass0)))
   pss_nil)
   (pss_cons (ps_if (pt_cmpR op_eq (pe_callB call_len_seq (by rfl) T.len PySem.boot_len (pa_cons (pe_fld (pv 0) rfl) pa_nil)) (pe_fld (pv 0) rfl) (nomark _))
   (pss_one (ps_ret (pe_tup (pa_cons pe_str (pa_cons (pv 1) pa_nil)))))
   pss_nil)
   (pss_cons (ps_expr (pe_bm PySem.F.plainAttrs_list PySem.F.slot_list_append PySem.F.type_list_append mt_append (pe_fld (pv 0) rfl) (pa_cons (pv 1) pa_nil)))
   (pss_cons (ps_expr (pe_meth0 (pv 0) W.cl_Asker m_Asker_look_for_gaps g_Asker_look_for_gaps (hr.mono (by decide)) b_Asker_look_for_gaps .nil pass0))
   (pss_one (ps_ret pe_non))))))),?_⟩
  walk_at "rd"
  refine⟨_,_,_,x.ob,W.cl_Asker,W.n_Asker_book,_,af_book ..,_,_,_,x.ob,W.cl_Asker,W.n_Asker_letters,_,af_letters ..,_,_,_,x.ob,W.cl_Asker,W.n_Asker_ways,_,af_ways ..,_,_,_,x.ob,W.cl_Asker,W.n_Asker_ends,_,af_ends ..,ad.b,ad.d,ad.pw,ad.pe,s.L,s.L,s.es,zs,ys,s.W,s.E,gOf s.E s.es,rfl,x.bk,sz.l6,SqL.of x.w,x.wW,by omega,fun v hv=>by have:=sz.w.2 v hv;omega,SqL.of x.e,x.eW,by omega,sz.e.2,fun v hv=>gOf_is (ok.full hG) hv,fun r t H1 hst s1 ht=>?_,fun H1 hst s1=>?_⟩
  ·dsimp only
   rw[if_neg (by simp)]
   have x1:=x.same s1
   have f1:=Frm.of s1 a ad
   have k1:=AdOk.refl H ad
   refine⟨_,_,_,x1.ob,W.cl_Asker,W.n_Asker_ways,_,af_ways ..,ad.pw,rfl,_,.inl (SqL.of x1.w),_,_,_,x1.ob,W.cl_Asker,W.n_Asker_most,_,af_most ..,rfl,?_⟩
   rw[x1.wW.1]
   by_cases hm:s.W.length=s.most
   ·rw[if_pos (by rw[hm])]
    have el:lookW s=(s,some (.spent r)):=by
     unfold lookW
     rw[show stranger s.L s.W s.E s.es=some r from hst]
     dsimp only
     rw[if_pos hm]
    refine⟨by omega,fun p hp=>?_⟩
    refine k ad _ _ ?_ (f1.seq (Frm.of (Same.new hp) a ad)) k1 ?_ ?_
    ·rw[el];exact⟨_,_,_,_,_,x1.same (Same.new hp)⟩
    ·rw[el];exact fun z=>by cases z
    ·rw[el]
     intro y z
     cases z
     exact⟨p,t,rfl,upd_same,Same.new hp _ _ ht⟩
   ·rw[if_neg (fun z=>hm (by have:=V.int.inj z;omega))]
    have el:lookW s=({s with W:=s.W++[r],G:=gapsOf s.L (s.W++[r]) s.E s.es},none):=by
     unfold lookW
     rw[show stranger s.L s.W s.E s.es=some r from hst]
     dsimp only
     rw[if_neg hm]
    have x2:=x1.putW (x1.wW.snoc ht)
    have f2:=f1.seq (Frm.put (a:=a) (o:=.lst (zs++[.ref t])) (.inl rfl) ⟨_,x1.w⟩)
    obtain⟨o2,kp,_⟩:=(look_ok ok hG hwr).1 _ el
    have sz2:=o2.sz (B:=B) bd
    refine⟨_,_,_,x1.ob,W.cl_Asker,W.n_Asker_ways,_,af_ways ..,.inl ⟨rfl,_,SqL.of x1.w⟩,ad.pw,rfl,_,x1.w,by rw[x1.wW.1];omega,_,_,x2.ob,by kernel_rfl,a,ad,_,wv,rfl,⟨_,_,_,_,_,x2⟩,⟨sz2.l6,sz2.w,sz2.e,sz2.b⟩,fun ad' H3 x3 f3 k3=>?_⟩
    refine k ad' H3 _ ?_ (f2.trans k1 f3) (AdOk.trans f2 k1 k3) ?_ ?_
    ·rw[el];exact x3
    ·rw[el];exact fun _=>rfl
    ·rw[el];exact fun y z=>by cases z
  ·dsimp only
   rw[if_pos rfl]
   have x1:=x.same s1
   have f1:=Frm.of s1 a ad
   have k1:=AdOk.refl H ad
   exact⟨_,_,x1.ob,by kernel_rfl,a,ad,s,wv,B,rfl,⟨_,_,_,_,_,x1⟩,ok,hG,bd,hst,fun H3 r x3 f3=>k ad H3 r x3 (f1.seq f3) k1⟩
theorem ok_Asker_halve {f:Addr}{fd:FuncData}(F:Fun K "halve" "Asker.halve" s_Asker_halve f fd)(T:Txt mg)
  (W:Own K mg C_Book C_Turns C_Hunt C_Asker)
  (Z:Exs K mg C_AskError C_BadWord C_BadMark C_OutOfTurn C_NoDifference C_Contradiction)
  {f_halved:Addr} {fd_halved:FuncData} (g_halved:FnOk P w K mg base CX0 4 f_halved fd_halved ["book","access","guess","word","mark","last"] (sp_halved K C_Book)) (F_halved:Fun K "halved" "halved" s_halved f_halved fd_halved) (b_halved:Binds K fd_halved ["book","access","guess","word","mark","last"] []) (m_halved:mg "halved"=some (.ref f_halved))
  {f_Asker_look_for_gaps:Addr} {fd_Asker_look_for_gaps:FuncData} (g_Asker_look_for_gaps:FnOk P w K mg base CX0 3 f_Asker_look_for_gaps fd_Asker_look_for_gaps ["self"] (sp_lgaps K C_Asker C_Book)) (F_Asker_look_for_gaps:Fun K "look_for_gaps" "Asker.look_for_gaps" s_Asker_look_for_gaps f_Asker_look_for_gaps fd_Asker_look_for_gaps) (b_Asker_look_for_gaps:Binds K fd_Asker_look_for_gaps ["self"] []) (m_Asker_look_for_gaps:Meth K C_Asker "look_for_gaps" f_Asker_look_for_gaps)
  {f_Asker_answer:Addr} {fd_Asker_answer:FuncData} (g_Asker_answer:FnOk P w K mg base CX0 6 f_Asker_answer fd_Asker_answer ["self","house","word"] (sp_answer39 K)) (F_Asker_answer:Fun K "answer" "Asker.answer" s_Asker_answer f_Asker_answer fd_Asker_answer) (b_Asker_answer:Binds K fd_Asker_answer ["self","house","word"] []) (m_Asker_answer:Meth K C_Asker "answer" f_Asker_answer)
  : FnOk P w K mg base CX0 7 f fd ["self"] (sp_step K C_Asker C_Book (fun s=>s.G=[]/\s.wr≠none) nextW):=by
 refine F.ok sc_Asker_halve (fun vs H Q E h=>?_) (fun cdv A outer s H vs Q E hr h=>?_)
 ·obtain⟨a,ad,s,wv,B,rfl,_⟩:=h;rfl
 ·obtain⟨a,ad,s,wv,B,rfl,⟨gv,rv,zs,ys,us,x⟩,ok,bd,⟨hG,hwr⟩,k⟩:=h
  have hl:=line1000
  have sz:=ok.sz bd
  have tb:=ok.tb
  have w1:=sz.w.1
  have e1:=sz.e.1
  obtain⟨v,hv⟩:=Option.ne_none_iff_exists'.mp hwr
  obtain⟨_,hEW,hvW,hvl,m,ws,tt,hgs,g,htt,hne⟩:=ok.wr v hv
  have en:nextW s=halveW s v m ws:=by
   unfold nextW
   rw[hG,hv,hgs]
  have wf:=tb.wf g
  have hgv:=x.gv
  rw[hgs]at hgv
  obtain⟨h,rfl,hh⟩:=hgv
  have hrv:=x.rv
  rw[hv]at hrv
  obtain⟨t,rfl,ht⟩:=hrv
  refine⟨_,(pss_cons (ps_set (i:=1) sc_Asker_halve.nd rfl (Or.inl rfl) (pe_meth (pv 0) W.cl_Asker m_Asker_answer g_Asker_answer (hr.mono (by decide)) b_Asker_answer .nil pass0 (pa_cons (pe_fld (pv 0) rfl) (pa_cons (pe_fld (pv 0) rfl) pa_nil))))
   (pss_cons (ps_set (i:=2) sc_Asker_halve.nd rfl (Or.inl rfl) (pe_op op_sub (pe_callB call_len_seq (by rfl) T.len PySem.boot_len (pa_cons (pe_fld (pv 0) rfl) pa_nil)) (pe_callB call_len_seq (by rfl) T.len PySem.boot_len (pa_cons (pe_ix ix_list (pe_fld (pv 0) rfl) pe_int (fun _ _=>rfl)) pa_nil))))
   (pss_cons (ps_set (i:=3) sc_Asker_halve.nd rfl (Or.inl rfl) (pe_call g_halved (hr.mono (by decide)) rfl m_halved F_halved.kp b_halved .nil pass0 (pa_cons (pe_fld (pv 0) rfl) (pa_cons (pe_fld (pv 0) rfl) (pa_cons (pe_fld (pv 0) rfl) (pa_cons (pe_fld (pv 0) rfl) (pa_cons (pv 1) (pa_cons (pv 2) pa_nil))))))))
   (pss_cons (ps_if (pt_cmpR op_eq (pe_ix ix_tup (pv 3) pe_int (fun _ _=>rfl)) pe_str (nomark _))
   (pss_one (ps_ret (pv 3)))
   pss_nil)
   (pss_cons (ps_fld (pv 0) pe_non rfl)
   (pss_cons (ps_expr (pe_bm PySem.F.plainAttrs_list PySem.F.slot_list_append PySem.F.type_list_append mt_append (pe_fld (pv 0) rfl) (pa_cons (pe_ix ix_tup (pv 3) pe_int (fun _ _=>rfl)) pa_nil)))
   (pss_cons (ps_expr (pe_meth0 (pv 0) W.cl_Asker m_Asker_look_for_gaps g_Asker_look_for_gaps (hr.mono (by decide)) b_Asker_look_for_gaps .nil pass0))
   (pss_one (ps_ret pe_non))))))))),?_⟩
  walk_at "rd"
  have hv0:0<v.length:=by
   refine Nat.pos_of_ne_zero fun z=>hne ?_
   have:v=[]:=List.length_eq_zero_iff.mp z
   subst this
   obtain⟨y,y1,y2⟩:=g.m 0 [] tb.w0
   rw[htt]at y2
   cases y2
   show tt=m.getD 0 0
   rw[List.getD_eq_getElem?_getD,y1];rfl
  have hvl2:v.length<=600:=by
   have:=ok.lens
   unfold Bd at bd
   omega
  refine⟨_,_,x.ob,by kernel_rfl,_,_,_,x.ob,W.cl_Asker,W.n_Asker_guess,_,af_guess ..,_,_,_,x.ob,W.cl_Asker,W.n_Asker_wrong,_,af_wrong ..,a,h,t,s.L,m,ws,v,rfl,hh.house,wf,SqT.of ht,hvl2,hvW,fun H1 s1=>?_⟩
  have x1:=x.same s1
  have f1:=Frm.of s1 a ad
  have k1:=AdOk.refl H ad
  obtain⟨t0,q1,q2⟩:=x1.eW.2 0 [] tb.e0
  have ht1:=s1 _ _ ht
  refine⟨_,_,_,x1.ob,W.cl_Asker,W.n_Asker_wrong,_,af_wrong ..,t,rfl,_,.inr (SqT.of ht1),_,_,_,x1.ob,W.cl_Asker,W.n_Asker_ends,_,af_ends ..,ad.pe,rfl,_,SqL.of x1.e,_,atI_nat (j:=0) q1,t0,rfl,_,.inr (SqT.of q2),_,_,_,x1.ob,W.cl_Asker,W.n_Asker_book,_,af_book ..,_,_,_,x1.ob,W.cl_Asker,W.n_Asker_ways,_,af_ways ..,_,_,_,x1.ob,W.cl_Asker,W.n_Asker_guess,_,af_guess ..,_,_,_,x1.ob,W.cl_Asker,W.n_Asker_wrong,_,af_wrong ..,ad.b,ad.d,ad.pw,h,t,s.L,s.es,zs,s.W,m,ws,v,markW m (walkW ws v),by simp,x1.bk,x1.w,x1.wW,(hh.mono (TK.of s1)).house,wf,ht1,hvW,hv0,hvl2,sz.w.2,fun i _=>acc_at tb g hvW i,fun H2 s2=>⟨fun c u t' hc hu ht'=>?_,fun hi u t' hc hu ht'=>?_⟩⟩
  ·have el:nextW s=(s,some (.ask c)):=by
    rw[en]
    unfold halveW
    rw[hc]
   refine⟨t',rfl,_,SqT.of ht',_,rfl,rfl,?_⟩
   rw[if_pos rfl]
   refine k ad H2 _ ?_ (f1.seq (Frm.of s2 a ad)) k1 ?_ ?_
   ·rw[el];exact⟨_,_,_,_,_,x1.same s2⟩
   ·rw[el];exact fun z=>by cases z
   ·rw[el]
    intro y z
    cases z
    exact⟨t',u,rfl,ht',hu⟩
  ·have el:nextW s=({s with wr:=none,E:=s.E++[v.drop hi],G:=gapsOf s.L s.W (s.E++[v.drop hi]) s.es},none):=by
    rw[en]
    unfold halveW
    rw[hc]
   have x2:=x1.same s2
   have f2:=f1.seq (Frm.of s2 a ad)
   refine⟨t',rfl,_,SqT.of ht',_,rfl,rfl,?_⟩
   rw[if_neg (fun z=>absurd (V.str.inj z) (by decide +kernel))]
   refine⟨_,_,_,x2.ob,W.cl_Asker,W.n_Asker_wrong,afl_len ..,?_⟩
   rw[afp_wrong]
   have x3:=x2.put (wv':=wv) (gv':=.ref h) (rv':=.non) (s':={s with wr:=none}) rfl rfl rfl rfl rfl rfl x2.gv rfl
   have f3:=f2.seq (x2.putF (.ins C_Asker ad.dx (afl wv s.L s.most ad.b ad.pw ad.pe ad.pg (.ref h) .non)))
   have tk3:=x2.tkob (.ins C_Asker ad.dx (afl wv s.L s.most ad.b ad.pw ad.pe ad.pg (.ref h) .non))
   have ht3:=tk3 _ _ ht'
   have hu3:=tk3 _ _ hu
   have x4:=x3.putE (x3.eW.snoc hu3)
   have f4:=f3.seq (Frm.put (a:=a) (o:=.lst (ys++[.ref u])) (.inr (.inl rfl)) ⟨_,x3.e⟩)
   obtain⟨o2,kp,_⟩:=(next_ok ok).1 _ el
   have sz2:=o2.sz (B:=B) bd
   refine⟨_,_,_,x3.ob,W.cl_Asker,W.n_Asker_ends,_,af_ends ..,.inl ⟨rfl,_,SqL.of x3.e⟩,t',rfl,_,SqT.of ht3,_,rfl,ad.pe,rfl,_,x3.e,by rw[x3.eW.1];show s.E.length<_;omega,_,_,x4.ob,by kernel_rfl,a,ad,_,wv,rfl,⟨_,_,_,_,_,x4⟩,⟨sz2.l6,sz2.w,sz2.e,sz2.b⟩,fun ad' H3 x5 f5 k5=>?_⟩
   refine k ad' H3 _ ?_ (f4.trans k1 f5) (AdOk.trans f4 k1 k5) ?_ ?_
   ·rw[el];exact x5
   ·rw[el];exact fun _=>rfl
   ·rw[el];exact fun y z=>by cases z
theorem ok_Hunt_next_wish {f:Addr}{fd:FuncData}(F:Fun K "next_wish" "Hunt.next_wish" s_Hunt_next_wish f fd)(T:Txt mg)
  (W:Own K mg C_Book C_Turns C_Hunt C_Asker)
  (Z:Exs K mg C_AskError C_BadWord C_BadMark C_OutOfTurn C_NoDifference C_Contradiction)
  {f_Asker_halve:Addr} {fd_Asker_halve:FuncData} (g_Asker_halve:FnOk P w K mg base CX0 7 f_Asker_halve fd_Asker_halve ["self"] (sp_step K C_Asker C_Book (fun s=>s.G=[]/\s.wr≠none) nextW)) (F_Asker_halve:Fun K "halve" "Asker.halve" s_Asker_halve f_Asker_halve fd_Asker_halve) (b_Asker_halve:Binds K fd_Asker_halve ["self"] []) (m_Asker_halve:Meth K C_Asker "halve" f_Asker_halve)
  {f_Asker_look_at_words:Addr} {fd_Asker_look_at_words:FuncData} (g_Asker_look_at_words:FnOk P w K mg base CX0 10 f_Asker_look_at_words fd_Asker_look_at_words ["self"] (sp_step K C_Asker C_Book (fun s=>s.G=[]/\s.wr=none) lookW)) (F_Asker_look_at_words:Fun K "look_at_words" "Asker.look_at_words" s_Asker_look_at_words f_Asker_look_at_words fd_Asker_look_at_words) (b_Asker_look_at_words:Binds K fd_Asker_look_at_words ["self"] []) (m_Asker_look_at_words:Meth K C_Asker "look_at_words" f_Asker_look_at_words)
  : FnOk P w K mg base CX0 11 f fd ["self"] (sp_step K C_Asker C_Book (fun _=>True) nextW):=by
 refine F.ok sc_Hunt_next_wish (fun vs H Q E h=>?_) (fun cdv A outer s H vs Q E hr h=>?_)
 ·obtain⟨a,ad,s,wv,B,rfl,_⟩:=h;rfl
 ·obtain⟨a,ad,s,wv,B,rfl,⟨gv,rv,zs,ys,us,x⟩,ok,bd,_,k⟩:=h
  have hl:=line1000
  refine⟨_,(pss_cons (ps_if (pt_cmpR op_gt (pe_callB call_len_seq (by rfl) T.len PySem.boot_len (pa_cons (pe_fld (pv 0) rfl) pa_nil)) pe_int (nomark _))
   (pss_one (ps_ret (pe_tup (pa_cons pe_str (pa_cons (pe_bm PySem.F.plainAttrs_list PySem.F.slot_list_pop PySem.F.type_list_pop mt_popAt (pe_fld (pv 0) rfl) (pa_cons pe_int pa_nil)) pa_nil)))))
   pss_nil)
   (pss_cons (ps_if (pt_cmpR op_notN (pe_fld (pv 0) rfl) pe_non (nomark _))
   (pss_one (ps_ret (pe_meth0 (pv 0) W.cl_Asker m_Asker_halve g_Asker_halve (hr.mono (by decide)) b_Asker_halve .nil pass0)))
   pss_nil)
   (pss_one (ps_ret (pe_meth0 (pv 0) W.cl_Asker m_Asker_look_at_words g_Asker_look_at_words (hr.mono (by decide)) b_Asker_look_at_words .nil pass0))))),?_⟩
  walk_at "rd"
  refine⟨_,_,_,x.ob,W.cl_Asker,W.n_Asker_gaps,_,af_gaps ..,ad.pg,rfl,_,.inl (SqL.of x.g),?_⟩
  cases hG:s.G with
  |cons c r=>
   have hgl:us.length=r.length+1:=by rw[x.gW.1,hG];rfl
   have hgW:=x.gW
   rw[hG]at hgW
   obtain⟨tc,g1,g2⟩:=hgW.2 0 c rfl
   rw[if_pos (by omega)]
   have el:nextW s=({s with G:=r},some (.ask c)):=by
    unfold nextW
    rw[hG]
   have x2:=x.putG (WordsT.tail39 hgW)
   have f2:Frm H (upd H ad.pg (.lst (us.eraseIdx 0))) a ad:=Frm.put (.inr (.inr (.inl rfl))) ⟨_,x.g⟩
   have tk2:=TK.lst x.g (o:=.lst (us.eraseIdx 0))
   refine⟨_,_,_,x.ob,W.cl_Asker,W.n_Asker_gaps,_,af_gaps ..,.inl ⟨rfl,_,SqL.of x.g⟩,ad.pg,rfl,_,x.g,by decide,by decide,0,seqI39 (i:=0) (by omega),_,g1,by omega,fun p hp=>?_⟩
   refine k ad _ _ ?_ (f2.seq (Frm.of (Same.new hp) a ad)) (AdOk.refl H ad) ?_ ?_
   ·rw[el];exact⟨_,_,_,_,_,x2.same (Same.new hp)⟩
   ·rw[el];exact fun z=>by cases z
   ·rw[el]
    intro y z
    cases z
    exact⟨p,tc,rfl,upd_same,Same.new hp _ _ (tk2 _ _ g2)⟩
  |nil=>
   rw[if_neg (by rw[x.gW.1,hG];simp)]
   refine⟨_,_,_,x.ob,W.cl_Asker,W.n_Asker_wrong,_,af_wrong ..,?_⟩
   cases hwr:s.wr with
   |none=>
    have hrv:=x.rv
    rw[hwr]at hrv
    have hrv:rv=.non:=hrv
    subst hrv
    have en:nextW s=lookW s:=by
     unfold nextW
     rw[hG,hwr]
    rw[en]at k
    rw[if_neg (by simp)]
    exact⟨_,_,x.ob,by kernel_rfl,a,ad,s,wv,B,rfl,⟨_,_,_,_,_,x⟩,ok,bd,⟨hG,hwr⟩,k⟩
   |some v=>
    have hrv:=x.rv
    rw[hwr]at hrv
    obtain⟨t,rfl,ht⟩:=hrv
    rw[if_pos (by simp)]
    exact⟨_,_,x.ob,by kernel_rfl,a,ad,s,wv,B,rfl,⟨_,_,_,_,_,x⟩,ok,bd,⟨hG,by rw[hwr];simp⟩,k⟩
def sp_goon (K:PySem.W.Frag)(CA CB:Addr):Sp:=fun vs H Q _=>∃(a:Addr) (ad:AD) (s:AS) (wv:V) (B:Nat),vs=[.ref a]/\Asks K CA CB H a ad s wv/\OkX none B s/\Bd B s/\∀ad' H' s' x wv',Goes s s' x->Asks K CA CB H' a ad' s' wv'->WishAt K H' s.L wv' x->Frm H H' a ad->AdOk H ad ad'->Q .non H'
theorem ok_Turns_go_on {f:Addr}{fd:FuncData}(F:Fun K "go_on" "Turns.go_on" s_Turns_go_on f fd)(T:Txt mg)
  (W:Own K mg C_Book C_Turns C_Hunt C_Asker)
  (Z:Exs K mg C_AskError C_BadWord C_BadMark C_OutOfTurn C_NoDifference C_Contradiction)
  {f_Hunt_next_wish:Addr} {fd_Hunt_next_wish:FuncData} (g_Hunt_next_wish:FnOk P w K mg base CX0 11 f_Hunt_next_wish fd_Hunt_next_wish ["self"] (sp_step K C_Asker C_Book (fun _=>True) nextW)) (F_Hunt_next_wish:Fun K "next_wish" "Hunt.next_wish" s_Hunt_next_wish f_Hunt_next_wish fd_Hunt_next_wish) (b_Hunt_next_wish:Binds K fd_Hunt_next_wish ["self"] []) (m_Hunt_next_wish:Meth K C_Asker "next_wish" f_Hunt_next_wish)
  : FnOk P w K mg base CX0 12 f fd ["self"] (sp_goon K C_Asker C_Book):=by
 refine F.ok sc_Turns_go_on (fun vs H Q E h=>?_) (fun cdv A outer s H vs Q E hr h=>?_)
 ·obtain⟨a,ad,s,wv,B,rfl,_⟩:=h;rfl
 ·obtain⟨a,ad,s,wv,B,rfl,⟨gv,rv,zs,ys,us,x⟩,ok,bd,k⟩:=h
  have hl:=line1000
  refine⟨_,(pss_cons (ps_fld (pv 0) (pe_meth0 (pv 0) W.cl_Asker m_Hunt_next_wish g_Hunt_next_wish (hr.mono (by decide)) b_Hunt_next_wish .nil pass0) rfl)
   (pss_one (ps_while PassesOwn.never (pt_cmpR op_isN (pe_fld (pv 0) rfl) pe_non (nomark _))
   (pss_one (ps_fld (pv 0) (pe_meth0 (pv 0) W.cl_Asker m_Hunt_next_wish g_Hunt_next_wish (hr.mono (by decide)) b_Hunt_next_wish .nil pass0) rfl))))),?_⟩
  walk_at "rd"
  obtain⟨Pv,hPv⟩:∃Pv:Nat->St->Hp->Prop,∀n σ' H',Pv n σ' H'↔(∃(ad1:AD) (s1:AS) (wv1:V),Asks K C_Asker C_Book H' a ad1 s1 wv1/\Frm H H' a ad/\AdOk H ad ad1/\σ'=[some (.ref a)]/\((wv1=.non/\OkX none B s1/\Kept s s1/\(∀s' y,Goes s1 s' y->Goes s s' y)/\n=mu s1+1) \/ ∃y,WishAt K H' s.L wv1 y/\Goes s s1 y/\n=0)):=⟨_,fun _ _ _=>Iff.rfl⟩
  have step:∀(s1:AS) (ad1:AD) (wv1:V) (H1:Hp) (M:Nat),Asks K C_Asker C_Book H1 a ad1 s1 wv1->Frm H H1 a ad->AdOk H ad ad1->OkX none B s1->Kept s s1->(∀s' y,Goes s1 s' y->Goes s s' y)->mu s1<=M->∃x x_1,H1 a=some (HO.ins C_Asker x x_1)/\List.lookup ("next_wish" : Str) x_1=none/\sp_step K C_Asker C_Book (fun x=>True) nextW [V.ref a] H1 (fun y H1=>∃x x_2 x_3,H1 a=some (HO.ins x x_2 x_3)/\Cls K x/\NoAttr K x ("wish" : Str)/\x_3.length<1000/\∃m',m'<M+1/\Pv m' [some (V.ref a)] (upd H1 a (HO.ins x x_2 (putF ("wish" : Str) y x_3)))) E0:=by
   rintro s1 ad1 wv1 H1 M ⟨gv,rv,zs,ys,us,x1⟩ f1 k1 ok1 kp1 go1 hM
   refine⟨_,_,x1.ob,by kernel_rfl,a,ad1,s1,wv1,B,rfl,⟨_,_,_,_,_,x1⟩,ok1,by unfold Bd at bd ⊢;rw[kp1.m];exact bd,trivial,fun ad2 H2 r x2 f2 k2 hN hS=>?_⟩
   obtain⟨gv2,rv2,zs2,ys2,us2,x2⟩:=x2
   refine⟨_,_,_,x2.ob,W.cl_Asker,W.n_Asker_wish,afl_len ..,?_⟩
   rw[afp_wish]
   have x3:=x2.put (wv':=r) (gv':=gv2) (rv':=rv2) (s':=(nextW s1).1) rfl rfl rfl rfl rfl rfl x2.gv x2.rv
   have f3:=(f1.trans k1 f2).trans (AdOk.trans f1 k1 k2) (x2.putF (.ins C_Asker ad2.dx (afl r (nextW s1).1.L (nextW s1).1.most ad2.b ad2.pw ad2.pe ad2.pg gv2 rv2)))
   have tk:=x2.tkob (.ins C_Asker ad2.dx (afl r (nextW s1).1.L (nextW s1).1.most ad2.b ad2.pw ad2.pe ad2.pg gv2 rv2))
   have k3:=AdOk.trans f1 k1 k2
   cases hn:(nextW s1).2 with
   |none=>
    have e1:nextW s1=((nextW s1).1,none):=by rw[<-hn]
    obtain⟨ok2,kp2,hmu⟩:=(next_ok ok1).1 _ e1
    refine⟨mu (nextW s1).1+1,by omega,(hPv _ _ _).mpr ⟨ad2,_,r,⟨_,_,_,_,_,x3⟩,f3,k3,rfl,.inl ⟨hN hn,ok2,⟨kp2.l.trans kp1.l,kp2.m.trans kp1.m,kp2.e.trans kp1.e⟩,fun s' y hy=>go1 s' y (.more e1 hy),rfl⟩⟩⟩
   |some y=>
    have e1:nextW s1=((nextW s1).1,some y):=by rw[<-hn]
    have hw:=(hS y hn).mono tk
    rw[kp1.l]at hw
    exact⟨0,by omega,(hPv _ _ _).mpr ⟨ad2,_,r,⟨_,_,_,_,_,x3⟩,f3,k3,rfl,.inr ⟨y,hw,go1 _ _ (.stop e1),rfl⟩⟩⟩
  obtain⟨c1,c2,c3,c4,c5⟩:=step s ad wv H (mu s+1) ⟨_,_,_,_,_,x⟩ (Frm.of (Same.refl _) a ad) (AdOk.refl H ad) ok ⟨rfl,rfl,rfl⟩ (fun _ _ z=>z) (by omega)
  refine⟨c1,c2,c3,c4,?_⟩
  obtain⟨a',ad',s',wv',B',e1,e2,e3,e4,e5,e6⟩:=c5
  refine⟨a',ad',s',wv',B',e1,e2,e3,e4,e5,fun ad2 H2 r x2 f2 k2 hN hS=>?_⟩
  obtain⟨d1,d2,d3,d4,d5,d6,d7,m',_,d8⟩:=e6 ad2 H2 r x2 f2 k2 hN hS
  refine⟨d1,d2,d3,d4,d5,d6,d7,whileW Pv ⟨m',d8⟩ fun n σ' H' h'=>?_⟩
  obtain⟨ad1,s1,wv1,⟨gv,rv,zs,ys,us,x1⟩,f1,k1,rfl,hh⟩:=(hPv _ _ _).mp h'
  walk_at "rd"
  refine⟨_,_,_,x1.ob,W.cl_Asker,W.n_Asker_wish,_,af_wish ..,?_⟩
  rcases hh with ⟨rfl,ok1,kp1,go1,hn⟩|⟨y,hw,go1,hn⟩
  ·rw[if_pos rfl]
   refine⟨fun σ2 H2=>∃m',m'<n/\Pv m' σ2 H2,fun _ _ z=>z,?_⟩
   subst hn
   exact step s1 ad1 _ H' (mu s1) ⟨_,_,_,_,_,x1⟩ f1 k1 ok1 kp1 go1 (by omega)
  ·obtain⟨t,u,e,_⟩:=id hw
   rw[if_neg (by rw[e];simp)]
   exact k ad1 _ s1 y wv1 go1 ⟨_,_,_,_,_,x1⟩ hw f1 k1
def Then39 (K:PySem.W.Frag)(CA CB:Addr)(H:Hp)(a:Addr)(ad:AD)(s:AS)(Q:VK):Prop:=∀ad' H' s' x' wv',Goes s s' x'->Asks K CA CB H' a ad' s' wv'->WishAt K H' s.L wv' x'->Frm H H' a ad->AdOk H ad ad'->Q .non H'
def sp_keep (K:PySem.W.Frag)(CA CB OT BM:Addr):Sp:=fun vs H Q E=>∃(a:Addr) (ad:AD) (s:AS) (wv:V) (x:Wish) (B:Nat) (m:Int),vs=[.ref a,.int m]/\Asks K CA CB H a ad s wv/\WishAt K H s.L wv x/\WOk B s x/\Bd B s/\s.es.length<=100000/\(x.tag ≠ "ask" -> E (.ref OT) none H)/\∀c,x=.ask c->(¬ (0<=m/\m<=1000000000)->∀H',Same H H'->E (.ref BM) none H')/\(0<=m->m<=1000000000->Then39 K CA CB H a ad {s with es:=s.es++[(c,m)]} Q)
theorem ok_Hunt_keep_answer {f:Addr}{fd:FuncData}(F:Fun K "keep_answer" "Hunt.keep_answer" s_Hunt_keep_answer f fd)(T:Txt mg)
  (W:Own K mg C_Book C_Turns C_Hunt C_Asker)
  (Z:Exs K mg C_AskError C_BadWord C_BadMark C_OutOfTurn C_NoDifference C_Contradiction)
  {f_Turns_go_on:Addr} {fd_Turns_go_on:FuncData} (g_Turns_go_on:FnOk P w K mg base CX0 12 f_Turns_go_on fd_Turns_go_on ["self"] (sp_goon K C_Asker C_Book)) (F_Turns_go_on:Fun K "go_on" "Turns.go_on" s_Turns_go_on f_Turns_go_on fd_Turns_go_on) (b_Turns_go_on:Binds K fd_Turns_go_on ["self"] []) (m_Turns_go_on:Meth K C_Asker "go_on" f_Turns_go_on)
  {f_Turns_check_wants:Addr} {fd_Turns_check_wants:FuncData} (g_Turns_check_wants:FnOk P w K mg base (CXe P w) 1 f_Turns_check_wants fd_Turns_check_wants ["self","deed"] (sp_cwants K C_Asker C_Book C_OutOfTurn)) (F_Turns_check_wants:Fun K "check_wants" "Turns.check_wants" s_Turns_check_wants f_Turns_check_wants fd_Turns_check_wants) (b_Turns_check_wants:Binds K fd_Turns_check_wants ["self","deed"] []) (m_Turns_check_wants:Meth K C_Asker "check_wants" f_Turns_check_wants)
  {f_Book_put:Addr} {fd_Book_put:FuncData} (g_Book_put:FnOk P w K mg base (CXe P w) 4 f_Book_put fd_Book_put ["self","word","mark"] (sp_book_putE C_Book C_BadWord C_BadMark C_Contradiction)) (F_Book_put:Fun K "put" "Book.put" s_Book_put f_Book_put fd_Book_put) (b_Book_put:Binds K fd_Book_put ["self","word","mark"] []) (m_Book_put:Meth K C_Book "put" f_Book_put)
  : FnOk P w K mg base (CXe P w) 13 f fd ["self","number"] (sp_keep K C_Asker C_Book C_OutOfTurn C_BadMark):=by
 refine F.okE sc_Hunt_keep_answer (fun vs H Q E h=>?_) (fun cdv A outer s H vs Q E hr h=>?_)
 ·obtain⟨a,ad,s,wv,x,B,m,rfl,_⟩:=h;rfl
 ·obtain⟨a,ad,s,wv,y,B,m,rfl,⟨gv,rv,zs,ys,us,x⟩,hw,ok,bd,hz,kE,k⟩:=h
  have hl:=line1000
  refine⟨_,(pss_cons (ps_expr (pe_meth (pv 0) W.cl_Asker m_Turns_check_wants g_Turns_check_wants (hr.mono (by decide)) b_Turns_check_wants .nil (passE fun _ _ _ h=>h) (pa_cons pe_str pa_nil)))
   (pss_cons (ps_expr (pe_meth (pe_fld (pv 0) rfl) W.cl_Book m_Book_put g_Book_put (hr.mono (by decide)) b_Book_put .nil (passE fun _ _ _ h=>h) (pa_cons (pe_ix ix_tup (pe_fld (pv 0) rfl) pe_int (fun _ _=>rfl)) (pa_cons (pv 1) pa_nil))))
   (pss_one (ps_expr (pe_meth0 (pv 0) W.cl_Asker m_Turns_go_on g_Turns_go_on (hr.mono (by decide)) b_Turns_go_on .nil pass0))))),?_⟩
  walk_at "rd"
  refine⟨_,_,x.ob,by kernel_rfl,a,ad,s,wv,y,"ask",rfl,⟨_,_,_,_,_,x⟩,hw,fun htag=>?_,kE⟩
  cases y with
  |shown mm ws=>exact absurd htag (show ¬ ("show" : Str) = "ask" by decide +kernel)
  |done mm ws=>exact absurd htag (show ¬ ("done" : Str) = "ask" by decide +kernel)
  |spent c=>exact absurd htag (show ¬ ("spent" : Str) = "ask" by decide +kernel)
  |ask c=>
   obtain⟨t,u,rfl,ht,hu⟩:=hw
   obtain⟨kM,kk⟩:=k c rfl
   obtain⟨okc,hn,hc,hlen,hg⟩:=ok
   obtain⟨dxb,hb⟩:=x.bk.ob
   have hnk:c∉s.es.map (·.1):=fun z=>by
    obtain⟨n,hn'⟩:=mkO_key.mp z
    rw[hn]at hn';cases hn'
   have hcl:c.length<=900:=by
    have h1:=okc.lens
    unfold Bd at bd
    split at hlen<;>omega
   refine⟨_,_,_,x.ob,W.cl_Asker,W.n_Asker_book,_,af_book ..,ad.b,rfl,_,_,hb,bflds_no _ _ (by decide +kernel) (by decide +kernel),_,_,_,x.ob,W.cl_Asker,W.n_Asker_wish,_,af_wish ..,t,rfl,_,SqT.of ht,_,rfl,ad.b,ad.d,u,s.L,m,c,s.es,rfl,x.bk,hu,hcl,hz,fun z=>(by rw[hc]at z;cases z),fun _ hm H' s'=>kM hm H' s',fun _ _ _ n hin _ _ _=>absurd (List.mem_map.mpr ⟨_,hin,rfl⟩) hnk,fun _ h0 h9 _ H' hb' hf=>?_⟩
   unfold putE at hb'
   rw[if_neg hnk]at hb'
   obtain⟨x2,f2,tk2⟩:=x.putB hb' hf
   exact⟨_,_,x2.ob,by kernel_rfl,a,ad,_,_,B,rfl,⟨_,_,_,_,_,x2⟩,okc.told (fun b hb=>(Option.some.inj hb).symm) hnk hc h0 h9 hlen hg,bd,fun ad' H3 s' y' wv' go x3 hw3 f3 k3=>kk h0 h9 ad' H3 s' y' wv' go x3 hw3 (f2.trans (AdOk.refl H ad) f3) (AdOk.trans f2 (AdOk.refl H ad) k3)⟩
def sp_agree (K:PySem.W.Frag)(CA CB OT:Addr):Sp:=fun vs H Q E=>∃(a:Addr) (ad:AD) (s:AS) (wv:V) (x:Wish),vs=[.ref a]/\Asks K CA CB H a ad s wv/\WishAt K H s.L wv x/\(x.tag ≠ "show" -> E (.ref OT) none H)/\∀mm ws,x=.shown mm ws->∀H' wv',Asks K CA CB H' a ad s wv'->WishAt K H' s.L wv' (.done mm ws)->Frm H H' a ad->Q .non H'
theorem ok_Hunt_agree {f:Addr}{fd:FuncData}(F:Fun K "agree" "Hunt.agree" s_Hunt_agree f fd)(T:Txt mg)
  (W:Own K mg C_Book C_Turns C_Hunt C_Asker)
  (Z:Exs K mg C_AskError C_BadWord C_BadMark C_OutOfTurn C_NoDifference C_Contradiction)
  {f_Turns_check_wants:Addr} {fd_Turns_check_wants:FuncData} (g_Turns_check_wants:FnOk P w K mg base (CXe P w) 1 f_Turns_check_wants fd_Turns_check_wants ["self","deed"] (sp_cwants K C_Asker C_Book C_OutOfTurn)) (F_Turns_check_wants:Fun K "check_wants" "Turns.check_wants" s_Turns_check_wants f_Turns_check_wants fd_Turns_check_wants) (b_Turns_check_wants:Binds K fd_Turns_check_wants ["self","deed"] []) (m_Turns_check_wants:Meth K C_Asker "check_wants" f_Turns_check_wants)
  : FnOk P w K mg base (CXe P w) 2 f fd ["self"] (sp_agree K C_Asker C_Book C_OutOfTurn):=by
 refine F.okE sc_Hunt_agree (fun vs H Q E h=>?_) (fun cdv A outer s H vs Q E hr h=>?_)
 ·obtain⟨a,ad,s,wv,x,rfl,_⟩:=h;rfl
 ·obtain⟨a,ad,s,wv,y,rfl,⟨gv,rv,zs,ys,us,x⟩,hw,kE,k⟩:=h
  have hl:=line1000
  refine⟨_,(pss_cons (ps_expr (pe_meth (pv 0) W.cl_Asker m_Turns_check_wants g_Turns_check_wants (hr.mono (by decide)) b_Turns_check_wants .nil (passE fun _ _ _ h=>h) (pa_cons pe_str pa_nil)))
   (pss_one (ps_fld (pv 0) (pe_tup (pa_cons pe_str (pa_cons (pe_ix ix_tup (pe_fld (pv 0) rfl) pe_int (fun _ _=>rfl)) pa_nil))) rfl))),?_⟩
  walk_at "rd"
  refine⟨_,_,x.ob,by kernel_rfl,a,ad,s,wv,y,"show",rfl,⟨_,_,_,_,_,x⟩,hw,fun htag=>?_,kE⟩
  cases y with
  |ask c=>exact absurd htag (show ¬ ("ask" : Str) = "show" by decide +kernel)
  |done mm ws=>exact absurd htag (show ¬ ("done" : Str) = "show" by decide +kernel)
  |spent c=>exact absurd htag (show ¬ ("spent" : Str) = "show" by decide +kernel)
  |shown mm ws=>
   obtain⟨t,u,rfl,ht,hu⟩:=hw
   refine⟨_,_,_,x.ob,W.cl_Asker,W.n_Asker_wish,_,af_wish ..,t,rfl,_,SqT.of ht,_,rfl,by omega,fun p hp=>?_⟩
   have x1:=x.same (Same.new hp (o:=.tup [.str "done",.ref u]))
   refine⟨_,_,_,x1.ob,W.cl_Asker,W.n_Asker_wish,afl_len ..,?_⟩
   rw[afp_wish]
   have x2:=x1.put (wv':=.ref p) (gv':=gv) (rv':=rv) (s':=s) rfl rfl rfl rfl rfl rfl x1.gv x1.rv
   have tk:=x1.tkob (.ins C_Asker ad.dx (afl (.ref p) s.L s.most ad.b ad.pw ad.pe ad.pg gv rv))
   exact k mm ws rfl _ _ ⟨_,_,_,_,_,x2⟩ ⟨p,u,rfl,tk _ _ upd_same,HouT.mono hu (TK.trans (TK.new hp) tk)⟩ ((Frm.of (Same.new hp) a ad).seq (x1.putF _))
def sp_obj (K:PySem.W.Frag)(CA CB OT BW BM ND CO:Addr):Sp:=fun vs H Q E=>∃(a t:Addr) (ad:AD) (s:AS) (wv:V) (x:Wish) (B:Nat) (w:List Int) (m:Int),vs=[.ref a,.ref t,.int m]/\Asks K CA CB H a ad s wv/\WishAt K H s.L wv x/\WOk B s x/\Bd B s/\s.es.length<=100000/\H t=some (.tup (w.map V.int))/\w.length<=600/\(x.tag ≠ "show" -> E (.ref OT) none H)/\∀mm ws,x=.shown mm ws->(isW s.L w=false->∀H',Same H H'->E (.ref BW) none H')/\(isW s.L w=true->¬ (0<=m/\m<=1000000000)->∀H',Same H H'->E (.ref BM) none H')/\(isW s.L w=true->0<=m->m<=1000000000->(markW mm (walkW ws w)=m->∀H',Same H H'->E (.ref ND) none H')/\(markW mm (walkW ws w)≠m->w∈s.es.map (·.1)->∀H',Same H H'->E (.ref CO) none H')/\(markW mm (walkW ws w)≠m->w∉s.es.map (·.1)->w.length<=B+(s.most+1)*s.E.length/\Then39 K CA CB H a ad {s with es:=s.es++[(w,m)]} Q))
theorem ok_Hunt_keep_objection {f:Addr}{fd:FuncData}(F:Fun K "keep_objection" "Hunt.keep_objection" s_Hunt_keep_objection f fd)(T:Txt mg)
  (W:Own K mg C_Book C_Turns C_Hunt C_Asker)
  (Z:Exs K mg C_AskError C_BadWord C_BadMark C_OutOfTurn C_NoDifference C_Contradiction)
  {f_Asker_answer:Addr} {fd_Asker_answer:FuncData} (g_Asker_answer:FnOk P w K mg base CX0 6 f_Asker_answer fd_Asker_answer ["self","house","word"] (sp_answer39 K)) (F_Asker_answer:Fun K "answer" "Asker.answer" s_Asker_answer f_Asker_answer fd_Asker_answer) (b_Asker_answer:Binds K fd_Asker_answer ["self","house","word"] []) (m_Asker_answer:Meth K C_Asker "answer" f_Asker_answer)
  {f_Turns_go_on:Addr} {fd_Turns_go_on:FuncData} (g_Turns_go_on:FnOk P w K mg base CX0 12 f_Turns_go_on fd_Turns_go_on ["self"] (sp_goon K C_Asker C_Book)) (F_Turns_go_on:Fun K "go_on" "Turns.go_on" s_Turns_go_on f_Turns_go_on fd_Turns_go_on) (b_Turns_go_on:Binds K fd_Turns_go_on ["self"] []) (m_Turns_go_on:Meth K C_Asker "go_on" f_Turns_go_on)
  {f_Turns_check_wants:Addr} {fd_Turns_check_wants:FuncData} (g_Turns_check_wants:FnOk P w K mg base (CXe P w) 1 f_Turns_check_wants fd_Turns_check_wants ["self","deed"] (sp_cwants K C_Asker C_Book C_OutOfTurn)) (F_Turns_check_wants:Fun K "check_wants" "Turns.check_wants" s_Turns_check_wants f_Turns_check_wants fd_Turns_check_wants) (b_Turns_check_wants:Binds K fd_Turns_check_wants ["self","deed"] []) (m_Turns_check_wants:Meth K C_Asker "check_wants" f_Turns_check_wants)
  {f_Book_check:Addr} {fd_Book_check:FuncData} (g_Book_check:FnOk P w K mg base (CXe P w) 3 f_Book_check fd_Book_check ["self","word","mark"] (sp_book_checkE C_Book C_BadWord C_BadMark)) (F_Book_check:Fun K "check" "Book.check" s_Book_check f_Book_check fd_Book_check) (b_Book_check:Binds K fd_Book_check ["self","word","mark"] []) (m_Book_check:Meth K C_Book "check" f_Book_check)
  {f_Book_put:Addr} {fd_Book_put:FuncData} (g_Book_put:FnOk P w K mg base (CXe P w) 4 f_Book_put fd_Book_put ["self","word","mark"] (sp_book_putE C_Book C_BadWord C_BadMark C_Contradiction)) (F_Book_put:Fun K "put" "Book.put" s_Book_put f_Book_put fd_Book_put) (b_Book_put:Binds K fd_Book_put ["self","word","mark"] []) (m_Book_put:Meth K C_Book "put" f_Book_put)
  : FnOk P w K mg base (CXe P w) 13 f fd ["self","word","number"] (sp_obj K C_Asker C_Book C_OutOfTurn C_BadWord C_BadMark C_NoDifference C_Contradiction):=by
 refine F.okE sc_Hunt_keep_objection (fun vs H Q E h=>?_) (fun cdv A outer s H vs Q E hr h=>?_)
 ·obtain⟨a,t,ad,s,wv,x,B,wd,m,rfl,_⟩:=h;rfl
 ·obtain⟨a,t,ad,s,wv,y,B,wd,m,rfl,⟨gv,rv,zs,ys,us,x⟩,hw,ok,bd,hz,ht,hz2,kE,k⟩:=h
  have hl:=line1000
  refine⟨_,(pss_cons (ps_expr (pe_meth (pv 0) W.cl_Asker m_Turns_check_wants g_Turns_check_wants (hr.mono (by decide)) b_Turns_check_wants .nil (passE fun _ _ _ h=>h) (pa_cons pe_str pa_nil)))
   (pss_cons (ps_expr (pe_meth (pe_fld (pv 0) rfl) W.cl_Book m_Book_check g_Book_check (hr.mono (by decide)) b_Book_check .nil (passE fun _ _ _ h=>h) (pa_cons (pv 1) (pa_cons (pv 2) pa_nil))))
   (pss_cons (ps_if (pt_cmpR op_eq (pe_meth (pv 0) W.cl_Asker m_Asker_answer g_Asker_answer (hr.mono (by decide)) b_Asker_answer .nil pass0 (pa_cons (pe_ix ix_tup (pe_fld (pv 0) rfl) pe_int (fun _ _=>rfl)) (pa_cons (pv 1) pa_nil))) (pv 2) (nomark _))
   (pss_one (ps_raise Z.m_NoDifference Z.x_NoDifference rfl rfl (pa_cons pe_str pa_nil)))
   pss_nil)
   (pss_cons (ps_expr (pe_meth (pe_fld (pv 0) rfl) W.cl_Book m_Book_put g_Book_put (hr.mono (by decide)) b_Book_put .nil (passE fun _ _ _ h=>h) (pa_cons (pv 1) (pa_cons (pv 2) pa_nil))))
   (pss_one (ps_expr (pe_meth0 (pv 0) W.cl_Asker m_Turns_go_on g_Turns_go_on (hr.mono (by decide)) b_Turns_go_on .nil pass0))))))),?_⟩
  walk_at "rd"
  refine⟨_,_,x.ob,by kernel_rfl,a,ad,s,wv,y,"show",rfl,⟨_,_,_,_,_,x⟩,hw,fun htag=>?_,kE⟩
  cases y with
  |ask c=>exact absurd htag (show ¬ ("ask" : Str) = "show" by decide +kernel)
  |done mm ws=>exact absurd htag (show ¬ ("done" : Str) = "show" by decide +kernel)
  |spent c=>exact absurd htag (show ¬ ("spent" : Str) = "show" by decide +kernel)
  |shown mm ws=>
   obtain⟨tw,u,rfl,htw,hu⟩:=hw
   obtain⟨kW,kM,kk⟩:=k mm ws rfl
   obtain⟨ok0,hG,hwr,hgs,g,hall⟩:=ok
   obtain⟨dxb,hb⟩:=x.bk.ob
   have wf:=ok0.tb.wf g
   refine⟨_,_,_,x.ob,W.cl_Asker,W.n_Asker_book,_,af_book ..,ad.b,rfl,_,_,hb,bflds_no _ _ (by decide +kernel) (by decide +kernel),ad.b,ad.d,t,s.L,m,wd,s.es,rfl,x.bk,ht,by omega,kW,kM,fun hc h0 h9 H1 s1=>?_⟩
   obtain⟨kN,kC,kG⟩:=kk hc h0 h9
   have x1:=x.same s1
   have ht1:=s1 _ _ ht
   refine⟨_,_,x1.ob,by kernel_rfl,_,_,_,x1.ob,W.cl_Asker,W.n_Asker_wish,_,af_wish ..,tw,rfl,_,SqT.of (s1 _ _ htw),_,rfl,a,u,t,s.L,mm,ws,wd,rfl,HouT.house (HouT.mono hu (TK.of s1)),wf,SqT.of ht1,hz2,hc,fun H2 s2=>⟨rfl,?_⟩⟩
   by_cases he:markW mm (walkW ws wd)=m
   ·rw[if_pos (by rw[he])]
    exact⟨by omega,kN he _ (s1.trans s2)⟩
   ·rw[if_neg (fun z=>he (V.int.inj z))]
    have x2:=x1.same s2
    have s12:=s1.trans s2
    refine⟨_,_,_,x2.ob,W.cl_Asker,W.n_Asker_book,_,af_book ..,ad.b,rfl,_,_,s12 _ _ hb,bflds_no _ _ (by decide +kernel) (by decide +kernel),ad.b,ad.d,t,s.L,m,wd,s.es,rfl,x2.bk,s12 _ _ ht,by omega,hz,fun z=>(by rw[hc]at z;cases z),fun _ z=>absurd ⟨h0,h9⟩ z,fun _ _ _ n hin _ H3 s3=>kC he (List.mem_map.mpr ⟨_,hin,rfl⟩) H3 (s12.trans s3),fun _ _ _ hsame H3 hb' hf=>?_⟩
    have hnk:wd∉s.es.map (·.1):=fun z=>by
     obtain⟨p,hp,rfl⟩:=List.mem_map.mp z
     have h1:=hsame p.2 hp
     exact he ((hall p hp).trans h1)
    unfold putE at hb'
    rw[if_neg hnk]at hb'
    obtain⟨hlen,kT⟩:=kG he hnk
    obtain⟨x3,f3,tk3⟩:=x2.putB hb' hf
    have f3':=(Frm.of s12 a ad).seq f3
    exact⟨_,_,x3.ob,by kernel_rfl,a,ad,_,_,B,rfl,⟨_,_,_,_,_,x3⟩,ok0.told (fun b hb=>(by cases hb)) hnk hc h0 h9 (by omega) (by rw[hG];simp),bd,fun ad' H4 s' y' wv' go x4 hw4 f4 k4=>kT ad' H4 s' y' wv' go x4 hw4 (f3'.trans (AdOk.refl H ad) f4) (AdOk.trans f3' (AdOk.refl H ad) k4)⟩
theorem ok_Asker_hear {f:Addr}{fd:FuncData}(F:Fun K "hear" "Asker.hear" s_Asker_hear f fd)(T:Txt mg)
  (W:Own K mg C_Book C_Turns C_Hunt C_Asker)
  (Z:Exs K mg C_AskError C_BadWord C_BadMark C_OutOfTurn C_NoDifference C_Contradiction)
  {f_Hunt_keep_answer:Addr} {fd_Hunt_keep_answer:FuncData} (g_Hunt_keep_answer:FnOk P w K mg base (CXe P w) 13 f_Hunt_keep_answer fd_Hunt_keep_answer ["self","number"] (sp_keep K C_Asker C_Book C_OutOfTurn C_BadMark)) (F_Hunt_keep_answer:Fun K "keep_answer" "Hunt.keep_answer" s_Hunt_keep_answer f_Hunt_keep_answer fd_Hunt_keep_answer) (b_Hunt_keep_answer:Binds K fd_Hunt_keep_answer ["self","number"] []) (m_Hunt_keep_answer:Meth K C_Asker "keep_answer" f_Hunt_keep_answer)
  : FnOk P w K mg base (CXe P w) 14 f fd ["self","mark"] (sp_keep K C_Asker C_Book C_OutOfTurn C_BadMark):=by
 refine F.okE sc_Asker_hear (fun vs H Q E h=>?_) (fun cdv A outer s H vs Q E hr h=>?_)
 ·obtain⟨a,ad,s,wv,x,B,m,rfl,_⟩:=h;rfl
 ·obtain⟨a,ad,s,wv,y,B,m,rfl,⟨gv,rv,zs,ys,us,x⟩,hw,ok,bd,hz,kE,k⟩:=h
  have hl:=line1000
  refine⟨_,(pss_one (ps_expr (pe_meth (pv 0) W.cl_Asker m_Hunt_keep_answer g_Hunt_keep_answer (hr.mono (by decide)) b_Hunt_keep_answer .nil (passE fun _ _ _ h=>h) (pa_cons (pv 1) pa_nil)))),?_⟩
  walk_at "rd"
  exact⟨_,_,x.ob,by kernel_rfl,a,ad,s,wv,y,B,m,rfl,⟨_,_,_,_,_,x⟩,hw,ok,bd,hz,kE,k⟩
theorem ok_Asker_differ {f:Addr}{fd:FuncData}(F:Fun K "differ" "Asker.differ" s_Asker_differ f fd)(T:Txt mg)
  (W:Own K mg C_Book C_Turns C_Hunt C_Asker)
  (Z:Exs K mg C_AskError C_BadWord C_BadMark C_OutOfTurn C_NoDifference C_Contradiction)
  {f_Hunt_keep_objection:Addr} {fd_Hunt_keep_objection:FuncData} (g_Hunt_keep_objection:FnOk P w K mg base (CXe P w) 13 f_Hunt_keep_objection fd_Hunt_keep_objection ["self","word","number"] (sp_obj K C_Asker C_Book C_OutOfTurn C_BadWord C_BadMark C_NoDifference C_Contradiction)) (F_Hunt_keep_objection:Fun K "keep_objection" "Hunt.keep_objection" s_Hunt_keep_objection f_Hunt_keep_objection fd_Hunt_keep_objection) (b_Hunt_keep_objection:Binds K fd_Hunt_keep_objection ["self","word","number"] []) (m_Hunt_keep_objection:Meth K C_Asker "keep_objection" f_Hunt_keep_objection)
  : FnOk P w K mg base (CXe P w) 14 f fd ["self","word","mark"] (sp_obj K C_Asker C_Book C_OutOfTurn C_BadWord C_BadMark C_NoDifference C_Contradiction):=by
 refine F.okE sc_Asker_differ (fun vs H Q E h=>?_) (fun cdv A outer s H vs Q E hr h=>?_)
 ·obtain⟨a,t,ad,s,wv,x,B,wd,m,rfl,_⟩:=h;rfl
 ·obtain⟨a,t,ad,s,wv,y,B,wd,m,rfl,⟨gv,rv,zs,ys,us,x⟩,hw,ok,bd,hz,ht,hz2,kE,k⟩:=h
  have hl:=line1000
  refine⟨_,(pss_one (ps_expr (pe_meth (pv 0) W.cl_Asker m_Hunt_keep_objection g_Hunt_keep_objection (hr.mono (by decide)) b_Hunt_keep_objection .nil (passE fun _ _ _ h=>h) (pa_cons (pv 1) (pa_cons (pv 2) pa_nil))))),?_⟩
  walk_at "rd"
  exact⟨_,_,x.ob,by kernel_rfl,a,t,ad,s,wv,y,B,wd,m,rfl,⟨_,_,_,_,_,x⟩,hw,ok,bd,hz,ht,hz2,kE,k⟩
def sp_ainit (K:PySem.W.Frag)(CA CB:Addr):Sp:=fun vs H Q _=>∃(a dx:Addr) (L most:Nat),vs=[.ref a,.int L,.int most]/\H a=some (.ins CA dx [])/\1<=L/\L<=6/\1<=most/\most<=12/\∀ad H' s x wv,Goes (s039 L most) s x->Asks K CA CB H' a ad s wv->WishAt K H' L wv x->(∀y o,H y=some o->y≠a->H' y=some o)->(∀y,H' y=none->H y=none)->(H ad.d=none/\H ad.pw=none/\H ad.pe=none/\H ad.pg=none)->Q .non H'
theorem ok_Asker_init {f:Addr}{fd:FuncData}(F:Fun K "__init__" "Asker.__init__" s_Asker_init f fd)(T:Txt mg)
  (W:Own K mg C_Book C_Turns C_Hunt C_Asker)
  (Z:Exs K mg C_AskError C_BadWord C_BadMark C_OutOfTurn C_NoDifference C_Contradiction)
  {f_Book_init:Addr} {fd_Book_init:FuncData} (g_Book_init:FnOk P w K mg base CX0 1 f_Book_init fd_Book_init ["self","letters"] (sp_book_init C_Book)) (F_Book_init:Fun K "__init__" "Book.__init__" s_Book_init f_Book_init fd_Book_init) (b_Book_init:Binds K fd_Book_init ["self","letters"] []) (m_Book_init:Mk K C_Book f_Book_init)
  {f_Asker_look_for_gaps:Addr} {fd_Asker_look_for_gaps:FuncData} (g_Asker_look_for_gaps:FnOk P w K mg base CX0 3 f_Asker_look_for_gaps fd_Asker_look_for_gaps ["self"] (sp_lgaps K C_Asker C_Book)) (F_Asker_look_for_gaps:Fun K "look_for_gaps" "Asker.look_for_gaps" s_Asker_look_for_gaps f_Asker_look_for_gaps fd_Asker_look_for_gaps) (b_Asker_look_for_gaps:Binds K fd_Asker_look_for_gaps ["self"] []) (m_Asker_look_for_gaps:Meth K C_Asker "look_for_gaps" f_Asker_look_for_gaps)
  {f_Turns_go_on:Addr} {fd_Turns_go_on:FuncData} (g_Turns_go_on:FnOk P w K mg base CX0 12 f_Turns_go_on fd_Turns_go_on ["self"] (sp_goon K C_Asker C_Book)) (F_Turns_go_on:Fun K "go_on" "Turns.go_on" s_Turns_go_on f_Turns_go_on fd_Turns_go_on) (b_Turns_go_on:Binds K fd_Turns_go_on ["self"] []) (m_Turns_go_on:Meth K C_Asker "go_on" f_Turns_go_on)
  {f_Hunt_init:Addr} {fd_Hunt_init:FuncData} (g_Hunt_init:FnOk P w K mg base CX0 3 f_Hunt_init fd_Hunt_init ["self","letters","most","book","ways","ends"] (sp_hinit C_Asker)) (F_Hunt_init:Fun K "__init__" "Hunt.__init__" s_Hunt_init f_Hunt_init fd_Hunt_init) (b_Hunt_init:Binds K fd_Hunt_init ["self","letters","most","book","ways","ends"] []) (m_Hunt_init:CMeth K C_Hunt "__init__" f_Hunt_init)
  {f_Asker_first_ends:Addr} {fd_Asker_first_ends:FuncData} (g_Asker_first_ends:FnOk P w K mg base CX0 1 f_Asker_first_ends fd_Asker_first_ends ["self","letters"] (sp_fends K)) (F_Asker_first_ends:Fun K "first_ends" "Asker.first_ends" s_Asker_first_ends f_Asker_first_ends fd_Asker_first_ends) (b_Asker_first_ends:Binds K fd_Asker_first_ends ["self","letters"] []) (m_Asker_first_ends:Meth K C_Asker "first_ends" f_Asker_first_ends)
  : FnOk P w K mg base CX0 13 f fd ["self","letters","most"] (sp_ainit K C_Asker C_Book):=by
 refine F.ok sc_Asker_init (fun vs H Q E h=>?_) (fun cdv A outer s H vs Q E hr h=>?_)
 ·obtain⟨a,dx,L,most,rfl,_⟩:=h;rfl
 ·obtain⟨a,dx,L,most,rfl,ha,l1,l6,m1,m12,k⟩:=h
  have hl:=line1000
  refine⟨_,(pss_cons (ps_expr (pe_cm rfl W.m_Hunt m_Hunt_init g_Hunt_init (hr.mono (by decide)) b_Hunt_init .nil pass0 (pa_cons (pv 0) (pa_cons (pv 1) (pa_cons (pv 2) (pa_cons (pe_make m_Book_init g_Book_init (hr.mono (by decide)) rfl W.m_Book b_Book_init .nil pass0 (pa_cons (pv 1) pa_nil)) (pa_cons (pe_lst (pa_cons (pe_tup pa_nil) pa_nil)) (pa_cons (pe_meth (pv 0) W.cl_Asker m_Asker_first_ends g_Asker_first_ends (hr.mono (by decide)) b_Asker_first_ends .nil pass0 (pa_cons (pv 1) pa_nil)) pa_nil))))))))
   (pss_cons (ps_expr (pe_meth0 (pv 0) W.cl_Asker m_Asker_look_for_gaps g_Asker_look_for_gaps (hr.mono (by decide)) b_Asker_look_for_gaps .nil pass0))
   (pss_one (ps_expr (pe_meth0 (pv 0) W.cl_Asker m_Turns_go_on g_Turns_go_on (hr.mono (by decide)) b_Turns_go_on .nil pass0))))),?_⟩
  walk_at "rd"
  intro b dxb hbN hdN hne
  have hab:a≠b:=fun z=>by rw[<-z,ha]at hbN;cases hbN
  refine⟨b,dxb,L,rfl,upd_same,fun d H2 hd bk hf=>⟨rfl,by omega,fun p hp=>⟨by omega,fun pw hpw=>?_⟩⟩⟩
  have s2:Same H H2:=fun y o hy=>by
   have y1:y≠b:=fun z=>by rw[z,hbN]at hy;cases hy
   have y2:y≠dxb:=fun z=>by rw[z,hdN]at hy;cases hy
   exact hf y o (by rw[upd_ne y1,upd_ne y2];exact hy) y1
  have hdH:H d=none:=by
   cases h:H d with
   |none=>rfl
   |some o=>
    have y1:d≠b:=fun z=>by rw[z,hbN]at h;cases h
    have y2:d≠dxb:=fun z=>by rw[z,hdN]at h;cases h
    rw[upd_ne y1,upd_ne y2,h]at hd;cases hd
  have sp:=Same.new (o:=.tup []) hp
  have s3:=sp.trans (Same.new (o:=.lst [.ref p]) hpw)
  have hp3:=(Same.new (o:=.lst [.ref p]) hpw) _ _ (show upd H2 p (.tup []) p=some (.tup []) from upd_same)
  have hw3:upd (upd H2 p (.tup [])) pw (.lst [.ref p]) pw=some (.lst [.ref p]):=upd_same
  generalize upd (upd H2 p (.tup [])) pw (.lst [.ref p])=H3 at s3 hp3 hw3 ⊢
  have hpwH:H pw=none:=s2.none (sp.none hpw)
  refine⟨_,_,s3 _ _ (s2 _ _ ha),by kernel_rfl,a,L,rfl,fun pe te H4 s4 hpe hpe4 hte=>?_⟩
  refine⟨a,dx,b,pw,pe,L,most,rfl,s4 _ _ (s3 _ _ (s2 _ _ ha)),fun pg H5 hpg hob hpg5 hf5 hn5=>?_⟩
  have s34:=s3.trans s4
  have s04:=s2.trans s34
  have bk4:=bk.mono s34
  have ne:∀y,H y=none->y≠a:=fun y hy z=>by rw[z,ha]at hy;cases hy
  have hpeH:H pe=none:=s2.none (s3.none hpe)
  have hpgH:H pg=none:=s04.none hpg
  have hp4:=s4 _ _ hp3
  have hpH:H p=none:=s2.none hp
  have hteA:te≠a:=fun z=>by
   have:=s04 _ _ ha
   rw[z,this]at hte;cases hte
  have x5:AskAt K C_Asker C_Book H5 a ⟨dx,b,d,pw,pe,pg⟩ {s039 L most with G:=[]} .non .non .non [.ref p] [.ref te] []:=
   ⟨hob,BookAt.tk bk4 (fun o h=>hf5 _ _ h (Ne.symm hab)) (fun o h=>hf5 _ _ h (ne _ hdH)),hf5 _ _ (s4 _ _ hw3) (ne _ hpwH),WordsT.nil.snoc (w:=[]) (hf5 _ _ hp4 (ne _ hpH)),hf5 _ _ hpe4 (ne _ hpeH),WordsT.nil.snoc (w:=[]) (hf5 _ _ hte hteA),hpg5,WordsT.nil,fun z=>(by rw[show pe=pw from z.symm,hw3]at hpe;cases hpe),fun z=>(by rw[show pg=pw from z.symm,s4 _ _ hw3]at hpg;cases hpg),fun z=>(by rw[show pg=pe from z.symm,hpe4]at hpg;cases hpg),rfl,rfl⟩
  have hmm:(most+1)*(most+1)<=13*13:=Nat.mul_le_mul (by omega) (by omega)
  have bd:Bd 0 (s039 L most):=by
   show 0+(most+1)*(most+1)+most<=500
   omega
  have ok:=s039_ok 0 l1 l6 m1 m12
  have sz:=ok.sz bd
  refine⟨_,_,x5.ob,by kernel_rfl,a,_,_,.non,rfl,⟨_,_,_,_,_,x5⟩,⟨sz.l6,sz.w,sz.e,sz.b⟩,fun ad6 H6 x6 f6 k6=>?_⟩
  obtain⟨gv6,rv6,zs6,ys6,us6,x6⟩:=x6
  refine⟨_,_,x6.ob,by kernel_rfl,a,ad6,s039 L most,.non,0,rfl,⟨_,_,_,_,_,x6⟩,ok,bd,fun ad7 H7 s' y wv' go x7 hw7 f7 k7=>?_⟩
  have f57:=f6.trans k6 f7
  obtain⟨q1,q2,q3,q4,q5,q6⟩:=AdOk.trans f6 k6 k7
  have hn:∀y,H7 y=none->H y=none:=fun y hy=>s04.none (hn5 y (f57.2 y hy))
  refine k ad7 H7 s' y wv' go x7 hw7 (fun z o hz hza=>?_) hn ⟨by rw[q3];exact hdH,by rw[q4];exact hpwH,by rw[q5];exact hpeH,?_⟩
  ·exact f57.1 z o (hf5 _ _ (s04 _ _ hz) hza) hza (fun e=>by rw[e]at hz;rw[show H d=none from hdH]at hz;cases hz) (fun e=>by rw[e]at hz;rw[show H pw=none from hpwH]at hz;cases hz) (fun e=>by rw[e]at hz;rw[show H pe=none from hpeH]at hz;cases hz) (fun e=>by rw[e]at hz;rw[show H pg=none from hpgH]at hz;cases hz)
  ·rcases q6 with q6|q6
   ·rw[q6];exact hpgH
   ·exact s04.none (hn5 _ q6)
def cell (ns:List Int)(k:Nat):Int:=ns.getD k 0
def sp_cell (K:PySem.W.Frag):Sp:=fun vs H Q _=>∃(a:Addr) (ns:List Int) (k:Nat),vs=[.ref a,.int k]/\SqL K H a (ns.map V.int)/\Q (.int (cell ns k)) H
theorem ok__law_cell_at {f:Addr}{fd:FuncData}(F:Fun K "_law_cell_at" "_law_cell_at" s__law_cell_at f fd)(T:Txt mg)
  (W:Own K mg C_Book C_Turns C_Hunt C_Asker)
  (Z:Exs K mg C_AskError C_BadWord C_BadMark C_OutOfTurn C_NoDifference C_Contradiction)
  : FnOk P w K mg base CX0 1 f fd ["script","k"] (sp_cell K):=by
 refine F.ok sc__law_cell_at (fun vs H Q E h=>?_) (fun cdv A outer s H vs Q E hr h=>?_)
 ·obtain⟨a,ns,k,rfl,_⟩:=h;rfl
 ·obtain⟨a,ns,k,rfl,hs,q⟩:=h
  refine⟨_,(pss_cons (ps_if (pt_cmpR op_lt (pv 1) (pe_callB call_len_seq (by rfl) T.len PySem.boot_len (pa_cons (pv 0) pa_nil)) (nomark _))
   (pss_one (ps_ret (pe_ix ix_list (pv 0) (pv 1) (fun _ _=>rfl))))
   pss_nil)
   (pss_one (ps_ret pe_int))),?_⟩
  walk_at "rd"
  refine⟨_,.inl hs,?_⟩
  rw[List.length_map]
  refine ite2 (fun hk=>?_) (fun hk=>?_)
  ·have hk':k<ns.length:=by simpa using hk
   refine⟨_,hs,V.int (cell ns k),?_,q⟩
   refine atI_nat ?_
   rw[List.getElem?_map]
   unfold cell
   rw[List.getD_eq_getElem?_getD]
   simp[hk']
  ·have hk':¬ k<ns.length:=by simpa using hk
   have:cell ns k=0:=by
    unfold cell
    rw[List.getD_eq_getElem?_getD,List.getElem?_eq_none (by omega)];rfl
   rw[<-this]
   exact q
def sp_answer38 (K:PySem.W.Frag):Sp:=fun vs H Q _=>∃(h a:Addr) (L:Int) (marks:List Int) (ways:List (List Int)) (ws:List Int),vs=[.ref h,.ref a]/\House K H h L marks ways/\Wf L marks ways/\SqT K H a (ws.map V.int)/\isW L ws=true/\Q (.int (markW marks (walkW ways ws))) H
theorem ok__law_answer {f:Addr}{fd:FuncData}(F:Fun K "_law_answer" "_law_answer" s__law_answer f fd)(T:Txt mg)
  (W:Own K mg C_Book C_Turns C_Hunt C_Asker)
  (Z:Exs K mg C_AskError C_BadWord C_BadMark C_OutOfTurn C_NoDifference C_Contradiction)
  : FnOk P w K mg base CX0 1 f fd ["house","word"] (sp_answer38 K):=by
 refine F.ok sc__law_answer (fun vs H Q E h=>?_) (fun cdv A outer s H vs Q E hr h=>?_)
 ·obtain⟨h,a,L,marks,ways,ws,rfl,_⟩:=h;rfl
 ·obtain⟨h,a,L,marks,ways,ws,rfl,hh,wf,ha,hv,k⟩:=h
  have hn1:=wf.n1
  refine⟨_,(pss_cons (ps_set (i:=2) sc__law_answer.nd rfl (Or.inl rfl) pe_int)
   (pss_cons (ps_for PassesOwn.never rfl (pi_tup (pv 1)) (pg_name (i:=3) sc__law_answer.nd rfl (Or.inl rfl))
   (pss_one (ps_set (i:=2) sc__law_answer.nd rfl (Or.inl rfl) (pe_ix ix_tup (pe_ix ix_tup (pe_ix ix_tup (pv 0) pe_int (fun _ _=>rfl)) (pv 2) (fun _ _=>rfl)) (pv 3) (fun _ _=>rfl)))))
   (pss_one (ps_ret (pe_ix ix_tup (pe_ix ix_tup (pv 0) pe_int (fun _ _=>rfl)) (pv 2) (fun _ _=>rfl)))))),?_⟩
  walk_at "rd"
  refine⟨⟨_,ha⟩,forT (xs:=ws.map V.int) (fun i σ2 H2=>H2=H/\∃o,σ2=[some (.ref h),some (.ref a),some (.int (walkR ways 0 (ws.take i))),o]) ⟨rfl,none,by simp[walkR]⟩ (fun i σ2 H2 _ h=>by rw[h.1];exact ha) (fun i x σ2 H2 hx h=>?_) (fun σ2 H2 h=>?_)⟩
  ·obtain⟨rfl,o,rfl⟩:=h
   obtain⟨n,hn,rfl⟩:=get_mapI hx
   have hin:=isW_iff.mp hv n (List.mem_of_getElem? hn)
   have hwk:=walkR_in wf (ws.take i) (isW_take hv i) (show (0:Int)<=0 by omega) (by omega)
   obtain⟨row,g,r1,r2,r3,r4,r5⟩:=wf.step hwk.1 hwk.2 hin.1 hin.2
   obtain⟨m,wv,q1,q2,q3⟩:=id hh
   obtain⟨xs,t,z1,z2,z3⟩:=q3.atZ hwk.1 r1
   walk_at "rd"
   refine⟨_,q1,_,rfl,?_⟩
   walk_at "rd"
   refine⟨_,z1,_,z2,?_⟩
   walk_at "rd"
   refine⟨_,z3,_,atI_int hin.1 r2,?_⟩
   rw[walkR_take hn,r3]
   exact⟨rfl,_,rfl⟩
  ·obtain⟨rfl,o,rfl⟩:=h
   rw[List.length_map,List.take_length]
   obtain⟨m,wv,q1,q2,q3⟩:=id hh
   have wk:=walkR_in wf ws hv (show (0:Int)<=0 by omega) (by omega)
   walk_at "rd"
   exact⟨_,q1,_,rfl,m,rfl,_,q2,_,mkW_at wk.1 wk.2,k⟩
theorem EqD.all43 {K:PySem.W.Frag}{H:Hp}{n:Nat}{a c:Addr}{xs ys:List V}(hq:(SqL K H a xs/\SqL K H c ys)\/(SqT K H a xs/\SqT K H c ys))(hl:xs.length=ys.length)(h:∀(i:Nat) (x y:V),xs[i]?=some x->ys[i]?=some y->EqD K H n x y true):EqD K H (n+1) (.ref a) (.ref c) true:=
 .inr ⟨a,c,xs,ys,rfl,rfl,hq,fun _=>true,h,by simp[hl]⟩
theorem EqD.int43 {K:PySem.W.Frag}{H:Hp}(n:Nat)(i:Int):EqD K H n (.int i) (.int i) true:=by
 cases n with
 |zero=>exact⟨rfl,rfl,by simp[eqV]⟩
 |succ n=>exact .inl ⟨rfl,rfl,by simp[eqV]⟩
theorem EqD.str43 {K:PySem.W.Frag}{H:Hp}(n:Nat)(i:Str):EqD K H n (.str i) (.str i) true:=by
 cases n with
 |zero=>exact⟨rfl,rfl,by simp[eqV]⟩
 |succ n=>exact .inl ⟨rfl,rfl,by simp[eqV]⟩
theorem EqD.word43 {K:PySem.W.Frag}{H:Hp}(n:Nat){a b:Addr}{w:List Int}(h:SqT K H a (w.map V.int))(g:SqT K H b (w.map V.int)):EqD K H (n+1) (.ref a) (.ref b) true:=by
 have:=EqD.ints (K:=K) (H:=H) (a:=a) (c:=b) (xs:=w) (ys:=w) (.inr ⟨h,g⟩) n
 rw[decide_eq_true rfl]at this
 exact this
theorem two43 {α:Type}{P:Nat->α->α->Prop}{a b c d:α}(h0:P 0 a c)(h1:P 1 b d):∀i x y,[a,b][i]?=some x->[c,d][i]?=some y->P i x y:=by
 intro i x y hx hy
 match i with
 |0=>simp at hx hy;subst hx hy;exact h0
 |1=>simp at hx hy;subst hx hy;exact h1
 |i+2=>simp at hx
theorem three43 {α:Type}{P:Nat->α->α->Prop}{a b e c d f:α}(h0:P 0 a c)(h1:P 1 b d)(h2:P 2 e f):∀i x y,[a,b,e][i]?=some x->[c,d,f][i]?=some y->P i x y:=by
 intro i x y hx hy
 match i with
 |0=>simp at hx hy;subst hx hy;exact h0
 |1=>simp at hx hy;subst hx hy;exact h1
 |2=>simp at hx hy;subst hx hy;exact h2
 |i+3=>simp at hx
theorem HouT.eq43 {K:PySem.W.Frag}{H:Hp}{a b:Addr}{L:Int}{m:List Int}{ws:List (List Int)}(h:HouT K H a L m ws)(g:HouT K H b L m ws)(n:Nat):EqD K H (n+3) (.ref a) (.ref b) true:=by
 obtain⟨tm,tw,zs,h1,h2,h3,h4⟩:=h
 obtain⟨tm',tw',zs',g1,g2,g3,g4⟩:=g
 refine EqD.all43 (.inr ⟨SqT.of h1,SqT.of g1⟩) rfl (three43 (P:=fun _ x y=>EqD K H (n+2) x y true) (EqD.int43 _ _) (EqD.word43 _ (SqT.of h2) (SqT.of g2)) ?_)
 refine EqD.all43 (.inr ⟨SqT.of h3,SqT.of g3⟩) (by rw[h4.1,g4.1]) fun i x y hx hy=>?_
 obtain⟨t,w,e1,rfl,e2⟩:=h4.at hx
 obtain⟨u,w',f1,rfl,f2⟩:=g4.at hy
 rw[e1]at f1
 cases f1
 exact EqD.word43 _ (SqT.of e2) (SqT.of f2)
theorem WishAt.eq43 {K:PySem.W.Frag}{H:Hp}{L:Int}{v v':V}{x:Wish}(h:WishAt K H L v x)(g:WishAt K H L v' x)(n:Nat):EqD K H (n+4) v v' true:=by
 obtain⟨t,u,rfl,h1,h2⟩:=h
 obtain⟨t',u',rfl,g1,g2⟩:=g
 refine EqD.all43 (.inr ⟨SqT.of h1,SqT.of g1⟩) rfl (two43 (P:=fun _ x y=>EqD K H (n+3) x y true) (EqD.str43 _ _) ?_)
 cases x with
 |ask c=>exact EqD.word43 _ (SqT.of h2) (SqT.of g2)
 |spent c=>exact EqD.word43 _ (SqT.of h2) (SqT.of g2)
 |shown m ws=>exact HouT.eq43 h2 g2 n
 |done m ws=>exact HouT.eq43 h2 g2 n
theorem TrialsS.eq43 {K:PySem.W.Frag}{H:Hp}{xs ys:List V}{es:Bk}{a b:Addr}(h:TrialsS H xs es)(g:TrialsS H ys es)(ha:H a=some (.lst xs))(hb:H b=some (.lst ys))(n:Nat):EqD K H (n+3) (.ref a) (.ref b) true:=by
 refine EqD.all43 (.inl ⟨SqL.of ha,SqL.of hb⟩) (by rw[h.1,g.1]) fun i x y hx hy=>?_
 have hi:i<es.length:=by rw[<-h.1];exact (List.getElem?_eq_some_iff.mp hx).1
 obtain⟨t,wt,e1,e2,e3⟩:=h.2 i es[i] (by simp[hi])
 obtain⟨u,wu,f1,f2,f3⟩:=g.2 i es[i] (by simp[hi])
 rw[hx]at e1
 cases e1
 rw[hy]at f1
 cases f1
 exact EqD.all43 (.inr ⟨SqT.of e2,SqT.of f2⟩) rfl (two43 (P:=fun _ x y=>EqD K H (n+1) x y true) (EqD.word43 _ (SqT.of e3) (SqT.of f3)) (EqD.int43 _ _))
inductive Deed39 where
 | hear (m:Int)
 | agree
 | differ (v:List Int) (m:Int)
def Deed39.tag:Deed39->Str
 |.hear _ => "hear"
 |.agree => "agree"
 |.differ _ _ => "differ"
def Deed39.vs (u:Addr):Deed39->List V
 |.hear m=>[.str "hear",.int m]
 |.agree=>[.str "agree"]
 |.differ _ m=>[.str "differ",.ref u,.int m]
def DeedA (H:Hp)(t:Addr)(d:Deed39):Prop:=∃u,H t=some (.tup (d.vs u))/\∀v m,d=.differ v m->H u=some (.tup (v.map V.int))
theorem DeedA.mono {H H':Hp}{t:Addr}{d:Deed39}(h:DeedA H t d)(k:TK H H'):DeedA H' t d:=by
 obtain⟨u,a,b⟩:=h
 exact⟨u,k _ _ a,fun v m e=>k _ _ (b v m e)⟩
def DOk39 (es:Bk):Deed39->Prop
 |.differ v _=>v.length<=6\/v∈es.map (·.1)
 |_=>True
theorem cutN39 (xs:List V)(n:Nat):cutV xs none (some (n:Int))=xs.take n:=by
 unfold cutV
 rw[HT.sIx_nat]
 by_cases hn:n<=xs.length
 ·rw[show min n xs.length=n from by omega];rfl
 ·rw[show min n xs.length=xs.length from by omega,List.take_of_length_le (show xs.length<=n by omega)]
  show (xs.take xs.length).drop 0=xs
  simp
theorem pickI39 {ns:List Int}{i:Int}(h0:0<=i)(h1:i<ns.length):∃m,atI (ns.map V.int) i=some (V.int m):=by
 obtain⟨j,rfl⟩:=Int.eq_ofNat_of_zero_le h0
 have hj:j<ns.length:=by omega
 exact⟨ns[j],atI_nat (by rw[List.getElem?_map,List.getElem?_eq_getElem hj];rfl)⟩
def sp_mby39 (K:PySem.W.Frag):Sp:=fun vs H Q _=>∃(c h:Int),vs=[.int c,.int h]/\∀m H',Same H H'->Q (.int m) H'
theorem ok__law_mark_by {f:Addr}{fd:FuncData}(F:Fun K "_law_mark_by" "_law_mark_by" s__law_mark_by f fd)(T:Txt mg)
  (W:Own K mg C_Book C_Turns C_Hunt C_Asker)
  (Z:Exs K mg C_AskError C_BadWord C_BadMark C_OutOfTurn C_NoDifference C_Contradiction)
  : FnOk P w K mg base CX0 1 f fd ["cell","head"] (sp_mby39 K):=by
 refine F.ok sc__law_mark_by (fun vs H Q E h=>?_) (fun cdv A outer s H vs Q E hr h=>?_)
 ·obtain⟨c,h,rfl,_⟩:=h;rfl
 ·obtain⟨c,hd,rfl,k⟩:=h
  have hl:=line1000
  refine⟨_,(pss_cons (ps_set (i:=2) sc__law_mark_by.nd rfl (Or.inl rfl) (pe_lst (pa_cons (pe_op op_mul (pe_op op_mod (pv 1) pe_int) (pe_callTy call_int1 rfl T.int PyProof.Rows.boot_int (pa_cons (pe_cmpR op_ne (pe_op op_mod (pe_op op_fdiv (pv 1) pe_int) pe_int) pe_int (nomark _)) pa_nil))) (pa_cons (pe_op op_mod (pe_op op_fdiv (pv 1) pe_int) pe_int) pa_nil))))
   (pss_cons (ps_set (i:=3) sc__law_mark_by.nd rfl (Or.inl rfl) (pe_op op_mod (pe_op op_fdiv (pv 0) pe_int) (pe_op op_pow pe_int pe_int)))
   (pss_cons (ps_set (i:=4) sc__law_mark_by.nd rfl (Or.inl rfl) (pe_lst (pa_cons (pe_ix ix_list (pv 2) pe_int (fun _ _=>rfl)) (pa_cons (pe_ix ix_list (pv 2) pe_int (fun _ _=>rfl)) (pa_cons (pe_ix ix_list (pv 2) pe_int (fun _ _=>rfl)) (pa_cons (pe_ix ix_list (pv 2) pe_int (fun _ _=>rfl)) (pa_cons (pe_op op_mod (pe_op op_fdiv (pv 0) pe_int) pe_int) (pa_cons (pe_op op_sub (pe_un un_neg pe_int) (pv 3)) (pa_cons (pe_op op_add pe_int (pv 3)) (pa_cons (pe_ix ix_list (pv 2) pe_int (fun _ _=>rfl)) pa_nil))))))))))
   (pss_one (ps_ret (pe_ix ix_list (pv 4) (pe_op op_mod (pe_op op_fdiv (pv 0) pe_int) pe_int) (fun _ _=>rfl))))))),?_⟩
  walk_at "rd"
  have c20:CPow 10 20:=⟨by omega,by omega,by decide⟩
  refine⟨by decide,⟨by decide,by decide⟩,by decide,.inr ⟨.inr ⟨by split<;>decide,by split<;>decide⟩,⟨by decide,by decide⟩,by decide,by omega,fun p hp=>⟨⟨by decide,by decide⟩,c20,by decide,_,SqL.of upd_same,_,rfl,_,SqL.of upd_same,_,rfl,_,SqL.of upd_same,_,rfl,_,SqL.of upd_same,_,rfl,⟨by decide,by decide⟩,by decide,_,SqL.of upd_same,_,rfl,by omega,fun p1 hp1=>⟨⟨by decide,by decide⟩,by decide,_,SqL.of upd_same,?_⟩⟩⟩⟩
  have hi0:=Int.emod_nonneg (c / 12) (show (8:Int)≠0 by omega)
  have hi1:=Int.emod_lt_of_pos (c / 12) (show (0:Int)<8 by omega)
  obtain⟨m,hm⟩:=pickI39 (ns:=[hd%1000000001*(if (!decide (hd / 8%3=1))=true then 1 else 0),hd / 3%1000000001,hd%1000000001*(if (!decide (hd / 8%3=1))=true then 1 else 0),hd / 3%1000000001,c / 96%1000000001,-1-c / 96%10 ^ Int.toNat 20,1000000001+c / 96%10 ^ Int.toNat 20,hd%1000000001*(if (!decide (hd / 8%3=1))=true then 1 else 0)]) hi0 (by simpa using hi1)
  exact⟨_,hm,k m _ ((Same.new hp).newT hp1)⟩
def sp_wby39 (K:PySem.W.Frag):Sp:=fun vs H Q _=>∃(c:Int) (L:Nat) (d:Addr) (es:Bk) (kvs:List (List Key×V)),vs=[.int c,.int L,.ref d]/\1<=L/\L<=6/\H d=some (.dT kvs)/\KeysW (es.map (·.1)) kvs/\es.length<=100/\∀t v H',Same H H'->H' t=some (.tup (v.map V.int))->(v.length<=6\/v∈es.map (·.1))->Q (.ref t) H'
theorem ok__law_word_by {f:Addr}{fd:FuncData}(F:Fun K "_law_word_by" "_law_word_by" s__law_word_by f fd)(T:Txt mg)
  (W:Own K mg C_Book C_Turns C_Hunt C_Asker)
  (Z:Exs K mg C_AskError C_BadWord C_BadMark C_OutOfTurn C_NoDifference C_Contradiction)
  : FnOk P w K mg base CX0 1 f fd ["cell","letters","told"] (sp_wby39 K):=by
 refine F.ok sc__law_word_by (fun vs H Q E h=>?_) (fun cdv A outer s H vs Q E hr h=>?_)
 ·obtain⟨c,L,d,es,kvs,rfl,_⟩:=h;rfl
 ·obtain⟨c,L,d,es,kvs,rfl,l1,l6,hd,hk,he,k⟩:=h
  have hl:=line1000
  refine⟨_,(pss_cons (ps_set (i:=3) sc__law_word_by.nd rfl (Or.inl rfl) (pe_op op_mod (pe_op op_fdiv (pv 0) pe_int) (pe_op op_pow pe_int pe_int)))
   (pss_cons (ps_set (i:=4) sc__law_word_by.nd rfl (Or.inl rfl) (pe_tup pa_nil))
   (pss_cons (ps_for PassesOwn.never rfl (pi_range1 rfl T.range (pa_cons (pe_op op_mod (pe_op op_fdiv (pv 0) pe_int) pe_int) pa_nil)) (pg_name (i:=5) sc__law_word_by.nd rfl (Or.inl rfl))
   (pss_cons (ps_set (i:=4) sc__law_word_by.nd rfl (Or.inl rfl) (pe_op op_catT2 (pv 4) (pe_tup (pa_cons (pe_op op_mod (pv 3) (pv 1)) pa_nil))))
   (pss_one (ps_set (i:=3) sc__law_word_by.nd rfl (Or.inl rfl) (pe_op op_fdiv (pv 3) (pv 1))))))
   (pss_cut (ps_if (PW.pt (pw_and (pt_cmpR op_eq (pe_op op_mod (pe_op op_fdiv (pv 0) pe_int) pe_int) pe_int (nomark _)) (pw_and1 (pt_cmpR (op_neD 8 (hu9 hr)) (pv 4) (pe_tup pa_nil) (nomark _)))))
   (pss_cons (ps_set (i:=6) sc__law_word_by.nd rfl (Or.inl rfl) (pe_op op_mod (pv 3) (pe_callB call_len_seq (by rfl) T.len PySem.boot_len (pa_cons (pv 4) pa_nil))))
   (pss_cons (ps_set (i:=7) sc__law_word_by.nd rfl (Or.inl rfl) (pe_ix ix_list (pe_lst (pa_cons (pe_un un_neg pe_int) (pa_cons (pv 1) (pa_cons (pe_op op_sub (pe_un un_neg pe_int) (pv 3)) (pa_cons (pe_op op_add (pv 1) (pv 3)) pa_nil))))) (pe_op op_mod (pe_op op_fdiv (pv 0) pe_int) pe_int) (fun _ _=>rfl)))
   (pss_one (ps_set (i:=4) sc__law_word_by.nd rfl (Or.inl rfl) (pe_op op_catT2 (pe_op op_catT2 (pe_slice sl_tup (pv 4) po_none (po_some (pv 6))) (pe_tup (pa_cons (pv 7) pa_nil))) (pe_slice sl_tup (pv 4) (po_some (pe_op op_add (pv 6) pe_int)) po_none))))))
   pss_nil)
   (pss_cut (ps_if (PW.pt (pw_and (pt_cmpR op_eq (pe_op op_mod (pe_op op_fdiv (pv 0) pe_int) pe_int) pe_int (nomark _)) (pw_and1 (pt_cmpR (op_neE (Room.units0 hr)) (pv 2) pe_dnewK (nomark _)))))
   (pss_one (ps_set (i:=4) sc__law_word_by.nd rfl (Or.inl rfl) (pe_ix ix_list (pe_callTy (call_list_dictT rfl) rfl T.list PyProof.Rows.boot_list (pa_cons (pv 2) pa_nil)) (pe_op op_mod (pv 3) (pe_callB call_len_dictT (by rfl) T.len PySem.boot_len (pa_cons (pv 2) pa_nil))) (fun _ _=>rfl))))
   pss_nil)
   (pss_one (ps_ret (pv 4)))))))),?_⟩
  walk_at "rd"
  have c9:CPow 10 9:=⟨by omega,by omega,by decide⟩
  refine⟨⟨by decide,by decide⟩,c9,by decide,by omega,fun p hp=>⟨⟨by decide,by decide⟩,by decide,by omega,by omega,?_⟩⟩
  have hn0:=Int.emod_nonneg (c / 12) (show (7:Int)≠0 by omega)
  have hn1:=Int.emod_lt_of_pos (c / 12) (show (0:Int)<7 by omega)
  obtain⟨n,hn⟩:∃n:Nat,c / 12%7=(n:Int):=⟨(c / 12%7).toNat,by omega⟩
  rw[hn,Int.toNat_natCast]
  have hn6:n<=6:=by omega
  obtain⟨Pv,hPv⟩:∃Pv:Nat->St->Hp->Prop,∀i σ' H',Pv i σ' H'↔(∃(t:Addr) (v:List Int) (r:Int) (o5:Option V),Same H H'/\H' t=some (.tup (v.map V.int))/\v.length=i/\σ'=[some (.int c),some (.int L),some (.ref d),some (.int r),some (.ref t),o5,none,none]):=⟨_,fun _ _ _=>Iff.rfl⟩
  refine forR Pv ((hPv _ _ _).mpr ⟨p,[],_,none,Same.new hp,upd_same,rfl,rfl⟩) (fun i σ' H' hi h'=>?_) (fun σ' H' h'=>?_)
  ·obtain⟨t,v,r,o5,s1,ht,hv,rfl⟩:=(hPv _ _ _).mp h'
   walk_at "rd"
   refine⟨by omega,by omega,fun q hq=>rCatT2.ofS (Same.new hq _ _ ht) upd_same (by simp;omega) fun t2 H2 s2 ht2=>⟨⟨by omega,by omega⟩,(hPv _ _ _).mpr ⟨t2,v++[r%L],_,_,(s1.newT hq).trans s2,by rw[List.map_append];exact ht2,by simp[hv],rfl⟩⟩⟩
  ·obtain⟨t,v,r,o5,s1,ht,hv,rfl⟩:=(hPv _ _ _).mp h'
   walk_at "rd"
   obtain⟨R0,hR0⟩:∃R0:St->Hp->Prop,∀σ' H',R0 σ' H'↔(∃(t:Addr) (v:List Int) (o5 o6 o7:Option V),Same H H'/\H' t=some (.tup (v.map V.int))/\v.length<=6/\σ'=[some (.int c),some (.int L),some (.ref d),some (.int r),some (.ref t),o5,o6,o7]):=⟨_,fun _ _=>Iff.rfl⟩
   refine⟨R0,?_,fun σ2 H2 h2=>?_⟩
   ·walk_at "rd"
    refine⟨⟨by decide,by decide⟩,by decide,ite2 (fun _=>?_) (fun _=>(hR0 _ _).mpr ⟨t,v,_,_,_,s1,ht,by omega,rfl⟩)⟩
    refine⟨by omega,fun q hq=>⟨_,EqD.ints (xs:=v) (ys:=[]) (.inr ⟨SqT.of (Same.new hq _ _ ht),SqT.of upd_same⟩) 7,ite2 (fun hne=>?_) (fun _=>(hR0 _ _).mpr ⟨t,v,_,_,_,s1.newT hq,Same.new hq _ _ ht,by omega,rfl⟩)⟩⟩
    have hv0:v ≠ []:=fun z=>by rw[decide_eq_true z]at hne;cases hne
    have hvl:0<v.length:=List.length_pos_iff.mpr hv0
    have s2:=s1.newT hq (o:=.tup [])
    have ht2:=Same.new hq (o:=.tup []) _ _ ht
    generalize upd H' q (.tup [])=H2 at s2 ht2 ⊢
    refine⟨_,.inr (SqT.of ht2),by rw[List.length_map];omega,?_⟩
    rw[List.length_map]
    obtain⟨j,hj,hj2⟩:∃j:Nat,r%(v.length:Int)=(j:Int)/\j<v.length:=⟨(r%(v.length:Int)).toNat,by have:=Int.emod_nonneg r (show (v.length:Int)≠0 by omega);omega,by have:=Int.emod_nonneg r (show (v.length:Int)≠0 by omega);have:=Int.emod_lt_of_pos r (show 0<(v.length:Int) by omega);omega⟩
    rw[hj]
    refine⟨by omega,fun q2 hq2=>⟨⟨by decide,by decide⟩,by decide,_,SqL.of upd_same,?_⟩⟩
    have hi0:=Int.emod_nonneg (c / 504) (show (4:Int)≠0 by omega)
    have hi1:=Int.emod_lt_of_pos (c / 504) (show (0:Int)<4 by omega)
    obtain⟨m,hm⟩:=pickI39 (ns:=[-1,(L:Int),-5-r,(L:Int)+r]) hi0 (by simpa using hi1)
    refine⟨_,hm,?_⟩
    have s3:=s2.newT hq2 (o:=.lst [V.int (-1),V.int L,V.int (-5-r),V.int (L+r)])
    have ht3:=Same.new hq2 (o:=.lst [V.int (-1),V.int L,V.int (-5-r),V.int (L+r)]) _ _ ht2
    generalize upd H2 q2 (.lst [V.int (-1),V.int L,V.int (-5-r),V.int (L+r)])=H3 at s3 ht3 ⊢
    refine⟨_,SqT.of ht3,fun z=>by rw[HT.sIx_nat,List.length_map]at z;omega,fun z1 hz1=>⟨by omega,fun z2 hz2=>?_⟩⟩
    rw[cutN39,<-List.map_take]at hz2 ⊢
    have s4:=Same.new hz1 (o:=.tup ((v.take j).map V.int))
    have s5:=Same.new hz2 (o:=.tup [V.int m])
    refine rCatT2.ofS (s5 _ _ upd_same) upd_same (by simp;omega) fun z3 H6 s6 hz3=>?_
    refine⟨_,SqT.of ((s4.trans (s5.trans s6)) _ _ ht3),fun z=>by rw[show (j:Int)+1=((j+1:Nat):Int) by push_cast;rfl,HT.sIx_nat,List.length_map]at z;omega,fun z4 hz4=>?_⟩
    rw[show (j:Int)+1=((j+1:Nat):Int) by push_cast;rfl,cut_drop39]
    have s7:=Same.new hz4 (o:=.tup ((v.drop (j+1)).map V.int))
    refine rCatT2.ofS (s7 _ _ hz3) upd_same (by simp;omega) fun z5 H8 s8 hz5=>?_
    have e:(v.take j).map V.int++[V.int m]++(v.drop (j+1)).map V.int=(v.take j++[m]++v.drop (j+1)).map V.int:=by simp
    rw[e]at hz5
    exact (hR0 _ _).mpr ⟨z5,_,_,_,_,s3.trans (s4.trans (s5.trans (s6.trans (s7.trans s8)))),hz5,by simp;omega,rfl⟩
   ·obtain⟨t,v,o5,o6,o7,s2,ht2,hv2,rfl⟩:=(hR0 _ _).mp h2
    obtain⟨R1,hR1⟩:∃R1:St->Hp->Prop,∀σ' H',R1 σ' H'↔(∃(t:Addr) (v:List Int) (o5 o6 o7:Option V),Same H H'/\H' t=some (.tup (v.map V.int))/\(v.length<=6\/v∈es.map (·.1))/\σ'=[some (.int c),some (.int L),some (.ref d),some (.int r),some (.ref t),o5,o6,o7]):=⟨_,fun _ _=>Iff.rfl⟩
    refine⟨R1,?_,fun σ3 H3 h3=>?_⟩
    ·walk_at "rd"
     refine⟨⟨by decide,by decide⟩,by decide,ite2 (fun _=>?_) (fun _=>(hR1 _ _).mpr ⟨t,v,_,_,_,s2,ht2,.inl hv2,rfl⟩)⟩
     intro p hp
     have sp:=Same.new hp (o:=.dK [])
     have hd2:=(s2.trans sp) _ _ hd
     have hkl:=hk.len
     rw[List.length_map]at hkl
     refine⟨kvs,hd2,upd_same,ite2 (fun hne=>?_) (fun _=>(hR1 _ _).mpr ⟨t,v,_,_,_,s2.trans sp,sp _ _ ht2,.inl hv2,rfl⟩)⟩
     refine⟨kvs,.inl hd2,fun l rs hlN hrl hrs=>?_⟩
     have sl:=Same.new hlN (o:=.lst rs)
     have hw:WordsT K _ rs (es.map (·.1)):=hk.words hrl hrs
     refine⟨kvs,sl _ _ hd2,by omega,_,SqL.of upd_same,?_⟩
     obtain⟨j,hj,hj2⟩:∃j:Nat,r%(kvs.length:Int)=(j:Int)/\j<kvs.length:=⟨(r%(kvs.length:Int)).toNat,by have:=Int.emod_nonneg r (show (kvs.length:Int)≠0 by omega);omega,by have:=Int.emod_nonneg r (show (kvs.length:Int)≠0 by omega);have:=Int.emod_lt_of_pos r (show 0<(kvs.length:Int) by omega);omega⟩
     rw[hj]
     obtain⟨b,b1,b2⟩:=hw.2 j ((es.map (·.1))[j]'(by rw[List.length_map];omega)) (List.getElem?_eq_getElem _)
     exact⟨_,atI_nat b1,(hR1 _ _).mpr ⟨b,_,_,_,_,s2.trans (sp.trans sl),sl _ _ b2,.inr (List.getElem_mem _),rfl⟩⟩
    ·obtain⟨t,v,o5,o6,o7,s3,ht3,hv3,rfl⟩:=(hR1 _ _).mp h3
     walk_at "rd"
     exact k t v _ s3 ht3 hv3
theorem pickR39 {P:Addr->Prop}{xs:List V}{i:Int}(h:∀x∈xs,∃a,x=.ref a/\P a)(h0:0<=i)(h1:i<xs.length):∃a,atI xs i=some (V.ref a)/\P a:=by
 obtain⟨j,rfl⟩:=Int.eq_ofNat_of_zero_le h0
 have hj:j<xs.length:=by omega
 obtain⟨a,ha,hp⟩:=h xs[j] (List.getElem_mem hj)
 exact⟨a,atI_nat (by rw[List.getElem?_eq_getElem hj,ha]),hp⟩
def sp_dby39 (K:PySem.W.Frag):Sp:=fun vs H Q _=>∃(t u d:Addr) (tg:Str) (c hd:Int) (L:Nat) (es:Bk) (kvs:List (List Key×V)),vs=[.ref t,.int c,.int hd,.int L,.ref d]/\H t=some (.tup [.str tg,.ref u])/\1<=L/\L<=6/\H d=some (.dT kvs)/\KeysW (es.map (·.1)) kvs/\es.length<=100/\∀q dd H',Same H H'->DeedA H' q dd->DOk39 es dd->Q (.ref q) H'
theorem ok__law_deed_by {f:Addr}{fd:FuncData}(F:Fun K "_law_deed_by" "_law_deed_by" s__law_deed_by f fd)(T:Txt mg)
  (W:Own K mg C_Book C_Turns C_Hunt C_Asker)
  (Z:Exs K mg C_AskError C_BadWord C_BadMark C_OutOfTurn C_NoDifference C_Contradiction)
  {f__law_mark_by:Addr} {fd__law_mark_by:FuncData} (g__law_mark_by:FnOk P w K mg base CX0 1 f__law_mark_by fd__law_mark_by ["cell","head"] (sp_mby39 K)) (F__law_mark_by:Fun K "_law_mark_by" "_law_mark_by" s__law_mark_by f__law_mark_by fd__law_mark_by) (b__law_mark_by:Binds K fd__law_mark_by ["cell","head"] []) (m__law_mark_by:mg "_law_mark_by"=some (.ref f__law_mark_by))
  {f__law_word_by:Addr} {fd__law_word_by:FuncData} (g__law_word_by:FnOk P w K mg base CX0 1 f__law_word_by fd__law_word_by ["cell","letters","told"] (sp_wby39 K)) (F__law_word_by:Fun K "_law_word_by" "_law_word_by" s__law_word_by f__law_word_by fd__law_word_by) (b__law_word_by:Binds K fd__law_word_by ["cell","letters","told"] []) (m__law_word_by:mg "_law_word_by"=some (.ref f__law_word_by))
  : FnOk P w K mg base CX0 2 f fd ["want","cell","head","letters","told"] (sp_dby39 K):=by
 refine F.ok sc__law_deed_by (fun vs H Q E h=>?_) (fun cdv A outer s H vs Q E hr h=>?_)
 ·obtain⟨t,u,d,tg,c,hd,L,es,kvs,rfl,_⟩:=h;rfl
 ·obtain⟨t,u,d,tg,c,hd,L,es,kvs,rfl,ht,l1,l6,hdd,hk,he,k⟩:=h
  have hl:=line1000
  refine⟨_,(pss_cons (ps_set (i:=5) sc__law_deed_by.nd rfl (Or.inl rfl) (pe_call g__law_mark_by (hr.mono (by decide)) rfl m__law_mark_by F__law_mark_by.kp b__law_mark_by .nil pass0 (pa_cons (pv 1) (pa_cons (pv 2) pa_nil))))
   (pss_cons (ps_set (i:=6) sc__law_deed_by.nd rfl (Or.inl rfl) (pe_tup (pa_cons pe_str (pa_cons (pv 5) pa_nil))))
   (pss_cons (ps_set (i:=7) sc__law_deed_by.nd rfl (Or.inl rfl) (pe_tup (pa_cons pe_str (pa_cons (pe_call g__law_word_by (hr.mono (by decide)) rfl m__law_word_by F__law_word_by.kp b__law_word_by .nil pass0 (pa_cons (pe_op op_fdiv (pv 1) pe_int) (pa_cons (pv 3) (pa_cons (pv 4) pa_nil)))) (pa_cons (pv 5) pa_nil)))))
   (pss_cons (ps_if (pt_cmpR op_eq (pe_ix ix_tup (pv 0) pe_int (fun _ _=>rfl)) pe_str (nomark _))
   (pss_one (ps_ret (pe_ix ix_list (pe_lst (pa_cons (pv 6) (pa_cons (pv 6) (pa_cons (pv 6) (pa_cons (pv 6) (pa_cons (pv 6) (pa_cons (pv 6) (pa_cons (pv 6) (pa_cons (pe_tup (pa_cons pe_str pa_nil)) (pa_cons (pv 7) pa_nil)))))))))) (pe_op op_mod (pv 1) pe_int) (fun _ _=>rfl))))
   pss_nil)
   (pss_cons (ps_if (pt_cmpR op_eq (pe_ix ix_tup (pv 0) pe_int (fun _ _=>rfl)) pe_str (nomark _))
   (pss_one (ps_ret (pe_ix ix_list (pe_lst (pa_cons (pv 7) (pa_cons (pv 7) (pa_cons (pv 7) (pa_cons (pe_tup (pa_cons pe_str pa_nil)) (pa_cons (pv 6) pa_nil)))))) (pe_op op_mod (pv 1) pe_int) (fun _ _=>rfl))))
   pss_nil)
   (pss_one (ps_ret (pe_ix ix_list (pe_lst (pa_cons (pv 6) (pa_cons (pe_tup (pa_cons pe_str pa_nil)) (pa_cons (pv 7) pa_nil)))) (pe_op op_mod (pv 1) pe_int) (fun _ _=>rfl))))))))),?_⟩
  walk_at "rd"
  refine⟨c,hd,rfl,fun m H1 s1=>⟨by omega,fun ph hph=>⟨⟨by decide,by decide⟩,c / 5,L,d,es,kvs,rfl,l1,l6,(s1.newT hph) _ _ hdd,hk,he,fun tw v H2 s2 htw hv=>⟨by omega,fun po hpo=>?_⟩⟩⟩⟩
  have s3:=(s1.newT hph).trans (s2.newT hpo (o:=.tup [V.str "differ",V.ref tw,V.int m]))
  have d1:DeedA (upd H2 po (.tup [V.str "differ",V.ref tw,V.int m])) ph (.hear m):=⟨ph,(s2.newT hpo) _ _ upd_same,fun v m e=>by cases e⟩
  have d2:DeedA (upd H2 po (.tup [V.str "differ",V.ref tw,V.int m])) po (.differ v m):=⟨tw,upd_same,fun v m e=>by cases e;exact Same.new hpo _ _ htw⟩
  have s3:Same H (upd H2 po (.tup [V.str "differ",V.ref tw,V.int m])):=s3
  have ht3:=s3 _ _ ht
  generalize upd H2 po (.tup [V.str "differ",V.ref tw,V.int m])=H3 at s3 d1 d2 ht3
  have c0:∀n:Int,0<n->0<=c%n/\c%n<n:=fun n hn=>⟨Int.emod_nonneg _ (by omega),Int.emod_lt_of_pos _ hn⟩
  have fin:∀(p:Addr) (xs:List V) (n:Int),H3 p=none->(xs.length:Int)=n->0<n->(∀y∈xs,y=V.ref ph\/y=V.ref po\/y=V.ref p)->∀p1,upd H3 p (.tup [V.str "agree"]) p1=none->∃x,SqL K (upd (upd H3 p (.tup [V.str "agree"])) p1 (.lst xs)) p1 x/\∃x_2,atI x (c%n)=some x_2/\Q x_2 (upd (upd H3 p (.tup [V.str "agree"])) p1 (.lst xs)):=fun p xs n hp hx hn0 hy p1 hp1=>by
   have s4:=(Same.new hp (o:=.tup [V.str "agree"])).newT hp1 (o:=.lst xs)
   have d3:DeedA (upd (upd H3 p (.tup [V.str "agree"])) p1 (.lst xs)) p .agree:=⟨p,Same.new hp1 _ _ upd_same,fun v m e=>by cases e⟩
   obtain⟨a,ha,dd,hdd',hok⟩:=pickR39 (P:=fun a=>∃dd,DeedA (upd (upd H3 p (.tup [V.str "agree"])) p1 (.lst xs)) a dd/\DOk39 es dd) (xs:=xs) (i:=c%n) (fun y h=>by
    rcases hy y h with rfl|rfl|rfl
    ·exact⟨_,rfl,_,d1.mono (TK.of s4),True.intro⟩
    ·exact⟨_,rfl,_,d2.mono (TK.of s4),hv⟩
    ·exact⟨_,rfl,_,d3,True.intro⟩) (c0 n hn0).1 (by rw[hx];exact (c0 n hn0).2)
   exact⟨xs,SqL.of upd_same,_,ha,k a dd _ (s3.trans s4) hdd' hok⟩
  refine⟨_,SqT.of ht3,_,rfl,rfl,ite2 (fun _=>?_) (fun _=>?_)⟩
  ·exact⟨by omega,fun p hp=>⟨by omega,fun p1 hp1=>⟨by decide,fin p _ 9 hp rfl (by decide) (by simp) p1 hp1⟩⟩⟩
  ·refine⟨_,SqT.of ht3,_,rfl,rfl,ite2 (fun _=>?_) (fun _=>?_)⟩
   ·exact⟨by omega,fun p hp=>⟨by omega,fun p1 hp1=>⟨by decide,fin p _ 5 hp rfl (by decide) (by simp) p1 hp1⟩⟩⟩
   ·exact⟨by omega,fun p hp=>⟨by omega,fun p1 hp1=>⟨by decide,fin p _ 3 hp rfl (by decide) (by simp) p1 hp1⟩⟩⟩
def dueS (s:AS)(x:Wish)(d:Deed39):Str:=match x,d with
 |.ask c,.hear m=>if m<0\/1000000000<m then "mark" else if c∈s.es.map (·.1) then "contradiction" else "taken"
 |.shown _ _,.agree => "taken"
 |.shown mm ws,.differ v m=>if isW s.L v=false then "word" else if m<0\/1000000000<m then "mark" else if markW mm (walkW ws v)=m then "nothing" else if v∈s.es.map (·.1) then "contradiction" else "taken"
 |_,_ => "turn"
theorem two39 {H:Hp}{a b:Addr}{x y u v:Str}(ha:H a=some (.lst [.str x,.str y]))(hb:H b=some (.lst [.str u,.str v])):EqD K H 4 (.ref a) (.ref b) (decide (x=u/\y=v)):=by
 have h:=EqD.flat (K:=K) (H:=H) (a:=a) (c:=b) (xs:=[.str x,.str y]) (ys:=[.str u,.str v]) (.inl ⟨SqL.of ha,SqL.of hb⟩) (by simp[flatV]) (by simp[flatV]) (fun x hx y hy=>by
  simp only[List.mem_cons,List.mem_nil_iff,or_false]at hx hy
  rcases hx with rfl|rfl<;>rcases hy with rfl|rfl<;>(show (_==_)=_;rw[Bool.eq_iff_iff];simp)) 3
 have e:decide ([V.str x,V.str y]=[V.str u,V.str v])=decide (x=u/\y=v):=by simp
 rw[e]at h
 exact h
def cnt39 (a b:Str):Nat:=(if decide (("ask" : Str)=a/\("hear" : Str)=b)=true then 1 else 0)+(if decide (("show" : Str)=a/\("agree" : Str)=b)=true then 1 else 0)+(if decide (("show" : Str)=a/\("differ" : Str)=b)=true then 1 else 0)
def sp_due39 (K:PySem.W.Frag):Sp:=fun vs H Q _=>∃(t q d:Addr) (s:AS) (x:Wish) (dd:Deed39) (kvs:List (List Key×V)) (B:Nat),vs=[.ref t,.ref q,.int s.L,.ref d]/\WishAt K H s.L (.ref t) x/\WOk B s x/\DeedA H q dd/\H d=some (.dT kvs)/\KeysW (s.es.map (·.1)) kvs/\∀H',Same H H'->Q (.str (dueS s x dd)) H'
theorem ok__law_due {f:Addr}{fd:FuncData}(F:Fun K "_law_due" "_law_due" s__law_due f fd)(T:Txt mg)
  (W:Own K mg C_Book C_Turns C_Hunt C_Asker)
  (Z:Exs K mg C_AskError C_BadWord C_BadMark C_OutOfTurn C_NoDifference C_Contradiction)
  {f__law_answer:Addr} {fd__law_answer:FuncData} (g__law_answer:FnOk P w K mg base CX0 1 f__law_answer fd__law_answer ["house","word"] (sp_answer38 K)) (F__law_answer:Fun K "_law_answer" "_law_answer" s__law_answer f__law_answer fd__law_answer) (b__law_answer:Binds K fd__law_answer ["house","word"] []) (m__law_answer:mg "_law_answer"=some (.ref f__law_answer))
  : FnOk P w K mg base CX0 2 f fd ["want","deed","letters","told"] (sp_due39 K):=by
 refine F.ok sc__law_due (fun vs H Q E h=>?_) (fun cdv A outer s H vs Q E hr h=>?_)
 ·obtain⟨t,q,d,s,x,dd,kvs,B,rfl,_⟩:=h;rfl
 ·obtain⟨t,q,d,s,x,dd,kvs,B,rfl,hW,ok,hD,hd,hk,k⟩:=h
  have hl:=line1000
  obtain⟨t',u,et,ht,hu⟩:=id hW
  cases et
  obtain⟨u2,hq,hu2⟩:=id hD
  have hq0:atI (dd.vs u2) 0=some (.str dd.tag):=by cases dd<;>rfl
  refine⟨_,(pss_lazy (ps_if (pt_cmpR op_eq (pe_bm PySem.F.plainAttrs_list PySem.F.slot_list_count PySem.F.type_list_count (mt_dcount (hu9 hr)) (pe_lst (pa_cons (pe_lst (pa_cons pe_str (pa_cons pe_str pa_nil))) (pa_cons (pe_lst (pa_cons pe_str (pa_cons pe_str pa_nil))) (pa_cons (pe_lst (pa_cons pe_str (pa_cons pe_str pa_nil))) pa_nil)))) (pa_cons (pe_lst (pa_cons (pe_ix ix_tup (pv 0) pe_int (fun _ _=>rfl)) (pa_cons (pe_ix ix_tup (pv 1) pe_int (fun _ _=>rfl)) pa_nil))) pa_nil)) pe_int (nomark _))
   (pss_one (ps_ret pe_str))
   pss_nil)
   (pss_lazy (ps_if (pt_cmpR op_eq (pe_ix ix_tup (pv 1) pe_int (fun _ _=>rfl)) pe_str (nomark _))
   (pss_one (ps_ret pe_str))
   pss_nil)
   (pss_cons (ps_set (i:=4) sc__law_due.nd rfl (Or.inl rfl) (pe_ix ix_tup (pv 0) pe_int (fun _ _=>rfl)))
   (pss_cut (ps_if (pt_cmpR op_eq (pe_ix ix_tup (pv 1) pe_int (fun _ _=>rfl)) pe_str (nomark _))
   (pss_cons (ps_set (i:=4) sc__law_due.nd rfl (Or.inl rfl) (pe_ix ix_tup (pv 1) pe_int (fun _ _=>rfl)))
   (pss_one (ps_for PassesOwn.never rfl (pi_tup (pv 4)) (pg_name (i:=5) sc__law_due.nd rfl (Or.inl rfl))
   (pss_one (ps_if (PW.pt (pw_or (pt_cmpR op_lt (pv 5) pe_int (nomark _)) (pw_or1 (pt_cmpR op_ge (pv 5) (pv 2) (nomark _)))))
   (pss_one (ps_ret pe_str))
   pss_nil)))))
   pss_nil)
   (pss_lazy (ps_if (PW.pt (pw_or (pt_cmpR op_lt (pe_ix ix_tup (pv 1) (pe_un un_neg pe_int) (fun _ _=>rfl)) pe_int (nomark _)) (pw_or1 (pt_cmpR op_gt (pe_ix ix_tup (pv 1) (pe_un un_neg pe_int) (fun _ _=>rfl)) pe_int (nomark _)))))
   (pss_one (ps_ret pe_str))
   pss_nil)
   (pss_lazy (ps_if (PW.pt (pw_and (pt_cmpR op_eq (pe_ix ix_tup (pv 1) pe_int (fun _ _=>rfl)) pe_str (nomark _)) (pw_and1 (pt_cmpR op_eq (pe_call g__law_answer (hr.mono (by decide)) rfl m__law_answer F__law_answer.kp b__law_answer .nil pass0 (pa_cons (pe_ix ix_tup (pv 0) pe_int (fun _ _=>rfl)) (pa_cons (pv 4) pa_nil))) (pe_ix ix_tup (pv 1) pe_int (fun _ _=>rfl)) (nomark _)))))
   (pss_one (ps_ret pe_str))
   pss_nil)
   (pss_lazy (ps_if (pt_cmp (pc_din (hu_of hr) (pv 4) (pv 3)))
   (pss_one (ps_ret pe_str))
   pss_nil)
   (pss_one (ps_ret pe_str))))))))),?_⟩
  walk_at "rd"
  refine⟨by omega,fun p0 hp0=>⟨by omega,fun p1 hp1=>⟨by omega,fun p2 hp2=>⟨by omega,fun p3 hp3=>⟨.inl ⟨rfl,_,SqL.of upd_same⟩,?_⟩⟩⟩⟩⟩
  have sa:=(((Same.new hp0 (o:=.lst [V.str "ask",V.str "hear"])).newT hp1 (o:=.lst [V.str "show",V.str "agree"])).newT hp2 (o:=.lst [V.str "show",V.str "differ"])).newT hp3 (o:=.lst [V.ref p0,V.ref p1,V.ref p2])
  have u0:=(((Same.new hp1 (o:=.lst [V.str "show",V.str "agree"])).newT hp2 (o:=.lst [V.str "show",V.str "differ"])).newT hp3 (o:=.lst [V.ref p0,V.ref p1,V.ref p2])) p0 _ upd_same
  have u1:=((Same.new hp2 (o:=.lst [V.str "show",V.str "differ"])).newT hp3 (o:=.lst [V.ref p0,V.ref p1,V.ref p2])) p1 _ upd_same
  have u2':=(Same.new hp3 (o:=.lst [V.ref p0,V.ref p1,V.ref p2])) p2 _ upd_same
  have u3:upd (upd (upd (upd H p0 (.lst [V.str "ask",V.str "hear"])) p1 (.lst [V.str "show",V.str "agree"])) p2 (.lst [V.str "show",V.str "differ"])) p3 (.lst [V.ref p0,V.ref p1,V.ref p2]) p3=some (.lst [V.ref p0,V.ref p1,V.ref p2]):=upd_same
  have n10:p1≠p0:=fun z=>by rw[z,upd_same]at hp1;cases hp1
  have n20:p2≠p0:=fun z=>by rw[z,upd_ne n10.symm,upd_same]at hp2;cases hp2
  have n21:p2≠p1:=fun z=>by rw[z,upd_same]at hp2;cases hp2
  generalize upd (upd (upd (upd H p0 (.lst [V.str "ask",V.str "hear"])) p1 (.lst [V.str "show",V.str "agree"])) p2 (.lst [V.str "show",V.str "differ"])) p3 (.lst [V.ref p0,V.ref p1,V.ref p2])=H1 at sa u0 u1 u2' u3 ⊢
  refine⟨_,SqT.of (sa _ _ ht),_,rfl,_,SqT.of (sa _ _ hq),_,hq0,by omega,fun p4 hp4=>?_⟩
  have sb:=Same.new hp4 (o:=.lst [V.str x.tag,V.str dd.tag])
  have u4:upd H1 p4 (.lst [V.str x.tag,V.str dd.tag]) p4=some (.lst [V.str x.tag,V.str dd.tag]):=upd_same
  have s2:=sa.trans sb
  have v0:=sb _ _ u0
  have v1:=sb _ _ u1
  have v2:=sb _ _ u2'
  have v3:=sb _ _ u3
  generalize upd H1 p4 (.lst [V.str x.tag,V.str dd.tag])=H2 at u4 s2 v0 v1 v2 v3 ⊢
  obtain⟨e,he⟩:∃e:Addr->Bool,e=fun a=>if a=p0 then decide (("ask" : Str)=x.tag/\("hear" : Str)=dd.tag) else if a=p1 then decide (("show" : Str)=x.tag/\("agree" : Str)=dd.tag) else decide (("show" : Str)=x.tag/\("differ" : Str)=dd.tag):=⟨_,rfl⟩
  have e0:e p0=decide (("ask" : Str)=x.tag/\("hear" : Str)=dd.tag):=by rw[he];exact if_pos rfl
  have e1:e p1=decide (("show" : Str)=x.tag/\("agree" : Str)=dd.tag):=by rw[he];dsimp only;rw[if_neg n10,if_pos rfl]
  have e2:e p2=decide (("show" : Str)=x.tag/\("differ" : Str)=dd.tag):=by rw[he];dsimp only;rw[if_neg n20,if_neg n21]
  have hc:(List.countP e [p0,p1,p2])=(if e p0=true then 1 else 0)+(if e p1=true then 1 else 0)+(if e p2=true then 1 else 0):=by
   simp[List.countP_cons]
   omega
  refine⟨[p0,p1,p2],v3,e,fun a ha=>?_,?_⟩
  ·simp only[List.mem_cons,List.mem_nil_iff,or_false]at ha
   rcases ha with rfl|rfl|rfl
   ·rw[e0];exact two39 v0 u4
   ·rw[e1];exact two39 v1 u4
   ·rw[e2];exact two39 v2 u4
  rw[hc,e0,e1,e2]
  rw[show (if decide (("ask" : Str)=x.tag/\("hear" : Str)=dd.tag)=true then 1 else 0)+(if decide (("show" : Str)=x.tag/\("agree" : Str)=dd.tag)=true then 1 else 0)+(if decide (("show" : Str)=x.tag/\("differ" : Str)=dd.tag)=true then 1 else 0)=cnt39 x.tag dd.tag from rfl]
  have hq2:=s2 _ _ hq
  have ht2:=s2 _ _ ht
  have hd2:=s2 _ _ hd
  have kk:=fun H' (z:Same H2 H')=>k H' (s2.trans z)
  clear k e0 e1 e2 hc he v0 v1 v2 v3 u0 u1 u2' u3 u4 sa sb
  have fin:∀(w':Addr) (wd:List Int) (o5:Option V) (H3:Hp),Same H2 H3->H3 w'=some (.tup (wd.map V.int))->(∃kvs',Rd H3 d (.dT kvs')/\KeysW (s.es.map (·.1)) kvs'):=fun w' wd o5 H3 s3 hw=>⟨kvs,.inl (s3 _ _ hd2),hk⟩
  cases x with
  |ask c=>
   cases dd with
   |hear m=>
    rw[show cnt39 (Wish.tag (.ask c)) (Deed39.tag (.hear m))=1 from (by decide:cnt39 "ask" "hear"=1),if_neg (by decide)]
    refine later_of ?_
    walk_at "rd"
    refine⟨_,SqT.of hq2,_,rfl,rfl,?_⟩
    rw[if_neg (by decide)]
    refine later_of ?_
    walk_at "rd"
    refine⟨_,SqT.of ht2,_,rfl,?_⟩
    obtain⟨R0,hR0⟩:∃R0:St->Hp->Prop,∀σ' H',R0 σ' H'↔(H'=H2/\σ'=[some (.ref t),some (.ref q),some (.int s.L),some (.ref d),some (.ref u),none]):=⟨_,fun _ _=>Iff.rfl⟩
    refine⟨R0,?_,fun σ3 H3 h3=>?_⟩
    ·walk_at "rd"
     refine⟨_,SqT.of hq2,_,rfl,rfl,?_⟩
     rw[if_neg (by decide)]
     exact (hR0 _ _).mpr ⟨rfl,rfl⟩
    obtain⟨rfl,rfl⟩:=(hR0 _ _).mp h3
    walk_at "rd"
    refine⟨_,SqT.of hq2,V.int m,rfl,m,rfl,ite2 (fun g=>?_) (fun g=>⟨_,SqT.of hq2,V.int m,rfl,m,rfl,ite2 (fun g'=>?_) (fun g'=>?_)⟩)⟩
    ·have e:dueS s (.ask c) (.hear m) = "mark" := by exact if_pos (.inl g)
     rw[<-e];exact kk _ (Same.refl _)
    ·have e:dueS s (.ask c) (.hear m) = "mark" := by exact if_pos (.inr g')
     rw[<-e];exact kk _ (Same.refl _)
    refine later_of ?_
    walk_at "rd"
    refine⟨_,SqT.of hq2,_,rfl,rfl,?_⟩
    rw[if_neg (by decide)]
    refine later_of ?_
    walk_at "rd"
    refine⟨_,.inr ⟨kvs,wkey c,u,.inl hd2,rfl,by rw[wkey_kV];exact s2 _ _ hu,rfl⟩,?_⟩
    rw[hk.some_iff]
    have hgm:¬ (m<0\/1000000000<m):=by omega
    refine ite2 (fun hin=>?_) (fun hin=>?_)
    ·have e:dueS s (.ask c) (.hear m) = "contradiction" := by show (if _ then _ else _)=_;rw[if_neg hgm];exact if_pos (of_decide_eq_true hin)
     rw[<-e];exact kk _ (Same.refl _)
    ·have e:dueS s (.ask c) (.hear m) = "taken" := by show (if _ then _ else _)=_;rw[if_neg hgm];exact if_neg (fun z=>hin (decide_eq_true z))
     refine later_of ?_
     walk_at "rd"
     rw[<-e];exact kk _ (Same.refl _)
   |agree=>rw[show cnt39 (Wish.tag (.ask c)) (Deed39.tag .agree)=0 from (by decide:cnt39 "ask" "agree"=0),if_pos (by decide)];exact kk _ (Same.refl _)
   |differ v m=>rw[show cnt39 (Wish.tag (.ask c)) (Deed39.tag (.differ v m))=0 from (by decide:cnt39 "ask" "differ"=0),if_pos (by decide)];exact kk _ (Same.refl _)
  |shown mm ws=>
   cases dd with
   |hear m=>rw[show cnt39 (Wish.tag (.shown mm ws)) (Deed39.tag (.hear m))=0 from (by decide:cnt39 "show" "hear"=0),if_pos (by decide)];exact kk _ (Same.refl _)
   |agree=>
    rw[show cnt39 (Wish.tag (.shown mm ws)) (Deed39.tag .agree)=1 from (by decide:cnt39 "show" "agree"=1),if_neg (by decide)]
    refine later_of ?_
    walk_at "rd"
    refine⟨_,SqT.of hq2,_,rfl,rfl,?_⟩
    rw[if_pos (by decide)]
    exact kk _ (Same.refl _)
   |differ v m=>
    have hu2':=s2 _ _ (hu2 v m rfl)
    rw[show cnt39 (Wish.tag (.shown mm ws)) (Deed39.tag (.differ v m))=1 from (by decide:cnt39 "show" "differ"=1),if_neg (by decide)]
    refine later_of ?_
    walk_at "rd"
    refine⟨_,SqT.of hq2,_,rfl,rfl,?_⟩
    rw[if_neg (by decide)]
    refine later_of ?_
    walk_at "rd"
    refine⟨_,SqT.of ht2,_,rfl,?_⟩
    obtain⟨R0,hR0⟩:∃R0:St->Hp->Prop,∀σ' H',R0 σ' H'↔(H'=H2/\isW s.L v=true/\∃o5,σ'=[some (.ref t),some (.ref q),some (.int s.L),some (.ref d),some (.ref u2),o5]):=⟨_,fun _ _=>Iff.rfl⟩
    refine⟨R0,?_,fun σ3 H3 h3=>?_⟩
    ·walk_at "rd"
     refine⟨_,SqT.of hq2,_,rfl,rfl,?_⟩
     rw[if_pos (by decide)]
     refine⟨_,SqT.of hq2,_,rfl,?_⟩
     refine⟨u2,rfl,⟨_,SqT.of hu2'⟩,?_⟩
     obtain⟨Pv,hPv⟩:∃Pv:Nat->St->Hp->Prop,∀i σ' H',Pv i σ' H'↔(H'=H2/\(∀z∈v.take i,0<=z/\z<(s.L:Int))/\∃o5,σ'=[some (.ref t),some (.ref q),some (.int s.L),some (.ref d),some (.ref u2),o5]):=⟨_,fun _ _ _=>Iff.rfl⟩
     refine forT (xs:=v.map V.int) Pv ((hPv _ _ _).mpr ⟨rfl,by simp,none,rfl⟩) (fun i σ' H' _ h'=>by rw[((hPv _ _ _).mp h').1];exact SqT.of hu2') (fun i xx σ' H' hx h'=>?_) (fun σ' H' h'=>?_)
     ·obtain⟨rfl,hb,o5,rfl⟩:=(hPv _ _ _).mp h'
      rw[List.getElem?_map]at hx
      obtain⟨z,hz,rfl⟩:∃z,v[i]?=some z/\xx=V.int z:=by
       cases hvi:v[i]? with
       |none=>rw[hvi]at hx;cases hx
       |some z=>rw[hvi]at hx;exact⟨z,rfl,(Option.some.inj hx).symm⟩
      have hno:¬ (0<=z/\z<(s.L:Int))->Q (.str "word") H':=fun hz'=>by
       have e:dueS s (.shown mm ws) (.differ v m) = "word" := by
        unfold dueS
        refine if_pos ?_
        cases hw:isW s.L v with
        |false=>rfl
        |true=>exact absurd (isW_iff.mp hw z (List.mem_of_getElem? hz)) hz'
       rw[<-e];exact kk _ (Same.refl _)
      walk_at "rd"
      refine ite2 (fun g=>hno (by omega)) (fun g=>ite2 (fun g'=>hno (by omega)) (fun g'=>(hPv _ _ _).mpr ⟨rfl,fun y hy=>?_,_,rfl⟩))
      rw[List.take_add_one,hz]at hy
      rcases List.mem_append.mp hy with h1|h1
      ·exact hb y h1
      ·rw[List.mem_singleton.mp h1];omega
     ·obtain⟨rfl,hb,o5,rfl⟩:=(hPv _ _ _).mp h'
      rw[List.length_map,List.take_length]at hb
      exact (hR0 _ _).mpr ⟨rfl,isW_iff.mpr hb,o5,rfl⟩
    obtain⟨rfl,hvw,o5,rfl⟩:=(hR0 _ _).mp h3
    walk_at "rd"
    refine⟨_,SqT.of hq2,V.int m,rfl,m,rfl,ite2 (fun g=>?_) (fun g=>⟨_,SqT.of hq2,V.int m,rfl,m,rfl,ite2 (fun g'=>?_) (fun g'=>?_)⟩)⟩
    ·have e:dueS s (.shown mm ws) (.differ v m) = "mark" := by show (if isW s.L v=false then _ else _)=_;rw[if_neg (by rw[hvw];decide)];exact if_pos (.inl g)
     rw[<-e];exact kk _ (Same.refl _)
    ·have e:dueS s (.shown mm ws) (.differ v m) = "mark" := by show (if isW s.L v=false then _ else _)=_;rw[if_neg (by rw[hvw];decide)];exact if_pos (.inr g')
     rw[<-e];exact kk _ (Same.refl _)
    have hmm:¬ (m<0\/1000000000<m):=by omega
    refine later_of ?_
    walk_at "rd"
    refine⟨_,SqT.of hq2,_,rfl,rfl,?_⟩
    rw[if_pos (by decide)]
    have wfg:=ok.1.tb.wf ok.2.2.2.2.1
    refine⟨_,SqT.of ht2,_,rfl,u,u2,s.L,mm,ws,v,rfl,HouT.house (HouT.mono hu (TK.of s2)),wfg,SqT.of hu2',hvw,_,SqT.of hq2,_,rfl,rfl,?_⟩
    have due0:dueS s (.shown mm ws) (.differ v m)=if markW mm (walkW ws v)=m then ("nothing" : Str) else if v∈s.es.map (·.1) then ("contradiction" : Str) else ("taken" : Str):=by
     show (if isW s.L v=false then _ else _)=_
     rw[if_neg (by rw[hvw];decide),if_neg hmm]
    refine ite2 (fun g2=>?_) (fun g2=>?_)
    ·rw[if_pos (V.int.inj g2)]at due0
     rw[<-due0];exact kk _ (Same.refl _)
    rw[if_neg (fun z=>g2 (by rw[z]))]at due0
    refine later_of ?_
    walk_at "rd"
    refine⟨_,.inr ⟨kvs,wkey v,u2,.inl hd2,rfl,by rw[wkey_kV];exact hu2',rfl⟩,?_⟩
    rw[hk.some_iff]
    refine ite2 (fun hin=>?_) (fun hin=>?_)
    ·rw[if_pos (of_decide_eq_true hin)]at due0
     rw[<-due0];exact kk _ (Same.refl _)
    ·rw[if_neg (fun z=>hin (decide_eq_true z))]at due0
     refine later_of ?_
     walk_at "rd"
     rw[<-due0];exact kk _ (Same.refl _)
  |done mm ws=>
   cases dd with
   |hear m=>rw[show cnt39 (Wish.tag (.done mm ws)) (Deed39.tag (.hear m))=0 from (by decide:cnt39 "done" "hear"=0),if_pos (by decide)];exact kk _ (Same.refl _)
   |agree=>rw[show cnt39 (Wish.tag (.done mm ws)) (Deed39.tag .agree)=0 from (by decide:cnt39 "done" "agree"=0),if_pos (by decide)];exact kk _ (Same.refl _)
   |differ v m=>rw[show cnt39 (Wish.tag (.done mm ws)) (Deed39.tag (.differ v m))=0 from (by decide:cnt39 "done" "differ"=0),if_pos (by decide)];exact kk _ (Same.refl _)
  |spent c=>
   cases dd with
   |hear m=>rw[show cnt39 (Wish.tag (.spent c)) (Deed39.tag (.hear m))=0 from (by decide:cnt39 "spent" "hear"=0),if_pos (by decide)];exact kk _ (Same.refl _)
   |agree=>rw[show cnt39 (Wish.tag (.spent c)) (Deed39.tag .agree)=0 from (by decide:cnt39 "spent" "agree"=0),if_pos (by decide)];exact kk _ (Same.refl _)
   |differ v m=>rw[show cnt39 (Wish.tag (.spent c)) (Deed39.tag (.differ v m))=0 from (by decide:cnt39 "spent" "differ"=0),if_pos (by decide)];exact kk _ (Same.refl _)
def sp_all39 (K:PySem.W.Frag)(CA CB:Addr):Sp:=fun vs H Q _=>∃(a:Addr) (ad:AD) (s:AS) (wv:V),vs=[.ref a]/\Asks K CA CB H a ad s wv/\∀q l1 l2 l3 xs ys rs H',Same H H'->H q=none->H' q=some (.lst [wv,.ref l1,.ref l2,.ref l3])->H' l1=some (.lst xs)->WordsT K H' xs s.W->H' l2=some (.lst ys)->WordsT K H' ys s.E->H' l3=some (.lst rs)->TrialsS H' rs s.es->Q (.ref q) H'
theorem ok__law_all {f:Addr}{fd:FuncData}(F:Fun K "_law_all" "_law_all" s__law_all f fd)(T:Txt mg)
  (W:Own K mg C_Book C_Turns C_Hunt C_Asker)
  (Z:Exs K mg C_AskError C_BadWord C_BadMark C_OutOfTurn C_NoDifference C_Contradiction)
  {f_Turns_wants:Addr} {fd_Turns_wants:FuncData} (g_Turns_wants:FnOk P w K mg base CX0 1 f_Turns_wants fd_Turns_wants ["self"] (sp_wants K C_Asker C_Book)) (F_Turns_wants:Fun K "wants" "Turns.wants" s_Turns_wants f_Turns_wants fd_Turns_wants) (b_Turns_wants:Binds K fd_Turns_wants ["self"] []) (m_Turns_wants:Meth K C_Asker "wants" f_Turns_wants)
  {f_Hunt_heard:Addr} {fd_Hunt_heard:FuncData} (g_Hunt_heard:FnOk P w K mg base CX0 2 f_Hunt_heard fd_Hunt_heard ["self"] (sp_heard39 K C_Asker C_Book)) (F_Hunt_heard:Fun K "heard" "Hunt.heard" s_Hunt_heard f_Hunt_heard fd_Hunt_heard) (b_Hunt_heard:Binds K fd_Hunt_heard ["self"] []) (m_Hunt_heard:Meth K C_Asker "heard" f_Hunt_heard)
  {f_Hunt_access:Addr} {fd_Hunt_access:FuncData} (g_Hunt_access:FnOk P w K mg base CX0 1 f_Hunt_access fd_Hunt_access ["self"] (sp_list39 K C_Asker C_Book AS.W)) (F_Hunt_access:Fun K "access" "Hunt.access" s_Hunt_access f_Hunt_access fd_Hunt_access) (b_Hunt_access:Binds K fd_Hunt_access ["self"] []) (m_Hunt_access:Meth K C_Asker "access" f_Hunt_access)
  {f_Hunt_tellers:Addr} {fd_Hunt_tellers:FuncData} (g_Hunt_tellers:FnOk P w K mg base CX0 1 f_Hunt_tellers fd_Hunt_tellers ["self"] (sp_list39 K C_Asker C_Book AS.E)) (F_Hunt_tellers:Fun K "tellers" "Hunt.tellers" s_Hunt_tellers f_Hunt_tellers fd_Hunt_tellers) (b_Hunt_tellers:Binds K fd_Hunt_tellers ["self"] []) (m_Hunt_tellers:Meth K C_Asker "tellers" f_Hunt_tellers)
  : FnOk P w K mg base CX0 3 f fd ["asker"] (sp_all39 K C_Asker C_Book):=by
 refine F.ok sc__law_all (fun vs H Q E h=>?_) (fun cdv A outer s H vs Q E hr h=>?_)
 ·obtain⟨a,ad,s,wv,rfl,_⟩:=h;rfl
 ·obtain⟨a,ad,s,wv,rfl,hA,k⟩:=h
  have hl:=line1000
  obtain⟨gv,rv,zs,ys,us,A⟩:=id hA
  refine⟨_,(pss_one (ps_ret (pe_lst (pa_cons (pe_meth0 (pv 0) W.cl_Asker m_Turns_wants g_Turns_wants (hr.mono (by decide)) b_Turns_wants .nil pass0) (pa_cons (pe_meth0 (pv 0) W.cl_Asker m_Hunt_access g_Hunt_access (hr.mono (by decide)) b_Hunt_access .nil pass0) (pa_cons (pe_meth0 (pv 0) W.cl_Asker m_Hunt_tellers g_Hunt_tellers (hr.mono (by decide)) b_Hunt_tellers .nil pass0) (pa_cons (pe_meth0 (pv 0) W.cl_Asker m_Hunt_heard g_Hunt_heard (hr.mono (by decide)) b_Hunt_heard .nil pass0) pa_nil))))))),?_⟩
  walk_at "rd"
  refine⟨_,_,A.ob,by kernel_rfl,a,ad,s,wv,rfl,hA,?_⟩
  refine⟨_,_,A.ob,by kernel_rfl,a,ad,s,wv,rfl,hA,fun l1 xs H1 s1 h1N h1 w1=>?_⟩
  refine⟨_,_,(A.same s1).ob,by kernel_rfl,a,ad,s,wv,rfl,⟨_,_,_,_,_,A.same s1⟩,fun l2 ys' H2 s2 h2N h2 w2=>?_⟩
  have s12:=s1.trans s2
  refine⟨_,_,(A.same s12).ob,by kernel_rfl,a,ad,s,wv,rfl,⟨_,_,_,_,_,A.same s12⟩,fun l3 rs H3 s3 h3N h3 tr=>⟨by omega,fun q hq=>?_⟩⟩
  have s4:=Same.new hq (o:=.lst [wv,V.ref l1,V.ref l2,V.ref l3])
  exact k q l1 l2 l3 xs ys' rs _ (s12.trans (s3.trans s4)) ((s12.trans s3).none hq) upd_same ((s2.trans (s3.trans s4)) _ _ h1) (w1.mono (TK.of (s2.trans (s3.trans s4)))) ((s3.trans s4) _ _ h2) (w2.mono (TK.of (s3.trans s4))) (s4 _ _ h3) (tr.mono (TK.of s4))
def Then39b (K:PySem.W.Frag)(CA CB:Addr)(H:Hp)(a:Addr)(ad:AD)(s:AS)(x:Wish)(dd:Deed39)(Q:VK):Prop:=
 match x,dd with
 |.ask c,.hear m=>∀ad' H' s' x' wv',Goes {s with es:=s.es++[(c,m)]} s' x'->Asks K CA CB H' a ad' s' wv'->WishAt K H' s.L wv' x'->Frm H H' a ad->AdOk H ad ad'->Q (.str "taken") H'
 |.shown mm ws,.agree=>∀H' wv',Asks K CA CB H' a ad s wv'->WishAt K H' s.L wv' (.done mm ws)->Frm H H' a ad->Q (.str "taken") H'
 |.shown mm ws,.differ v m=>∀ad' H' s' x' wv',Goes {s with es:=s.es++[(v,m)]} s' x'->Asks K CA CB H' a ad' s' wv'->WishAt K H' s.L wv' x'->Frm H H' a ad->AdOk H ad ad'->Q (.str "taken") H'
 |_,_=>True
theorem wok39 {B:Nat}{s:AS}{x:Wish}(o:WOk B s x):∃y,OkX y B s:=by
 cases x with
 |ask c=>exact⟨_,o.1⟩
 |shown m ws=>exact⟨_,o.1⟩
 |done m ws=>exact⟨_,o.1⟩
 |spent c=>exact⟨_,o.1⟩
def names39:List Str:=["turn","word","mark","nothing","contradiction"]
def five39 (b0 b1 b2 b3 b4:Bool)(j:Nat):Prop:=[b0,b1,b2,b3,b4]=(List.range 5).map (fun i=>decide (i=j))/\j<5
def sp_done39 (K:PySem.W.Frag)(CA CB:Addr):Sp:=fun vs H Q _=>∃(a t:Addr) (ad:AD) (s:AS) (wv:V) (x:Wish) (B:Nat) (dd:Deed39),vs=[.ref a,.ref t]/\Asks K CA CB H a ad s wv/\WishAt K H s.L wv x/\WOk B s x/\Bd B s/\6<=B/\s.es.length<=1000/\DeedA H t dd/\DOk39 s.es dd/\(dueS s x dd ≠ "taken" -> ∀H',Same H H'->Q (.str (dueS s x dd)) H')/\(dueS s x dd = "taken" -> Then39b K CA CB H a ad s x dd Q)
theorem ok__law_done {f:Addr}{fd:FuncData}(F:Fun K "_law_done" "_law_done" s__law_done f fd)(T:Txt mg)
  (W:Own K mg C_Book C_Turns C_Hunt C_Asker)
  (Z:Exs K mg C_AskError C_BadWord C_BadMark C_OutOfTurn C_NoDifference C_Contradiction)
  {f_Hunt_agree:Addr} {fd_Hunt_agree:FuncData} (g_Hunt_agree:FnOk P w K mg base (CXe P w) 2 f_Hunt_agree fd_Hunt_agree ["self"] (sp_agree K C_Asker C_Book C_OutOfTurn)) (F_Hunt_agree:Fun K "agree" "Hunt.agree" s_Hunt_agree f_Hunt_agree fd_Hunt_agree) (b_Hunt_agree:Binds K fd_Hunt_agree ["self"] []) (m_Hunt_agree:Meth K C_Asker "agree" f_Hunt_agree)
  {f_Asker_hear:Addr} {fd_Asker_hear:FuncData} (g_Asker_hear:FnOk P w K mg base (CXe P w) 14 f_Asker_hear fd_Asker_hear ["self","mark"] (sp_keep K C_Asker C_Book C_OutOfTurn C_BadMark)) (F_Asker_hear:Fun K "hear" "Asker.hear" s_Asker_hear f_Asker_hear fd_Asker_hear) (b_Asker_hear:Binds K fd_Asker_hear ["self","mark"] []) (m_Asker_hear:Meth K C_Asker "hear" f_Asker_hear)
  {f_Asker_differ:Addr} {fd_Asker_differ:FuncData} (g_Asker_differ:FnOk P w K mg base (CXe P w) 14 f_Asker_differ fd_Asker_differ ["self","word","mark"] (sp_obj K C_Asker C_Book C_OutOfTurn C_BadWord C_BadMark C_NoDifference C_Contradiction)) (F_Asker_differ:Fun K "differ" "Asker.differ" s_Asker_differ f_Asker_differ fd_Asker_differ) (b_Asker_differ:Binds K fd_Asker_differ ["self","word","mark"] []) (m_Asker_differ:Meth K C_Asker "differ" f_Asker_differ)
  : FnOk P w K mg base CX0 15 f fd ["asker","deed"] (sp_done39 K C_Asker C_Book):=by
 refine F.ok sc__law_done (fun vs H Q E h=>?_) (fun cdv A outer s H vs Q E hr h=>?_)
 ·obtain⟨a,t,ad,s,wv,x,B,dd,rfl,_⟩:=h;rfl
 ·obtain⟨a,t,ad,s,wv,x,B,dd,rfl,hA,hW,ok,hbd,hB6,hes,hD,hok,kn,kt⟩:=h
  have hl:=line1000
  refine⟨_,(pss_lazy (ps_set (i:=2) sc__law_done.nd rfl (Or.inl rfl) pe_non)
   (pss_lazy (ps_set (i:=3) sc__law_done.nd rfl (Or.inl rfl) pe_non)
   (pss_cut (ps_try (i:=4) (E:=(fun σ cls d H1=>σ=[some (.ref a),some (.ref t),some .non,some .non,none,none]/\d=none/\Same H H1/\((cls=.ref C_OutOfTurn/\dueS s x dd = "turn")\/(cls=.ref C_BadWord/\dueS s x dd = "word")\/(cls=.ref C_BadMark/\dueS s x dd = "mark")\/(cls=.ref C_NoDifference/\dueS s x dd = "nothing")\/(cls=.ref C_Contradiction/\dueS s x dd = "contradiction")))) sc__law_done.nd rfl rfl rfl Z.m_AskError rfl rfl rfl (fun xe pn hx=>(pss_one (ps_if (pt_cmpR op_eq (pe_ix (ix_tupK (K:=K) rfl) (pv 1) pe_int (fun _ _=>rfl)) pe_str (nomark _))
   (pss_one (ps_set (i:=3) sc__law_done.nd rfl (Or.inl rfl) (pe_methE (pv 0) W.cl_Asker m_Asker_hear g_Asker_hear (hr.mono (by decide)) b_Asker_hear .nil hx (pa_cons (pe_ix (ix_tupK (K:=K) rfl) (pv 1) pe_int (fun _ _=>rfl)) pa_nil))))
   (pss_one (ps_if (pt_cmpR op_eq (pe_ix (ix_tupK (K:=K) rfl) (pv 1) pe_int (fun _ _=>rfl)) pe_str (nomark _))
   (pss_one (ps_set (i:=3) sc__law_done.nd rfl (Or.inl rfl) (pe_meth0E (pv 0) W.cl_Asker m_Hunt_agree g_Hunt_agree (hr.mono (by decide)) b_Hunt_agree .nil hx)))
   (pss_one (ps_set (i:=3) sc__law_done.nd rfl (Or.inl rfl) (pe_methE (pv 0) W.cl_Asker m_Asker_differ g_Asker_differ (hr.mono (by decide)) b_Asker_differ .nil hx (pa_cons (pe_ix (ix_tupK (K:=K) rfl) (pv 1) pe_int (fun _ _=>rfl)) (pa_cons (pe_ix (ix_tupK (K:=K) rfl) (pv 1) pe_int (fun _ _=>rfl)) pa_nil))))))))))
   (fun ea pn=>(pss_one (ps_set (i:=2) sc__law_done.nd rfl (Or.inl rfl) (pv 4)))))
   (pss_lazy (ps_if (pt_cmpR op_notN (pv 3) pe_non (nomark _))
   (pss_one (ps_ret pe_str))
   pss_nil)
   (pss_lazy (ps_if (pt_cmpR op_isN (pv 2) pe_non (nomark _))
   (pss_one (ps_ret pe_str))
   pss_nil)
   (pss_lazy (ps_set (i:=5) sc__law_done.nd rfl (Or.inl rfl) (pe_lst (pa_cons (pe_callB call_isinstW rfl T.isinstance PyProof.Rows.boot_isinstance (pa_cons (pv 2) (pa_cons (pe_glob (v:=.ref C_OutOfTurn) rfl Z.m_OutOfTurn rfl) pa_nil))) (pa_cons (pe_callB call_isinstW rfl T.isinstance PyProof.Rows.boot_isinstance (pa_cons (pv 2) (pa_cons (pe_glob (v:=.ref C_BadWord) rfl Z.m_BadWord rfl) pa_nil))) (pa_cons (pe_callB call_isinstW rfl T.isinstance PyProof.Rows.boot_isinstance (pa_cons (pv 2) (pa_cons (pe_glob (v:=.ref C_BadMark) rfl Z.m_BadMark rfl) pa_nil))) pa_nil)))))
   (pss_lazy (ps_set (i:=5) sc__law_done.nd rfl (Or.inl rfl) (pe_op op_cat (pv 5) (pe_lst (pa_cons (pe_callB call_isinstW rfl T.isinstance PyProof.Rows.boot_isinstance (pa_cons (pv 2) (pa_cons (pe_glob (v:=.ref C_NoDifference) rfl Z.m_NoDifference rfl) pa_nil))) (pa_cons (pe_callB call_isinstW rfl T.isinstance PyProof.Rows.boot_isinstance (pa_cons (pv 2) (pa_cons (pe_glob (v:=.ref C_Contradiction) rfl Z.m_Contradiction rfl) pa_nil))) pa_nil)))))
   (pss_cons (ps_if (PW.pt (pw_or (pt_not (pt_val (pe_callB call_isinstW rfl T.isinstance PyProof.Rows.boot_isinstance (pa_cons (pv 2) (pa_cons (pe_bltn (v:=.ty "ValueError") rfl T.ValueError L2.boot_ValueError rfl) pa_nil))))) (pw_or1 (pt_cmpR op_ne (pe_callB (call_sum rfl) rfl T.sum PyProof.Rows.boot_sum (pa_cons (pe_comp rfl (blk_mk rfl) (cp:=c__law_done_0) True.intro (pi_list (pv 5)) (fun _ _ _ _=>(pg_name (i:=0) nd_c__law_done_0 rfl (Or.inl rfl))) (fun _ _ _ _=>pf_nil) (fun _ _ _ _=>(pe_callTy call_int1 rfl T.int PyProof.Rows.boot_int (pa_cons (pv 0) pa_nil)))) pa_nil)) pe_int (nomark _)))))
   (pss_one (ps_ret pe_str))
   pss_nil)
   (pss_one (ps_ret (pe_ix ix_list (pe_lst (pa_cons pe_str (pa_cons pe_str (pa_cons pe_str (pa_cons pe_str (pa_cons pe_str pa_nil)))))) (pe_bm PySem.F.plainAttrs_list PySem.F.slot_list_index PySem.F.type_list_index mt_lindex (pv 5) (pa_cons pe_bl pa_nil)) (fun _ _=>rfl)))))))))))),?_⟩
  walk_at "rd"
  obtain⟨gv,rv,zs,ys,us,A⟩:=id hA
  obtain⟨u2,ht,hu2⟩:=id hD
  have h0:atI (dd.vs u2) 0=some (.str dd.tag):=by cases dd<;>rfl
  refine later_of ?_
  walk_at "rd"
  obtain⟨R0,hR0⟩:∃R0:St->Hp->Prop,∀σ' H',R0 σ' H'↔((σ'=[some (.ref a),some (.ref t),some .non,some .non,none,none]/\Q (.str "taken") H')\/(∃(ea C:Addr) (b0 b1 b2 b3 b4:Bool) (j:Nat),σ'=[some (.ref a),some (.ref t),some (.ref ea),some .non,none,none]/\H' ea=some (excO ea C)/\ExcCls K C/\Same H H'/\PySem.W.kitOne K (.ref C) (.ref C_OutOfTurn)=some b0/\PySem.W.kitOne K (.ref C) (.ref C_BadWord)=some b1/\PySem.W.kitOne K (.ref C) (.ref C_BadMark)=some b2/\PySem.W.kitOne K (.ref C) (.ref C_NoDifference)=some b3/\PySem.W.kitOne K (.ref C) (.ref C_Contradiction)=some b4/\PySem.W.kitOne K (.ref C) (.type "ValueError")=some true/\five39 b0 b1 b2 b3 b4 j/\names39[j]?=some (dueS s x dd))):=⟨_,fun _ _=>Iff.rfl⟩
  refine⟨R0,?_,fun σ1 H1 h1=>?_⟩
  ·walk_at "rd"
   refine⟨⟨_,SqT.of ht,_,h0,rfl,?_⟩,fun σ1 cls H1 h1=>?_⟩
   ·have ntk:∀(z:Str),z ≠ "taken" -> dueS s x dd=z->dueS s x dd ≠ "taken" := fun z hz e=>by rw[e];exact hz
    have hE:∀(C:Addr) (z:Str),((Value.ref C=Value.ref C_OutOfTurn/\z = "turn")\/(Value.ref C=Value.ref C_BadWord/\z = "word")\/(Value.ref C=Value.ref C_BadMark/\z = "mark")\/(Value.ref C=Value.ref C_NoDifference/\z = "nothing")\/(Value.ref C=Value.ref C_Contradiction/\z = "contradiction"))->dueS s x dd=z->∀H1,Same H H1->Same H H1/\((Value.ref C=Value.ref C_OutOfTurn/\dueS s x dd = "turn")\/(Value.ref C=Value.ref C_BadWord/\dueS s x dd = "word")\/(Value.ref C=Value.ref C_BadMark/\dueS s x dd = "mark")\/(Value.ref C=Value.ref C_NoDifference/\dueS s x dd = "nothing")\/(Value.ref C=Value.ref C_Contradiction/\dueS s x dd = "contradiction")):=fun C z hz e H1 s1=>⟨s1,by rw[e];exact hz⟩
    cases dd with
    |hear m=>
     rw[if_pos (show V.str (Deed39.hear m).tag=V.str ("hear" : Str) from rfl)]
     refine⟨_,_,A.ob,by kernel_rfl,_,SqT.of ht,_,rfl,a,ad,s,wv,x,B,m,rfl,hA,hW,ok,hbd,by omega,fun hx=>?_,fun c hc=>?_⟩
     ·refine⟨rfl,hE C_OutOfTurn "turn" (.inl ⟨rfl,rfl⟩) ?_ H (Same.refl _)⟩
      cases x with
      |ask c=>exact absurd rfl hx
      |shown mm ws=>rfl
      |done mm ws=>rfl
      |spent c=>rfl
     ·subst hc
      have hnk:c∉s.es.map (·.1):=fun z=>by
       obtain⟨n,hn'⟩:=mkO_key.mp z
       rw[ok.2.1]at hn';cases hn'
      refine⟨fun hm H1 s1=>⟨rfl,hE C_BadMark "mark" (.inr (.inr (.inl ⟨rfl,rfl⟩))) (if_pos (by omega)) H1 s1⟩,fun m0 m9 ad' H' s' x' wv' g hA' hW' f k=>(hR0 _ _).mpr (.inl ⟨rfl,?_⟩)⟩
      exact kt (by show (if _ then _ else _)=_;rw[if_neg (by omega)];exact if_neg hnk) ad' H' s' x' wv' g hA' hW' f k
    |agree=>
     rw[if_neg (show ¬ V.str Deed39.agree.tag=V.str ("hear" : Str) from (by decide:¬ V.str ("agree" : Str)=V.str ("hear" : Str)))]
     refine⟨_,SqT.of ht,_,rfl,rfl,?_⟩
     rw[if_pos rfl]
     refine⟨_,_,A.ob,by kernel_rfl,a,ad,s,wv,x,rfl,hA,hW,fun hx=>?_,fun mm ws hx H' wv' hA' hW' f=>(hR0 _ _).mpr (.inl ⟨rfl,?_⟩)⟩
     ·refine⟨rfl,hE C_OutOfTurn "turn" (.inl ⟨rfl,rfl⟩) ?_ H (Same.refl _)⟩
      cases x with
      |ask c=>rfl
      |shown mm ws=>exact absurd rfl hx
      |done mm ws=>rfl
      |spent c=>rfl
     ·subst hx
      exact kt rfl H' wv' hA' hW' f
    |differ v m=>
     have hu:=hu2 v m rfl
     have hv600:v.length<=600:=by
      rcases hok with z|z
      ·omega
      ·obtain⟨p,hp,rfl⟩:=List.mem_map.mp z
       obtain⟨y,o⟩:=wok39 ok
       have:=o.lb p hp
       have:=o.lens
       have:B+(s.most+1)*(s.most+1)+s.most<=500:=hbd
       split at *<;>omega
     rw[if_neg (show ¬ V.str (Deed39.differ v m).tag=V.str ("hear" : Str) from (by decide:¬ V.str ("differ" : Str)=V.str ("hear" : Str)))]
     refine⟨_,SqT.of ht,_,rfl,rfl,?_⟩
     rw[if_neg (show ¬ V.str ("differ" : Str)=V.str ("agree" : Str) by decide)]
     refine⟨_,_,A.ob,by kernel_rfl,_,SqT.of ht,_,rfl,_,SqT.of ht,_,rfl,a,u2,ad,s,wv,x,B,v,m,rfl,hA,hW,ok,hbd,by omega,hu,hv600,fun hx=>?_,fun mm ws hx=>?_⟩
     ·refine⟨rfl,hE C_OutOfTurn "turn" (.inl ⟨rfl,rfl⟩) ?_ H (Same.refl _)⟩
      cases x with
      |ask c=>rfl
      |shown mm ws=>exact absurd rfl hx
      |done mm ws=>rfl
      |spent c=>rfl
     ·subst hx
      refine⟨fun hv H1 s1=>⟨rfl,hE C_BadWord "word" (.inr (.inl ⟨rfl,rfl⟩)) (if_pos hv) H1 s1⟩,fun hv hm H1 s1=>⟨rfl,hE C_BadMark "mark" (.inr (.inr (.inl ⟨rfl,rfl⟩))) ?_ H1 s1⟩,fun hv m0 m9=>?_⟩
      ·show (if _ then _ else _)=_
       rw[if_neg (by rw[hv];decide)]
       exact if_pos (by omega)
      ·have e0:dueS s (.shown mm ws) (.differ v m)=if markW mm (walkW ws v)=m then ("nothing" : Str) else if v∈s.es.map (·.1) then ("contradiction" : Str) else ("taken" : Str):=by
        show (if isW s.L v=false then _ else _)=_
        rw[if_neg (by rw[hv];decide),if_neg (by omega)]
       refine⟨fun hm H1 s1=>⟨rfl,hE C_NoDifference "nothing" (.inr (.inr (.inr (.inl ⟨rfl,rfl⟩)))) (by rw[e0,if_pos hm]) H1 s1⟩,fun hm hin H1 s1=>⟨rfl,hE C_Contradiction "contradiction" (.inr (.inr (.inr (.inr ⟨rfl,rfl⟩)))) (by rw[e0,if_neg hm,if_pos hin]) H1 s1⟩,fun hm hin=>⟨?_,fun ad' H' s' x' wv' g hA' hW' f k=>(hR0 _ _).mpr (.inl ⟨rfl,?_⟩)⟩⟩
       ·rcases hok with z|z
        ·omega
        ·exact absurd z hin
       ·exact kt (by rw[e0,if_neg hm,if_neg hin]) ad' H' s' x' wv' g hA' hW' f k
   ·obtain⟨rfl,s1,hcls⟩:=h1
    rcases hcls with ⟨rfl,e⟩|⟨rfl,e⟩|⟨rfl,e⟩|⟨rfl,e⟩|⟨rfl,e⟩
    ·refine⟨C_OutOfTurn,rfl,Z.e_OutOfTurn,fun ea hea=>?_⟩
     walk_at "rd"
     exact (hR0 _ _).mpr (.inr ⟨ea,C_OutOfTurn,true,false,false,false,false,0,rfl,upd_same,Z.c_OutOfTurn,s1.newT hea,Z.k_OutOfTurn_OutOfTurn,Z.k_OutOfTurn_BadWord,Z.k_OutOfTurn_BadMark,Z.k_OutOfTurn_NoDifference,Z.k_OutOfTurn_Contradiction,Z.v_OutOfTurn,⟨by decide,by decide⟩,by rw[e];rfl⟩)
    ·refine⟨C_BadWord,rfl,Z.e_BadWord,fun ea hea=>?_⟩
     walk_at "rd"
     exact (hR0 _ _).mpr (.inr ⟨ea,C_BadWord,false,true,false,false,false,1,rfl,upd_same,Z.c_BadWord,s1.newT hea,Z.k_BadWord_OutOfTurn,Z.k_BadWord_BadWord,Z.k_BadWord_BadMark,Z.k_BadWord_NoDifference,Z.k_BadWord_Contradiction,Z.v_BadWord,⟨by decide,by decide⟩,by rw[e];rfl⟩)
    ·refine⟨C_BadMark,rfl,Z.e_BadMark,fun ea hea=>?_⟩
     walk_at "rd"
     exact (hR0 _ _).mpr (.inr ⟨ea,C_BadMark,false,false,true,false,false,2,rfl,upd_same,Z.c_BadMark,s1.newT hea,Z.k_BadMark_OutOfTurn,Z.k_BadMark_BadWord,Z.k_BadMark_BadMark,Z.k_BadMark_NoDifference,Z.k_BadMark_Contradiction,Z.v_BadMark,⟨by decide,by decide⟩,by rw[e];rfl⟩)
    ·refine⟨C_NoDifference,rfl,Z.e_NoDifference,fun ea hea=>?_⟩
     walk_at "rd"
     exact (hR0 _ _).mpr (.inr ⟨ea,C_NoDifference,false,false,false,true,false,3,rfl,upd_same,Z.c_NoDifference,s1.newT hea,Z.k_NoDifference_OutOfTurn,Z.k_NoDifference_BadWord,Z.k_NoDifference_BadMark,Z.k_NoDifference_NoDifference,Z.k_NoDifference_Contradiction,Z.v_NoDifference,⟨by decide,by decide⟩,by rw[e];rfl⟩)
    ·refine⟨C_Contradiction,rfl,Z.e_Contradiction,fun ea hea=>?_⟩
     walk_at "rd"
     exact (hR0 _ _).mpr (.inr ⟨ea,C_Contradiction,false,false,false,false,true,4,rfl,upd_same,Z.c_Contradiction,s1.newT hea,Z.k_Contradiction_OutOfTurn,Z.k_Contradiction_BadWord,Z.k_Contradiction_BadMark,Z.k_Contradiction_NoDifference,Z.k_Contradiction_Contradiction,Z.v_Contradiction,⟨by decide,by decide⟩,by rw[e];rfl⟩)
  rcases (hR0 _ _).mp h1 with ⟨rfl,q⟩|⟨ea,C,b0,b1,b2,b3,b4,j,rfl,hea,hC,s1,k0,k1,k2,k3,k4,kv,hf,hnm⟩
  ·walk_at "rd"
   rw[if_neg (by simp)]
   refine later_of ?_
   walk_at "rd"
   exact q
  ·walk_at "rd"
   rw[if_neg (by simp)]
   refine later_of ?_
   walk_at "rd"
   refine later_of ?_
   walk_at "rd"
   refine⟨_,_,.exc hea hC,rel_ref,_,k0,_,_,.exc hea hC,rel_ref,_,k1,_,_,.exc hea hC,rel_ref,_,k2,by omega,fun l1 hl1=>?_⟩
   have s2:=Same.new hl1 (o:=.lst [V.bl b0,V.bl b1,V.bl b2])
   have hea2:=s2 _ _ hea
   refine later_of ?_
   walk_at "rd"
   refine⟨_,_,.exc hea2 hC,rel_ref,_,k3,_,_,.exc hea2 hC,rel_ref,_,k4,by omega,fun l2 hl2=>?_⟩
   have s3:=Same.new hl2 (o:=.lst [V.bl b3,V.bl b4])
   refine⟨_,s3 _ _ upd_same,_,upd_same,by simp;omega,fun l3 hl3=>?_⟩
   have s4:=Same.new hl3 (o:=.lst ([V.bl b0,V.bl b1,V.bl b2]++[V.bl b3,V.bl b4]))
   have s5:=s1.trans (s2.trans (s3.trans s4))
   have hea5:=(s2.trans (s3.trans s4)) _ _ hea
   have u5:upd (upd (upd H1 l1 (.lst [V.bl b0,V.bl b1,V.bl b2])) l2 (.lst [V.bl b3,V.bl b4])) l3 (.lst ([V.bl b0,V.bl b1,V.bl b2]++[V.bl b3,V.bl b4])) l3=some (.lst ([b0,b1,b2,b3,b4].map V.bl)):=upd_same
   generalize upd (upd (upd H1 l1 (.lst [V.bl b0,V.bl b1,V.bl b2])) l2 (.lst [V.bl b3,V.bl b4])) l3 (.lst ([V.bl b0,V.bl b1,V.bl b2]++[V.bl b3,V.bl b4]))=H5 at s5 hea5 u5 ⊢
   rw[hf.1]at u5
   have hj5:=hf.2
   refine later_of ?_
   walk_at "rd"
   refine⟨_,_,.exc hea5 hC,rel_ty,_,kv,?_⟩
   rw[if_neg (by decide)]
   have hj:j=0\/j=1\/j=2\/j=3\/j=4:=by omega
   obtain⟨bs,hbs⟩:∃bs:List Bool,bs=(List.range 5).map (fun i=>decide (i=j)):=⟨_,rfl⟩
   rw[<-hbs]at u5
   have hbl:bs.length=5:=by rw[hbs];simp
   have hsum:(bs.map fun b=>if b=true then (1:Int) else 0).sum=1:=by rw[hbs];rcases hj with rfl|rfl|rfl|rfl|rfl<;>decide
   have hbj:(bs.map V.bl)[j]?=some (V.bl true):=by rw[hbs];rcases hj with rfl|rfl|rfl|rfl|rfl<;>rfl
   have hbm:∀(m:Nat) (z:V),m<j->(bs.map V.bl)[m]?=some z->eqV z (V.bl true)=false:=fun m z hm hz=>by
    rw[hbs,List.map_map,List.getElem?_map,List.getElem?_range (by omega)]at hz
    cases hz
    show eqV (V.bl (decide (m=j))) (V.bl true)=false
    rw[decide_eq_false (by omega)];rfl
   have hfl:(bs.map V.bl).all flatV=true:=by simp[flatV]
   refine⟨⟨_,SqL.of u5⟩,compL (xs:=bs.map V.bl) (fun i ys σ' H'=>H'=H5/\ys=((bs.take i).map fun b=>if b=true then (1:Int) else 0).map V.int/\∃o,σ'=[o]) ⟨rfl,rfl,none,rfl⟩ (by simp;omega) (fun i ys σ' H' hi h'=>⟨by rw[h'.1];exact SqL.of u5,by rw[h'.2.1];simp;omega⟩) (fun i xx ys σ' H' hx h'=>?_) (fun ys σ' H' h' D hD=>?_)⟩
   ·obtain⟨rfl,rfl,o,rfl⟩:=h'
    rw[List.getElem?_map]at hx
    obtain⟨b,hb,rfl⟩:∃b,bs[i]?=some b/\xx=V.bl b:=by
     cases hvi:bs[i]? with
     |none=>rw[hvi]at hx;cases hx
     |some z=>rw[hvi]at hx;exact⟨z,rfl,(Option.some.inj hx).symm⟩
    walk_at "rd"
    refine .inr ⟨?_,_,rfl⟩
    rw[List.take_add_one,hb]
    simp
   ·obtain⟨rfl,rfl,o,rfl⟩:=h'
    rw[List.length_map,List.take_length] at *
    refine⟨D,rfl,_,SqL.of upd_same,?_⟩
    rw[hsum,if_neg (by decide)]
    refine⟨by omega,fun p hp=>?_⟩
    have s6:=(Same.new hD (o:=.lst ((bs.map fun b=>if b=true then (1:Int) else 0).map V.int))).newT hp (o:=.lst [V.str "turn",V.str "word",V.str "mark",V.str "nothing",V.str "contradiction"])
    have u6:=s6 _ _ u5
    refine⟨.inl ⟨rfl,_,SqL.of u6⟩,_,u6,rfl,hfl,j,by omega,⟨_,hbj,rfl⟩,hbm,_,SqL.of upd_same,V.str (dueS s x dd),?_,?_⟩
    ·refine atI_nat ?_
     have e:[V.str "turn",V.str "word",V.str "mark",V.str "nothing",V.str "contradiction"]=names39.map V.str:=rfl
     rw[e,List.getElem?_map,hnm];rfl
    ·refine kn (fun z=>?_) _ (s5.trans s6)
     rw[z]at hnm
     have:=List.mem_of_getElem? hnm
     exact absurd this (by decide)
structure Led39 (s:AS)(x:Wish)(L most n:Nat):Prop where
 ok:WOk 6 s x
 l:s.L=L
 m:s.most=most
 n:s.es.length<=n
def Tl39 (es:Bk)(kvs:List (List Key×V)):Prop:=kvs=es.map fun e=>(wkey e.1,V.int e.2)
theorem Tl39.keys {es:Bk}{kvs:List (List Key×V)}(h:Tl39 es kvs):KeysW (es.map (·.1)) kvs:=by
 unfold KeysW
 rw[h,List.map_map,List.map_map];rfl
theorem Tl39.put {es:Bk}{kvs:List (List Key×V)}(h:Tl39 es kvs){c:List Int}{m:Int}(hc:c∉es.map (·.1)):Tl39 (es++[(c,m)]) (putK kvs (wkey c) (.int m)):=by
 unfold putK
 have e:(kvs.any fun kv=>decide (kv.1=wkey c))=false:=by
  rw[valV_any]
  have:=h.keys.some_iff c
  rw[this]
  exact decide_eq_false hc
 rw[e]
 show kvs++[(wkey c,V.int m)]=_
 rw[h,List.map_append];rfl
theorem Led39.bd {s:AS}{x:Wish}{L most n:Nat}(l:Led39 s x L most n)(h:most<=3):Bd 6 s:=by
 unfold Bd
 have:(s.most+1)*(s.most+1)<=4*4:=Nat.mul_le_mul (by rw[l.m];omega) (by rw[l.m];omega)
 have:=l.m
 omega
theorem Led39.told {s s':AS}{c:List Int}{x y:Wish}{m:Int}{L most n:Nat}(l:Led39 s x L most n){o:Option (List Int)}(okc:OkX o 6 s)(ho:∀b,o=some b->b=c)(hn:c∉s.es.map (·.1))(hc:isW s.L c=true)(m0:0<=m)(m9:m<=1000000000)(hlen:c.length<=6+(s.most+1)*s.E.length+(if s.wr.isSome then s.most else 0))(hg:c∉s.G)(g:Goes {s with es:=s.es++[(c,m)]} s' y):Led39 s' y L most (n+1)/\s'.es=s.es++[(c,m)]:=by
 have ok1:=okc.told (m:=m) ho hn hc m0 m9 hlen hg
 obtain⟨ok2,kp⟩:=g.ok ok1
 exact⟨⟨ok2,kp.l.trans l.l,kp.m.trans l.m,by rw[kp.e];have:=l.n;simp;omega⟩,kp.e⟩
theorem AskAt.off39 {CA CB:Addr}{H:Hp}{a:Addr}{ad:AD}{s:AS}{wv gv rv:V}{zs ys us:List V}(x:AskAt K CA CB H a ad s wv gv rv zs ys us){d:Addr}{kvs:List (List Key×V)}{o:HO}(hd:H d=some (.dT kvs))(hn:d≠ad.d):AskAt K CA CB (upd H d o) a ad s wv gv rv zs ys us:=by
 have tk:TK H (upd H d o):=fun t ts h=>by rw[upd_ne (fun z=>by rw[z,hd]at h;cases h)];exact h
 have lst:∀{b xs},H b=some (.lst xs)->upd H d o b=some (.lst xs):=fun h=>by rw[upd_ne (fun z=>by rw[z,hd]at h;cases h)];exact h
 have ins:∀{b C dx fs},H b=some (.ins C dx fs)->upd H d o b=some (.ins C dx fs):=fun h=>by rw[upd_ne (fun z=>by rw[z,hd]at h;cases h)];exact h
 obtain⟨⟨dx,b1⟩,b2,b3⟩:=x.bk
 exact⟨ins x.ob,⟨⟨dx,ins b1⟩,by rw[upd_ne hn.symm];exact b2,b3⟩,lst x.w,x.wW.mono tk,lst x.e,x.eW.mono tk,lst x.g,x.gW.mono tk,x.we,x.wg,x.eg,x.gv.mono tk,x.rv.mono tk⟩
theorem four39 {P:V->V->Prop}{a b c d a' b' c' d':V}(h0:P a a')(h1:P b b')(h2:P c c')(h3:P d d'):∀(i:Nat) (x y:V),[a,b,c,d][i]?=some x->[a',b',c',d'][i]?=some y->P x y:=fun i x y hx hy=>by
 match i with
 |0=>cases hx;cases hy;exact h0
 |1=>cases hx;cases hy;exact h1
 |2=>cases hx;cases hy;exact h2
 |3=>cases hx;cases hy;exact h3
 |n+4=>simp at hx
def spLaw (K:PySem.W.Frag):Sp:=fun vs H Q _=>∃(a:Addr) (ns:List Int),vs=[.ref a]/\SqL K H a (ns.map V.int)/\ns.length<=63/\∀H',Q (.bl true) H'
theorem ok_law {f:Addr}{fd:FuncData}(F:Fun K "law" "law" s_law f fd)(T:Txt mg)
  (W:Own K mg C_Book C_Turns C_Hunt C_Asker)
  (Z:Exs K mg C_AskError C_BadWord C_BadMark C_OutOfTurn C_NoDifference C_Contradiction)
  {f_Turns_wants:Addr} {fd_Turns_wants:FuncData} (g_Turns_wants:FnOk P w K mg base CX0 1 f_Turns_wants fd_Turns_wants ["self"] (sp_wants K C_Asker C_Book)) (F_Turns_wants:Fun K "wants" "Turns.wants" s_Turns_wants f_Turns_wants fd_Turns_wants) (b_Turns_wants:Binds K fd_Turns_wants ["self"] []) (m_Turns_wants:Meth K C_Asker "wants" f_Turns_wants)
  {f_Hunt_heard:Addr} {fd_Hunt_heard:FuncData} (g_Hunt_heard:FnOk P w K mg base CX0 2 f_Hunt_heard fd_Hunt_heard ["self"] (sp_heard39 K C_Asker C_Book)) (F_Hunt_heard:Fun K "heard" "Hunt.heard" s_Hunt_heard f_Hunt_heard fd_Hunt_heard) (b_Hunt_heard:Binds K fd_Hunt_heard ["self"] []) (m_Hunt_heard:Meth K C_Asker "heard" f_Hunt_heard)
  {f_Asker_init:Addr} {fd_Asker_init:FuncData} (g_Asker_init:FnOk P w K mg base CX0 13 f_Asker_init fd_Asker_init ["self","letters","most"] (sp_ainit K C_Asker C_Book)) (F_Asker_init:Fun K "__init__" "Asker.__init__" s_Asker_init f_Asker_init fd_Asker_init) (b_Asker_init:Binds K fd_Asker_init ["self","letters","most"] []) (m_Asker_init:Mk K C_Asker f_Asker_init)
  {f__law_cell_at:Addr} {fd__law_cell_at:FuncData} (g__law_cell_at:FnOk P w K mg base CX0 1 f__law_cell_at fd__law_cell_at ["script","k"] (sp_cell K)) (F__law_cell_at:Fun K "_law_cell_at" "_law_cell_at" s__law_cell_at f__law_cell_at fd__law_cell_at) (b__law_cell_at:Binds K fd__law_cell_at ["script","k"] []) (m__law_cell_at:mg "_law_cell_at"=some (.ref f__law_cell_at))
  {f__law_done:Addr} {fd__law_done:FuncData} (g__law_done:FnOk P w K mg base CX0 15 f__law_done fd__law_done ["asker","deed"] (sp_done39 K C_Asker C_Book)) (F__law_done:Fun K "_law_done" "_law_done" s__law_done f__law_done fd__law_done) (b__law_done:Binds K fd__law_done ["asker","deed"] []) (m__law_done:mg "_law_done"=some (.ref f__law_done))
  {f__law_deed_by:Addr} {fd__law_deed_by:FuncData} (g__law_deed_by:FnOk P w K mg base CX0 2 f__law_deed_by fd__law_deed_by ["want","cell","head","letters","told"] (sp_dby39 K)) (F__law_deed_by:Fun K "_law_deed_by" "_law_deed_by" s__law_deed_by f__law_deed_by fd__law_deed_by) (b__law_deed_by:Binds K fd__law_deed_by ["want","cell","head","letters","told"] []) (m__law_deed_by:mg "_law_deed_by"=some (.ref f__law_deed_by))
  {f__law_due:Addr} {fd__law_due:FuncData} (g__law_due:FnOk P w K mg base CX0 2 f__law_due fd__law_due ["want","deed","letters","told"] (sp_due39 K)) (F__law_due:Fun K "_law_due" "_law_due" s__law_due f__law_due fd__law_due) (b__law_due:Binds K fd__law_due ["want","deed","letters","told"] []) (m__law_due:mg "_law_due"=some (.ref f__law_due))
  {f__law_all:Addr} {fd__law_all:FuncData} (g__law_all:FnOk P w K mg base CX0 3 f__law_all fd__law_all ["asker"] (sp_all39 K C_Asker C_Book)) (F__law_all:Fun K "_law_all" "_law_all" s__law_all f__law_all fd__law_all) (b__law_all:Binds K fd__law_all ["asker"] []) (m__law_all:mg "_law_all"=some (.ref f__law_all))
  : FnOk P w K mg base CX0 16 f fd ["script"] (spLaw K):=by
 refine F.ok sc_law (fun vs H Q E h=>?_) (fun cdv A outer s H vs Q E hr h=>?_)
 ·obtain⟨a,ns,rfl,_⟩:=h;rfl
 ·obtain⟨a,ns,rfl,hs,hz,k⟩:=h
  have hl:=line1000
  refine⟨_,(pss_lazy (ps_set (i:=1) sc_law.nd rfl (Or.inl rfl) (pe_op op_mod (pe_call g__law_cell_at (hr.mono (by decide)) rfl m__law_cell_at F__law_cell_at.kp b__law_cell_at .nil pass0 (pa_cons (pv 0) (pa_cons pe_int pa_nil))) (pe_op op_pow pe_int pe_int)))
   (pss_lazy (ps_set (i:=2) sc_law.nd rfl (Or.inl rfl) (pe_op op_add pe_int (pe_op op_mod (pv 1) pe_int)))
   (pss_lazy (ps_set (i:=3) sc_law.nd rfl (Or.inl rfl) (pe_make m_Asker_init g_Asker_init (hr.mono (by decide)) rfl W.m_Asker b_Asker_init .nil pass0 (pa_cons (pv 2) (pa_cons (pe_op op_add pe_int (pe_op op_mod (pe_op op_fdiv (pv 1) pe_int) pe_int)) pa_nil))))
   (pss_lazy (ps_if (pt_cmpR op_ne (pe_fld (pv 3) rfl) (pv 2) (nomark _))
   (pss_one (ps_ret pe_bl))
   pss_nil)
   (pss_lazy (ps_set (i:=4) sc_law.nd rfl (Or.inr rfl) pe_dnewT)
   (pss_cons (ps_for PassesOwn.never rfl (pi_list (pe_slice sl_list (pv 0) (po_some pe_int) po_none)) (pg_name (i:=5) sc_law.nd rfl (Or.inl rfl))
   (pss_cons (ps_set (i:=6) sc_law.nd rfl (Or.inl rfl) (pe_call g__law_all (hr.mono (by decide)) rfl m__law_all F__law_all.kp b__law_all .nil pass0 (pa_cons (pv 3) pa_nil)))
   (pss_cons (ps_set (i:=7) sc_law.nd rfl (Or.inl rfl) (pe_ix ix_list (pv 6) pe_int (fun _ _=>rfl)))
   (pss_cons (ps_set (i:=8) sc_law.nd rfl (Or.inl rfl) (pe_call g__law_deed_by (hr.mono (by decide)) rfl m__law_deed_by F__law_deed_by.kp b__law_deed_by .nil pass0 (pa_cons (pv 7) (pa_cons (pe_op op_mod (pv 5) (pe_op op_pow pe_int pe_int)) (pa_cons (pv 1) (pa_cons (pv 2) (pa_cons (pv 4) pa_nil)))))))
   (pss_cons (ps_set (i:=9) sc_law.nd rfl (Or.inl rfl) (pe_call g__law_due (hr.mono (by decide)) rfl m__law_due F__law_due.kp b__law_due .nil pass0 (pa_cons (pv 7) (pa_cons (pv 8) (pa_cons (pv 2) (pa_cons (pv 4) pa_nil))))))
   (pss_cons (ps_if (pt_cmpR op_ne (pe_call g__law_done (hr.mono (by decide)) rfl m__law_done F__law_done.kp b__law_done .nil pass0 (pa_cons (pv 3) (pa_cons (pv 8) pa_nil))) (pv 9) (nomark _))
   (pss_one (ps_ret pe_bl))
   pss_nil)
   (pss_cut (ps_if (pt_cmpR op_ne (pv 9) pe_str (nomark _))
   (pss_one (ps_if (pt_cmpR (op_neD 8 (hu9 hr)) (pe_call g__law_all (hr.mono (by decide)) rfl m__law_all F__law_all.kp b__law_all .nil pass0 (pa_cons (pv 3) pa_nil)) (pv 6) (nomark _))
   (pss_one (ps_ret pe_bl))
   pss_nil))
   (pss_one (ps_if (pt_cmpR op_eq (pe_ix ix_tup (pv 8) pe_int (fun _ _=>rfl)) pe_str (nomark _))
   (pss_one (ps_if (pt_cmpR (op_neD 8 (hu9 hr)) (pe_meth0 (pv 3) W.cl_Asker m_Turns_wants g_Turns_wants (hr.mono (by decide)) b_Turns_wants .nil pass0) (pe_tup (pa_cons pe_str (pa_cons (pe_ix ix_tup (pv 7) pe_int (fun _ _=>rfl)) pa_nil))) (nomark _))
   (pss_one (ps_ret pe_bl))
   pss_nil))
   (pss_one (ps_if (pt_cmpR op_eq (pe_ix ix_tup (pv 8) pe_int (fun _ _=>rfl)) pe_str (nomark _))
   (pss_one (ps_dput (hu_of hr) (pv 4) (pe_ix ix_tup (pv 7) pe_int (fun _ _=>rfl)) (pe_ix ix_tup (pv 8) pe_int (fun _ _=>rfl)) rfl))
   (pss_one (ps_dput (hu_of hr) (pv 4) (pe_ix ix_tup (pv 8) pe_int (fun _ _=>rfl)) (pe_ix ix_tup (pv 8) pe_int (fun _ _=>rfl)) rfl)))))))
   (pss_one (ps_if (pt_cmpR (op_neD 8 (hu9 hr)) (pe_meth0 (pv 3) W.cl_Asker m_Hunt_heard g_Hunt_heard (hr.mono (by decide)) b_Hunt_heard .nil pass0) (pe_thaw (pe_comp rfl (blk_mk rfl) (cp:=c_law_0) ⟨⟨rfl,rfl⟩,True.intro⟩ (pi_dictT (pv 4)) (fun _ _ _ _=>(pg_name (i:=0) nd_c_law_0 rfl (Or.inl rfl))) (fun _ _ _ _=>pf_nil) (fun _ _ _ _=>(pe_tup (pa_cons (pv 0) (pa_cons (pe_dget (hu_of hr) (pv 1) (pv 0) (fun _ _=>rfl)) pa_nil)))))) (nomark _))
   (pss_one (ps_ret pe_bl))
   pss_nil)))))))))
   (pss_one (ps_ret pe_bl)))))))),?_⟩
  walk_at "rd"
  have c15:CPow 10 15:=⟨by omega,by omega,by decide⟩
  refine⟨a,ns,0,rfl,hs,c15,_,rfl,by decide,?_⟩
  generalize cell ns 0%10 ^ Int.toNat 15=hd
  refine later_of ?_
  walk_at "rd"
  refine⟨by decide,?_⟩
  obtain⟨L,hL,L1,L2'⟩:∃L:Nat,1+hd%2=(L:Int)/\1<=L/\L<=2:=⟨(1+hd%2).toNat,by omega,by omega,by omega⟩
  rw[hL]
  refine later_of ?_
  walk_at "rd"
  refine⟨⟨by decide,by decide⟩,by decide,fun aa dx haN hdN hne=>?_⟩
  obtain⟨most,hM,M1,M3⟩:∃M:Nat,1+hd / 2%3=(M:Int)/\1<=M/\M<=3:=⟨(1+hd / 2%3).toNat,by omega,by omega,by omega⟩
  rw[hM]
  have sN:Same H (upd (upd H dx (.own aa)) aa (.ins C_Asker dx [])):=fun y o hy=>by
   rw[upd_ne (fun z=>by rw[z,haN]at hy;cases hy),upd_ne (fun z=>by rw[z,hdN]at hy;cases hy)];exact hy
  refine⟨aa,dx,L,most,rfl,upd_same,L1,by omega,M1,by omega,fun ad H2 s x wv go hA hW hf hn2 hnew=>⟨rfl,?_⟩⟩
  have hyN:∀y o,H y=some o->y≠aa:=fun y o hy z=>by rw[z,haN]at hy;cases hy
  have S12:Same H H2:=fun y o hy=>hf y o (sN y o hy) (hyN y o hy)
  have ok0:=s039_ok (L:=L) (most:=most) 6 L1 (by omega) M1 (by omega)
  obtain⟨okx,kp⟩:=go.ok ok0
  have eL:s.L=L:=kp.l
  have em:s.most=most:=kp.m
  have ee:s.es=[]:=kp.e
  have led:Led39 s x L most 0:=⟨okx,eL,em,by rw[ee];exact Nat.le_refl _⟩
  obtain⟨gv,rv,zs,ys,us,A⟩:=id hA
  refine later_of ?_
  walk_at "rd"
  refine⟨C_Asker,_,_,A.ob,W.cl_Asker,W.n_Asker_letters,_,af_letters ..,rfl,?_⟩
  rw[eL,if_neg (by simp)]
  refine later_of ?_
  walk_at "rd"
  intro d hdN2
  have hdN':H d=none:=S12.none hdN2
  have s3:=Same.new hdN2 (o:=.dT [])
  have A3:=A.same s3
  have hW3:WishAt K (upd H2 d (.dT [])) s.L wv x:=by rw[eL];exact hW.mono (TK.of s3)
  have u3:upd H2 d (.dT []) d=some (.dT []):=upd_same
  have hnd:d≠ad.d:=fun z=>by have:=A.bk.dc;rw[<-z,hdN2]at this;cases this
  have S13:=S12.trans s3
  generalize upd H2 d (.dT [])=H3 at s3 A3 hW3 u3 S13 ⊢
  refine later_of ?_
  walk_at "rd"
  have e1:cutV (ns.map V.int) (some 1) none=(ns.drop 1).map V.int:=cut_drop39 ns 1
  refine⟨_,S13.seq hs,fun cs hcs=>?_⟩
  rw[e1]
  have s4:=Same.new hcs (o:=.lst ((ns.drop 1).map V.int))
  have u4:upd H3 cs (.lst ((ns.drop 1).map V.int)) cs=some (.lst ((ns.drop 1).map V.int)):=upd_same
  have A4:=A3.same s4
  have hW4:=hW3.mono (TK.of s4)
  have hd4:=s4 _ _ u3
  have c1:cs≠ad.pw:=fun z=>by have:=A3.w;rw[<-z,hcs]at this;cases this
  have c2:cs≠ad.pe:=fun z=>by have:=A3.e;rw[<-z,hcs]at this;cases this
  have c3:cs≠ad.pg:=fun z=>by have:=A3.g;rw[<-z,hcs]at this;cases this
  generalize upd H3 cs (.lst ((ns.drop 1).map V.int))=H4 at s4 u4 A4 hW4 hd4 ⊢
  refine⟨⟨_,SqL.of u4⟩,?_⟩
  obtain⟨Pv,hPv⟩:∃Pv:Nat->St->Hp->Prop,∀i σ' H',Pv i σ' H'↔(∃(ad:AD) (s:AS) (wv:V) (x:Wish) (kvs:List (List Key×V)) (o5 o6 o7 o8 o9:Option V),Asks K C_Asker C_Book H' aa ad s wv/\WishAt K H' s.L wv x/\Led39 s x L most i/\H' d=some (.dT kvs)/\Tl39 s.es kvs/\d≠ad.d/\H' cs=some (.lst ((ns.drop 1).map V.int))/\cs≠ad.pw/\cs≠ad.pe/\cs≠ad.pg/\σ'=[some (.ref a),some (.int hd),some (.int L),some (.ref aa),some (.ref d),o5,o6,o7,o8,o9]):=⟨_,fun _ _ _=>Iff.rfl⟩
  refine forL (xs:=(ns.drop 1).map V.int) Pv ((hPv _ _ _).mpr ⟨ad,s,wv,x,[],none,none,none,none,none,⟨_,_,_,_,_,A4⟩,hW4,led,hd4,by rw[ee];rfl,hnd,u4,c1,c2,c3,rfl⟩) (fun i σ' H' _ h'=>by obtain⟨_,_,_,_,_,_,_,_,_,_,_,_,_,_,_,_,hc,_⟩:=(hPv _ _ _).mp h';exact SqL.of hc) (fun i xx σ' H' hx h'=>?_) (fun σ' H' h'=>?_)
  ·clear hnd c1 c2 c3 hW4 hd4 u4 A4 s4 hcs hW3 u3 A3 s3 hdN2 led A hA hW hf hn2 hnew go okx kp ok0 sN hyN S12 S13
   obtain⟨ad,s,wv,x,kvs,o5,o6,o7,o8,o9,hA,hW,led,hd',htl,hnd,hcs,c1,c2,c3,rfl⟩:=(hPv _ _ _).mp h'
   have hi:i<(ns.drop 1).length:=by have:=(List.getElem?_eq_some_iff.mp hx).1;rwa [List.length_map]at this
   rw[List.length_drop]at hi
   obtain⟨c,rfl⟩:∃c,xx=V.int c:=by
    rw[List.getElem?_map]at hx
    cases hv:(ns.drop 1)[i]? with
    |none=>rw[hv]at hx;cases hx
    |some z=>rw[hv]at hx;exact⟨z,(Option.some.inj hx).symm⟩
   obtain⟨gv,rv,zs,ys,us,A⟩:=id hA
   obtain⟨t,u,rfl,ht,hu⟩:=id hW
   have hbd:=led.bd M3
   have hln:=led.n
   have hkey:=htl.keys
   walk_at "rd"
   have tail:∀σ' H',Pv (i+1) σ' H'->tIfS (tTest (tOp (rNeD K 8) (tMeth C_Asker ("heard" : Str) (sp_heard39 K C_Asker C_Book) [] E0 (tVar 3) tNil) (tThaw H (tComp (iDictT (tVar 4)) c_law_0 (gName 0) tTrue (tTup (tCons (tVar 0) (tCons (tDGet (tVar 1) (tVar 0)) tNil))))))) (tRet (tC (V.bl false))) tNext {nx:=Pv (i+1),rt:=Q,bk:=tRet (tC (V.bl true)) {nx:=fun x H'=>Q V.non H',rt:=Q},ct:=Pv (i+1)} σ' H':=fun σ1 H1 h1=>by
    clear hW led hd' htl hnd hcs c1 c2 c3 ht hu hbd hln hkey hA A h'
    obtain⟨ad,s,wv,x,kvs,o5,o6,o7,o8,o9,hA,hW,led,hd',htl,hnd,hcs,c1,c2,c3,rfl⟩:=(hPv _ _ _).mp h1
    obtain⟨gv,rv,zs,ys,us,A⟩:=id hA
    obtain⟨yy,oo⟩:=wok39 led.ok
    have nd:=oo.tb.nd
    have hln:=led.n
    walk_at "rd"
    refine⟨_,_,A.ob,by kernel_rfl,aa,ad,s,_,rfl,hA,fun l rs H2 s2 hlN hl2 tr=>?_⟩
    have hd2:=s2 _ _ hd'
    refine⟨kvs,hd2,fun o=>?_⟩
    have tkF:TK H2 (upd H2 d (.frz o (.dT kvs))):=fun t ts h=>by rw[upd_ne (fun z=>by rw[z,hd2]at h;cases h)];exact h
    have uF:upd H2 d (.frz o (.dT kvs)) d=some (.frz o (.dT kvs)):=upd_same
    have hlF:upd H2 d (.frz o (.dT kvs)) l=some (.lst rs):=by rw[upd_ne (fun z=>by rw[z,hd2]at hl2;cases hl2)];exact hl2
    have hkl:kvs.length=s.es.length:=by rw[htl];simp
    refine compD (fun j ys σ' H'=>Same (upd H2 d (.frz o (.dT kvs))) H'/\TrialsS H' ys (s.es.take j)/\∃o,σ'=[o,some (.ref d)]) ⟨Same.refl _,⟨rfl,fun i tr h=>by simp at h⟩,none,rfl⟩ (by omega) (fun j ys σ' H' hj h'=>⟨h'.1 _ _ uF,by rw[h'.2.1.1,List.length_take];omega⟩) (fun j ky vl b ys σ' H' hk h' hb=>?_) (fun ys σ' H' h' D hD=>?_)
    ·obtain⟨q1,q2,o',rfl⟩:=h'
     obtain⟨e,he,rfl,rfl⟩:∃e,s.es[j]?=some e/\ky=wkey e.1/\vl=V.int e.2:=by
      rw[htl,List.getElem?_map]at hk
      cases hv:s.es[j]? with
      |none=>rw[hv]at hk;cases hk
      |some z=>rw[hv]at hk;cases hk;exact⟨z,rfl,rfl,rfl⟩
     walk_at "rd"
     refine⟨V.int e.2,.inr ⟨kvs,wkey e.1,b,.inr ⟨o,q1 _ _ uF⟩,rfl,hb,?_⟩,by omega,fun p hp=>⟨q1.newT hp,?_,_,rfl⟩⟩
     ·rw[show kvs=ents s.es from htl]
      exact (ents_get nd (List.mem_of_getElem? he)).symm
     ·rw[wkey_kV]at hb
      refine⟨by rw[List.length_append,q2.1,List.length_take,List.length_take];have:=(List.getElem?_eq_some_iff.mp he).1;simp;omega,fun m tr' hm=>?_⟩
      have hml:=(List.getElem?_eq_some_iff.mp hm).1
      rw[List.length_take]at hml
      rw[List.getElem?_take,if_pos (by omega)]at hm
      by_cases hmj:m<j
      ·obtain⟨t',b',e1,e2,e3⟩:=q2.2 m tr' (by rw[List.getElem?_take,if_pos hmj];exact hm)
       exact⟨t',b',by rw[List.getElem?_append_left (List.getElem?_eq_some_iff.mp e1).1];exact e1,Same.new hp _ _ e2,Same.new hp _ _ e3⟩
      ·have:m=j:=by omega
       subst this
       rw[he]at hm
       cases hm
       have hyl:ys.length=m:=by rw[q2.1,List.length_take];have:=(List.getElem?_eq_some_iff.mp he).1;omega
       exact⟨p,b,by rw[List.getElem?_append_right (by omega),hyl,Nat.sub_self];rfl,upd_same,Same.new hp _ _ hb⟩
    ·obtain⟨q1,q2,o',rfl⟩:=h'
     rw[hkl,List.take_length]at q2
     have sD:=Same.new hD (o:=.lst ys)
     have hdD:upd H' D (.lst ys) d=some (.frz o (.dT kvs)):=sD _ _ (q1 _ _ uF)
     have uD:upd H' D (.lst ys) D=some (.lst ys):=upd_same
     have sq:=q1.trans sD
     generalize upd H' D (.lst ys)=H5 at sD hdD uD sq ⊢
     have S25:Same H2 (upd H5 d (.dT kvs)):=fun b ob hb=>by
      by_cases hbd:b=d
      ·rw[hbd,hd2]at hb
       rw[hbd,upd_same];exact hb
      ·rw[upd_ne hbd]
       exact sq b ob (by rw[upd_ne hbd];exact hb)
     have tk5:TK H5 (upd H5 d (.dT kvs)):=fun t ts h=>by rw[upd_ne (fun z=>by rw[z,hdD]at h;cases h)];exact h
     have uD6:upd H5 d (.dT kvs) D=some (.lst ys):=by rw[upd_ne (fun z=>by rw[z,hdD]at uD;cases uD)];exact uD
     refine .inr ⟨d,o,kvs,hdD,hdN',l,rfl,D,rfl,true,TrialsS.eq43 (tr.mono (TK.of S25)) (q2.mono (TK.of sD |>.trans tk5)) (S25 _ _ hl2) uD6 5,?_⟩
     rw[if_neg (by decide)]
     exact (hPv _ _ _).mpr ⟨ad,s,wv,x,kvs,o5,o6,o7,o8,o9,⟨_,_,_,_,_,(A.same s2).same S25⟩,hW.mono (TK.of (s2.trans S25)),led,upd_same,htl,hnd,(s2.trans S25) _ _ hcs,c1,c2,c3,rfl⟩
   refine⟨aa,ad,s,_,rfl,hA,fun qa l1 l2 l3 xs ys' rs H5 s5 hqaN hqa hl1 w1 hl2 w2 hl3 tr=>?_⟩
   refine⟨qa,rfl,_,SqL.of hqa,_,rfl,c15,by decide,t,u,d,x.tag,_,hd,L,s.es,kvs,rfl,s5 _ _ ht,L1,by omega,s5 _ _ hd',hkey,by omega,fun q dd H6 s6 hD hok=>?_⟩
   have s56:=s5.trans s6
   refine⟨t,q,d,s,x,dd,kvs,6,by rw[led.l],hW.mono (TK.of s56),led.ok,hD,s56 _ _ hd',hkey,fun H7 s7=>?_⟩
   have s57:=s56.trans s7
   have hA7:Asks K C_Asker C_Book H7 aa ad s (.ref t):=⟨_,_,_,_,_,A.same s57⟩
   have hW7:=hW.mono (TK.of s57)
   refine⟨aa,q,ad,s,.ref t,x,6,dd,rfl,hA7,hW7,led.ok,hbd,by omega,by omega,hD.mono (TK.of s7),hok,fun hne H8 s8=>⟨rfl,?_⟩,fun htk=>?_⟩
   ·rw[if_neg (by simp)]
    have s58:=s57.trans s8
    have A8:=A.same s58
    refine⟨Pv (i+1),?_,tail⟩
    walk_at "rd"
    rw[if_pos (by rw[decide_eq_false hne];rfl)]
    refine⟨aa,ad,s,_,rfl,⟨_,_,_,_,_,A8⟩,fun qb m1 m2 m3 xs2 ys2 rs2 H9 s9 hqbN hqb hm1 v1 hm2 v2 hm3 tr2=>?_⟩
    have s59:=s58.trans s9
    have s69:=s6.trans (s7.trans (s8.trans s9))
    refine⟨qb,rfl,true,EqD.all43 (.inl ⟨SqL.of hqb,SqL.of (s69 _ _ hqa)⟩) rfl (four39 (P:=fun x y=>EqD K H9 7 x y true) (WishAt.eq43 (hW.mono (TK.of s59)) (hW.mono (TK.of s59)) 3) (WordsT.eq v1 (w1.mono (TK.of s69)) (SqL.of hm1) (SqL.of (s69 _ _ hl1)) 5) (WordsT.eq v2 (w2.mono (TK.of s69)) (SqL.of hm2) (SqL.of (s69 _ _ hl2)) 5) (TrialsS.eq43 tr2 (tr.mono (TK.of s69)) hm3 (s69 _ _ hl3) 4)),?_⟩
    rw[if_neg (by decide)]
    exact (hPv _ _ _).mpr ⟨ad,s,_,x,kvs,_,_,_,_,_,⟨_,_,_,_,_,A.same s59⟩,hW.mono (TK.of s59),⟨led.ok,led.l,led.m,by omega⟩,s59 _ _ hd',htl,hnd,s59 _ _ hcs,c1,c2,c3,rfl⟩
   ·have A7:=A.same s57
    have hd7:=s57 _ _ hd'
    have hcs7:=s57 _ _ hcs
    have ndA:d≠aa:=fun z=>by rw[z,A.ob]at hd';cases hd'
    have ndw:d≠ad.pw:=fun z=>by rw[z,A.w]at hd';cases hd'
    have nde:d≠ad.pe:=fun z=>by rw[z,A.e]at hd';cases hd'
    have ndg:d≠ad.pg:=fun z=>by rw[z,A.g]at hd';cases hd'
    have ncA:cs≠aa:=fun z=>by rw[z,A.ob]at hcs;cases hcs
    have ncd:cs≠ad.d:=fun z=>by rw[z,A.bk.dc]at hcs;cases hcs
    obtain⟨u2,hq7,hu2⟩:=hD.mono (TK.of s7)
    -- behind a deed that is told
    have fin:∀(v:List Int) (m:Int) (kb:Addr) (ad':AD) (H8:Hp) (s':AS) (x':Wish) (wv':V),Asks K C_Asker C_Book H8 aa ad' s' wv'->WishAt K H8 s.L wv' x'->Frm H7 H8 aa ad->AdOk H7 ad ad'->Led39 s' x' L most (i+1)->s'.es=s.es++[(v,m)]->v∉s.es.map (·.1)->H8 kb=some (.tup (v.map V.int))->∃H9,DPut H8 d (.ref kb) (.int m) H9/\Pv (i+1) [some (.ref a),some (.int hd),some (.int L),some (.ref aa),some (.ref d),some (.int c),some (.ref qa),some (.ref t),some (.ref q),some (.str (dueS s x dd))] H9:=fun v m kb ad' H8 s' x' wv' hA8 hW8 f8 k8 led8 he8 hnv hkb=>by
     obtain⟨gv',rv',zs',ys'',us',A8⟩:=id hA8
     obtain⟨e1,e2,e3,e4,e5,e6⟩:=k8
     have hd8:=f8.1 d _ hd7 ndA hnd ndw nde ndg
     have hcs8:=f8.1 cs _ hcs7 ncA ncd c1 c2 c3
     have hnd8:d≠ad'.d:=by rw[e3];exact hnd
     have hklen:kvs.length=s.es.length:=by rw[htl];simp
     have tkd:TK H8 (upd H8 d (.dT (putK kvs (wkey v) (.int m)))):=fun t ts h=>by rw[upd_ne (fun z=>by rw[z,hd8]at h;cases h)];exact h
     refine⟨_,.inr ⟨kvs,wkey v,kb,hd8,rfl,by rw[wkey_kV];exact hkb,by omega,rfl⟩,(hPv _ _ _).mpr ⟨ad',s',wv',x',_,_,_,_,_,_,⟨_,_,_,_,_,A8.off39 hd8 hnd8⟩,?_,led8,upd_same,?_,hnd8,?_,by rw[e4];exact c1,by rw[e5];exact c2,?_,rfl⟩⟩
     ·have:s'.L=s.L:=led8.l.trans led.l.symm
      rw[this]
      exact hW8.mono tkd
     ·rw[he8];exact htl.put hnv
     ·rw[upd_ne (fun z=>by rw[z,hd8]at hcs8;cases hcs8)];exact hcs8
     ·rcases e6 with e6|e6
      ·rw[e6];exact c3
      ·intro z;rw[<-z,hcs7]at e6;cases e6
    cases x with
    |ask cc=>
     cases dd with
     |hear m=>
      intro ad' H8 s' x' wv' g hA8 hW8 f8 k8
      refine⟨rfl,?_⟩
      rw[if_neg (by rw[htk];simp)]
      obtain⟨okc,hn,hcw,hlen,hg⟩:=id led.ok
      have hnk:cc∉s.es.map (·.1):=fun z=>by
       obtain⟨n,hn'⟩:=mkO_key.mp z
       rw[hn]at hn';cases hn'
      have hmm:¬ (m<0\/1000000000<m):=fun z=>by
       have e:dueS s (.ask cc) (.hear m) = "mark" := if_pos z
       rw[e]at htk
       exact absurd htk (by decide)
      obtain⟨led8,he8⟩:=led.told okc (fun b hb=>(Option.some.inj hb).symm) hnk hcw (by omega) (by omega) hlen hg g
      have tk8:=A7.tk f8
      refine⟨Pv (i+1),?_,tail⟩
      walk_at "rd"
      rw[if_neg (by rw[htk];simp)]
      refine⟨_,SqT.of (tk8 _ _ hq7),_,rfl,rfl,?_⟩
      rw[if_neg (by decide)]
      refine⟨_,SqT.of (tk8 _ _ hq7),_,rfl,rfl,?_⟩
      rw[if_pos (by decide)]
      obtain⟨H9,p9,q9⟩:=fin cc m u ad' H8 s' x' wv' hA8 hW8 f8 k8 led8 he8 hnk (tk8 _ _ (s57 _ _ hu))
      exact⟨_,SqT.of (tk8 _ _ hq7),_,rfl,_,SqT.of (tk8 _ _ (s57 _ _ ht)),_,rfl,H9,p9,q9⟩
     |agree=>exact True.intro
     |differ v m=>exact True.intro
    |shown mm ws=>
     cases dd with
     |hear m=>exact True.intro
     |agree=>
      intro H8 wv' hA8 hW8 f8
      refine⟨rfl,?_⟩
      rw[if_neg (by rw[htk];simp)]
      have tk8:=A7.tk f8
      obtain⟨gv',rv',zs',ys'',us',A8⟩:=id hA8
      refine⟨Pv (i+1),?_,tail⟩
      walk_at "rd"
      rw[if_neg (by rw[htk];simp)]
      refine⟨_,SqT.of (tk8 _ _ hq7),_,rfl,rfl,?_⟩
      rw[if_pos (by decide)]
      obtain⟨t8,u8,rfl,ht8,hu8⟩:=id hW8
      refine⟨_,_,A8.ob,by kernel_rfl,aa,ad,s,_,rfl,hA8,_,SqT.of (tk8 _ _ (s57 _ _ ht)),_,rfl,by omega,fun p hp=>?_⟩
      have s9:=Same.new hp (o:=.tup [V.str "done",V.ref u])
      have hu9:=HouT.mono (HouT.mono (HouT.mono hu (TK.of s57)) tk8) (TK.of s9)
      refine⟨t8,rfl,true,WishAt.eq43 (x:=.done mm ws) (hW8.mono (TK.of s9)) ⟨p,u,rfl,upd_same,hu9⟩ 4,?_⟩
      rw[if_neg (by decide)]
      have hd8:=f8.1 d _ hd7 ndA hnd ndw nde ndg
      have hcs8:=f8.1 cs _ hcs7 ncA ncd c1 c2 c3
      exact (hPv _ _ _).mpr ⟨ad,s,_,.done mm ws,kvs,_,_,_,_,_,⟨_,_,_,_,_,A8.same s9⟩,hW8.mono (TK.of s9),⟨led.ok,led.l,led.m,by omega⟩,s9 _ _ hd8,htl,hnd,s9 _ _ hcs8,c1,c2,c3,rfl⟩
     |differ v m=>
      intro ad' H8 s' x' wv' g hA8 hW8 f8 k8
      refine⟨rfl,?_⟩
      rw[if_neg (by rw[htk];simp)]
      obtain⟨ok0,hG,hwr,hgs,gu,hall⟩:=id led.ok
      have tk8:=A7.tk f8
      have hdv:=htk
      have hdv:(if isW s.L v=false then ("word" : Str) else if m<0\/1000000000<m then ("mark" : Str) else if markW mm (walkW ws v)=m then ("nothing" : Str) else if v∈s.es.map (·.1) then ("contradiction" : Str) else ("taken" : Str)) = "taken" := hdv
      by_cases b1:isW s.L v=false
      ·rw[if_pos b1]at hdv;exact absurd hdv (by decide)
      rw[if_neg b1]at hdv
      by_cases b2:m<0\/1000000000<m
      ·rw[if_pos b2]at hdv;exact absurd hdv (by decide)
      rw[if_neg b2]at hdv
      by_cases b3:markW mm (walkW ws v)=m
      ·rw[if_pos b3]at hdv;exact absurd hdv (by decide)
      rw[if_neg b3]at hdv
      by_cases b4:v∈s.es.map (·.1)
      ·rw[if_pos b4]at hdv;exact absurd hdv (by decide)
      have hv6:v.length<=6:=by
       rcases hok with z|z
       ·exact z
       ·exact absurd z b4
      obtain⟨led8,he8⟩:=led.told ok0 (fun b hb=>by cases hb) b4 (by simpa using b1) (by omega) (by omega) (by omega) (by rw[hG];simp) g
      refine⟨Pv (i+1),?_,tail⟩
      walk_at "rd"
      rw[if_neg (by rw[htk];simp)]
      refine⟨_,SqT.of (tk8 _ _ hq7),_,rfl,rfl,?_⟩
      rw[if_neg (by decide)]
      refine⟨_,SqT.of (tk8 _ _ hq7),_,rfl,rfl,?_⟩
      rw[if_neg (by decide)]
      obtain⟨H9,p9,q9⟩:=fin v m u2 ad' H8 s' x' wv' hA8 hW8 f8 k8 led8 he8 b4 (tk8 _ _ (hu2 v m rfl))
      exact⟨_,SqT.of (tk8 _ _ hq7),_,rfl,_,SqT.of (tk8 _ _ hq7),_,rfl,H9,p9,q9⟩
    |done mm ws=>cases dd<;>exact True.intro
    |spent cc=>cases dd<;>exact True.intro
  ·walk_at "rd"
   exact k _
end
theorem all_mk {l:PySem.W.OpenLaw}{w:World}{K:PySem.W.Frag}{h:Heap}{mg:Str->Option Value}{fa f_Turns_wants f_Book_heard f_Hunt_heard f_Book_init f_is_word f_check_word f_trail f_Book_told f_halved f_Hunt_ask_for f_rows_of f_cells f_Asker_look_for_gaps f_room_behind f_mark_behind f_Asker_answer f_Asker_halve f_marks_of f_marks_by_row f_ways_by_marks f_guess_of f_Asker_make_guess f_first_unlike f_first_wrong f_Asker_wrong_word f_Hunt_look_at_guess f_stranger f_Asker_look_at_words f_Hunt_next_wish f_Turns_go_on f_Turns_init f_Hunt_init f_Asker_first_ends f_Asker_init f__law_cell_at f_Turns_check_wants f_Hunt_agree f_is_mark f_check_mark f_Book_check f_Book_put f_Hunt_keep_answer f_Asker_hear f_Hunt_keep_objection f_Asker_differ f__law_done f__law_mark_by f__law_word_by f__law_deed_by f__law_answer f__law_due f_Hunt_access f_Hunt_tellers f__law_all f_law:Addr}(X:K.In h)(G:h.Ns mainGlobals mg)(hfa:mg "law"=some (.ref fa))
  {C_AskError C_BadWord C_BadMark C_OutOfTurn C_NoDifference C_Contradiction C_Book C_Turns C_Hunt C_Asker:Addr}
  {od_Turns_wants an_Turns_wants:Option Addr} {sl_Turns_wants:Array (Option Value)} {oc_Turns_wants kV_Turns_wants dc_Turns_wants pm_Turns_wants cd_Turns_wants ct_Turns_wants:Value}
  {od_Book_heard an_Book_heard:Option Addr} {sl_Book_heard:Array (Option Value)} {oc_Book_heard kV_Book_heard dc_Book_heard pm_Book_heard cd_Book_heard ct_Book_heard:Value}
  {od_Hunt_heard an_Hunt_heard:Option Addr} {sl_Hunt_heard:Array (Option Value)} {oc_Hunt_heard kV_Hunt_heard dc_Hunt_heard pm_Hunt_heard cd_Hunt_heard ct_Hunt_heard:Value}
  {od_Book_init an_Book_init:Option Addr} {sl_Book_init:Array (Option Value)} {oc_Book_init kV_Book_init dc_Book_init pm_Book_init cd_Book_init ct_Book_init:Value}
  {od_is_word an_is_word:Option Addr} {sl_is_word:Array (Option Value)} {oc_is_word kV_is_word dc_is_word pm_is_word cd_is_word ct_is_word:Value}
  {od_check_word an_check_word:Option Addr} {sl_check_word:Array (Option Value)} {oc_check_word kV_check_word dc_check_word pm_check_word cd_check_word ct_check_word:Value}
  {od_trail an_trail:Option Addr} {sl_trail:Array (Option Value)} {oc_trail kV_trail dc_trail pm_trail cd_trail ct_trail:Value}
  {od_Book_told an_Book_told:Option Addr} {sl_Book_told:Array (Option Value)} {oc_Book_told kV_Book_told dc_Book_told pm_Book_told cd_Book_told ct_Book_told:Value}
  {od_halved an_halved:Option Addr} {sl_halved:Array (Option Value)} {oc_halved kV_halved dc_halved pm_halved cd_halved ct_halved:Value}
  {od_Hunt_ask_for an_Hunt_ask_for:Option Addr} {sl_Hunt_ask_for:Array (Option Value)} {oc_Hunt_ask_for kV_Hunt_ask_for dc_Hunt_ask_for pm_Hunt_ask_for cd_Hunt_ask_for ct_Hunt_ask_for:Value}
  {od_rows_of an_rows_of:Option Addr} {sl_rows_of:Array (Option Value)} {oc_rows_of kV_rows_of dc_rows_of pm_rows_of cd_rows_of ct_rows_of:Value}
  {od_cells an_cells:Option Addr} {sl_cells:Array (Option Value)} {oc_cells kV_cells dc_cells pm_cells cd_cells ct_cells:Value}
  {od_Asker_look_for_gaps an_Asker_look_for_gaps:Option Addr} {sl_Asker_look_for_gaps:Array (Option Value)} {oc_Asker_look_for_gaps kV_Asker_look_for_gaps dc_Asker_look_for_gaps pm_Asker_look_for_gaps cd_Asker_look_for_gaps ct_Asker_look_for_gaps:Value}
  {od_room_behind an_room_behind:Option Addr} {sl_room_behind:Array (Option Value)} {oc_room_behind kV_room_behind dc_room_behind pm_room_behind cd_room_behind ct_room_behind:Value}
  {od_mark_behind an_mark_behind:Option Addr} {sl_mark_behind:Array (Option Value)} {oc_mark_behind kV_mark_behind dc_mark_behind pm_mark_behind cd_mark_behind ct_mark_behind:Value}
  {od_Asker_answer an_Asker_answer:Option Addr} {sl_Asker_answer:Array (Option Value)} {oc_Asker_answer kV_Asker_answer dc_Asker_answer pm_Asker_answer cd_Asker_answer ct_Asker_answer:Value}
  {od_Asker_halve an_Asker_halve:Option Addr} {sl_Asker_halve:Array (Option Value)} {oc_Asker_halve kV_Asker_halve dc_Asker_halve pm_Asker_halve cd_Asker_halve ct_Asker_halve:Value}
  {od_marks_of an_marks_of:Option Addr} {sl_marks_of:Array (Option Value)} {oc_marks_of kV_marks_of dc_marks_of pm_marks_of cd_marks_of ct_marks_of:Value}
  {od_marks_by_row an_marks_by_row:Option Addr} {sl_marks_by_row:Array (Option Value)} {oc_marks_by_row kV_marks_by_row dc_marks_by_row pm_marks_by_row cd_marks_by_row ct_marks_by_row:Value}
  {od_ways_by_marks an_ways_by_marks:Option Addr} {sl_ways_by_marks:Array (Option Value)} {oc_ways_by_marks kV_ways_by_marks dc_ways_by_marks pm_ways_by_marks cd_ways_by_marks ct_ways_by_marks:Value}
  {od_guess_of an_guess_of:Option Addr} {sl_guess_of:Array (Option Value)} {oc_guess_of kV_guess_of dc_guess_of pm_guess_of cd_guess_of ct_guess_of:Value}
  {od_Asker_make_guess an_Asker_make_guess:Option Addr} {sl_Asker_make_guess:Array (Option Value)} {oc_Asker_make_guess kV_Asker_make_guess dc_Asker_make_guess pm_Asker_make_guess cd_Asker_make_guess ct_Asker_make_guess:Value}
  {od_first_unlike an_first_unlike:Option Addr} {sl_first_unlike:Array (Option Value)} {oc_first_unlike kV_first_unlike dc_first_unlike pm_first_unlike cd_first_unlike ct_first_unlike:Value}
  {od_first_wrong an_first_wrong:Option Addr} {sl_first_wrong:Array (Option Value)} {oc_first_wrong kV_first_wrong dc_first_wrong pm_first_wrong cd_first_wrong ct_first_wrong:Value}
  {od_Asker_wrong_word an_Asker_wrong_word:Option Addr} {sl_Asker_wrong_word:Array (Option Value)} {oc_Asker_wrong_word kV_Asker_wrong_word dc_Asker_wrong_word pm_Asker_wrong_word cd_Asker_wrong_word ct_Asker_wrong_word:Value}
  {od_Hunt_look_at_guess an_Hunt_look_at_guess:Option Addr} {sl_Hunt_look_at_guess:Array (Option Value)} {oc_Hunt_look_at_guess kV_Hunt_look_at_guess dc_Hunt_look_at_guess pm_Hunt_look_at_guess cd_Hunt_look_at_guess ct_Hunt_look_at_guess:Value}
  {od_stranger an_stranger:Option Addr} {sl_stranger:Array (Option Value)} {oc_stranger kV_stranger dc_stranger pm_stranger cd_stranger ct_stranger:Value}
  {od_Asker_look_at_words an_Asker_look_at_words:Option Addr} {sl_Asker_look_at_words:Array (Option Value)} {oc_Asker_look_at_words kV_Asker_look_at_words dc_Asker_look_at_words pm_Asker_look_at_words cd_Asker_look_at_words ct_Asker_look_at_words:Value}
  {od_Hunt_next_wish an_Hunt_next_wish:Option Addr} {sl_Hunt_next_wish:Array (Option Value)} {oc_Hunt_next_wish kV_Hunt_next_wish dc_Hunt_next_wish pm_Hunt_next_wish cd_Hunt_next_wish ct_Hunt_next_wish:Value}
  {od_Turns_go_on an_Turns_go_on:Option Addr} {sl_Turns_go_on:Array (Option Value)} {oc_Turns_go_on kV_Turns_go_on dc_Turns_go_on pm_Turns_go_on cd_Turns_go_on ct_Turns_go_on:Value}
  {od_Turns_init an_Turns_init:Option Addr} {sl_Turns_init:Array (Option Value)} {oc_Turns_init kV_Turns_init dc_Turns_init pm_Turns_init cd_Turns_init ct_Turns_init:Value}
  {od_Hunt_init an_Hunt_init:Option Addr} {sl_Hunt_init:Array (Option Value)} {oc_Hunt_init kV_Hunt_init dc_Hunt_init pm_Hunt_init cd_Hunt_init ct_Hunt_init:Value}
  {od_Asker_first_ends an_Asker_first_ends:Option Addr} {sl_Asker_first_ends:Array (Option Value)} {oc_Asker_first_ends kV_Asker_first_ends dc_Asker_first_ends pm_Asker_first_ends cd_Asker_first_ends ct_Asker_first_ends:Value}
  {od_Asker_init an_Asker_init:Option Addr} {sl_Asker_init:Array (Option Value)} {oc_Asker_init kV_Asker_init dc_Asker_init pm_Asker_init cd_Asker_init ct_Asker_init:Value}
  {od__law_cell_at an__law_cell_at:Option Addr} {sl__law_cell_at:Array (Option Value)} {oc__law_cell_at kV__law_cell_at dc__law_cell_at pm__law_cell_at cd__law_cell_at ct__law_cell_at:Value}
  {od_Turns_check_wants an_Turns_check_wants:Option Addr} {sl_Turns_check_wants:Array (Option Value)} {oc_Turns_check_wants kV_Turns_check_wants dc_Turns_check_wants pm_Turns_check_wants cd_Turns_check_wants ct_Turns_check_wants:Value}
  {od_Hunt_agree an_Hunt_agree:Option Addr} {sl_Hunt_agree:Array (Option Value)} {oc_Hunt_agree kV_Hunt_agree dc_Hunt_agree pm_Hunt_agree cd_Hunt_agree ct_Hunt_agree:Value}
  {od_is_mark an_is_mark:Option Addr} {sl_is_mark:Array (Option Value)} {oc_is_mark kV_is_mark dc_is_mark pm_is_mark cd_is_mark ct_is_mark:Value}
  {od_check_mark an_check_mark:Option Addr} {sl_check_mark:Array (Option Value)} {oc_check_mark kV_check_mark dc_check_mark pm_check_mark cd_check_mark ct_check_mark:Value}
  {od_Book_check an_Book_check:Option Addr} {sl_Book_check:Array (Option Value)} {oc_Book_check kV_Book_check dc_Book_check pm_Book_check cd_Book_check ct_Book_check:Value}
  {od_Book_put an_Book_put:Option Addr} {sl_Book_put:Array (Option Value)} {oc_Book_put kV_Book_put dc_Book_put pm_Book_put cd_Book_put ct_Book_put:Value}
  {od_Hunt_keep_answer an_Hunt_keep_answer:Option Addr} {sl_Hunt_keep_answer:Array (Option Value)} {oc_Hunt_keep_answer kV_Hunt_keep_answer dc_Hunt_keep_answer pm_Hunt_keep_answer cd_Hunt_keep_answer ct_Hunt_keep_answer:Value}
  {od_Asker_hear an_Asker_hear:Option Addr} {sl_Asker_hear:Array (Option Value)} {oc_Asker_hear kV_Asker_hear dc_Asker_hear pm_Asker_hear cd_Asker_hear ct_Asker_hear:Value}
  {od_Hunt_keep_objection an_Hunt_keep_objection:Option Addr} {sl_Hunt_keep_objection:Array (Option Value)} {oc_Hunt_keep_objection kV_Hunt_keep_objection dc_Hunt_keep_objection pm_Hunt_keep_objection cd_Hunt_keep_objection ct_Hunt_keep_objection:Value}
  {od_Asker_differ an_Asker_differ:Option Addr} {sl_Asker_differ:Array (Option Value)} {oc_Asker_differ kV_Asker_differ dc_Asker_differ pm_Asker_differ cd_Asker_differ ct_Asker_differ:Value}
  {od__law_done an__law_done:Option Addr} {sl__law_done:Array (Option Value)} {oc__law_done kV__law_done dc__law_done pm__law_done cd__law_done ct__law_done:Value}
  {od__law_mark_by an__law_mark_by:Option Addr} {sl__law_mark_by:Array (Option Value)} {oc__law_mark_by kV__law_mark_by dc__law_mark_by pm__law_mark_by cd__law_mark_by ct__law_mark_by:Value}
  {od__law_word_by an__law_word_by:Option Addr} {sl__law_word_by:Array (Option Value)} {oc__law_word_by kV__law_word_by dc__law_word_by pm__law_word_by cd__law_word_by ct__law_word_by:Value}
  {od__law_deed_by an__law_deed_by:Option Addr} {sl__law_deed_by:Array (Option Value)} {oc__law_deed_by kV__law_deed_by dc__law_deed_by pm__law_deed_by cd__law_deed_by ct__law_deed_by:Value}
  {od__law_answer an__law_answer:Option Addr} {sl__law_answer:Array (Option Value)} {oc__law_answer kV__law_answer dc__law_answer pm__law_answer cd__law_answer ct__law_answer:Value}
  {od__law_due an__law_due:Option Addr} {sl__law_due:Array (Option Value)} {oc__law_due kV__law_due dc__law_due pm__law_due cd__law_due ct__law_due:Value}
  {od_Hunt_access an_Hunt_access:Option Addr} {sl_Hunt_access:Array (Option Value)} {oc_Hunt_access kV_Hunt_access dc_Hunt_access pm_Hunt_access cd_Hunt_access ct_Hunt_access:Value}
  {od_Hunt_tellers an_Hunt_tellers:Option Addr} {sl_Hunt_tellers:Array (Option Value)} {oc_Hunt_tellers kV_Hunt_tellers dc_Hunt_tellers pm_Hunt_tellers cd_Hunt_tellers ct_Hunt_tellers:Value}
  {od__law_all an__law_all:Option Addr} {sl__law_all:Array (Option Value)} {oc__law_all kV__law_all dc__law_all pm__law_all cd__law_all ct__law_all:Value}
  {od_law an_law:Option Addr} {sl_law:Array (Option Value)} {oc_law kV_law dc_law pm_law cd_law ct_law:Value}
  (aC_Book:PySem.W.nsIn K mainGlobals "Book"=some (some (.ref C_Book)))
  (pg_Book:PySem.W.plainGet K C_Book Str.empty=true)
  (hd_Book:PySem.W.hasDictIn K C_Book=true)
  (po_Book:PySem.W.plainOver K C_Book=true)
  (sa_Book:PySem.W.findIn K (.ref C_Book) "__setattr__"=some (some (.builtin "object.__setattr__")))
  (mk_Book:PySem.W.makesIn K C_Book=true)
  (kc_Book:PySem.W.keepIn K (.ref C_Book)=true)
  (n_letters_Book:PySem.W.findIn K (.ref C_Book) "letters"=some none)
  (n_marks_Book:PySem.W.findIn K (.ref C_Book) "marks"=some none)
  (aC_Turns:PySem.W.nsIn K mainGlobals "Turns"=some (some (.ref C_Turns)))
  (aC_Hunt:PySem.W.nsIn K mainGlobals "Hunt"=some (some (.ref C_Hunt)))
  (aC_Asker:PySem.W.nsIn K mainGlobals "Asker"=some (some (.ref C_Asker)))
  (pg_Asker:PySem.W.plainGet K C_Asker Str.empty=true)
  (hd_Asker:PySem.W.hasDictIn K C_Asker=true)
  (po_Asker:PySem.W.plainOver K C_Asker=true)
  (sa_Asker:PySem.W.findIn K (.ref C_Asker) "__setattr__"=some (some (.builtin "object.__setattr__")))
  (mk_Asker:PySem.W.makesIn K C_Asker=true)
  (kc_Asker:PySem.W.keepIn K (.ref C_Asker)=true)
  (n_wish_Asker:PySem.W.findIn K (.ref C_Asker) "wish"=some none)
  (n_letters_Asker:PySem.W.findIn K (.ref C_Asker) "letters"=some none)
  (n_most_Asker:PySem.W.findIn K (.ref C_Asker) "most"=some none)
  (n_book_Asker:PySem.W.findIn K (.ref C_Asker) "book"=some none)
  (n_ways_Asker:PySem.W.findIn K (.ref C_Asker) "ways"=some none)
  (n_ends_Asker:PySem.W.findIn K (.ref C_Asker) "ends"=some none)
  (n_gaps_Asker:PySem.W.findIn K (.ref C_Asker) "gaps"=some none)
  (n_guess_Asker:PySem.W.findIn K (.ref C_Asker) "guess"=some none)
  (n_wrong_Asker:PySem.W.findIn K (.ref C_Asker) "wrong"=some none)
  {tk_MOST_MARK:Tok} (q_MOST_MARK:PySem.W.nsIn K mainGlobals "MOST_MARK"=some (some (.int 1000000000 tk_MOST_MARK)))
  (a_Turns_wants:PySem.W.findIn K (.ref C_Asker) "wants"=some (some (.ref f_Turns_wants)))
  (i_Turns_wants:PySem.W.isFn K (.ref f_Turns_wants)=true)
  (l_Turns_wants:K.lookup f_Turns_wants=some ⟨oc_Turns_wants,od_Turns_wants,.func (PySem.W.fnOf "wants" "Turns.wants" (defArgs s_Turns_wants) (defBody s_Turns_wants) (defScope s_Turns_wants) .none kV_Turns_wants dc_Turns_wants pm_Turns_wants an_Turns_wants cd_Turns_wants ct_Turns_wants),sl_Turns_wants⟩)
  (c_Turns_wants:PySem.W.codeIn K cd_Turns_wants "Turns.wants"=true)
  (k_Turns_wants:PySem.W.keepIn K (.ref f_Turns_wants)=true)
  (a_Book_heard:PySem.W.findIn K (.ref C_Book) "heard"=some (some (.ref f_Book_heard)))
  (i_Book_heard:PySem.W.isFn K (.ref f_Book_heard)=true)
  (l_Book_heard:K.lookup f_Book_heard=some ⟨oc_Book_heard,od_Book_heard,.func (PySem.W.fnOf "heard" "Book.heard" (defArgs s_Book_heard) (defBody s_Book_heard) (defScope s_Book_heard) .none kV_Book_heard dc_Book_heard pm_Book_heard an_Book_heard cd_Book_heard ct_Book_heard),sl_Book_heard⟩)
  (c_Book_heard:PySem.W.codeIn K cd_Book_heard "Book.heard"=true)
  (k_Book_heard:PySem.W.keepIn K (.ref f_Book_heard)=true)
  (a_Hunt_heard:PySem.W.findIn K (.ref C_Asker) "heard"=some (some (.ref f_Hunt_heard)))
  (i_Hunt_heard:PySem.W.isFn K (.ref f_Hunt_heard)=true)
  (l_Hunt_heard:K.lookup f_Hunt_heard=some ⟨oc_Hunt_heard,od_Hunt_heard,.func (PySem.W.fnOf "heard" "Hunt.heard" (defArgs s_Hunt_heard) (defBody s_Hunt_heard) (defScope s_Hunt_heard) .none kV_Hunt_heard dc_Hunt_heard pm_Hunt_heard an_Hunt_heard cd_Hunt_heard ct_Hunt_heard),sl_Hunt_heard⟩)
  (c_Hunt_heard:PySem.W.codeIn K cd_Hunt_heard "Hunt.heard"=true)
  (k_Hunt_heard:PySem.W.keepIn K (.ref f_Hunt_heard)=true)
  (a_Book_init:PySem.W.findIn K (.ref C_Book) "__init__"=some (some (.ref f_Book_init)))
  (i_Book_init:PySem.W.isFn K (.ref f_Book_init)=true)
  (l_Book_init:K.lookup f_Book_init=some ⟨oc_Book_init,od_Book_init,.func (PySem.W.fnOf "__init__" "Book.__init__" (defArgs s_Book_init) (defBody s_Book_init) (defScope s_Book_init) .none kV_Book_init dc_Book_init pm_Book_init an_Book_init cd_Book_init ct_Book_init),sl_Book_init⟩)
  (c_Book_init:PySem.W.codeIn K cd_Book_init "Book.__init__"=true)
  (k_Book_init:PySem.W.keepIn K (.ref f_Book_init)=true)
  (a_is_word:PySem.W.nsIn K mainGlobals "is_word"=some (some (.ref f_is_word)))
  (l_is_word:K.lookup f_is_word=some ⟨oc_is_word,od_is_word,.func (PySem.W.fnOf "is_word" "is_word" (defArgs s_is_word) (defBody s_is_word) (defScope s_is_word) .none kV_is_word dc_is_word pm_is_word an_is_word cd_is_word ct_is_word),sl_is_word⟩)
  (c_is_word:PySem.W.codeIn K cd_is_word "is_word"=true)
  (k_is_word:PySem.W.keepIn K (.ref f_is_word)=true)
  (a_check_word:PySem.W.nsIn K mainGlobals "check_word"=some (some (.ref f_check_word)))
  (l_check_word:K.lookup f_check_word=some ⟨oc_check_word,od_check_word,.func (PySem.W.fnOf "check_word" "check_word" (defArgs s_check_word) (defBody s_check_word) (defScope s_check_word) .none kV_check_word dc_check_word pm_check_word an_check_word cd_check_word ct_check_word),sl_check_word⟩)
  (c_check_word:PySem.W.codeIn K cd_check_word "check_word"=true)
  (k_check_word:PySem.W.keepIn K (.ref f_check_word)=true)
  (a_trail:PySem.W.nsIn K mainGlobals "trail"=some (some (.ref f_trail)))
  (l_trail:K.lookup f_trail=some ⟨oc_trail,od_trail,.func (PySem.W.fnOf "trail" "trail" (defArgs s_trail) (defBody s_trail) (defScope s_trail) .none kV_trail dc_trail pm_trail an_trail cd_trail ct_trail),sl_trail⟩)
  (c_trail:PySem.W.codeIn K cd_trail "trail"=true)
  (k_trail:PySem.W.keepIn K (.ref f_trail)=true)
  (a_Book_told:PySem.W.findIn K (.ref C_Book) "told"=some (some (.ref f_Book_told)))
  (i_Book_told:PySem.W.isFn K (.ref f_Book_told)=true)
  (l_Book_told:K.lookup f_Book_told=some ⟨oc_Book_told,od_Book_told,.func (PySem.W.fnOf "told" "Book.told" (defArgs s_Book_told) (defBody s_Book_told) (defScope s_Book_told) .none kV_Book_told dc_Book_told pm_Book_told an_Book_told cd_Book_told ct_Book_told),sl_Book_told⟩)
  (c_Book_told:PySem.W.codeIn K cd_Book_told "Book.told"=true)
  (k_Book_told:PySem.W.keepIn K (.ref f_Book_told)=true)
  (a_halved:PySem.W.nsIn K mainGlobals "halved"=some (some (.ref f_halved)))
  (l_halved:K.lookup f_halved=some ⟨oc_halved,od_halved,.func (PySem.W.fnOf "halved" "halved" (defArgs s_halved) (defBody s_halved) (defScope s_halved) .none kV_halved dc_halved pm_halved an_halved cd_halved ct_halved),sl_halved⟩)
  (c_halved:PySem.W.codeIn K cd_halved "halved"=true)
  (k_halved:PySem.W.keepIn K (.ref f_halved)=true)
  (a_Hunt_ask_for:PySem.W.findIn K (.ref C_Asker) "ask_for"=some (some (.ref f_Hunt_ask_for)))
  (i_Hunt_ask_for:PySem.W.isFn K (.ref f_Hunt_ask_for)=true)
  (l_Hunt_ask_for:K.lookup f_Hunt_ask_for=some ⟨oc_Hunt_ask_for,od_Hunt_ask_for,.func (PySem.W.fnOf "ask_for" "Hunt.ask_for" (defArgs s_Hunt_ask_for) (defBody s_Hunt_ask_for) (defScope s_Hunt_ask_for) .none kV_Hunt_ask_for dc_Hunt_ask_for pm_Hunt_ask_for an_Hunt_ask_for cd_Hunt_ask_for ct_Hunt_ask_for),sl_Hunt_ask_for⟩)
  (c_Hunt_ask_for:PySem.W.codeIn K cd_Hunt_ask_for "Hunt.ask_for"=true)
  (k_Hunt_ask_for:PySem.W.keepIn K (.ref f_Hunt_ask_for)=true)
  (a_rows_of:PySem.W.nsIn K mainGlobals "rows_of"=some (some (.ref f_rows_of)))
  (l_rows_of:K.lookup f_rows_of=some ⟨oc_rows_of,od_rows_of,.func (PySem.W.fnOf "rows_of" "rows_of" (defArgs s_rows_of) (defBody s_rows_of) (defScope s_rows_of) .none kV_rows_of dc_rows_of pm_rows_of an_rows_of cd_rows_of ct_rows_of),sl_rows_of⟩)
  (c_rows_of:PySem.W.codeIn K cd_rows_of "rows_of"=true)
  (k_rows_of:PySem.W.keepIn K (.ref f_rows_of)=true)
  (a_cells:PySem.W.nsIn K mainGlobals "cells"=some (some (.ref f_cells)))
  (l_cells:K.lookup f_cells=some ⟨oc_cells,od_cells,.func (PySem.W.fnOf "cells" "cells" (defArgs s_cells) (defBody s_cells) (defScope s_cells) .none kV_cells dc_cells pm_cells an_cells cd_cells ct_cells),sl_cells⟩)
  (c_cells:PySem.W.codeIn K cd_cells "cells"=true)
  (k_cells:PySem.W.keepIn K (.ref f_cells)=true)
  (a_Asker_look_for_gaps:PySem.W.findIn K (.ref C_Asker) "look_for_gaps"=some (some (.ref f_Asker_look_for_gaps)))
  (i_Asker_look_for_gaps:PySem.W.isFn K (.ref f_Asker_look_for_gaps)=true)
  (l_Asker_look_for_gaps:K.lookup f_Asker_look_for_gaps=some ⟨oc_Asker_look_for_gaps,od_Asker_look_for_gaps,.func (PySem.W.fnOf "look_for_gaps" "Asker.look_for_gaps" (defArgs s_Asker_look_for_gaps) (defBody s_Asker_look_for_gaps) (defScope s_Asker_look_for_gaps) .none kV_Asker_look_for_gaps dc_Asker_look_for_gaps pm_Asker_look_for_gaps an_Asker_look_for_gaps cd_Asker_look_for_gaps ct_Asker_look_for_gaps),sl_Asker_look_for_gaps⟩)
  (c_Asker_look_for_gaps:PySem.W.codeIn K cd_Asker_look_for_gaps "Asker.look_for_gaps"=true)
  (k_Asker_look_for_gaps:PySem.W.keepIn K (.ref f_Asker_look_for_gaps)=true)
  (a_room_behind:PySem.W.nsIn K mainGlobals "room_behind"=some (some (.ref f_room_behind)))
  (l_room_behind:K.lookup f_room_behind=some ⟨oc_room_behind,od_room_behind,.func (PySem.W.fnOf "room_behind" "room_behind" (defArgs s_room_behind) (defBody s_room_behind) (defScope s_room_behind) .none kV_room_behind dc_room_behind pm_room_behind an_room_behind cd_room_behind ct_room_behind),sl_room_behind⟩)
  (c_room_behind:PySem.W.codeIn K cd_room_behind "room_behind"=true)
  (k_room_behind:PySem.W.keepIn K (.ref f_room_behind)=true)
  (a_mark_behind:PySem.W.nsIn K mainGlobals "mark_behind"=some (some (.ref f_mark_behind)))
  (l_mark_behind:K.lookup f_mark_behind=some ⟨oc_mark_behind,od_mark_behind,.func (PySem.W.fnOf "mark_behind" "mark_behind" (defArgs s_mark_behind) (defBody s_mark_behind) (defScope s_mark_behind) .none kV_mark_behind dc_mark_behind pm_mark_behind an_mark_behind cd_mark_behind ct_mark_behind),sl_mark_behind⟩)
  (c_mark_behind:PySem.W.codeIn K cd_mark_behind "mark_behind"=true)
  (k_mark_behind:PySem.W.keepIn K (.ref f_mark_behind)=true)
  (a_Asker_answer:PySem.W.findIn K (.ref C_Asker) "answer"=some (some (.ref f_Asker_answer)))
  (i_Asker_answer:PySem.W.isFn K (.ref f_Asker_answer)=true)
  (l_Asker_answer:K.lookup f_Asker_answer=some ⟨oc_Asker_answer,od_Asker_answer,.func (PySem.W.fnOf "answer" "Asker.answer" (defArgs s_Asker_answer) (defBody s_Asker_answer) (defScope s_Asker_answer) .none kV_Asker_answer dc_Asker_answer pm_Asker_answer an_Asker_answer cd_Asker_answer ct_Asker_answer),sl_Asker_answer⟩)
  (c_Asker_answer:PySem.W.codeIn K cd_Asker_answer "Asker.answer"=true)
  (k_Asker_answer:PySem.W.keepIn K (.ref f_Asker_answer)=true)
  (a_Asker_halve:PySem.W.findIn K (.ref C_Asker) "halve"=some (some (.ref f_Asker_halve)))
  (i_Asker_halve:PySem.W.isFn K (.ref f_Asker_halve)=true)
  (l_Asker_halve:K.lookup f_Asker_halve=some ⟨oc_Asker_halve,od_Asker_halve,.func (PySem.W.fnOf "halve" "Asker.halve" (defArgs s_Asker_halve) (defBody s_Asker_halve) (defScope s_Asker_halve) .none kV_Asker_halve dc_Asker_halve pm_Asker_halve an_Asker_halve cd_Asker_halve ct_Asker_halve),sl_Asker_halve⟩)
  (c_Asker_halve:PySem.W.codeIn K cd_Asker_halve "Asker.halve"=true)
  (k_Asker_halve:PySem.W.keepIn K (.ref f_Asker_halve)=true)
  (a_marks_of:PySem.W.nsIn K mainGlobals "marks_of"=some (some (.ref f_marks_of)))
  (l_marks_of:K.lookup f_marks_of=some ⟨oc_marks_of,od_marks_of,.func (PySem.W.fnOf "marks_of" "marks_of" (defArgs s_marks_of) (defBody s_marks_of) (defScope s_marks_of) .none kV_marks_of dc_marks_of pm_marks_of an_marks_of cd_marks_of ct_marks_of),sl_marks_of⟩)
  (c_marks_of:PySem.W.codeIn K cd_marks_of "marks_of"=true)
  (k_marks_of:PySem.W.keepIn K (.ref f_marks_of)=true)
  (a_marks_by_row:PySem.W.nsIn K mainGlobals "marks_by_row"=some (some (.ref f_marks_by_row)))
  (l_marks_by_row:K.lookup f_marks_by_row=some ⟨oc_marks_by_row,od_marks_by_row,.func (PySem.W.fnOf "marks_by_row" "marks_by_row" (defArgs s_marks_by_row) (defBody s_marks_by_row) (defScope s_marks_by_row) .none kV_marks_by_row dc_marks_by_row pm_marks_by_row an_marks_by_row cd_marks_by_row ct_marks_by_row),sl_marks_by_row⟩)
  (c_marks_by_row:PySem.W.codeIn K cd_marks_by_row "marks_by_row"=true)
  (k_marks_by_row:PySem.W.keepIn K (.ref f_marks_by_row)=true)
  (a_ways_by_marks:PySem.W.nsIn K mainGlobals "ways_by_marks"=some (some (.ref f_ways_by_marks)))
  (l_ways_by_marks:K.lookup f_ways_by_marks=some ⟨oc_ways_by_marks,od_ways_by_marks,.func (PySem.W.fnOf "ways_by_marks" "ways_by_marks" (defArgs s_ways_by_marks) (defBody s_ways_by_marks) (defScope s_ways_by_marks) .none kV_ways_by_marks dc_ways_by_marks pm_ways_by_marks an_ways_by_marks cd_ways_by_marks ct_ways_by_marks),sl_ways_by_marks⟩)
  (c_ways_by_marks:PySem.W.codeIn K cd_ways_by_marks "ways_by_marks"=true)
  (k_ways_by_marks:PySem.W.keepIn K (.ref f_ways_by_marks)=true)
  (a_guess_of:PySem.W.nsIn K mainGlobals "guess_of"=some (some (.ref f_guess_of)))
  (l_guess_of:K.lookup f_guess_of=some ⟨oc_guess_of,od_guess_of,.func (PySem.W.fnOf "guess_of" "guess_of" (defArgs s_guess_of) (defBody s_guess_of) (defScope s_guess_of) .none kV_guess_of dc_guess_of pm_guess_of an_guess_of cd_guess_of ct_guess_of),sl_guess_of⟩)
  (c_guess_of:PySem.W.codeIn K cd_guess_of "guess_of"=true)
  (k_guess_of:PySem.W.keepIn K (.ref f_guess_of)=true)
  (a_Asker_make_guess:PySem.W.findIn K (.ref C_Asker) "make_guess"=some (some (.ref f_Asker_make_guess)))
  (i_Asker_make_guess:PySem.W.isFn K (.ref f_Asker_make_guess)=true)
  (l_Asker_make_guess:K.lookup f_Asker_make_guess=some ⟨oc_Asker_make_guess,od_Asker_make_guess,.func (PySem.W.fnOf "make_guess" "Asker.make_guess" (defArgs s_Asker_make_guess) (defBody s_Asker_make_guess) (defScope s_Asker_make_guess) .none kV_Asker_make_guess dc_Asker_make_guess pm_Asker_make_guess an_Asker_make_guess cd_Asker_make_guess ct_Asker_make_guess),sl_Asker_make_guess⟩)
  (c_Asker_make_guess:PySem.W.codeIn K cd_Asker_make_guess "Asker.make_guess"=true)
  (k_Asker_make_guess:PySem.W.keepIn K (.ref f_Asker_make_guess)=true)
  (a_first_unlike:PySem.W.nsIn K mainGlobals "first_unlike"=some (some (.ref f_first_unlike)))
  (l_first_unlike:K.lookup f_first_unlike=some ⟨oc_first_unlike,od_first_unlike,.func (PySem.W.fnOf "first_unlike" "first_unlike" (defArgs s_first_unlike) (defBody s_first_unlike) (defScope s_first_unlike) .none kV_first_unlike dc_first_unlike pm_first_unlike an_first_unlike cd_first_unlike ct_first_unlike),sl_first_unlike⟩)
  (c_first_unlike:PySem.W.codeIn K cd_first_unlike "first_unlike"=true)
  (k_first_unlike:PySem.W.keepIn K (.ref f_first_unlike)=true)
  (a_first_wrong:PySem.W.nsIn K mainGlobals "first_wrong"=some (some (.ref f_first_wrong)))
  (l_first_wrong:K.lookup f_first_wrong=some ⟨oc_first_wrong,od_first_wrong,.func (PySem.W.fnOf "first_wrong" "first_wrong" (defArgs s_first_wrong) (defBody s_first_wrong) (defScope s_first_wrong) .none kV_first_wrong dc_first_wrong pm_first_wrong an_first_wrong cd_first_wrong ct_first_wrong),sl_first_wrong⟩)
  (c_first_wrong:PySem.W.codeIn K cd_first_wrong "first_wrong"=true)
  (k_first_wrong:PySem.W.keepIn K (.ref f_first_wrong)=true)
  (a_Asker_wrong_word:PySem.W.findIn K (.ref C_Asker) "wrong_word"=some (some (.ref f_Asker_wrong_word)))
  (i_Asker_wrong_word:PySem.W.isFn K (.ref f_Asker_wrong_word)=true)
  (l_Asker_wrong_word:K.lookup f_Asker_wrong_word=some ⟨oc_Asker_wrong_word,od_Asker_wrong_word,.func (PySem.W.fnOf "wrong_word" "Asker.wrong_word" (defArgs s_Asker_wrong_word) (defBody s_Asker_wrong_word) (defScope s_Asker_wrong_word) .none kV_Asker_wrong_word dc_Asker_wrong_word pm_Asker_wrong_word an_Asker_wrong_word cd_Asker_wrong_word ct_Asker_wrong_word),sl_Asker_wrong_word⟩)
  (c_Asker_wrong_word:PySem.W.codeIn K cd_Asker_wrong_word "Asker.wrong_word"=true)
  (k_Asker_wrong_word:PySem.W.keepIn K (.ref f_Asker_wrong_word)=true)
  (a_Hunt_look_at_guess:PySem.W.findIn K (.ref C_Asker) "look_at_guess"=some (some (.ref f_Hunt_look_at_guess)))
  (i_Hunt_look_at_guess:PySem.W.isFn K (.ref f_Hunt_look_at_guess)=true)
  (l_Hunt_look_at_guess:K.lookup f_Hunt_look_at_guess=some ⟨oc_Hunt_look_at_guess,od_Hunt_look_at_guess,.func (PySem.W.fnOf "look_at_guess" "Hunt.look_at_guess" (defArgs s_Hunt_look_at_guess) (defBody s_Hunt_look_at_guess) (defScope s_Hunt_look_at_guess) .none kV_Hunt_look_at_guess dc_Hunt_look_at_guess pm_Hunt_look_at_guess an_Hunt_look_at_guess cd_Hunt_look_at_guess ct_Hunt_look_at_guess),sl_Hunt_look_at_guess⟩)
  (c_Hunt_look_at_guess:PySem.W.codeIn K cd_Hunt_look_at_guess "Hunt.look_at_guess"=true)
  (k_Hunt_look_at_guess:PySem.W.keepIn K (.ref f_Hunt_look_at_guess)=true)
  (a_stranger:PySem.W.nsIn K mainGlobals "stranger"=some (some (.ref f_stranger)))
  (l_stranger:K.lookup f_stranger=some ⟨oc_stranger,od_stranger,.func (PySem.W.fnOf "stranger" "stranger" (defArgs s_stranger) (defBody s_stranger) (defScope s_stranger) .none kV_stranger dc_stranger pm_stranger an_stranger cd_stranger ct_stranger),sl_stranger⟩)
  (c_stranger:PySem.W.codeIn K cd_stranger "stranger"=true)
  (k_stranger:PySem.W.keepIn K (.ref f_stranger)=true)
  (a_Asker_look_at_words:PySem.W.findIn K (.ref C_Asker) "look_at_words"=some (some (.ref f_Asker_look_at_words)))
  (i_Asker_look_at_words:PySem.W.isFn K (.ref f_Asker_look_at_words)=true)
  (l_Asker_look_at_words:K.lookup f_Asker_look_at_words=some ⟨oc_Asker_look_at_words,od_Asker_look_at_words,.func (PySem.W.fnOf "look_at_words" "Asker.look_at_words" (defArgs s_Asker_look_at_words) (defBody s_Asker_look_at_words) (defScope s_Asker_look_at_words) .none kV_Asker_look_at_words dc_Asker_look_at_words pm_Asker_look_at_words an_Asker_look_at_words cd_Asker_look_at_words ct_Asker_look_at_words),sl_Asker_look_at_words⟩)
  (c_Asker_look_at_words:PySem.W.codeIn K cd_Asker_look_at_words "Asker.look_at_words"=true)
  (k_Asker_look_at_words:PySem.W.keepIn K (.ref f_Asker_look_at_words)=true)
  (a_Hunt_next_wish:PySem.W.findIn K (.ref C_Asker) "next_wish"=some (some (.ref f_Hunt_next_wish)))
  (i_Hunt_next_wish:PySem.W.isFn K (.ref f_Hunt_next_wish)=true)
  (l_Hunt_next_wish:K.lookup f_Hunt_next_wish=some ⟨oc_Hunt_next_wish,od_Hunt_next_wish,.func (PySem.W.fnOf "next_wish" "Hunt.next_wish" (defArgs s_Hunt_next_wish) (defBody s_Hunt_next_wish) (defScope s_Hunt_next_wish) .none kV_Hunt_next_wish dc_Hunt_next_wish pm_Hunt_next_wish an_Hunt_next_wish cd_Hunt_next_wish ct_Hunt_next_wish),sl_Hunt_next_wish⟩)
  (c_Hunt_next_wish:PySem.W.codeIn K cd_Hunt_next_wish "Hunt.next_wish"=true)
  (k_Hunt_next_wish:PySem.W.keepIn K (.ref f_Hunt_next_wish)=true)
  (a_Turns_go_on:PySem.W.findIn K (.ref C_Asker) "go_on"=some (some (.ref f_Turns_go_on)))
  (i_Turns_go_on:PySem.W.isFn K (.ref f_Turns_go_on)=true)
  (l_Turns_go_on:K.lookup f_Turns_go_on=some ⟨oc_Turns_go_on,od_Turns_go_on,.func (PySem.W.fnOf "go_on" "Turns.go_on" (defArgs s_Turns_go_on) (defBody s_Turns_go_on) (defScope s_Turns_go_on) .none kV_Turns_go_on dc_Turns_go_on pm_Turns_go_on an_Turns_go_on cd_Turns_go_on ct_Turns_go_on),sl_Turns_go_on⟩)
  (c_Turns_go_on:PySem.W.codeIn K cd_Turns_go_on "Turns.go_on"=true)
  (k_Turns_go_on:PySem.W.keepIn K (.ref f_Turns_go_on)=true)
  (sg_Turns_init:PySem.W.specialIn K (.ref C_Turns) "__getattribute__"=some (some (.builtin "type.__getattribute__")))
  (rd_Turns_init:PySem.W.readsIn K C_Turns (.type "type")=true)
  (a_Turns_init:PySem.W.findCls K (.ref C_Turns) (.type "type") "__init__"=some (.val (.ref f_Turns_init)))
  (l_Turns_init:K.lookup f_Turns_init=some ⟨oc_Turns_init,od_Turns_init,.func (PySem.W.fnOf "__init__" "Turns.__init__" (defArgs s_Turns_init) (defBody s_Turns_init) (defScope s_Turns_init) .none kV_Turns_init dc_Turns_init pm_Turns_init an_Turns_init cd_Turns_init ct_Turns_init),sl_Turns_init⟩)
  (c_Turns_init:PySem.W.codeIn K cd_Turns_init "Turns.__init__"=true)
  (k_Turns_init:PySem.W.keepIn K (.ref f_Turns_init)=true)
  (sg_Hunt_init:PySem.W.specialIn K (.ref C_Hunt) "__getattribute__"=some (some (.builtin "type.__getattribute__")))
  (rd_Hunt_init:PySem.W.readsIn K C_Hunt (.type "type")=true)
  (a_Hunt_init:PySem.W.findCls K (.ref C_Hunt) (.type "type") "__init__"=some (.val (.ref f_Hunt_init)))
  (l_Hunt_init:K.lookup f_Hunt_init=some ⟨oc_Hunt_init,od_Hunt_init,.func (PySem.W.fnOf "__init__" "Hunt.__init__" (defArgs s_Hunt_init) (defBody s_Hunt_init) (defScope s_Hunt_init) .none kV_Hunt_init dc_Hunt_init pm_Hunt_init an_Hunt_init cd_Hunt_init ct_Hunt_init),sl_Hunt_init⟩)
  (c_Hunt_init:PySem.W.codeIn K cd_Hunt_init "Hunt.__init__"=true)
  (k_Hunt_init:PySem.W.keepIn K (.ref f_Hunt_init)=true)
  (a_Asker_first_ends:PySem.W.findIn K (.ref C_Asker) "first_ends"=some (some (.ref f_Asker_first_ends)))
  (i_Asker_first_ends:PySem.W.isFn K (.ref f_Asker_first_ends)=true)
  (l_Asker_first_ends:K.lookup f_Asker_first_ends=some ⟨oc_Asker_first_ends,od_Asker_first_ends,.func (PySem.W.fnOf "first_ends" "Asker.first_ends" (defArgs s_Asker_first_ends) (defBody s_Asker_first_ends) (defScope s_Asker_first_ends) .none kV_Asker_first_ends dc_Asker_first_ends pm_Asker_first_ends an_Asker_first_ends cd_Asker_first_ends ct_Asker_first_ends),sl_Asker_first_ends⟩)
  (c_Asker_first_ends:PySem.W.codeIn K cd_Asker_first_ends "Asker.first_ends"=true)
  (k_Asker_first_ends:PySem.W.keepIn K (.ref f_Asker_first_ends)=true)
  (a_Asker_init:PySem.W.findIn K (.ref C_Asker) "__init__"=some (some (.ref f_Asker_init)))
  (i_Asker_init:PySem.W.isFn K (.ref f_Asker_init)=true)
  (l_Asker_init:K.lookup f_Asker_init=some ⟨oc_Asker_init,od_Asker_init,.func (PySem.W.fnOf "__init__" "Asker.__init__" (defArgs s_Asker_init) (defBody s_Asker_init) (defScope s_Asker_init) .none kV_Asker_init dc_Asker_init pm_Asker_init an_Asker_init cd_Asker_init ct_Asker_init),sl_Asker_init⟩)
  (c_Asker_init:PySem.W.codeIn K cd_Asker_init "Asker.__init__"=true)
  (k_Asker_init:PySem.W.keepIn K (.ref f_Asker_init)=true)
  (a__law_cell_at:PySem.W.nsIn K mainGlobals "_law_cell_at"=some (some (.ref f__law_cell_at)))
  (l__law_cell_at:K.lookup f__law_cell_at=some ⟨oc__law_cell_at,od__law_cell_at,.func (PySem.W.fnOf "_law_cell_at" "_law_cell_at" (defArgs s__law_cell_at) (defBody s__law_cell_at) (defScope s__law_cell_at) .none kV__law_cell_at dc__law_cell_at pm__law_cell_at an__law_cell_at cd__law_cell_at ct__law_cell_at),sl__law_cell_at⟩)
  (c__law_cell_at:PySem.W.codeIn K cd__law_cell_at "_law_cell_at"=true)
  (k__law_cell_at:PySem.W.keepIn K (.ref f__law_cell_at)=true)
  (a_Turns_check_wants:PySem.W.findIn K (.ref C_Asker) "check_wants"=some (some (.ref f_Turns_check_wants)))
  (i_Turns_check_wants:PySem.W.isFn K (.ref f_Turns_check_wants)=true)
  (l_Turns_check_wants:K.lookup f_Turns_check_wants=some ⟨oc_Turns_check_wants,od_Turns_check_wants,.func (PySem.W.fnOf "check_wants" "Turns.check_wants" (defArgs s_Turns_check_wants) (defBody s_Turns_check_wants) (defScope s_Turns_check_wants) .none kV_Turns_check_wants dc_Turns_check_wants pm_Turns_check_wants an_Turns_check_wants cd_Turns_check_wants ct_Turns_check_wants),sl_Turns_check_wants⟩)
  (c_Turns_check_wants:PySem.W.codeIn K cd_Turns_check_wants "Turns.check_wants"=true)
  (k_Turns_check_wants:PySem.W.keepIn K (.ref f_Turns_check_wants)=true)
  (a_Hunt_agree:PySem.W.findIn K (.ref C_Asker) "agree"=some (some (.ref f_Hunt_agree)))
  (i_Hunt_agree:PySem.W.isFn K (.ref f_Hunt_agree)=true)
  (l_Hunt_agree:K.lookup f_Hunt_agree=some ⟨oc_Hunt_agree,od_Hunt_agree,.func (PySem.W.fnOf "agree" "Hunt.agree" (defArgs s_Hunt_agree) (defBody s_Hunt_agree) (defScope s_Hunt_agree) .none kV_Hunt_agree dc_Hunt_agree pm_Hunt_agree an_Hunt_agree cd_Hunt_agree ct_Hunt_agree),sl_Hunt_agree⟩)
  (c_Hunt_agree:PySem.W.codeIn K cd_Hunt_agree "Hunt.agree"=true)
  (k_Hunt_agree:PySem.W.keepIn K (.ref f_Hunt_agree)=true)
  (a_is_mark:PySem.W.nsIn K mainGlobals "is_mark"=some (some (.ref f_is_mark)))
  (l_is_mark:K.lookup f_is_mark=some ⟨oc_is_mark,od_is_mark,.func (PySem.W.fnOf "is_mark" "is_mark" (defArgs s_is_mark) (defBody s_is_mark) (defScope s_is_mark) .none kV_is_mark dc_is_mark pm_is_mark an_is_mark cd_is_mark ct_is_mark),sl_is_mark⟩)
  (c_is_mark:PySem.W.codeIn K cd_is_mark "is_mark"=true)
  (k_is_mark:PySem.W.keepIn K (.ref f_is_mark)=true)
  (a_check_mark:PySem.W.nsIn K mainGlobals "check_mark"=some (some (.ref f_check_mark)))
  (l_check_mark:K.lookup f_check_mark=some ⟨oc_check_mark,od_check_mark,.func (PySem.W.fnOf "check_mark" "check_mark" (defArgs s_check_mark) (defBody s_check_mark) (defScope s_check_mark) .none kV_check_mark dc_check_mark pm_check_mark an_check_mark cd_check_mark ct_check_mark),sl_check_mark⟩)
  (c_check_mark:PySem.W.codeIn K cd_check_mark "check_mark"=true)
  (k_check_mark:PySem.W.keepIn K (.ref f_check_mark)=true)
  (a_Book_check:PySem.W.findIn K (.ref C_Book) "check"=some (some (.ref f_Book_check)))
  (i_Book_check:PySem.W.isFn K (.ref f_Book_check)=true)
  (l_Book_check:K.lookup f_Book_check=some ⟨oc_Book_check,od_Book_check,.func (PySem.W.fnOf "check" "Book.check" (defArgs s_Book_check) (defBody s_Book_check) (defScope s_Book_check) .none kV_Book_check dc_Book_check pm_Book_check an_Book_check cd_Book_check ct_Book_check),sl_Book_check⟩)
  (c_Book_check:PySem.W.codeIn K cd_Book_check "Book.check"=true)
  (k_Book_check:PySem.W.keepIn K (.ref f_Book_check)=true)
  (a_Book_put:PySem.W.findIn K (.ref C_Book) "put"=some (some (.ref f_Book_put)))
  (i_Book_put:PySem.W.isFn K (.ref f_Book_put)=true)
  (l_Book_put:K.lookup f_Book_put=some ⟨oc_Book_put,od_Book_put,.func (PySem.W.fnOf "put" "Book.put" (defArgs s_Book_put) (defBody s_Book_put) (defScope s_Book_put) .none kV_Book_put dc_Book_put pm_Book_put an_Book_put cd_Book_put ct_Book_put),sl_Book_put⟩)
  (c_Book_put:PySem.W.codeIn K cd_Book_put "Book.put"=true)
  (k_Book_put:PySem.W.keepIn K (.ref f_Book_put)=true)
  (a_Hunt_keep_answer:PySem.W.findIn K (.ref C_Asker) "keep_answer"=some (some (.ref f_Hunt_keep_answer)))
  (i_Hunt_keep_answer:PySem.W.isFn K (.ref f_Hunt_keep_answer)=true)
  (l_Hunt_keep_answer:K.lookup f_Hunt_keep_answer=some ⟨oc_Hunt_keep_answer,od_Hunt_keep_answer,.func (PySem.W.fnOf "keep_answer" "Hunt.keep_answer" (defArgs s_Hunt_keep_answer) (defBody s_Hunt_keep_answer) (defScope s_Hunt_keep_answer) .none kV_Hunt_keep_answer dc_Hunt_keep_answer pm_Hunt_keep_answer an_Hunt_keep_answer cd_Hunt_keep_answer ct_Hunt_keep_answer),sl_Hunt_keep_answer⟩)
  (c_Hunt_keep_answer:PySem.W.codeIn K cd_Hunt_keep_answer "Hunt.keep_answer"=true)
  (k_Hunt_keep_answer:PySem.W.keepIn K (.ref f_Hunt_keep_answer)=true)
  (a_Asker_hear:PySem.W.findIn K (.ref C_Asker) "hear"=some (some (.ref f_Asker_hear)))
  (i_Asker_hear:PySem.W.isFn K (.ref f_Asker_hear)=true)
  (l_Asker_hear:K.lookup f_Asker_hear=some ⟨oc_Asker_hear,od_Asker_hear,.func (PySem.W.fnOf "hear" "Asker.hear" (defArgs s_Asker_hear) (defBody s_Asker_hear) (defScope s_Asker_hear) .none kV_Asker_hear dc_Asker_hear pm_Asker_hear an_Asker_hear cd_Asker_hear ct_Asker_hear),sl_Asker_hear⟩)
  (c_Asker_hear:PySem.W.codeIn K cd_Asker_hear "Asker.hear"=true)
  (k_Asker_hear:PySem.W.keepIn K (.ref f_Asker_hear)=true)
  (a_Hunt_keep_objection:PySem.W.findIn K (.ref C_Asker) "keep_objection"=some (some (.ref f_Hunt_keep_objection)))
  (i_Hunt_keep_objection:PySem.W.isFn K (.ref f_Hunt_keep_objection)=true)
  (l_Hunt_keep_objection:K.lookup f_Hunt_keep_objection=some ⟨oc_Hunt_keep_objection,od_Hunt_keep_objection,.func (PySem.W.fnOf "keep_objection" "Hunt.keep_objection" (defArgs s_Hunt_keep_objection) (defBody s_Hunt_keep_objection) (defScope s_Hunt_keep_objection) .none kV_Hunt_keep_objection dc_Hunt_keep_objection pm_Hunt_keep_objection an_Hunt_keep_objection cd_Hunt_keep_objection ct_Hunt_keep_objection),sl_Hunt_keep_objection⟩)
  (c_Hunt_keep_objection:PySem.W.codeIn K cd_Hunt_keep_objection "Hunt.keep_objection"=true)
  (k_Hunt_keep_objection:PySem.W.keepIn K (.ref f_Hunt_keep_objection)=true)
  (a_Asker_differ:PySem.W.findIn K (.ref C_Asker) "differ"=some (some (.ref f_Asker_differ)))
  (i_Asker_differ:PySem.W.isFn K (.ref f_Asker_differ)=true)
  (l_Asker_differ:K.lookup f_Asker_differ=some ⟨oc_Asker_differ,od_Asker_differ,.func (PySem.W.fnOf "differ" "Asker.differ" (defArgs s_Asker_differ) (defBody s_Asker_differ) (defScope s_Asker_differ) .none kV_Asker_differ dc_Asker_differ pm_Asker_differ an_Asker_differ cd_Asker_differ ct_Asker_differ),sl_Asker_differ⟩)
  (c_Asker_differ:PySem.W.codeIn K cd_Asker_differ "Asker.differ"=true)
  (k_Asker_differ:PySem.W.keepIn K (.ref f_Asker_differ)=true)
  (a__law_done:PySem.W.nsIn K mainGlobals "_law_done"=some (some (.ref f__law_done)))
  (l__law_done:K.lookup f__law_done=some ⟨oc__law_done,od__law_done,.func (PySem.W.fnOf "_law_done" "_law_done" (defArgs s__law_done) (defBody s__law_done) (defScope s__law_done) .none kV__law_done dc__law_done pm__law_done an__law_done cd__law_done ct__law_done),sl__law_done⟩)
  (c__law_done:PySem.W.codeIn K cd__law_done "_law_done"=true)
  (k__law_done:PySem.W.keepIn K (.ref f__law_done)=true)
  (a__law_mark_by:PySem.W.nsIn K mainGlobals "_law_mark_by"=some (some (.ref f__law_mark_by)))
  (l__law_mark_by:K.lookup f__law_mark_by=some ⟨oc__law_mark_by,od__law_mark_by,.func (PySem.W.fnOf "_law_mark_by" "_law_mark_by" (defArgs s__law_mark_by) (defBody s__law_mark_by) (defScope s__law_mark_by) .none kV__law_mark_by dc__law_mark_by pm__law_mark_by an__law_mark_by cd__law_mark_by ct__law_mark_by),sl__law_mark_by⟩)
  (c__law_mark_by:PySem.W.codeIn K cd__law_mark_by "_law_mark_by"=true)
  (k__law_mark_by:PySem.W.keepIn K (.ref f__law_mark_by)=true)
  (a__law_word_by:PySem.W.nsIn K mainGlobals "_law_word_by"=some (some (.ref f__law_word_by)))
  (l__law_word_by:K.lookup f__law_word_by=some ⟨oc__law_word_by,od__law_word_by,.func (PySem.W.fnOf "_law_word_by" "_law_word_by" (defArgs s__law_word_by) (defBody s__law_word_by) (defScope s__law_word_by) .none kV__law_word_by dc__law_word_by pm__law_word_by an__law_word_by cd__law_word_by ct__law_word_by),sl__law_word_by⟩)
  (c__law_word_by:PySem.W.codeIn K cd__law_word_by "_law_word_by"=true)
  (k__law_word_by:PySem.W.keepIn K (.ref f__law_word_by)=true)
  (a__law_deed_by:PySem.W.nsIn K mainGlobals "_law_deed_by"=some (some (.ref f__law_deed_by)))
  (l__law_deed_by:K.lookup f__law_deed_by=some ⟨oc__law_deed_by,od__law_deed_by,.func (PySem.W.fnOf "_law_deed_by" "_law_deed_by" (defArgs s__law_deed_by) (defBody s__law_deed_by) (defScope s__law_deed_by) .none kV__law_deed_by dc__law_deed_by pm__law_deed_by an__law_deed_by cd__law_deed_by ct__law_deed_by),sl__law_deed_by⟩)
  (c__law_deed_by:PySem.W.codeIn K cd__law_deed_by "_law_deed_by"=true)
  (k__law_deed_by:PySem.W.keepIn K (.ref f__law_deed_by)=true)
  (a__law_answer:PySem.W.nsIn K mainGlobals "_law_answer"=some (some (.ref f__law_answer)))
  (l__law_answer:K.lookup f__law_answer=some ⟨oc__law_answer,od__law_answer,.func (PySem.W.fnOf "_law_answer" "_law_answer" (defArgs s__law_answer) (defBody s__law_answer) (defScope s__law_answer) .none kV__law_answer dc__law_answer pm__law_answer an__law_answer cd__law_answer ct__law_answer),sl__law_answer⟩)
  (c__law_answer:PySem.W.codeIn K cd__law_answer "_law_answer"=true)
  (k__law_answer:PySem.W.keepIn K (.ref f__law_answer)=true)
  (a__law_due:PySem.W.nsIn K mainGlobals "_law_due"=some (some (.ref f__law_due)))
  (l__law_due:K.lookup f__law_due=some ⟨oc__law_due,od__law_due,.func (PySem.W.fnOf "_law_due" "_law_due" (defArgs s__law_due) (defBody s__law_due) (defScope s__law_due) .none kV__law_due dc__law_due pm__law_due an__law_due cd__law_due ct__law_due),sl__law_due⟩)
  (c__law_due:PySem.W.codeIn K cd__law_due "_law_due"=true)
  (k__law_due:PySem.W.keepIn K (.ref f__law_due)=true)
  (a_Hunt_access:PySem.W.findIn K (.ref C_Asker) "access"=some (some (.ref f_Hunt_access)))
  (i_Hunt_access:PySem.W.isFn K (.ref f_Hunt_access)=true)
  (l_Hunt_access:K.lookup f_Hunt_access=some ⟨oc_Hunt_access,od_Hunt_access,.func (PySem.W.fnOf "access" "Hunt.access" (defArgs s_Hunt_access) (defBody s_Hunt_access) (defScope s_Hunt_access) .none kV_Hunt_access dc_Hunt_access pm_Hunt_access an_Hunt_access cd_Hunt_access ct_Hunt_access),sl_Hunt_access⟩)
  (c_Hunt_access:PySem.W.codeIn K cd_Hunt_access "Hunt.access"=true)
  (k_Hunt_access:PySem.W.keepIn K (.ref f_Hunt_access)=true)
  (a_Hunt_tellers:PySem.W.findIn K (.ref C_Asker) "tellers"=some (some (.ref f_Hunt_tellers)))
  (i_Hunt_tellers:PySem.W.isFn K (.ref f_Hunt_tellers)=true)
  (l_Hunt_tellers:K.lookup f_Hunt_tellers=some ⟨oc_Hunt_tellers,od_Hunt_tellers,.func (PySem.W.fnOf "tellers" "Hunt.tellers" (defArgs s_Hunt_tellers) (defBody s_Hunt_tellers) (defScope s_Hunt_tellers) .none kV_Hunt_tellers dc_Hunt_tellers pm_Hunt_tellers an_Hunt_tellers cd_Hunt_tellers ct_Hunt_tellers),sl_Hunt_tellers⟩)
  (c_Hunt_tellers:PySem.W.codeIn K cd_Hunt_tellers "Hunt.tellers"=true)
  (k_Hunt_tellers:PySem.W.keepIn K (.ref f_Hunt_tellers)=true)
  (a__law_all:PySem.W.nsIn K mainGlobals "_law_all"=some (some (.ref f__law_all)))
  (l__law_all:K.lookup f__law_all=some ⟨oc__law_all,od__law_all,.func (PySem.W.fnOf "_law_all" "_law_all" (defArgs s__law_all) (defBody s__law_all) (defScope s__law_all) .none kV__law_all dc__law_all pm__law_all an__law_all cd__law_all ct__law_all),sl__law_all⟩)
  (c__law_all:PySem.W.codeIn K cd__law_all "_law_all"=true)
  (k__law_all:PySem.W.keepIn K (.ref f__law_all)=true)
  (a_law:PySem.W.nsIn K mainGlobals "law"=some (some (.ref f_law)))
  (l_law:K.lookup f_law=some ⟨oc_law,od_law,.func (PySem.W.fnOf "law" "law" (defArgs s_law) (defBody s_law) (defScope s_law) .none kV_law dc_law pm_law an_law cd_law ct_law),sl_law⟩)
  (c_law:PySem.W.codeIn K cd_law "law"=true)
  (k_law:PySem.W.keepIn K (.ref f_law)=true)
  (z_ValueError:PySem.W.nsIn K mainGlobals "ValueError"=some none)
  (z_all:PySem.W.nsIn K mainGlobals "all"=some none)
  (z_enumerate:PySem.W.nsIn K mainGlobals "enumerate"=some none)
  (z_int:PySem.W.nsIn K mainGlobals "int"=some none)
  (z_isinstance:PySem.W.nsIn K mainGlobals "isinstance"=some none)
  (z_len:PySem.W.nsIn K mainGlobals "len"=some none)
  (z_list:PySem.W.nsIn K mainGlobals "list"=some none)
  (z_range:PySem.W.nsIn K mainGlobals "range"=some none)
  (z_sum:PySem.W.nsIn K mainGlobals "sum"=some none)
  (z_tuple:PySem.W.nsIn K mainGlobals "tuple"=some none)
  (m_AskError:PySem.W.nsIn K mainGlobals "AskError"=some (some (.ref C_AskError)))
  (m_BadWord:PySem.W.nsIn K mainGlobals "BadWord"=some (some (.ref C_BadWord)))
  (m_BadMark:PySem.W.nsIn K mainGlobals "BadMark"=some (some (.ref C_BadMark)))
  (m_OutOfTurn:PySem.W.nsIn K mainGlobals "OutOfTurn"=some (some (.ref C_OutOfTurn)))
  (m_NoDifference:PySem.W.nsIn K mainGlobals "NoDifference"=some (some (.ref C_NoDifference)))
  (m_Contradiction:PySem.W.nsIn K mainGlobals "Contradiction"=some (some (.ref C_Contradiction)))
  (x_BadWord:PySem.W.excIn K C_BadWord bmV "ValueError.__new__"=true)
  (ga_BadWord:PySem.W.findIn K (.ref C_BadWord) "__getattribute__"=some (some (.builtin "BaseException.__getattribute__")))
  (hk_BadWord:PySem.W.findIn K (.ref C_BadWord) "__getattr__"=some none)
  {cd_BadWord:ClassData}
  (cl_BadWord:PySem.W.clsIn K C_BadWord=some cd_BadWord)
  (ca_BadWord:PySem.W.findIn K (.ref C_BadWord) "__class__"=some (some (.builtin "object.__class__")))
  (mo_BadWord:PySem.W.mroIn K C_BadWord (.type "object")=some true)
  (mb_BadWord:PySem.W.mroIn K C_BadWord (.type "BaseException")=some true)
  (e_BadWord:PySem.W.exmOne K (.ref C_BadWord) (.ref C_AskError)=some true)
  (v_BadWord:PySem.W.kitOne K (.ref C_BadWord) (.type "ValueError")=some true)
  (ee_BadWord:PySem.W.exmOne K (.ref C_BadWord) (.ref C_BadWord)=some true)
  (k_BadWord_AskError:PySem.W.kitOne K (.ref C_BadWord) (.ref C_AskError)=some true)
  (k_BadWord_BadWord:PySem.W.kitOne K (.ref C_BadWord) (.ref C_BadWord)=some true)
  (k_BadWord_BadMark:PySem.W.kitOne K (.ref C_BadWord) (.ref C_BadMark)=some false)
  (k_BadWord_OutOfTurn:PySem.W.kitOne K (.ref C_BadWord) (.ref C_OutOfTurn)=some false)
  (k_BadWord_NoDifference:PySem.W.kitOne K (.ref C_BadWord) (.ref C_NoDifference)=some false)
  (k_BadWord_Contradiction:PySem.W.kitOne K (.ref C_BadWord) (.ref C_Contradiction)=some false)
  (x_BadMark:PySem.W.excIn K C_BadMark bmV "ValueError.__new__"=true)
  (ga_BadMark:PySem.W.findIn K (.ref C_BadMark) "__getattribute__"=some (some (.builtin "BaseException.__getattribute__")))
  (hk_BadMark:PySem.W.findIn K (.ref C_BadMark) "__getattr__"=some none)
  {cd_BadMark:ClassData}
  (cl_BadMark:PySem.W.clsIn K C_BadMark=some cd_BadMark)
  (ca_BadMark:PySem.W.findIn K (.ref C_BadMark) "__class__"=some (some (.builtin "object.__class__")))
  (mo_BadMark:PySem.W.mroIn K C_BadMark (.type "object")=some true)
  (mb_BadMark:PySem.W.mroIn K C_BadMark (.type "BaseException")=some true)
  (e_BadMark:PySem.W.exmOne K (.ref C_BadMark) (.ref C_AskError)=some true)
  (v_BadMark:PySem.W.kitOne K (.ref C_BadMark) (.type "ValueError")=some true)
  (ee_BadMark:PySem.W.exmOne K (.ref C_BadMark) (.ref C_BadMark)=some true)
  (k_BadMark_AskError:PySem.W.kitOne K (.ref C_BadMark) (.ref C_AskError)=some true)
  (k_BadMark_BadWord:PySem.W.kitOne K (.ref C_BadMark) (.ref C_BadWord)=some false)
  (k_BadMark_BadMark:PySem.W.kitOne K (.ref C_BadMark) (.ref C_BadMark)=some true)
  (k_BadMark_OutOfTurn:PySem.W.kitOne K (.ref C_BadMark) (.ref C_OutOfTurn)=some false)
  (k_BadMark_NoDifference:PySem.W.kitOne K (.ref C_BadMark) (.ref C_NoDifference)=some false)
  (k_BadMark_Contradiction:PySem.W.kitOne K (.ref C_BadMark) (.ref C_Contradiction)=some false)
  (x_OutOfTurn:PySem.W.excIn K C_OutOfTurn bmV "ValueError.__new__"=true)
  (ga_OutOfTurn:PySem.W.findIn K (.ref C_OutOfTurn) "__getattribute__"=some (some (.builtin "BaseException.__getattribute__")))
  (hk_OutOfTurn:PySem.W.findIn K (.ref C_OutOfTurn) "__getattr__"=some none)
  {cd_OutOfTurn:ClassData}
  (cl_OutOfTurn:PySem.W.clsIn K C_OutOfTurn=some cd_OutOfTurn)
  (ca_OutOfTurn:PySem.W.findIn K (.ref C_OutOfTurn) "__class__"=some (some (.builtin "object.__class__")))
  (mo_OutOfTurn:PySem.W.mroIn K C_OutOfTurn (.type "object")=some true)
  (mb_OutOfTurn:PySem.W.mroIn K C_OutOfTurn (.type "BaseException")=some true)
  (e_OutOfTurn:PySem.W.exmOne K (.ref C_OutOfTurn) (.ref C_AskError)=some true)
  (v_OutOfTurn:PySem.W.kitOne K (.ref C_OutOfTurn) (.type "ValueError")=some true)
  (ee_OutOfTurn:PySem.W.exmOne K (.ref C_OutOfTurn) (.ref C_OutOfTurn)=some true)
  (k_OutOfTurn_AskError:PySem.W.kitOne K (.ref C_OutOfTurn) (.ref C_AskError)=some true)
  (k_OutOfTurn_BadWord:PySem.W.kitOne K (.ref C_OutOfTurn) (.ref C_BadWord)=some false)
  (k_OutOfTurn_BadMark:PySem.W.kitOne K (.ref C_OutOfTurn) (.ref C_BadMark)=some false)
  (k_OutOfTurn_OutOfTurn:PySem.W.kitOne K (.ref C_OutOfTurn) (.ref C_OutOfTurn)=some true)
  (k_OutOfTurn_NoDifference:PySem.W.kitOne K (.ref C_OutOfTurn) (.ref C_NoDifference)=some false)
  (k_OutOfTurn_Contradiction:PySem.W.kitOne K (.ref C_OutOfTurn) (.ref C_Contradiction)=some false)
  (x_NoDifference:PySem.W.excIn K C_NoDifference bmV "ValueError.__new__"=true)
  (ga_NoDifference:PySem.W.findIn K (.ref C_NoDifference) "__getattribute__"=some (some (.builtin "BaseException.__getattribute__")))
  (hk_NoDifference:PySem.W.findIn K (.ref C_NoDifference) "__getattr__"=some none)
  {cd_NoDifference:ClassData}
  (cl_NoDifference:PySem.W.clsIn K C_NoDifference=some cd_NoDifference)
  (ca_NoDifference:PySem.W.findIn K (.ref C_NoDifference) "__class__"=some (some (.builtin "object.__class__")))
  (mo_NoDifference:PySem.W.mroIn K C_NoDifference (.type "object")=some true)
  (mb_NoDifference:PySem.W.mroIn K C_NoDifference (.type "BaseException")=some true)
  (e_NoDifference:PySem.W.exmOne K (.ref C_NoDifference) (.ref C_AskError)=some true)
  (v_NoDifference:PySem.W.kitOne K (.ref C_NoDifference) (.type "ValueError")=some true)
  (ee_NoDifference:PySem.W.exmOne K (.ref C_NoDifference) (.ref C_NoDifference)=some true)
  (k_NoDifference_AskError:PySem.W.kitOne K (.ref C_NoDifference) (.ref C_AskError)=some true)
  (k_NoDifference_BadWord:PySem.W.kitOne K (.ref C_NoDifference) (.ref C_BadWord)=some false)
  (k_NoDifference_BadMark:PySem.W.kitOne K (.ref C_NoDifference) (.ref C_BadMark)=some false)
  (k_NoDifference_OutOfTurn:PySem.W.kitOne K (.ref C_NoDifference) (.ref C_OutOfTurn)=some false)
  (k_NoDifference_NoDifference:PySem.W.kitOne K (.ref C_NoDifference) (.ref C_NoDifference)=some true)
  (k_NoDifference_Contradiction:PySem.W.kitOne K (.ref C_NoDifference) (.ref C_Contradiction)=some false)
  (x_Contradiction:PySem.W.excIn K C_Contradiction bmV "ValueError.__new__"=true)
  (ga_Contradiction:PySem.W.findIn K (.ref C_Contradiction) "__getattribute__"=some (some (.builtin "BaseException.__getattribute__")))
  (hk_Contradiction:PySem.W.findIn K (.ref C_Contradiction) "__getattr__"=some none)
  {cd_Contradiction:ClassData}
  (cl_Contradiction:PySem.W.clsIn K C_Contradiction=some cd_Contradiction)
  (ca_Contradiction:PySem.W.findIn K (.ref C_Contradiction) "__class__"=some (some (.builtin "object.__class__")))
  (mo_Contradiction:PySem.W.mroIn K C_Contradiction (.type "object")=some true)
  (mb_Contradiction:PySem.W.mroIn K C_Contradiction (.type "BaseException")=some true)
  (e_Contradiction:PySem.W.exmOne K (.ref C_Contradiction) (.ref C_AskError)=some true)
  (v_Contradiction:PySem.W.kitOne K (.ref C_Contradiction) (.type "ValueError")=some true)
  (ee_Contradiction:PySem.W.exmOne K (.ref C_Contradiction) (.ref C_Contradiction)=some true)
  (k_Contradiction_AskError:PySem.W.kitOne K (.ref C_Contradiction) (.ref C_AskError)=some true)
  (k_Contradiction_BadWord:PySem.W.kitOne K (.ref C_Contradiction) (.ref C_BadWord)=some false)
  (k_Contradiction_BadMark:PySem.W.kitOne K (.ref C_Contradiction) (.ref C_BadMark)=some false)
  (k_Contradiction_OutOfTurn:PySem.W.kitOne K (.ref C_Contradiction) (.ref C_OutOfTurn)=some false)
  (k_Contradiction_NoDifference:PySem.W.kitOne K (.ref C_Contradiction) (.ref C_NoDifference)=some false)
  (k_Contradiction_Contradiction:PySem.W.kitOne K (.ref C_Contradiction) (.ref C_Contradiction)=some true)
  (gs:PySem.W.specialIn K (.builtin "object.__class__") "__get__"=some (some (.builtin "getset_descriptor.__get__")))
  (tk:PySem.W.takesIn K (.builtin "object.__class__")=some true)
  : ∃fd:FuncData,(∀(s:Shared) (v:Value),BindsTo s fd ⟨[v],[]⟩ [("script",v)])/\∀base:Heap,K.In base->base.Ns mainGlobals mg->FnOk l.prog w K mg base CX0 16 fa fd ["script"] (spLaw K):=by
 have e:=hfa.symm.trans (PySem.W.mg_of X G a_law)
 cases e
 have T:Txt mg:=⟨PySem.W.mg_none_of X G z_ValueError,PySem.W.mg_none_of X G z_all,PySem.W.mg_none_of X G z_enumerate,PySem.W.mg_none_of X G z_int,PySem.W.mg_none_of X G z_isinstance,PySem.W.mg_none_of X G z_len,PySem.W.mg_none_of X G z_list,PySem.W.mg_none_of X G z_range,PySem.W.mg_none_of X G z_sum,PySem.W.mg_none_of X G z_tuple⟩
 have Z:Exs K mg C_AskError C_BadWord C_BadMark C_OutOfTurn C_NoDifference C_Contradiction:=⟨PySem.W.mg_of X G m_AskError,PySem.W.mg_of X G m_BadWord,PySem.W.mg_of X G m_BadMark,PySem.W.mg_of X G m_OutOfTurn,PySem.W.mg_of X G m_NoDifference,PySem.W.mg_of X G m_Contradiction,x_BadWord,⟨ga_BadWord,hk_BadWord,by rw[cl_BadWord];rfl,ca_BadWord,gs,tk,mo_BadWord,mb_BadWord⟩,e_BadWord,v_BadWord,ee_BadWord,k_BadWord_AskError,k_BadWord_BadWord,k_BadWord_BadMark,k_BadWord_OutOfTurn,k_BadWord_NoDifference,k_BadWord_Contradiction,x_BadMark,⟨ga_BadMark,hk_BadMark,by rw[cl_BadMark];rfl,ca_BadMark,gs,tk,mo_BadMark,mb_BadMark⟩,e_BadMark,v_BadMark,ee_BadMark,k_BadMark_AskError,k_BadMark_BadWord,k_BadMark_BadMark,k_BadMark_OutOfTurn,k_BadMark_NoDifference,k_BadMark_Contradiction,x_OutOfTurn,⟨ga_OutOfTurn,hk_OutOfTurn,by rw[cl_OutOfTurn];rfl,ca_OutOfTurn,gs,tk,mo_OutOfTurn,mb_OutOfTurn⟩,e_OutOfTurn,v_OutOfTurn,ee_OutOfTurn,k_OutOfTurn_AskError,k_OutOfTurn_BadWord,k_OutOfTurn_BadMark,k_OutOfTurn_OutOfTurn,k_OutOfTurn_NoDifference,k_OutOfTurn_Contradiction,x_NoDifference,⟨ga_NoDifference,hk_NoDifference,by rw[cl_NoDifference];rfl,ca_NoDifference,gs,tk,mo_NoDifference,mb_NoDifference⟩,e_NoDifference,v_NoDifference,ee_NoDifference,k_NoDifference_AskError,k_NoDifference_BadWord,k_NoDifference_BadMark,k_NoDifference_OutOfTurn,k_NoDifference_NoDifference,k_NoDifference_Contradiction,x_Contradiction,⟨ga_Contradiction,hk_Contradiction,by rw[cl_Contradiction];rfl,ca_Contradiction,gs,tk,mo_Contradiction,mb_Contradiction⟩,e_Contradiction,v_Contradiction,ee_Contradiction,k_Contradiction_AskError,k_Contradiction_BadWord,k_Contradiction_BadMark,k_Contradiction_OutOfTurn,k_Contradiction_NoDifference,k_Contradiction_Contradiction⟩
 have W:Own K mg C_Book C_Turns C_Hunt C_Asker:=⟨PySem.W.mg_of X G aC_Book,⟨pg_Book,hd_Book,po_Book,sa_Book⟩,n_letters_Book,n_marks_Book,PySem.W.mg_of X G aC_Turns,PySem.W.mg_of X G aC_Hunt,PySem.W.mg_of X G aC_Asker,⟨pg_Asker,hd_Asker,po_Asker,sa_Asker⟩,n_wish_Asker,n_letters_Asker,n_most_Asker,n_book_Asker,n_ways_Asker,n_ends_Asker,n_gaps_Asker,n_guess_Asker,n_wrong_Asker,⟨_,PySem.W.mg_of X G q_MOST_MARK⟩⟩
 have F_Turns_wants:=fun_mk (st:=s_Turns_wants) l_Turns_wants c_Turns_wants k_Turns_wants
 have b_Turns_wants:=F_Turns_wants.binds (ps:=["self"]) fun _ _ _ _ _ _ us hl=>match us,hl with|[_],_=>rfl
 have m_Turns_wants:Meth K C_Asker "wants" f_Turns_wants:=⟨a_Turns_wants,i_Turns_wants,k_Turns_wants⟩
 have F_Book_heard:=fun_mk (st:=s_Book_heard) l_Book_heard c_Book_heard k_Book_heard
 have b_Book_heard:=F_Book_heard.binds (ps:=["self"]) fun _ _ _ _ _ _ us hl=>match us,hl with|[_],_=>rfl
 have m_Book_heard:Meth K C_Book "heard" f_Book_heard:=⟨a_Book_heard,i_Book_heard,k_Book_heard⟩
 have F_Hunt_heard:=fun_mk (st:=s_Hunt_heard) l_Hunt_heard c_Hunt_heard k_Hunt_heard
 have b_Hunt_heard:=F_Hunt_heard.binds (ps:=["self"]) fun _ _ _ _ _ _ us hl=>match us,hl with|[_],_=>rfl
 have m_Hunt_heard:Meth K C_Asker "heard" f_Hunt_heard:=⟨a_Hunt_heard,i_Hunt_heard,k_Hunt_heard⟩
 have F_Book_init:=fun_mk (st:=s_Book_init) l_Book_init c_Book_init k_Book_init
 have b_Book_init:=F_Book_init.binds (ps:=["self","letters"]) fun _ _ _ _ _ _ us hl=>match us,hl with|[_,_],_=>rfl
 have m_Book_init:Mk K C_Book f_Book_init:=⟨mk_Book,a_Book_init,i_Book_init,kc_Book⟩
 have F_is_word:=fun_mk (st:=s_is_word) l_is_word c_is_word k_is_word
 have b_is_word:=F_is_word.binds (ps:=["letters","word"]) fun _ _ _ _ _ _ us hl=>match us,hl with|[_,_],_=>rfl
 have m_is_word:=PySem.W.mg_of X G a_is_word
 have F_check_word:=fun_mk (st:=s_check_word) l_check_word c_check_word k_check_word
 have b_check_word:=F_check_word.binds (ps:=["letters","word"]) fun _ _ _ _ _ _ us hl=>match us,hl with|[_,_],_=>rfl
 have m_check_word:=PySem.W.mg_of X G a_check_word
 have F_trail:=fun_mk (st:=s_trail) l_trail c_trail k_trail
 have b_trail:=F_trail.binds (ps:=["house","word"]) fun _ _ _ _ _ _ us hl=>match us,hl with|[_,_],_=>rfl
 have m_trail:=PySem.W.mg_of X G a_trail
 have F_Book_told:=fun_mk (st:=s_Book_told) l_Book_told c_Book_told k_Book_told
 have b_Book_told:=F_Book_told.binds (ps:=["self","word"]) fun _ _ _ _ _ _ us hl=>match us,hl with|[_,_],_=>rfl
 have m_Book_told:Meth K C_Book "told" f_Book_told:=⟨a_Book_told,i_Book_told,k_Book_told⟩
 have F_halved:=fun_mk (st:=s_halved) l_halved c_halved k_halved
 have b_halved:=F_halved.binds (ps:=["book","access","guess","word","mark","last"]) fun _ _ _ _ _ _ us hl=>match us,hl with|[_,_,_,_,_,_],_=>rfl
 have m_halved:=PySem.W.mg_of X G a_halved
 have F_Hunt_ask_for:=fun_mk (st:=s_Hunt_ask_for) l_Hunt_ask_for c_Hunt_ask_for k_Hunt_ask_for
 have b_Hunt_ask_for:=F_Hunt_ask_for.binds (ps:=["self","words"]) fun _ _ _ _ _ _ us hl=>match us,hl with|[_,_],_=>rfl
 have m_Hunt_ask_for:Meth K C_Asker "ask_for" f_Hunt_ask_for:=⟨a_Hunt_ask_for,i_Hunt_ask_for,k_Hunt_ask_for⟩
 have F_rows_of:=fun_mk (st:=s_rows_of) l_rows_of c_rows_of k_rows_of
 have b_rows_of:=F_rows_of.binds (ps:=["letters","access"]) fun _ _ _ _ _ _ us hl=>match us,hl with|[_,_],_=>rfl
 have m_rows_of:=PySem.W.mg_of X G a_rows_of
 have F_cells:=fun_mk (st:=s_cells) l_cells c_cells k_cells
 have b_cells:=F_cells.binds (ps:=["letters","access","ends"]) fun _ _ _ _ _ _ us hl=>match us,hl with|[_,_,_],_=>rfl
 have m_cells:=PySem.W.mg_of X G a_cells
 have F_Asker_look_for_gaps:=fun_mk (st:=s_Asker_look_for_gaps) l_Asker_look_for_gaps c_Asker_look_for_gaps k_Asker_look_for_gaps
 have b_Asker_look_for_gaps:=F_Asker_look_for_gaps.binds (ps:=["self"]) fun _ _ _ _ _ _ us hl=>match us,hl with|[_],_=>rfl
 have m_Asker_look_for_gaps:Meth K C_Asker "look_for_gaps" f_Asker_look_for_gaps:=⟨a_Asker_look_for_gaps,i_Asker_look_for_gaps,k_Asker_look_for_gaps⟩
 have F_room_behind:=fun_mk (st:=s_room_behind) l_room_behind c_room_behind k_room_behind
 have b_room_behind:=F_room_behind.binds (ps:=["house","word"]) fun _ _ _ _ _ _ us hl=>match us,hl with|[_,_],_=>rfl
 have m_room_behind:=PySem.W.mg_of X G a_room_behind
 have F_mark_behind:=fun_mk (st:=s_mark_behind) l_mark_behind c_mark_behind k_mark_behind
 have b_mark_behind:=F_mark_behind.binds (ps:=["house","word"]) fun _ _ _ _ _ _ us hl=>match us,hl with|[_,_],_=>rfl
 have m_mark_behind:=PySem.W.mg_of X G a_mark_behind
 have F_Asker_answer:=fun_mk (st:=s_Asker_answer) l_Asker_answer c_Asker_answer k_Asker_answer
 have b_Asker_answer:=F_Asker_answer.binds (ps:=["self","house","word"]) fun _ _ _ _ _ _ us hl=>match us,hl with|[_,_,_],_=>rfl
 have m_Asker_answer:Meth K C_Asker "answer" f_Asker_answer:=⟨a_Asker_answer,i_Asker_answer,k_Asker_answer⟩
 have F_Asker_halve:=fun_mk (st:=s_Asker_halve) l_Asker_halve c_Asker_halve k_Asker_halve
 have b_Asker_halve:=F_Asker_halve.binds (ps:=["self"]) fun _ _ _ _ _ _ us hl=>match us,hl with|[_],_=>rfl
 have m_Asker_halve:Meth K C_Asker "halve" f_Asker_halve:=⟨a_Asker_halve,i_Asker_halve,k_Asker_halve⟩
 have F_marks_of:=fun_mk (st:=s_marks_of) l_marks_of c_marks_of k_marks_of
 have b_marks_of:=F_marks_of.binds (ps:=["book","word","ends"]) fun _ _ _ _ _ _ us hl=>match us,hl with|[_,_,_],_=>rfl
 have m_marks_of:=PySem.W.mg_of X G a_marks_of
 have F_marks_by_row:=fun_mk (st:=s_marks_by_row) l_marks_by_row c_marks_by_row k_marks_by_row
 have b_marks_by_row:=F_marks_by_row.binds (ps:=["book","letters","access","ends"]) fun _ _ _ _ _ _ us hl=>match us,hl with|[_,_,_,_],_=>rfl
 have m_marks_by_row:=PySem.W.mg_of X G a_marks_by_row
 have F_ways_by_marks:=fun_mk (st:=s_ways_by_marks) l_ways_by_marks c_ways_by_marks k_ways_by_marks
 have b_ways_by_marks:=F_ways_by_marks.binds (ps:=["letters","access","marks"]) fun _ _ _ _ _ _ us hl=>match us,hl with|[_,_,_],_=>rfl
 have m_ways_by_marks:=PySem.W.mg_of X G a_ways_by_marks
 have F_guess_of:=fun_mk (st:=s_guess_of) l_guess_of c_guess_of k_guess_of
 have b_guess_of:=F_guess_of.binds (ps:=["book","letters","access","ends"]) fun _ _ _ _ _ _ us hl=>match us,hl with|[_,_,_,_],_=>rfl
 have m_guess_of:=PySem.W.mg_of X G a_guess_of
 have F_Asker_make_guess:=fun_mk (st:=s_Asker_make_guess) l_Asker_make_guess c_Asker_make_guess k_Asker_make_guess
 have b_Asker_make_guess:=F_Asker_make_guess.binds (ps:=["self"]) fun _ _ _ _ _ _ us hl=>match us,hl with|[_],_=>rfl
 have m_Asker_make_guess:Meth K C_Asker "make_guess" f_Asker_make_guess:=⟨a_Asker_make_guess,i_Asker_make_guess,k_Asker_make_guess⟩
 have F_first_unlike:=fun_mk (st:=s_first_unlike) l_first_unlike c_first_unlike k_first_unlike
 have b_first_unlike:=F_first_unlike.binds (ps:=["heard","answer","house"]) fun _ _ _ _ _ _ us hl=>match us,hl with|[_,_,_],_=>rfl
 have m_first_unlike:=PySem.W.mg_of X G a_first_unlike
 have F_first_wrong:=fun_mk (st:=s_first_wrong) l_first_wrong c_first_wrong k_first_wrong
 have b_first_wrong:=F_first_wrong.binds (ps:=["book","house"]) fun _ _ _ _ _ _ us hl=>match us,hl with|[_,_],_=>rfl
 have m_first_wrong:=PySem.W.mg_of X G a_first_wrong
 have F_Asker_wrong_word:=fun_mk (st:=s_Asker_wrong_word) l_Asker_wrong_word c_Asker_wrong_word k_Asker_wrong_word
 have b_Asker_wrong_word:=F_Asker_wrong_word.binds (ps:=["self"]) fun _ _ _ _ _ _ us hl=>match us,hl with|[_],_=>rfl
 have m_Asker_wrong_word:Meth K C_Asker "wrong_word" f_Asker_wrong_word:=⟨a_Asker_wrong_word,i_Asker_wrong_word,k_Asker_wrong_word⟩
 have F_Hunt_look_at_guess:=fun_mk (st:=s_Hunt_look_at_guess) l_Hunt_look_at_guess c_Hunt_look_at_guess k_Hunt_look_at_guess
 have b_Hunt_look_at_guess:=F_Hunt_look_at_guess.binds (ps:=["self"]) fun _ _ _ _ _ _ us hl=>match us,hl with|[_],_=>rfl
 have m_Hunt_look_at_guess:Meth K C_Asker "look_at_guess" f_Hunt_look_at_guess:=⟨a_Hunt_look_at_guess,i_Hunt_look_at_guess,k_Hunt_look_at_guess⟩
 have F_stranger:=fun_mk (st:=s_stranger) l_stranger c_stranger k_stranger
 have b_stranger:=F_stranger.binds (ps:=["book","letters","access","ends"]) fun _ _ _ _ _ _ us hl=>match us,hl with|[_,_,_,_],_=>rfl
 have m_stranger:=PySem.W.mg_of X G a_stranger
 have F_Asker_look_at_words:=fun_mk (st:=s_Asker_look_at_words) l_Asker_look_at_words c_Asker_look_at_words k_Asker_look_at_words
 have b_Asker_look_at_words:=F_Asker_look_at_words.binds (ps:=["self"]) fun _ _ _ _ _ _ us hl=>match us,hl with|[_],_=>rfl
 have m_Asker_look_at_words:Meth K C_Asker "look_at_words" f_Asker_look_at_words:=⟨a_Asker_look_at_words,i_Asker_look_at_words,k_Asker_look_at_words⟩
 have F_Hunt_next_wish:=fun_mk (st:=s_Hunt_next_wish) l_Hunt_next_wish c_Hunt_next_wish k_Hunt_next_wish
 have b_Hunt_next_wish:=F_Hunt_next_wish.binds (ps:=["self"]) fun _ _ _ _ _ _ us hl=>match us,hl with|[_],_=>rfl
 have m_Hunt_next_wish:Meth K C_Asker "next_wish" f_Hunt_next_wish:=⟨a_Hunt_next_wish,i_Hunt_next_wish,k_Hunt_next_wish⟩
 have F_Turns_go_on:=fun_mk (st:=s_Turns_go_on) l_Turns_go_on c_Turns_go_on k_Turns_go_on
 have b_Turns_go_on:=F_Turns_go_on.binds (ps:=["self"]) fun _ _ _ _ _ _ us hl=>match us,hl with|[_],_=>rfl
 have m_Turns_go_on:Meth K C_Asker "go_on" f_Turns_go_on:=⟨a_Turns_go_on,i_Turns_go_on,k_Turns_go_on⟩
 have F_Turns_init:=fun_mk (st:=s_Turns_init) l_Turns_init c_Turns_init k_Turns_init
 have b_Turns_init:=F_Turns_init.binds (ps:=["self"]) fun _ _ _ _ _ _ us hl=>match us,hl with|[_],_=>rfl
 have m_Turns_init:CMeth K C_Turns "__init__" f_Turns_init:=⟨sg_Turns_init,rd_Turns_init,a_Turns_init,k_Turns_init⟩
 have F_Hunt_init:=fun_mk (st:=s_Hunt_init) l_Hunt_init c_Hunt_init k_Hunt_init
 have b_Hunt_init:=F_Hunt_init.binds (ps:=["self","letters","most","book","ways","ends"]) fun _ _ _ _ _ _ us hl=>match us,hl with|[_,_,_,_,_,_],_=>rfl
 have m_Hunt_init:CMeth K C_Hunt "__init__" f_Hunt_init:=⟨sg_Hunt_init,rd_Hunt_init,a_Hunt_init,k_Hunt_init⟩
 have F_Asker_first_ends:=fun_mk (st:=s_Asker_first_ends) l_Asker_first_ends c_Asker_first_ends k_Asker_first_ends
 have b_Asker_first_ends:=F_Asker_first_ends.binds (ps:=["self","letters"]) fun _ _ _ _ _ _ us hl=>match us,hl with|[_,_],_=>rfl
 have m_Asker_first_ends:Meth K C_Asker "first_ends" f_Asker_first_ends:=⟨a_Asker_first_ends,i_Asker_first_ends,k_Asker_first_ends⟩
 have F_Asker_init:=fun_mk (st:=s_Asker_init) l_Asker_init c_Asker_init k_Asker_init
 have b_Asker_init:=F_Asker_init.binds (ps:=["self","letters","most"]) fun _ _ _ _ _ _ us hl=>match us,hl with|[_,_,_],_=>rfl
 have m_Asker_init:Mk K C_Asker f_Asker_init:=⟨mk_Asker,a_Asker_init,i_Asker_init,kc_Asker⟩
 have F__law_cell_at:=fun_mk (st:=s__law_cell_at) l__law_cell_at c__law_cell_at k__law_cell_at
 have b__law_cell_at:=F__law_cell_at.binds (ps:=["script","k"]) fun _ _ _ _ _ _ us hl=>match us,hl with|[_,_],_=>rfl
 have m__law_cell_at:=PySem.W.mg_of X G a__law_cell_at
 have F_Turns_check_wants:=fun_mk (st:=s_Turns_check_wants) l_Turns_check_wants c_Turns_check_wants k_Turns_check_wants
 have b_Turns_check_wants:=F_Turns_check_wants.binds (ps:=["self","deed"]) fun _ _ _ _ _ _ us hl=>match us,hl with|[_,_],_=>rfl
 have m_Turns_check_wants:Meth K C_Asker "check_wants" f_Turns_check_wants:=⟨a_Turns_check_wants,i_Turns_check_wants,k_Turns_check_wants⟩
 have F_Hunt_agree:=fun_mk (st:=s_Hunt_agree) l_Hunt_agree c_Hunt_agree k_Hunt_agree
 have b_Hunt_agree:=F_Hunt_agree.binds (ps:=["self"]) fun _ _ _ _ _ _ us hl=>match us,hl with|[_],_=>rfl
 have m_Hunt_agree:Meth K C_Asker "agree" f_Hunt_agree:=⟨a_Hunt_agree,i_Hunt_agree,k_Hunt_agree⟩
 have F_is_mark:=fun_mk (st:=s_is_mark) l_is_mark c_is_mark k_is_mark
 have b_is_mark:=F_is_mark.binds (ps:=["number"]) fun _ _ _ _ _ _ us hl=>match us,hl with|[_],_=>rfl
 have m_is_mark:=PySem.W.mg_of X G a_is_mark
 have F_check_mark:=fun_mk (st:=s_check_mark) l_check_mark c_check_mark k_check_mark
 have b_check_mark:=F_check_mark.binds (ps:=["mark"]) fun _ _ _ _ _ _ us hl=>match us,hl with|[_],_=>rfl
 have m_check_mark:=PySem.W.mg_of X G a_check_mark
 have F_Book_check:=fun_mk (st:=s_Book_check) l_Book_check c_Book_check k_Book_check
 have b_Book_check:=F_Book_check.binds (ps:=["self","word","mark"]) fun _ _ _ _ _ _ us hl=>match us,hl with|[_,_,_],_=>rfl
 have m_Book_check:Meth K C_Book "check" f_Book_check:=⟨a_Book_check,i_Book_check,k_Book_check⟩
 have F_Book_put:=fun_mk (st:=s_Book_put) l_Book_put c_Book_put k_Book_put
 have b_Book_put:=F_Book_put.binds (ps:=["self","word","mark"]) fun _ _ _ _ _ _ us hl=>match us,hl with|[_,_,_],_=>rfl
 have m_Book_put:Meth K C_Book "put" f_Book_put:=⟨a_Book_put,i_Book_put,k_Book_put⟩
 have F_Hunt_keep_answer:=fun_mk (st:=s_Hunt_keep_answer) l_Hunt_keep_answer c_Hunt_keep_answer k_Hunt_keep_answer
 have b_Hunt_keep_answer:=F_Hunt_keep_answer.binds (ps:=["self","number"]) fun _ _ _ _ _ _ us hl=>match us,hl with|[_,_],_=>rfl
 have m_Hunt_keep_answer:Meth K C_Asker "keep_answer" f_Hunt_keep_answer:=⟨a_Hunt_keep_answer,i_Hunt_keep_answer,k_Hunt_keep_answer⟩
 have F_Asker_hear:=fun_mk (st:=s_Asker_hear) l_Asker_hear c_Asker_hear k_Asker_hear
 have b_Asker_hear:=F_Asker_hear.binds (ps:=["self","mark"]) fun _ _ _ _ _ _ us hl=>match us,hl with|[_,_],_=>rfl
 have m_Asker_hear:Meth K C_Asker "hear" f_Asker_hear:=⟨a_Asker_hear,i_Asker_hear,k_Asker_hear⟩
 have F_Hunt_keep_objection:=fun_mk (st:=s_Hunt_keep_objection) l_Hunt_keep_objection c_Hunt_keep_objection k_Hunt_keep_objection
 have b_Hunt_keep_objection:=F_Hunt_keep_objection.binds (ps:=["self","word","number"]) fun _ _ _ _ _ _ us hl=>match us,hl with|[_,_,_],_=>rfl
 have m_Hunt_keep_objection:Meth K C_Asker "keep_objection" f_Hunt_keep_objection:=⟨a_Hunt_keep_objection,i_Hunt_keep_objection,k_Hunt_keep_objection⟩
 have F_Asker_differ:=fun_mk (st:=s_Asker_differ) l_Asker_differ c_Asker_differ k_Asker_differ
 have b_Asker_differ:=F_Asker_differ.binds (ps:=["self","word","mark"]) fun _ _ _ _ _ _ us hl=>match us,hl with|[_,_,_],_=>rfl
 have m_Asker_differ:Meth K C_Asker "differ" f_Asker_differ:=⟨a_Asker_differ,i_Asker_differ,k_Asker_differ⟩
 have F__law_done:=fun_mk (st:=s__law_done) l__law_done c__law_done k__law_done
 have b__law_done:=F__law_done.binds (ps:=["asker","deed"]) fun _ _ _ _ _ _ us hl=>match us,hl with|[_,_],_=>rfl
 have m__law_done:=PySem.W.mg_of X G a__law_done
 have F__law_mark_by:=fun_mk (st:=s__law_mark_by) l__law_mark_by c__law_mark_by k__law_mark_by
 have b__law_mark_by:=F__law_mark_by.binds (ps:=["cell","head"]) fun _ _ _ _ _ _ us hl=>match us,hl with|[_,_],_=>rfl
 have m__law_mark_by:=PySem.W.mg_of X G a__law_mark_by
 have F__law_word_by:=fun_mk (st:=s__law_word_by) l__law_word_by c__law_word_by k__law_word_by
 have b__law_word_by:=F__law_word_by.binds (ps:=["cell","letters","told"]) fun _ _ _ _ _ _ us hl=>match us,hl with|[_,_,_],_=>rfl
 have m__law_word_by:=PySem.W.mg_of X G a__law_word_by
 have F__law_deed_by:=fun_mk (st:=s__law_deed_by) l__law_deed_by c__law_deed_by k__law_deed_by
 have b__law_deed_by:=F__law_deed_by.binds (ps:=["want","cell","head","letters","told"]) fun _ _ _ _ _ _ us hl=>match us,hl with|[_,_,_,_,_],_=>rfl
 have m__law_deed_by:=PySem.W.mg_of X G a__law_deed_by
 have F__law_answer:=fun_mk (st:=s__law_answer) l__law_answer c__law_answer k__law_answer
 have b__law_answer:=F__law_answer.binds (ps:=["house","word"]) fun _ _ _ _ _ _ us hl=>match us,hl with|[_,_],_=>rfl
 have m__law_answer:=PySem.W.mg_of X G a__law_answer
 have F__law_due:=fun_mk (st:=s__law_due) l__law_due c__law_due k__law_due
 have b__law_due:=F__law_due.binds (ps:=["want","deed","letters","told"]) fun _ _ _ _ _ _ us hl=>match us,hl with|[_,_,_,_],_=>rfl
 have m__law_due:=PySem.W.mg_of X G a__law_due
 have F_Hunt_access:=fun_mk (st:=s_Hunt_access) l_Hunt_access c_Hunt_access k_Hunt_access
 have b_Hunt_access:=F_Hunt_access.binds (ps:=["self"]) fun _ _ _ _ _ _ us hl=>match us,hl with|[_],_=>rfl
 have m_Hunt_access:Meth K C_Asker "access" f_Hunt_access:=⟨a_Hunt_access,i_Hunt_access,k_Hunt_access⟩
 have F_Hunt_tellers:=fun_mk (st:=s_Hunt_tellers) l_Hunt_tellers c_Hunt_tellers k_Hunt_tellers
 have b_Hunt_tellers:=F_Hunt_tellers.binds (ps:=["self"]) fun _ _ _ _ _ _ us hl=>match us,hl with|[_],_=>rfl
 have m_Hunt_tellers:Meth K C_Asker "tellers" f_Hunt_tellers:=⟨a_Hunt_tellers,i_Hunt_tellers,k_Hunt_tellers⟩
 have F__law_all:=fun_mk (st:=s__law_all) l__law_all c__law_all k__law_all
 have b__law_all:=F__law_all.binds (ps:=["asker"]) fun _ _ _ _ _ _ us hl=>match us,hl with|[_],_=>rfl
 have m__law_all:=PySem.W.mg_of X G a__law_all
 have F_law:=fun_mk (st:=s_law) l_law c_law k_law
 have b_law:=F_law.binds (ps:=["script"]) fun _ _ _ _ _ _ us hl=>match us,hl with|[_],_=>rfl
 have m_law:=PySem.W.mg_of X G a_law
 refine⟨PySem.W.fnOf "law" "law" (defArgs s_law) (defBody s_law) (defScope s_law) .none kV_law dc_law pm_law an_law cd_law ct_law,fun s v=>.of_eq rfl,fun base _ _=>?_⟩
 have g_Turns_wants:=ok_Turns_wants (P:=l.prog) (w:=w) (base:=base) F_Turns_wants T W Z
 have g_Book_heard:=ok_Book_heard (P:=l.prog) (w:=w) (base:=base) F_Book_heard T W Z
 have g_Hunt_heard:=ok_Hunt_heard (P:=l.prog) (w:=w) (base:=base) F_Hunt_heard T W Z g_Book_heard F_Book_heard b_Book_heard m_Book_heard
 have g_Book_init:=ok_Book_init (P:=l.prog) (w:=w) (base:=base) F_Book_init T W Z
 have g_is_word:=ok_is_word (P:=l.prog) (w:=w) (base:=base) F_is_word T W Z
 have g_check_word:=ok_check_word (P:=l.prog) (w:=w) (base:=base) F_check_word T W Z g_is_word F_is_word b_is_word m_is_word
 have g_trail:=ok_trail (P:=l.prog) (w:=w) (base:=base) F_trail T W Z g_check_word F_check_word b_check_word m_check_word
 have g_Book_told:=ok_Book_told (P:=l.prog) (w:=w) (base:=base) F_Book_told T W Z
 have g_halved:=ok_halved (P:=l.prog) (w:=w) (base:=base) F_halved T W Z g_trail F_trail b_trail m_trail g_Book_told F_Book_told b_Book_told m_Book_told
 have g_Hunt_ask_for:=ok_Hunt_ask_for (P:=l.prog) (w:=w) (base:=base) F_Hunt_ask_for T W Z g_Book_told F_Book_told b_Book_told m_Book_told
 have g_rows_of:=ok_rows_of (P:=l.prog) (w:=w) (base:=base) F_rows_of T W Z
 have g_cells:=ok_cells (P:=l.prog) (w:=w) (base:=base) F_cells T W Z g_rows_of F_rows_of b_rows_of m_rows_of
 have g_Asker_look_for_gaps:=ok_Asker_look_for_gaps (P:=l.prog) (w:=w) (base:=base) F_Asker_look_for_gaps T W Z g_Hunt_ask_for F_Hunt_ask_for b_Hunt_ask_for m_Hunt_ask_for g_cells F_cells b_cells m_cells
 have g_room_behind:=ok_room_behind (P:=l.prog) (w:=w) (base:=base) F_room_behind T W Z g_trail F_trail b_trail m_trail
 have g_mark_behind:=ok_mark_behind (P:=l.prog) (w:=w) (base:=base) F_mark_behind T W Z g_room_behind F_room_behind b_room_behind m_room_behind
 have g_Asker_answer:=ok_Asker_answer (P:=l.prog) (w:=w) (base:=base) F_Asker_answer T W Z g_mark_behind F_mark_behind b_mark_behind m_mark_behind
 have g_Asker_halve:=ok_Asker_halve (P:=l.prog) (w:=w) (base:=base) F_Asker_halve T W Z g_halved F_halved b_halved m_halved g_Asker_look_for_gaps F_Asker_look_for_gaps b_Asker_look_for_gaps m_Asker_look_for_gaps g_Asker_answer F_Asker_answer b_Asker_answer m_Asker_answer
 have g_marks_of:=ok_marks_of (P:=l.prog) (w:=w) (base:=base) F_marks_of T W Z g_Book_told F_Book_told b_Book_told m_Book_told
 have g_marks_by_row:=ok_marks_by_row (P:=l.prog) (w:=w) (base:=base) F_marks_by_row T W Z g_rows_of F_rows_of b_rows_of m_rows_of g_marks_of F_marks_of b_marks_of m_marks_of
 have g_ways_by_marks:=ok_ways_by_marks (P:=l.prog) (w:=w) (base:=base) F_ways_by_marks T W Z
 have g_guess_of:=ok_guess_of (P:=l.prog) (w:=w) (base:=base) F_guess_of T W Z g_Book_told F_Book_told b_Book_told m_Book_told g_marks_by_row F_marks_by_row b_marks_by_row m_marks_by_row g_ways_by_marks F_ways_by_marks b_ways_by_marks m_ways_by_marks
 have g_Asker_make_guess:=ok_Asker_make_guess (P:=l.prog) (w:=w) (base:=base) F_Asker_make_guess T W Z g_guess_of F_guess_of b_guess_of m_guess_of
 have g_first_unlike:=ok_first_unlike (P:=l.prog) (w:=w) (base:=base) F_first_unlike T W Z g_mark_behind F_mark_behind b_mark_behind m_mark_behind
 have g_first_wrong:=ok_first_wrong (P:=l.prog) (w:=w) (base:=base) F_first_wrong T W Z g_Book_heard F_Book_heard b_Book_heard m_Book_heard g_mark_behind F_mark_behind b_mark_behind m_mark_behind g_first_unlike F_first_unlike b_first_unlike m_first_unlike
 have g_Asker_wrong_word:=ok_Asker_wrong_word (P:=l.prog) (w:=w) (base:=base) F_Asker_wrong_word T W Z g_first_wrong F_first_wrong b_first_wrong m_first_wrong
 have g_Hunt_look_at_guess:=ok_Hunt_look_at_guess (P:=l.prog) (w:=w) (base:=base) F_Hunt_look_at_guess T W Z g_Asker_make_guess F_Asker_make_guess b_Asker_make_guess m_Asker_make_guess g_Asker_wrong_word F_Asker_wrong_word b_Asker_wrong_word m_Asker_wrong_word
 have g_stranger:=ok_stranger (P:=l.prog) (w:=w) (base:=base) F_stranger T W Z g_marks_by_row F_marks_by_row b_marks_by_row m_marks_by_row
 have g_Asker_look_at_words:=ok_Asker_look_at_words (P:=l.prog) (w:=w) (base:=base) F_Asker_look_at_words T W Z g_Asker_look_for_gaps F_Asker_look_for_gaps b_Asker_look_for_gaps m_Asker_look_for_gaps g_Hunt_look_at_guess F_Hunt_look_at_guess b_Hunt_look_at_guess m_Hunt_look_at_guess g_stranger F_stranger b_stranger m_stranger
 have g_Hunt_next_wish:=ok_Hunt_next_wish (P:=l.prog) (w:=w) (base:=base) F_Hunt_next_wish T W Z g_Asker_halve F_Asker_halve b_Asker_halve m_Asker_halve g_Asker_look_at_words F_Asker_look_at_words b_Asker_look_at_words m_Asker_look_at_words
 have g_Turns_go_on:=ok_Turns_go_on (P:=l.prog) (w:=w) (base:=base) F_Turns_go_on T W Z g_Hunt_next_wish F_Hunt_next_wish b_Hunt_next_wish m_Hunt_next_wish
 have g_Turns_init:=ok_Turns_init (P:=l.prog) (w:=w) (base:=base) F_Turns_init T W Z
 have g_Hunt_init:=ok_Hunt_init (P:=l.prog) (w:=w) (base:=base) F_Hunt_init T W Z g_Turns_init F_Turns_init b_Turns_init m_Turns_init
 have g_Asker_first_ends:=ok_Asker_first_ends (P:=l.prog) (w:=w) (base:=base) F_Asker_first_ends T W Z
 have g_Asker_init:=ok_Asker_init (P:=l.prog) (w:=w) (base:=base) F_Asker_init T W Z g_Book_init F_Book_init b_Book_init m_Book_init g_Asker_look_for_gaps F_Asker_look_for_gaps b_Asker_look_for_gaps m_Asker_look_for_gaps g_Turns_go_on F_Turns_go_on b_Turns_go_on m_Turns_go_on g_Hunt_init F_Hunt_init b_Hunt_init m_Hunt_init g_Asker_first_ends F_Asker_first_ends b_Asker_first_ends m_Asker_first_ends
 have g__law_cell_at:=ok__law_cell_at (P:=l.prog) (w:=w) (base:=base) F__law_cell_at T W Z
 have g_Turns_check_wants:=ok_Turns_check_wants (P:=l.prog) (w:=w) (base:=base) F_Turns_check_wants T W Z
 have g_Hunt_agree:=ok_Hunt_agree (P:=l.prog) (w:=w) (base:=base) F_Hunt_agree T W Z g_Turns_check_wants F_Turns_check_wants b_Turns_check_wants m_Turns_check_wants
 have g_is_mark:=ok_is_mark (P:=l.prog) (w:=w) (base:=base) F_is_mark T W Z
 have g_check_mark:=ok_check_mark (P:=l.prog) (w:=w) (base:=base) F_check_mark T W Z g_is_mark F_is_mark b_is_mark m_is_mark
 have g_Book_check:=ok_Book_check (P:=l.prog) (w:=w) (base:=base) F_Book_check T W Z g_check_word F_check_word b_check_word m_check_word g_check_mark F_check_mark b_check_mark m_check_mark
 have g_Book_put:=ok_Book_put (P:=l.prog) (w:=w) (base:=base) F_Book_put T W Z g_Book_check F_Book_check b_Book_check m_Book_check
 have g_Hunt_keep_answer:=ok_Hunt_keep_answer (P:=l.prog) (w:=w) (base:=base) F_Hunt_keep_answer T W Z g_Turns_go_on F_Turns_go_on b_Turns_go_on m_Turns_go_on g_Turns_check_wants F_Turns_check_wants b_Turns_check_wants m_Turns_check_wants g_Book_put F_Book_put b_Book_put m_Book_put
 have g_Asker_hear:=ok_Asker_hear (P:=l.prog) (w:=w) (base:=base) F_Asker_hear T W Z g_Hunt_keep_answer F_Hunt_keep_answer b_Hunt_keep_answer m_Hunt_keep_answer
 have g_Hunt_keep_objection:=ok_Hunt_keep_objection (P:=l.prog) (w:=w) (base:=base) F_Hunt_keep_objection T W Z g_Asker_answer F_Asker_answer b_Asker_answer m_Asker_answer g_Turns_go_on F_Turns_go_on b_Turns_go_on m_Turns_go_on g_Turns_check_wants F_Turns_check_wants b_Turns_check_wants m_Turns_check_wants g_Book_check F_Book_check b_Book_check m_Book_check g_Book_put F_Book_put b_Book_put m_Book_put
 have g_Asker_differ:=ok_Asker_differ (P:=l.prog) (w:=w) (base:=base) F_Asker_differ T W Z g_Hunt_keep_objection F_Hunt_keep_objection b_Hunt_keep_objection m_Hunt_keep_objection
 have g__law_done:=ok__law_done (P:=l.prog) (w:=w) (base:=base) F__law_done T W Z g_Hunt_agree F_Hunt_agree b_Hunt_agree m_Hunt_agree g_Asker_hear F_Asker_hear b_Asker_hear m_Asker_hear g_Asker_differ F_Asker_differ b_Asker_differ m_Asker_differ
 have g__law_mark_by:=ok__law_mark_by (P:=l.prog) (w:=w) (base:=base) F__law_mark_by T W Z
 have g__law_word_by:=ok__law_word_by (P:=l.prog) (w:=w) (base:=base) F__law_word_by T W Z
 have g__law_deed_by:=ok__law_deed_by (P:=l.prog) (w:=w) (base:=base) F__law_deed_by T W Z g__law_mark_by F__law_mark_by b__law_mark_by m__law_mark_by g__law_word_by F__law_word_by b__law_word_by m__law_word_by
 have g__law_answer:=ok__law_answer (P:=l.prog) (w:=w) (base:=base) F__law_answer T W Z
 have g__law_due:=ok__law_due (P:=l.prog) (w:=w) (base:=base) F__law_due T W Z g__law_answer F__law_answer b__law_answer m__law_answer
 have g_Hunt_access:=ok_Hunt_access (P:=l.prog) (w:=w) (base:=base) F_Hunt_access T W Z
 have g_Hunt_tellers:=ok_Hunt_tellers (P:=l.prog) (w:=w) (base:=base) F_Hunt_tellers T W Z
 have g__law_all:=ok__law_all (P:=l.prog) (w:=w) (base:=base) F__law_all T W Z g_Turns_wants F_Turns_wants b_Turns_wants m_Turns_wants g_Hunt_heard F_Hunt_heard b_Hunt_heard m_Hunt_heard g_Hunt_access F_Hunt_access b_Hunt_access m_Hunt_access g_Hunt_tellers F_Hunt_tellers b_Hunt_tellers m_Hunt_tellers
 have g_law:=ok_law (P:=l.prog) (w:=w) (base:=base) F_law T W Z g_Turns_wants F_Turns_wants b_Turns_wants m_Turns_wants g_Hunt_heard F_Hunt_heard b_Hunt_heard m_Hunt_heard g_Asker_init F_Asker_init b_Asker_init m_Asker_init g__law_cell_at F__law_cell_at b__law_cell_at m__law_cell_at g__law_done F__law_done b__law_done m__law_done g__law_deed_by F__law_deed_by b__law_deed_by m__law_deed_by g__law_due F__law_due b__law_due m__law_due g__law_all F__law_all b__law_all m__law_all
 exact g_law
theorem walk {l:PySem.W.OpenLaw}{q:Program}{loose:List Str}{XP:(Str->Option Value)->Heap->Prop}{YP:World->Heap->Prop}{d:DefRec}{K:Params->PySem.W.Frag}(hn:l.most=some 63)(hdf:d.params.defaults=[])
  (hY:∀(w:World) (h:Heap),YP w h->(K w.params).In h)
  (F:∀(w:World) (mg:Str->Option Value) (fa:Addr) (h:Heap),(K w.params).In h->h.Ns mainGlobals mg->mg d.name=some (.ref fa) ->
   ∃fd:FuncData,(∀(s:Shared) (u:Value),BindsTo s fd ⟨[u],[]⟩ [("script",u)])/\∀base:Heap,(K w.params).In base->base.Ns mainGlobals mg->FnOk l.prog w (K w.params) mg base CX0 16 fa fd ["script"] (spLaw (K w.params))):
  PySem.W.WalkO q loose XP YP l.row.toRowW d [] (fun f vs=>PySem.call f vs):=
 L2.walk_of (n:=63) (k:=16) (x := "script") (CX:=fun _=>CX0) (sp:=fun w=>spLaw (K w.params)) hn (by decide) hdf ⟨rfl,by decide,by decide⟩ hY F (fun _ _ a ns hl _ hS=>⟨a,ns,rfl,hS,hl,fun _=>rfl⟩) fun _ _ _ _ _ z=>z
end Mine
structure PySem.W.Fast:Prop where (tw14160904061312972360 tw6366907883003046376 tw12781535427061467601 tw684162054645169846 tw9129685427509606529 tw4259880510883302913 tw1476681874167898484 tw2717896356890009025 tw16552415351157364741 tw11381392818767766767 tw12223459929957710530 tw4869886465456539296 tw7994515474181620314 tw7754719604371008286 tw16288232229651475923 tw1059616406915967042 tw3262694643906299182 tw13988887322318704026 tw8413043737632260100 tw9524382974544915121 tw10959117072591714425 tw14418762805840250804 tw12323505659525937300 tw11535843616072259499 tw7123808755823516771 tw13166038685073423130 tw6711442624711061020 tw7752656535085206343 tw6110995938398151595 tw6558347773921389057 tw16269810497552613825 tw17340312907988252593 tw15016744406807993383 tw9334020288981455278 tw6530646399361249236 tw8876195946581506201 tw13367600618779371140 tw933082224906251876 tw9399665560988748334 tw5261284930977406140 tw10640699849011913938 tw10264626757578810784 tw12754254259379075062 tw9564184569319160418 tw14438160322153934829 tw16102747947805473575 tw15397679257394789694 tw1272519564792694941 tw8313389943721644021 tw15892693131777016297 tw17125597773568905844 tw18356362067310862693 tw15779568424750789058 tw2267396991708972129 tw2027639126922712562 tw11601495317394464982 tw5741669839219673577 tw8771783735165009611 tw11856705618398843489 tw9481459278299471752 tw8056888406042268215 tw9822012768039897370 tw13253252224199587506 tw7756437609945972045 tw17245261346955778976 tw15424267393361637034 tw3489114604371889187 tw14013756056861841629 tw11839568584584601815 tw16414639656653732620 tw15164276202142462064 tw16912766484388126195 tw5482769577354271724 tw13125324582359595209 tw8676889911494677586 tw6615785649509421169 tw3864755684522426760 tw6986672585661785829 tw2590727764890568856 tw14504911646713139292 tw14503605284938482569 tw5604587076699160428 tw14380662444430001501 tw9577151629178760732 tw4166323052234068887 tw3795315484704535902 tw6409026761687952996 tw494108859278428774 tw10246323208963488754 tw13345007069528929726 tw8653867998502848395 tw11876477920050250117 tw7414601584145604907 tw6462370882684219777 tw18203878204272566757 tw10904296955635994201 tw14576770550102577280 tw16982423516514634997 tw12589748915142328819 tw16365901197934161873 tw15168293766543160528 tw14345094906280129934 tw3952982008024112879 tw12697142348305873875 tw7708634094182362581 tw14561266105957504965 tw16225624063197908067 tw5765500513520695160 tw15417182512312023322 tw360722962577186349 tw4420144387825221254 tw12721655105991285987 tw9670359741741985535 tw505534235254329291 tw7333795594395803321 tw14170324119576456990 tw6704209690597290038 tw9405243288242706972 tw9543905832523544661 tw13529125153675917256 tw14622474702748838349 tw11770529921259262301 tw3171011292398487944 tw13366667833384093169 tw13906815407331996256 tw288070484398478575 tw53853388075691646 tw12260885682980215719 tw1298777356268878730 tw15217395142881038475 tw13931708144950104829 tw7140167017972619109 tw18123659969215657803 tw10973777633947687138 tw5183750763417504636 tw12855914342678338799 tw6562059835136128412 tw720049961393339784 tw3641263250773774013 tw4608670478760970450 tw8256196874749861196 tw18191222623499238364 tw5673910974644616386 tw14599518447612340950 tw14467693819284634067 tw4444629994736745469 tw16901398957079702486 tw15378366427728169493 tw3171377780404222920 tw13161054220507732837 tw12126297482381643409 tw15617717043254416301 tw4478176123459794479 tw1485284941802618164 tw8665731829976363091 tw10727284450772999451 tw10912752021539926444 tw8795540037386384806 tw2838313724492428368 tw6992144368340354669 tw7991869163583150850 tw7602626000814614501 tw12429687006939909032 tw17650537256839639265 tw17981442491068691464 tw5403800569431590452 tw16713434907861911439 tw18142792156752635451 tw17172913759167304189 tw16508837528816369185 tw15203638749457657829 tw5815853990193205566 tw6470136241204463598 tw5373589258032643591 tw10649971393984627035 tw6396627039454435290 tw8919529303330838752 tw4661601725051297935 tw5091858312065279281 tw4165897499747335586 tw11356758903891319651 tw4642728730858731770 tw6298887230102397636 tw17952671587828260435 tw8533036728855818319 tw11473969523842069777 tw11078355140103000631 tw16908254268338701716 tw10056287104104497658 tw9004895378237057840 tw14654446076017948402 tw9756969106843061657 tw486184122810116077 tw3485747937615377191 tw14117769103449687176 tw13921485946090629475 tw10563618644127690836 tw16432044316058290631 tw5643040530750454558 tw15572704262868488304 tw16600673454121376276 tw6337302915126635952 tw15577432076796542856 tw12486432537729635347 tw16734753062059914950 tw134661212845863216 tw5807672463226095088 tw2923555014143964321 tw9486084603016894314 tw783042958586021626 tw8876236655314246653 tw4330069035695337343 tw10133565367188314869 tw14402959986837357395 tw2019015328099246788 tw6353191128027030370 tw13343018011909614547 tw6955804561989998929 tw9369323078158564444 tw2504069747550540855 tw5918303399020969833 tw2402500299136310582 tw594871571714009932 tw11962339209848931607 tw15974185312624655556 tw1667645642787408064 tw7396676745217165775 tw5706722570072861572 tw10345157146022934000 tw393211667633140429 tw14742088751982116059 tw10485244209375418231 tw3225348618237942461 tw2050689031989894065 tw8393390592859291825 tw7461758693233952404 tw9926840308247500416 tw824138637374410846 tw14335786092976647235 tw413112263246303485 tw17305800282150930366 tw11146382546842375750 tw1638511015697954225 tw15446633248109769521 tw3972858300594650246 tw11463829024936253190 tw17940366293874603491 tw16066649957312817419 tw5675789687677316110 tw7062715338875135165 tw15568045273400375072 tw1578916834038563807 tw2068843403694328413 tw1423167359134952534 tw14794564771440058458 tw6863090741870267672 tw14398117644693735554 tw7122586905896707176 tw14870061814110339085 tw17728026996583262150 tw1323240557181202491 tw10742571883826557905 tw8979892586766599282 tw18204213110862645156 tw5853795877525523876 tw4898999219828694709 tw14846287970104783290 tw1797641040566780056 tw16576022707223301116 tw3412693810449980863 tw10003603605759624580 tw13401259471552987663 tw16851595463637451556 tw12721431435222833792 tw1260693703487860296 tw14713444955047391075 tw5939006132475396941 tw16742233724816544366 tw12138399800420553985 tw3310887645327967661 tw18030523896674525962 tw11805495065186687591 tw8877644168728528559 tw6055781422864752509 tw7961418685851750018 tw17051566464856810081 tw14429364421150774663 tw15949756493763886536 tw13845096755223298282 tw4548626903415015566 tw15855740542567988114 tw3656416354532812441 tw11790060236787130318 tw5535902608469560594 tw499022965773076013 tw8464193994503051817 tw18008292827234624670 tw17374061196476342637 tw12862007832186052397 tw7932386553731891208 tw16965195839143296585 tw15182521630144395794 tw17906090027432396146 tw15850372122556243761 tw13417822661164389948 tw3295773883261919485 tw16245411287484709287 tw7545579331144331824 tw10259805328139650803 tw4227945604973895191 tw16511041820303884405 tw5333456104162411825 tw15233957152277171143 tw13213553512098493685 tw5449642822389978698 tw1990548361770899129 tw13541978613981371452 tw10632247530723305447 tw12732111890623699409 tw17910342567065414687 tw8441919406954922665 tw3364477984513678668 tw17172503004957841172 tw3226825227312670893 tw13450697559218089666 tw10447948204288750765 tw1571028231003291010 tw17964706148359150231 tw15913107414814984965 tw672809914686647946 tw17718525700135349225 tw16764167883051841016 tw8806602684782446615 tw9226137701006910057 tw13216526168857364383 tw15574931780549181579 tw17998139159606892100 tw6448175726081162676 tw3434374813724069550 tw10270875061916478517 tw15370898819243865334 tw14237036389334499754 tw13724694319988372331 tw13488675337269706613 tw2906374701802085158 tw11562761558961342436 tw9798552956665941653 tw17084454034752678430 tw14662146231987583381 tw8218873066154144993 tw8927633782617625219 tw17572191641105050638 tw16890781510485643161 tw86146130252488007 tw15446239641603713353 tw12491515161439929207 tw12971145338511280812 tw10712877108856246383 tw2810221979460055048 tw8635166509493121578 tw9334797721809416077 tw15147234920393657033 tw3134054934602594034 tw13580260253093599630 tw4436854048729383513 tw12266273275890234190 tw16946631931595051877 tw10521355063271969126 tw2778452708322098501 tw16852954087666943403 tw9473625739659758758 tw16048375693038606845 tw4291775655993749070 tw694691717913369309 tw14282153051217796691 tw8514069780638551485 tw9306926904408265954 tw10578345177076924955 tw5216162389664692046 tw9733941898908455580 tw12646131383106221784 tw11422317037890665879 tw5631899814255414330 tw13091215335950599144 tw3448677778142829317 tw17651944218469127093 tw3746230148896122766 tw16047048165660114332 tw13791635244602912739 tw7805149867538908762 tw4532742219257721211 tw12985956078245999147 tw8253499712062287801 tw14006773348263933706 tw8013712993539758082 tw436820713751101870 tw7325037216862078826 tw1508639420036284994 tw9788293316486644561 tw10798617654113136465 tw9146471732890101936 tw13706874046242645517 tw11943151449409846740 tw14676220415600466568 tw17426874741993353388 tw3010636804097581372 tw10529326525113967074 tw3549464826452192692 tw8125011364977799832 tw7576008737757245047 tw7849897261007683631 tw15458229835404346820 tw7145086003934291428 tw9102601223891862764 tw9926558989026809722 tw18033755980630263083 tw15651284517210498868 tw8715531164765520434 tw14710988276556713337 tw5458105534600495249 tw17478578306902568097 tw10424172641697422835 tw6137346563065349098 tw4359775251087205317 tw1683411269295968371 tw5003814175853614673 tw4644959931332522431 tw1750559214527578725 tw18317948257046500760 tw6787428987289856928 tw455452993685035559 tw15720795342701201783 tw16740591893471562573 tw746837224451552869 tw10616048527813066887 tw15211335714642841498 tw2432054665088515387 tw17916910617205794319 tw10508284104230317557 tw1928596634317646181 tw13238189484176680114 tw15401007598268817219 tw6823221700141811120 tw12951427557063805021 tw7575322892643368092 tw2219928235191640409 tw16771160215127606167 tw1216233296068973442 tw18180524913219539911 tw13461779420122582956 tw2352747202568745119 tw11986543715669022955 tw1226442695666014401 tw4027417831956474645 tw4325401527768289109 tw16377973591452617065 tw7560080746418029712 tw16172032611274247257 tw6003343612932896755 tw8148963701399328356 tw23055892943155414 tw6216515662802984914 tw4523040730396851964 tw7799638194816579604 tw7218019229044835324 tw8749628051395611004 tw10972925086405844999 tw13484608018277665259 tw5896046183026816953 tw3998796918072277652 tw1408045070889743761 tw12905781584695534620 tw15093446713342066292 tw5814180474508759109 tw8474633723205008372 tw10829249252310733395 tw12815874504227230978 tw9704253453431736248 tw9526422797632848296 tw5045693135343360667 tw3823716788690285430 tw7200703762434411970 tw17023869000753711651 tw15123023679778923479 tw3067447090011228059 tw7470578712655893745 tw1229451226640419562 tw10454722669532937493 tw6197854568483292515 tw19391316423469468 tw8551359683583175490 tw14640416789915287966 tw17034342167918158943 tw6597378193688120396 tw6976059496726828747 tw4055060599960902145 tw11357367163191222848 tw13568914432635574442 tw16943988854388365215 tw1844899213614841038 tw17178067620138942047 tw15068125051491968100 tw8031019144650611020 tw1672504724495301941 tw5924497499911908263 tw10078583028243585384 tw663924469769768656 tw1321869426172845859 tw1411102927935371389 tw18295847355904506956 tw14614606289917069372 tw8221945902842564643 tw14999846916708687943 tw15532022450844999320 tw2549131507980030852 tw828819828534988648 tw15482772849089018380 tw10023995416906461903 tw10258598074438613962 tw8457980108809345077 tw2317199670524516810 tw3993882865373658721 tw16881451391473806862 tw10507289205323068756 tw9488565542143321924 tw47936980223882854 tw3573681418913865468 tw15295572580092748956 tw13686208172089453025 tw16479150617925955865 tw10703310189919928492 tw3856648274201493564 tw4317824535270038952 tw5335671489557531967 tw6865110708837311746 tw3217736069877413464 tw10476575766066545899 tw14220084106009438659 tw10932338672094236488 tw8119298054569524967 tw1852105443206066268 tw10655250723900806473 tw1454310244835906619 tw6115667376909582163 tw7711852649644649482 tw15195614230976678953 tw14441380511509794161 tw11323817548927559737 tw18439706721856906081 tw5274480753568186687 tw4930206985963796486 tw775535600119377686 tw14421209884069883716 tw11118161036947629207 tw1180601279211543932 tw2700869004705724687 tw14351805316584248723 tw3624597820741324178 tw6467270125585533615 tw17201012880927729454 tw15144160149221837801 tw16971835039084669212 tw3343140596811454855 tw12947321836643654565 tw5366717132679262706 tw9875434901122816081 tw6462668497863156529 tw12632930968171641924:True)
open PySem PySem.W PyProof.Rows
set_option maxRecDepth 100000 in
set_option maxHeartbeats 0 in
theorem PySem.Challenge.cw_guessroom_k39_asker_refuses_holds : PySem.Challenge.rw_guessroom_k39_asker_refuses.Holds := by
  w_on; o_law; k_head; (case hw => w_witness2)
  k_fill
  refine Mine.walk (l := PySem.Challenge.rw_guessroom_k39_asker_refuses) rfl rfl (fun w h Y => PySem.W.kIn_of Y) ?F
  case F =>
    intro w mg fa h KX G hmg
    refine' Mine.all_mk KX G hmg ?aC_Book ?pg_Book ?hd_Book ?po_Book ?sa_Book ?mk_Book ?kc_Book ?n_letters_Book ?n_marks_Book ?aC_Turns ?aC_Hunt ?aC_Asker ?pg_Asker ?hd_Asker ?po_Asker ?sa_Asker ?mk_Asker ?kc_Asker ?n_wish_Asker ?n_letters_Asker ?n_most_Asker ?n_book_Asker ?n_ways_Asker ?n_ends_Asker ?n_gaps_Asker ?n_guess_Asker ?n_wrong_Asker ?q_MOST_MARK ?a_Turns_wants ?i_Turns_wants ?l_Turns_wants ?c_Turns_wants ?k_Turns_wants ?a_Book_heard ?i_Book_heard ?l_Book_heard ?c_Book_heard ?k_Book_heard ?a_Hunt_heard ?i_Hunt_heard ?l_Hunt_heard ?c_Hunt_heard ?k_Hunt_heard ?a_Book_init ?i_Book_init ?l_Book_init ?c_Book_init ?k_Book_init ?a_is_word ?l_is_word ?c_is_word ?k_is_word ?a_check_word ?l_check_word ?c_check_word ?k_check_word ?a_trail ?l_trail ?c_trail ?k_trail ?a_Book_told ?i_Book_told ?l_Book_told ?c_Book_told ?k_Book_told ?a_halved ?l_halved ?c_halved ?k_halved ?a_Hunt_ask_for ?i_Hunt_ask_for ?l_Hunt_ask_for ?c_Hunt_ask_for ?k_Hunt_ask_for ?a_rows_of ?l_rows_of ?c_rows_of ?k_rows_of ?a_cells ?l_cells ?c_cells ?k_cells ?a_Asker_look_for_gaps ?i_Asker_look_for_gaps ?l_Asker_look_for_gaps ?c_Asker_look_for_gaps ?k_Asker_look_for_gaps ?a_room_behind ?l_room_behind ?c_room_behind ?k_room_behind ?a_mark_behind ?l_mark_behind ?c_mark_behind ?k_mark_behind ?a_Asker_answer ?i_Asker_answer ?l_Asker_answer ?c_Asker_answer ?k_Asker_answer ?a_Asker_halve ?i_Asker_halve ?l_Asker_halve ?c_Asker_halve ?k_Asker_halve ?a_marks_of ?l_marks_of ?c_marks_of ?k_marks_of ?a_marks_by_row ?l_marks_by_row ?c_marks_by_row ?k_marks_by_row ?a_ways_by_marks ?l_ways_by_marks ?c_ways_by_marks ?k_ways_by_marks ?a_guess_of ?l_guess_of ?c_guess_of ?k_guess_of ?a_Asker_make_guess ?i_Asker_make_guess ?l_Asker_make_guess ?c_Asker_make_guess ?k_Asker_make_guess ?a_first_unlike ?l_first_unlike ?c_first_unlike ?k_first_unlike ?a_first_wrong ?l_first_wrong ?c_first_wrong ?k_first_wrong ?a_Asker_wrong_word ?i_Asker_wrong_word ?l_Asker_wrong_word ?c_Asker_wrong_word ?k_Asker_wrong_word ?a_Hunt_look_at_guess ?i_Hunt_look_at_guess ?l_Hunt_look_at_guess ?c_Hunt_look_at_guess ?k_Hunt_look_at_guess ?a_stranger ?l_stranger ?c_stranger ?k_stranger ?a_Asker_look_at_words ?i_Asker_look_at_words ?l_Asker_look_at_words ?c_Asker_look_at_words ?k_Asker_look_at_words ?a_Hunt_next_wish ?i_Hunt_next_wish ?l_Hunt_next_wish ?c_Hunt_next_wish ?k_Hunt_next_wish ?a_Turns_go_on ?i_Turns_go_on ?l_Turns_go_on ?c_Turns_go_on ?k_Turns_go_on ?sg_Turns_init ?rd_Turns_init ?a_Turns_init ?l_Turns_init ?c_Turns_init ?k_Turns_init ?sg_Hunt_init ?rd_Hunt_init ?a_Hunt_init ?l_Hunt_init ?c_Hunt_init ?k_Hunt_init ?a_Asker_first_ends ?i_Asker_first_ends ?l_Asker_first_ends ?c_Asker_first_ends ?k_Asker_first_ends ?a_Asker_init ?i_Asker_init ?l_Asker_init ?c_Asker_init ?k_Asker_init ?a__law_cell_at ?l__law_cell_at ?c__law_cell_at ?k__law_cell_at ?a_Turns_check_wants ?i_Turns_check_wants ?l_Turns_check_wants ?c_Turns_check_wants ?k_Turns_check_wants ?a_Hunt_agree ?i_Hunt_agree ?l_Hunt_agree ?c_Hunt_agree ?k_Hunt_agree ?a_is_mark ?l_is_mark ?c_is_mark ?k_is_mark ?a_check_mark ?l_check_mark ?c_check_mark ?k_check_mark ?a_Book_check ?i_Book_check ?l_Book_check ?c_Book_check ?k_Book_check ?a_Book_put ?i_Book_put ?l_Book_put ?c_Book_put ?k_Book_put ?a_Hunt_keep_answer ?i_Hunt_keep_answer ?l_Hunt_keep_answer ?c_Hunt_keep_answer ?k_Hunt_keep_answer ?a_Asker_hear ?i_Asker_hear ?l_Asker_hear ?c_Asker_hear ?k_Asker_hear ?a_Hunt_keep_objection ?i_Hunt_keep_objection ?l_Hunt_keep_objection ?c_Hunt_keep_objection ?k_Hunt_keep_objection ?a_Asker_differ ?i_Asker_differ ?l_Asker_differ ?c_Asker_differ ?k_Asker_differ ?a__law_done ?l__law_done ?c__law_done ?k__law_done ?a__law_mark_by ?l__law_mark_by ?c__law_mark_by ?k__law_mark_by ?a__law_word_by ?l__law_word_by ?c__law_word_by ?k__law_word_by ?a__law_deed_by ?l__law_deed_by ?c__law_deed_by ?k__law_deed_by ?a__law_answer ?l__law_answer ?c__law_answer ?k__law_answer ?a__law_due ?l__law_due ?c__law_due ?k__law_due ?a_Hunt_access ?i_Hunt_access ?l_Hunt_access ?c_Hunt_access ?k_Hunt_access ?a_Hunt_tellers ?i_Hunt_tellers ?l_Hunt_tellers ?c_Hunt_tellers ?k_Hunt_tellers ?a__law_all ?l__law_all ?c__law_all ?k__law_all ?a_law ?l_law ?c_law ?k_law ?z_ValueError ?z_all ?z_enumerate ?z_int ?z_isinstance ?z_len ?z_list ?z_range ?z_sum ?z_tuple ?m_AskError ?m_BadWord ?m_BadMark ?m_OutOfTurn ?m_NoDifference ?m_Contradiction ?x_BadWord ?ga_BadWord ?hk_BadWord ?cl_BadWord ?ca_BadWord ?mo_BadWord ?mb_BadWord ?e_BadWord ?v_BadWord ?ee_BadWord ?k_BadWord_AskError ?k_BadWord_BadWord ?k_BadWord_BadMark ?k_BadWord_OutOfTurn ?k_BadWord_NoDifference ?k_BadWord_Contradiction ?x_BadMark ?ga_BadMark ?hk_BadMark ?cl_BadMark ?ca_BadMark ?mo_BadMark ?mb_BadMark ?e_BadMark ?v_BadMark ?ee_BadMark ?k_BadMark_AskError ?k_BadMark_BadWord ?k_BadMark_BadMark ?k_BadMark_OutOfTurn ?k_BadMark_NoDifference ?k_BadMark_Contradiction ?x_OutOfTurn ?ga_OutOfTurn ?hk_OutOfTurn ?cl_OutOfTurn ?ca_OutOfTurn ?mo_OutOfTurn ?mb_OutOfTurn ?e_OutOfTurn ?v_OutOfTurn ?ee_OutOfTurn ?k_OutOfTurn_AskError ?k_OutOfTurn_BadWord ?k_OutOfTurn_BadMark ?k_OutOfTurn_OutOfTurn ?k_OutOfTurn_NoDifference ?k_OutOfTurn_Contradiction ?x_NoDifference ?ga_NoDifference ?hk_NoDifference ?cl_NoDifference ?ca_NoDifference ?mo_NoDifference ?mb_NoDifference ?e_NoDifference ?v_NoDifference ?ee_NoDifference ?k_NoDifference_AskError ?k_NoDifference_BadWord ?k_NoDifference_BadMark ?k_NoDifference_OutOfTurn ?k_NoDifference_NoDifference ?k_NoDifference_Contradiction ?x_Contradiction ?ga_Contradiction ?hk_Contradiction ?cl_Contradiction ?ca_Contradiction ?mo_Contradiction ?mb_Contradiction ?e_Contradiction ?v_Contradiction ?ee_Contradiction ?k_Contradiction_AskError ?k_Contradiction_BadWord ?k_Contradiction_BadMark ?k_Contradiction_OutOfTurn ?k_Contradiction_NoDifference ?k_Contradiction_Contradiction ?gs ?tk
    (case aC_Book => k_is)
    (case pg_Book => k_is)
    (case hd_Book => k_is)
    (case po_Book => k_is)
    (case sa_Book => k_is)
    (case mk_Book => k_is)
    (case kc_Book => k_is)
    (case n_letters_Book => k_is)
    (case n_marks_Book => k_is)
    (case aC_Turns => k_is)
    (case aC_Hunt => k_is)
    (case aC_Asker => k_is)
    (case pg_Asker => k_is)
    (case hd_Asker => k_is)
    (case po_Asker => k_is)
    (case sa_Asker => k_is)
    (case mk_Asker => k_is)
    (case kc_Asker => k_is)
    (case n_wish_Asker => k_is)
    (case n_letters_Asker => k_is)
    (case n_most_Asker => k_is)
    (case n_book_Asker => k_is)
    (case n_ways_Asker => k_is)
    (case n_ends_Asker => k_is)
    (case n_gaps_Asker => k_is)
    (case n_guess_Asker => k_is)
    (case n_wrong_Asker => k_is)
    (case q_MOST_MARK => k_is)
    (case a_Turns_wants => k_is)
    (case i_Turns_wants => k_is)
    (case l_Turns_wants => k_is)
    (case c_Turns_wants => k_is)
    (case k_Turns_wants => k_is)
    (case a_Book_heard => k_is)
    (case i_Book_heard => k_is)
    (case l_Book_heard => k_is)
    (case c_Book_heard => k_is)
    (case k_Book_heard => k_is)
    (case a_Hunt_heard => k_is)
    (case i_Hunt_heard => k_is)
    (case l_Hunt_heard => k_is)
    (case c_Hunt_heard => k_is)
    (case k_Hunt_heard => k_is)
    (case a_Book_init => k_is)
    (case i_Book_init => k_is)
    (case l_Book_init => k_is)
    (case c_Book_init => k_is)
    (case k_Book_init => k_is)
    (case a_is_word => k_is)
    (case l_is_word => k_is)
    (case c_is_word => k_is)
    (case k_is_word => k_is)
    (case a_check_word => k_is)
    (case l_check_word => k_is)
    (case c_check_word => k_is)
    (case k_check_word => k_is)
    (case a_trail => k_is)
    (case l_trail => k_is)
    (case c_trail => k_is)
    (case k_trail => k_is)
    (case a_Book_told => k_is)
    (case i_Book_told => k_is)
    (case l_Book_told => k_is)
    (case c_Book_told => k_is)
    (case k_Book_told => k_is)
    (case a_halved => k_is)
    (case l_halved => k_is)
    (case c_halved => k_is)
    (case k_halved => k_is)
    (case a_Hunt_ask_for => k_is)
    (case i_Hunt_ask_for => k_is)
    (case l_Hunt_ask_for => k_is)
    (case c_Hunt_ask_for => k_is)
    (case k_Hunt_ask_for => k_is)
    (case a_rows_of => k_is)
    (case l_rows_of => k_is)
    (case c_rows_of => k_is)
    (case k_rows_of => k_is)
    (case a_cells => k_is)
    (case l_cells => k_is)
    (case c_cells => k_is)
    (case k_cells => k_is)
    (case a_Asker_look_for_gaps => k_is)
    (case i_Asker_look_for_gaps => k_is)
    (case l_Asker_look_for_gaps => k_is)
    (case c_Asker_look_for_gaps => k_is)
    (case k_Asker_look_for_gaps => k_is)
    (case a_room_behind => k_is)
    (case l_room_behind => k_is)
    (case c_room_behind => k_is)
    (case k_room_behind => k_is)
    (case a_mark_behind => k_is)
    (case l_mark_behind => k_is)
    (case c_mark_behind => k_is)
    (case k_mark_behind => k_is)
    (case a_Asker_answer => k_is)
    (case i_Asker_answer => k_is)
    (case l_Asker_answer => k_is)
    (case c_Asker_answer => k_is)
    (case k_Asker_answer => k_is)
    (case a_Asker_halve => k_is)
    (case i_Asker_halve => k_is)
    (case l_Asker_halve => k_is)
    (case c_Asker_halve => k_is)
    (case k_Asker_halve => k_is)
    (case a_marks_of => k_is)
    (case l_marks_of => k_is)
    (case c_marks_of => k_is)
    (case k_marks_of => k_is)
    (case a_marks_by_row => k_is)
    (case l_marks_by_row => k_is)
    (case c_marks_by_row => k_is)
    (case k_marks_by_row => k_is)
    (case a_ways_by_marks => k_is)
    (case l_ways_by_marks => k_is)
    (case c_ways_by_marks => k_is)
    (case k_ways_by_marks => k_is)
    (case a_guess_of => k_is)
    (case l_guess_of => k_is)
    (case c_guess_of => k_is)
    (case k_guess_of => k_is)
    (case a_Asker_make_guess => k_is)
    (case i_Asker_make_guess => k_is)
    (case l_Asker_make_guess => k_is)
    (case c_Asker_make_guess => k_is)
    (case k_Asker_make_guess => k_is)
    (case a_first_unlike => k_is)
    (case l_first_unlike => k_is)
    (case c_first_unlike => k_is)
    (case k_first_unlike => k_is)
    (case a_first_wrong => k_is)
    (case l_first_wrong => k_is)
    (case c_first_wrong => k_is)
    (case k_first_wrong => k_is)
    (case a_Asker_wrong_word => k_is)
    (case i_Asker_wrong_word => k_is)
    (case l_Asker_wrong_word => k_is)
    (case c_Asker_wrong_word => k_is)
    (case k_Asker_wrong_word => k_is)
    (case a_Hunt_look_at_guess => k_is)
    (case i_Hunt_look_at_guess => k_is)
    (case l_Hunt_look_at_guess => k_is)
    (case c_Hunt_look_at_guess => k_is)
    (case k_Hunt_look_at_guess => k_is)
    (case a_stranger => k_is)
    (case l_stranger => k_is)
    (case c_stranger => k_is)
    (case k_stranger => k_is)
    (case a_Asker_look_at_words => k_is)
    (case i_Asker_look_at_words => k_is)
    (case l_Asker_look_at_words => k_is)
    (case c_Asker_look_at_words => k_is)
    (case k_Asker_look_at_words => k_is)
    (case a_Hunt_next_wish => k_is)
    (case i_Hunt_next_wish => k_is)
    (case l_Hunt_next_wish => k_is)
    (case c_Hunt_next_wish => k_is)
    (case k_Hunt_next_wish => k_is)
    (case a_Turns_go_on => k_is)
    (case i_Turns_go_on => k_is)
    (case l_Turns_go_on => k_is)
    (case c_Turns_go_on => k_is)
    (case k_Turns_go_on => k_is)
    (case sg_Turns_init => k_is)
    (case rd_Turns_init => k_is)
    (case a_Turns_init => k_is)
    (case l_Turns_init => k_is)
    (case c_Turns_init => k_is)
    (case k_Turns_init => k_is)
    (case sg_Hunt_init => k_is)
    (case rd_Hunt_init => k_is)
    (case a_Hunt_init => k_is)
    (case l_Hunt_init => k_is)
    (case c_Hunt_init => k_is)
    (case k_Hunt_init => k_is)
    (case a_Asker_first_ends => k_is)
    (case i_Asker_first_ends => k_is)
    (case l_Asker_first_ends => k_is)
    (case c_Asker_first_ends => k_is)
    (case k_Asker_first_ends => k_is)
    (case a_Asker_init => k_is)
    (case i_Asker_init => k_is)
    (case l_Asker_init => k_is)
    (case c_Asker_init => k_is)
    (case k_Asker_init => k_is)
    (case a__law_cell_at => k_is)
    (case l__law_cell_at => k_is)
    (case c__law_cell_at => k_is)
    (case k__law_cell_at => k_is)
    (case a_Turns_check_wants => k_is)
    (case i_Turns_check_wants => k_is)
    (case l_Turns_check_wants => k_is)
    (case c_Turns_check_wants => k_is)
    (case k_Turns_check_wants => k_is)
    (case a_Hunt_agree => k_is)
    (case i_Hunt_agree => k_is)
    (case l_Hunt_agree => k_is)
    (case c_Hunt_agree => k_is)
    (case k_Hunt_agree => k_is)
    (case a_is_mark => k_is)
    (case l_is_mark => k_is)
    (case c_is_mark => k_is)
    (case k_is_mark => k_is)
    (case a_check_mark => k_is)
    (case l_check_mark => k_is)
    (case c_check_mark => k_is)
    (case k_check_mark => k_is)
    (case a_Book_check => k_is)
    (case i_Book_check => k_is)
    (case l_Book_check => k_is)
    (case c_Book_check => k_is)
    (case k_Book_check => k_is)
    (case a_Book_put => k_is)
    (case i_Book_put => k_is)
    (case l_Book_put => k_is)
    (case c_Book_put => k_is)
    (case k_Book_put => k_is)
    (case a_Hunt_keep_answer => k_is)
    (case i_Hunt_keep_answer => k_is)
    (case l_Hunt_keep_answer => k_is)
    (case c_Hunt_keep_answer => k_is)
    (case k_Hunt_keep_answer => k_is)
    (case a_Asker_hear => k_is)
    (case i_Asker_hear => k_is)
    (case l_Asker_hear => k_is)
    (case c_Asker_hear => k_is)
    (case k_Asker_hear => k_is)
    (case a_Hunt_keep_objection => k_is)
    (case i_Hunt_keep_objection => k_is)
    (case l_Hunt_keep_objection => k_is)
    (case c_Hunt_keep_objection => k_is)
    (case k_Hunt_keep_objection => k_is)
    (case a_Asker_differ => k_is)
    (case i_Asker_differ => k_is)
    (case l_Asker_differ => k_is)
    (case c_Asker_differ => k_is)
    (case k_Asker_differ => k_is)
    (case a__law_done => k_is)
    (case l__law_done => k_is)
    (case c__law_done => k_is)
    (case k__law_done => k_is)
    (case a__law_mark_by => k_is)
    (case l__law_mark_by => k_is)
    (case c__law_mark_by => k_is)
    (case k__law_mark_by => k_is)
    (case a__law_word_by => k_is)
    (case l__law_word_by => k_is)
    (case c__law_word_by => k_is)
    (case k__law_word_by => k_is)
    (case a__law_deed_by => k_is)
    (case l__law_deed_by => k_is)
    (case c__law_deed_by => k_is)
    (case k__law_deed_by => k_is)
    (case a__law_answer => k_is)
    (case l__law_answer => k_is)
    (case c__law_answer => k_is)
    (case k__law_answer => k_is)
    (case a__law_due => k_is)
    (case l__law_due => k_is)
    (case c__law_due => k_is)
    (case k__law_due => k_is)
    (case a_Hunt_access => k_is)
    (case i_Hunt_access => k_is)
    (case l_Hunt_access => k_is)
    (case c_Hunt_access => k_is)
    (case k_Hunt_access => k_is)
    (case a_Hunt_tellers => k_is)
    (case i_Hunt_tellers => k_is)
    (case l_Hunt_tellers => k_is)
    (case c_Hunt_tellers => k_is)
    (case k_Hunt_tellers => k_is)
    (case a__law_all => k_is)
    (case l__law_all => k_is)
    (case c__law_all => k_is)
    (case k__law_all => k_is)
    (case a_law => k_is)
    (case l_law => k_is)
    (case c_law => k_is)
    (case k_law => k_is)
    (case z_ValueError => k_is)
    (case z_all => k_is)
    (case z_enumerate => k_is)
    (case z_int => k_is)
    (case z_isinstance => k_is)
    (case z_len => k_is)
    (case z_list => k_is)
    (case z_range => k_is)
    (case z_sum => k_is)
    (case z_tuple => k_is)
    (case m_AskError => k_is)
    (case m_BadWord => k_is)
    (case m_BadMark => k_is)
    (case m_OutOfTurn => k_is)
    (case m_NoDifference => k_is)
    (case m_Contradiction => k_is)
    (case x_BadWord => k_exc)
    (case ga_BadWord => k_is)
    (case hk_BadWord => k_is)
    (case cl_BadWord => k_is)
    (case ca_BadWord => k_is)
    (case mo_BadWord => k_is)
    (case mb_BadWord => k_is)
    (case e_BadWord => kts_exm)
    (case v_BadWord => kit_is)
    (case ee_BadWord => kts_exm)
    (case k_BadWord_AskError => kit_is)
    (case k_BadWord_BadWord => kit_is)
    (case k_BadWord_BadMark => kit_is)
    (case k_BadWord_OutOfTurn => kit_is)
    (case k_BadWord_NoDifference => kit_is)
    (case k_BadWord_Contradiction => kit_is)
    (case x_BadMark => k_exc)
    (case ga_BadMark => k_is)
    (case hk_BadMark => k_is)
    (case cl_BadMark => k_is)
    (case ca_BadMark => k_is)
    (case mo_BadMark => k_is)
    (case mb_BadMark => k_is)
    (case e_BadMark => kts_exm)
    (case v_BadMark => kit_is)
    (case ee_BadMark => kts_exm)
    (case k_BadMark_AskError => kit_is)
    (case k_BadMark_BadWord => kit_is)
    (case k_BadMark_BadMark => kit_is)
    (case k_BadMark_OutOfTurn => kit_is)
    (case k_BadMark_NoDifference => kit_is)
    (case k_BadMark_Contradiction => kit_is)
    (case x_OutOfTurn => k_exc)
    (case ga_OutOfTurn => k_is)
    (case hk_OutOfTurn => k_is)
    (case cl_OutOfTurn => k_is)
    (case ca_OutOfTurn => k_is)
    (case mo_OutOfTurn => k_is)
    (case mb_OutOfTurn => k_is)
    (case e_OutOfTurn => kts_exm)
    (case v_OutOfTurn => kit_is)
    (case ee_OutOfTurn => kts_exm)
    (case k_OutOfTurn_AskError => kit_is)
    (case k_OutOfTurn_BadWord => kit_is)
    (case k_OutOfTurn_BadMark => kit_is)
    (case k_OutOfTurn_OutOfTurn => kit_is)
    (case k_OutOfTurn_NoDifference => kit_is)
    (case k_OutOfTurn_Contradiction => kit_is)
    (case x_NoDifference => k_exc)
    (case ga_NoDifference => k_is)
    (case hk_NoDifference => k_is)
    (case cl_NoDifference => k_is)
    (case ca_NoDifference => k_is)
    (case mo_NoDifference => k_is)
    (case mb_NoDifference => k_is)
    (case e_NoDifference => kts_exm)
    (case v_NoDifference => kit_is)
    (case ee_NoDifference => kts_exm)
    (case k_NoDifference_AskError => kit_is)
    (case k_NoDifference_BadWord => kit_is)
    (case k_NoDifference_BadMark => kit_is)
    (case k_NoDifference_OutOfTurn => kit_is)
    (case k_NoDifference_NoDifference => kit_is)
    (case k_NoDifference_Contradiction => kit_is)
    (case x_Contradiction => k_exc)
    (case ga_Contradiction => k_is)
    (case hk_Contradiction => k_is)
    (case cl_Contradiction => k_is)
    (case ca_Contradiction => k_is)
    (case mo_Contradiction => k_is)
    (case mb_Contradiction => k_is)
    (case e_Contradiction => kts_exm)
    (case v_Contradiction => kit_is)
    (case ee_Contradiction => kts_exm)
    (case k_Contradiction_AskError => kit_is)
    (case k_Contradiction_BadWord => kit_is)
    (case k_Contradiction_BadMark => kit_is)
    (case k_Contradiction_OutOfTurn => kit_is)
    (case k_Contradiction_NoDifference => kit_is)
    (case k_Contradiction_Contradiction => kit_is)
    (case gs => k_is)
    (case tk => k_is)
